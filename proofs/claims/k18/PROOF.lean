import PyProof.Rows.All
import Wide.All
import OpenK.AllK
import Wide.FinOn
import Lean
import PyProof.EqAt
import PyProof.EqKinds
import PyProof.TupleCall
import PyProof.ListMulRoad
import PySem.Challenge.RW_furrow_k18_what_is_kept
set_option Elab.async false
set_option linter.all false
set_option maxRecDepth 100000
namespace L2
open PySem PySem.Spec PyProof.Rows

abbrev Key := Sum Int Str
def keyIs : Key → Value → Bool
  | .inl k, v => Value.isInt k v
  | .inr x, v => Value.isStrOf x v
def keyH (w : World) : Key → Int
  | .inl k => hashInt k
  | .inr x => hashStr w x
theorem keyIs_shape : ∀ {k : Key} {v : Value}, keyIs k v = true → (∃ i t, k = Sum.inl i ∧ v = Value.int i t) ∨ (∃ x t, k = Sum.inr x ∧ v = Value.str x t)
  | .inl i, v, h => by
    obtain ⟨t, e⟩ := Value.isInt_shape (k := i) (v := v) h
    exact .inl ⟨i, t, rfl, e⟩
  | .inr x, v, h => by
    obtain ⟨t, e⟩ := Value.isStrOf_shape (x := x) (v := v) h
    exact .inr ⟨x, t, rfl, e⟩
theorem key_ll (a b : Int) : decide ((Sum.inl a : Key) = Sum.inl b) = (a == b) := by
  by_cases e : a = b
  · subst e; simp
  · have h : ¬ (Sum.inl a : Key) = Sum.inl b := fun q => e (Sum.inl.inj q)
    rw [decide_eq_false h]
    exact (beq_eq_false_iff_ne.mpr e).symm
theorem key_rr (a b : Str) : decide ((Sum.inr a : Key) = Sum.inr b) = decide (a = b) := by
  by_cases e : a = b
  · subst e; simp
  · have h : ¬ (Sum.inr a : Key) = Sum.inr b := fun q => e (Sum.inr.inj q)
    rw [decide_eq_false h, decide_eq_false e]
theorem key_lr (a : Int) (b : Str) : decide ((Sum.inl a : Key) = Sum.inr b) = false := decide_eq_false (fun q => nomatch q)
theorem key_rl (a : Str) (b : Int) : decide ((Sum.inr a : Key) = Sum.inl b) = false := decide_eq_false (fun q => nomatch q)

def mixKind (prog : Program) (w : World) : PySem.KeyKind prog w Key where
  is := keyIs
  hash := keyH w
  inj := fun v a b ha hb => by
    rcases keyIs_shape ha with ⟨i, t, rfl, rfl⟩ | ⟨x, t, rfl, rfl⟩
    · rcases keyIs_shape hb with ⟨j, u, rfl, e⟩ | ⟨y, u, rfl, e⟩
      · injection e with e1 _; rw [e1]
      · exact nomatch e
    · rcases keyIs_shape hb with ⟨j, u, rfl, e⟩ | ⟨y, u, rfl, e⟩
      · exact nomatch e
      · injection e with e1 _; rw [e1]
  byValue := fun k v h => by
    rcases keyIs_shape h with ⟨i, t, rfl, rfl⟩ | ⟨x, t, rfl, rfl⟩ <;> rfl
  pyHash := fun hv h => by
    rcases keyIs_shape hv with ⟨i, t, rfl, rfl⟩ | ⟨x, t, rfl, rfl⟩
    · exact wpAny_pyHash_int h
    · exact wpAny_pyHash_str h
  eqBool := fun hu hv h => by
    rcases keyIs_shape hu with ⟨i, t, rfl, rfl⟩ | ⟨x, t, rfl, rfl⟩
    · rcases keyIs_shape hv with ⟨j, u, rfl, rfl⟩ | ⟨y, u, rfl, rfl⟩
      · rw [key_ll] at h; exact wpAny_eqBool_int h
      · rw [key_lr] at h; exact SeqAt.EqAt.int_str i t y u _ _ _ _ h
    · rcases keyIs_shape hv with ⟨j, u, rfl, rfl⟩ | ⟨y, u, rfl, rfl⟩
      · rw [key_rl] at h; exact SeqAt.EqAt.str_int x t j u _ _ _ _ h
      · rw [key_rr] at h; exact wpAny_eqBool_str h
  «strs» := fun k x t v h => by
    rcases keyIs_shape h with ⟨i, u, rfl, e⟩ | ⟨y, u, rfl, e⟩
    · exact nomatch e
    · injection e with e1 _
      subst e1
      cases v <;> rfl

end L2

namespace L2
open PySem PySem.Spec PyProof.Rows

inductive V where
  | non | bl (b : Bool) | int (i : Int) | str (x : Str) | byt (b : Array UInt8) | flt (b : UInt64) | ref (a : Addr) | ty (n : String)
  deriving DecidableEq

def RelV : V → Value → Prop
  | .non, u => u = Value.none
  | .bl b, u => u = Value.bool b
  | .int i, u => ∃ t, u = Value.int i t
  | .str x, u => ∃ t, u = Value.str x t
  | .byt b, u => ∃ t, u = Value.bytes b t
  | .flt b, u => ∃ t, u = Value.float b t
  | .ref a, u => u = Value.ref a
  | .ty n, u => u = Value.type n

abbrev Vals : List V → List Value → Prop := Paired RelV
theorem Vals.length {xs : List V} {us : List Value} (r : Vals xs us) : xs.length = us.length := Paired.length r
theorem Vals.get : ∀ {xs : List V} {us : List Value} {i : Nat} {x : V}, Vals xs us → xs[i]? = some x → ∃ u, us[i]? = some u ∧ RelV x u
  | _, _, _, _, .nil, e => by simp at e
  | _, _, 0, _, .cons r _, e => by simp at e; subst e; exact ⟨_, rfl, r⟩
  | _, _, i + 1, x, .cons _ t, e => by
    obtain ⟨u, h1, h2⟩ := Vals.get (i := i) (x := x) t (by simpa using e)
    exact ⟨u, by simpa using h1, h2⟩
theorem Vals.set {x : V} {u : Value} (r : RelV x u) : ∀ {xs : List V} {us : List Value} (i : Nat), Vals xs us → Vals (xs.set i x) (us.set i u)
  | _, _, _, .nil => .nil
  | _, _, 0, .cons _ t => .cons r t
  | _, _, i + 1, .cons q t => .cons q (Vals.set r i t)
theorem Vals.append : ∀ {xs ys : List V} {us ws : List Value}, Vals xs us → Vals ys ws → Vals (xs ++ ys) (us ++ ws)
  | _, _, _, _, .nil, s => s
  | _, _, _, _, .cons r t, s => .cons r (Vals.append t s)
theorem Vals.take : ∀ {xs : List V} {us : List Value} (n : Nat), Vals xs us → Vals (xs.take n) (us.take n)
  | _, _, 0, _ => .nil
  | _, _, _ + 1, .nil => .nil
  | _, _, n + 1, .cons r t => .cons r (Vals.take n t)
theorem Vals.drop : ∀ {xs : List V} {us : List Value} (n : Nat), Vals xs us → Vals (xs.drop n) (us.drop n)
  | _, _, 0, r => r
  | _, _, _ + 1, .nil => .nil
  | _, _, n + 1, .cons _ t => Vals.drop n t
theorem Vals.none_of : ∀ {xs : List V} {us : List Value} {i : Nat}, Vals xs us → xs[i]? = none → us[i]? = none := fun {xs us i} r e => by
  have h1 := r.length
  have h2 : xs.length ≤ i := List.getElem?_eq_none_iff.mp e
  exact List.getElem?_eq_none_iff.mpr (by omega)

def RelO : Option V → Option Value → Prop
  | some v, some u => RelV v u
  | none, none => True
  | _, _ => False
def KV {κ : Type} : List (κ × V) → List (κ × Value) → Prop := Paired fun (p : κ × V) (q : κ × Value) => p.1 = q.1 ∧ RelV p.2 q.2

def kV : Key → V
  | .inl i => .int i
  | .inr x => .str x

inductive HO where
  /-- a list -/
  | lst (xs : List V)
  /-- a tuple (never changes) -/
  | tup (xs : List V)
  /-- a dict whose keys are ints and texts; one whose keys are tuples of ints and texts (the empty one is both) -/
  | dK (kvs : List (Key × V)) | dT (kvs : List (List Key × V))
  /-- a set of ints: its members, its size -/
  | set (S : Int → Bool) (n : Nat)
  /-- an instance of the class at C, its dict at dx, its attributes -/
  | ins (C dx : Addr) (fs : List (Str × V))
  /-- the dict of the instance at x -/
  | own (x : Addr)
  /-- the dict of an exception -/
  | xd (fs : List (Str × V))
  /-- a bound method, f of x -/
  | met (f x : Addr)
  /-- a range object lo, lo + 1, .. below hi -/
  | rng (lo hi : Int)
  /-- a thing that is known to the object (the script; a dict while a loop walks it): read, never written while it is so -/
  | frz (o : Obj) (u : HO)
  /-- a code object's table -/
  | tbl (ps : Array Value)
  /-- any other thing, by what is true of its one object (a def of one's own: SetO a S n := HO.ext fun h => ..) -/
  | ext (φ : Heap → Prop)

abbrev Hp := Addr → Option HO
def upd (H : Hp) (a : Addr) (o : HO) : Hp := fun b => if b = a then some o else H b
theorem upd_same {H : Hp} {a : Addr} {o : HO} : upd H a o a = some o := by unfold upd; rw [if_pos rfl]
theorem upd_ne {H : Hp} {a b : Addr} {o : HO} (h : b ≠ a) : upd H a o b = H b := by unfold upd; rw [if_neg h]
theorem ne_of {H : Hp} {a b : Addr} {o u : HO} (h : H a = some o) (h' : H b = some u) (d : o ≠ u) : a ≠ b := by
  intro e; subst e; rw [h] at h'; exact d (Option.some.inj h')
theorem ne_of_none {H : Hp} {a b : Addr} {o : HO} (h : H a = some o) (h' : H b = none) : a ≠ b := by
  intro e; subst e; rw [h] at h'; cases h'

section
variable (P : Program) (w : World)
def IsTupN (h : Heap) (a : Addr) (its : Array Value) : Prop := ∃ o, h.get? a = some o ∧ o.cls = .type "tuple" ∧ (∃ n, o.data = .seq its n) ∧ o.dict = none
theorem IsTupN.tup {h : Heap} {a : Addr} {its : Array Value} (x : IsTupN h a its) : IsTup h a its := let ⟨o, e, c, d, _⟩ := x; ⟨o, e, c, d⟩
theorem IsTupN.new (h : Heap) (its : Array Value) : IsTupN (h.push { cls := .type "tuple", data := .seq its }) h.objs.size its := ⟨_, Heap.get?_push_size _ rfl, rfl, ⟨_, rfl⟩, rfl⟩
def ObjOk (H : Hp) (h : Heap) (a : Addr) : HO → Prop
  | .lst xs => xs.length ≤ sizeLine ∧ ∃ (its : List Value) (n : Nat), Vals xs its ∧ h.get? a = some { cls := .type "list", data := .seq its.toArray n }
  | .tup xs => xs.length ≤ sizeLine ∧ ∃ its : List Value, Vals xs its ∧ IsTupN h a its.toArray
  | .dK kvs => kvs.length ≤ sizeLine ∧ (a == sysModules) = false ∧ ∃ vs, KV kvs vs ∧ h.DictOf (mixKind P w) a vs
  | .dT kvs => kvs.length ≤ sizeLine ∧ (a == sysModules) = false ∧ ∃ xs : List (List Key × Addr × Value),
      Paired (fun (p : List Key × V) (q : List Key × Addr × Value) => p.1 = q.1 ∧ H q.2.1 = some (.tup (p.1.map kV)) ∧ RelV p.2 q.2.2) kvs xs ∧
      ∃ o es ep, h.get? a = some o ∧ o.ExactDict ∧ o.data = .dict es ep ∧ es.toList = xs.map (entryOfKey (tupleKind (mixKind P w))) ∧ (xs.map (·.1)).Nodup
  | .set S n => h.SetOf (intKind P w) a S n
  | .ins C dx fs => H dx = some (.own a) ∧ fs.length ≤ 1000 ∧ dx ≠ a ∧ h.get? a = some (PySem.W.instObj C dx) ∧
      ∃ mA, h.Ns1 dx mA ∧ (∀ f, RelO (fs.lookup f) (mA f)) ∧ PySem.Within mA (fs.map (·.1))
  | .own _ => ∃ o, h.get? a = some o
  | .xd fs => ∃ mA, h.Ns1 a mA ∧ ∀ f, RelO (fs.lookup f) (mA f)
  | .rng lo hi => ∃ t u v, h.get? a = some { cls := .type "range", data := .fields #[.int lo t, .int hi u, .int 1 v] }
  | .frz o u => h.get? a = some o ∧ ObjOk H h a u
  | .tbl ps => h.get? a = some { cls := .none, data := .fields ps }
  | .met f x => h.get? a = some (PySem.W.methodObj (.ref f) (.ref x))
  | .ext φ => φ h ∧ (∃ o, h.get? a = some o) ∧ ∀ h1 h2 : Heap, φ h1 → (∀ o, h1.get? a = some o → h2.get? a = some o) → φ h2
def HOk (H : Hp) (h : Heap) : Prop := ∀ a o, H a = some o → ObjOk P w H h a o
end

section
variable {P : Program} {w : World} {H H' : Hp} {h h' : Heap} {a : Addr} {o : HO}
theorem ObjOk.lt (x : ObjOk P w H h a o) : a < h.objs.size := by
  cases o with
  | lst xs => obtain ⟨_, _, _, _, e⟩ := x; exact Heap.lt_size e
  | tup xs => obtain ⟨_, _, _, p⟩ := x; exact p.tup.lt
  | dK kvs => obtain ⟨_, _, _, _, o, _, _, e, _⟩ := x; exact Heap.lt_size e
  | dT kvs => obtain ⟨_, _, _, _, o, _, _, e, _⟩ := x; exact Heap.lt_size e
  | set S n => obtain ⟨o, _, _, _, e, _⟩ := x; exact Heap.lt_size e
  | ins C dx fs => obtain ⟨_, _, _, e, _⟩ := x; exact Heap.lt_size e
  | own y => obtain ⟨_, e⟩ := x; exact Heap.lt_size e
  | xd fs => obtain ⟨_, ⟨_, _, _, e, _⟩, _⟩ := x; exact Heap.lt_size e
  | rng lo hi => obtain ⟨_, _, _, e⟩ := x; exact Heap.lt_size e
  | frz ob u => obtain ⟨e, _⟩ := x; exact Heap.lt_size e
  | tbl ps => exact Heap.lt_size (show h.get? a = some _ from x)
  | met f y => exact Heap.lt_size (show h.get? a = some _ from x)
  | ext φ => obtain ⟨_, ⟨_, e⟩, _⟩ := x; exact Heap.lt_size e
theorem Paired.mapP {α β : Type} {F G : α → β → Prop} : ∀ {l₁ : List α} {l₂ : List β}, Paired F l₁ l₂ → (∀ a b, F a b → G a b) → Paired G l₁ l₂
  | _, _, .nil, _ => .nil
  | _, _, .cons r t, f => .cons (f _ _ r) (Paired.mapP t f)
theorem ObjOk.stay (x : ObjOk P w H h a o) (k : ∀ b u, (b = a ∨ H b = some (.own a)) → h.get? b = some u → h'.get? b = some u)
    (ho : ∀ b, H b = some (.own a) → H' b = some (.own a)) (ht : ∀ b xs, H b = some (.tup xs) → H' b = some (.tup xs)) : ObjOk P w H' h' a o := by
  induction o with
  | lst xs => obtain ⟨z, its, n, r, e⟩ := x; exact ⟨z, its, n, r, k _ _ (.inl rfl) e⟩
  | tup xs => obtain ⟨z, its, r, ob, e, c⟩ := x; exact ⟨z, its, r, ob, k _ _ (.inl rfl) e, c⟩
  | dK kvs => obtain ⟨z, y, vs, r, ob, es, ep, e, c⟩ := x; exact ⟨z, y, vs, r, ob, es, ep, k _ _ (.inl rfl) e, c⟩
  | dT kvs =>
    obtain ⟨z, y, xs, r, ob, es, ep, e, c⟩ := x
    exact ⟨z, y, xs, Paired.mapP r fun p q z => ⟨z.1, ht _ _ z.2.1, z.2.2⟩, ob, es, ep, k _ _ (.inl rfl) e, c⟩
  | set S n => obtain ⟨ob, es, ep, t, e, c⟩ := x; exact ⟨ob, es, ep, t, k _ _ (.inl rfl) e, c⟩
  | ins C dx fs =>
    obtain ⟨d, z, ne, e, mA, ⟨od, es, ep, e2, c⟩, r⟩ := x
    exact ⟨ho _ d, z, ne, k _ _ (.inl rfl) e, mA, ⟨od, es, ep, k _ _ (.inr d) e2, c⟩, r⟩
  | own y => obtain ⟨ob, e⟩ := x; exact ⟨ob, k _ _ (.inl rfl) e⟩
  | xd fs => obtain ⟨mA, ⟨od, es, ep, e, c⟩, r⟩ := x; exact ⟨mA, ⟨od, es, ep, k _ _ (.inl rfl) e, c⟩, r⟩
  | rng lo hi => obtain ⟨t, u, v, e⟩ := x; exact ⟨t, u, v, k _ _ (.inl rfl) e⟩
  | frz ob u ih => obtain ⟨e, q⟩ := x; exact ⟨k _ _ (.inl rfl) e, ih q⟩
  | tbl ps =>
    have e : h.get? a = some { cls := .none, data := .fields ps } := x
    show h'.get? a = some { cls := .none, data := .fields ps }
    exact k a _ (.inl rfl) e
  | met f y =>
    have e : h.get? a = some (PySem.W.methodObj (.ref f) (.ref y)) := x
    show h'.get? a = some (PySem.W.methodObj (.ref f) (.ref y))
    exact k a _ (.inl rfl) e
  | ext φ => obtain ⟨p, ⟨o, e⟩, st⟩ := x; exact ⟨st _ _ p fun o q => k _ _ (.inl rfl) q, ⟨o, k _ _ (.inl rfl) e⟩, st⟩
theorem HOk.lt (x : HOk P w H h) (e : H a = some o) : a < h.objs.size := (x a o e).lt
theorem HOk.fresh (x : HOk P w H h) (e : h.objs.size ≤ a) : H a = none := by
  cases q : H a with
  | none => rfl
  | some u => exact absurd (Nat.lt_of_lt_of_le (x.lt q) e) (Nat.lt_irrefl _)
theorem HOk.kept (x : HOk P w H h) (k : ∀ b u, h.get? b = some u → h'.get? b = some u) : HOk P w H h' := fun a o e =>
  (x a o e).stay (fun b u _ q => k b u q) (fun _ q => q) fun _ _ q => q
theorem HOk.laid (x : HOk P w H h) (k : ∀ b u, h.get? b = some u → h'.get? b = some u) (hp : h.objs.size ≤ a) (new : ObjOk P w (upd H a o) h' a o) : HOk P w (upd H a o) h' := fun b u e => by
  have hn := x.fresh hp
  by_cases hb : b = a
  · subst hb; rw [upd_same] at e; cases e; exact new
  · rw [upd_ne hb] at e
    exact (x b u e).stay (fun c v _ q => k c v q) (fun c q => by rw [upd_ne (ne_of_none q hn)]; exact q) fun c xs q => by rw [upd_ne (ne_of_none q hn)]; exact q
end

def Rd (H : Hp) (a : Addr) (u : HO) : Prop := H a = some u ∨ ∃ o, H a = some (.frz o u)
theorem Rd.of {H : Hp} {a : Addr} {u : HO} (h : H a = some u) : Rd H a u := .inl h
theorem Rd.ok {P : Program} {w : World} {H : Hp} {h : Heap} {a : Addr} {u : HO} (r : Rd H a u) (x : HOk P w H h) : ObjOk P w H h a u := by
  rcases r with r | ⟨o, r⟩
  · exact x a u r
  · obtain ⟨_, q⟩ := x a _ r
    exact q
def Mut : Option HO → Prop
  | some (.lst _) => True
  | some (.dK _) => True
  | some (.dT _) => True
  | some (.set _ _) => True
  | some (.ins _ _ _) => True
  | some (.ext _) => True
  | _ => False
section
variable {P : Program} {w : World} {H : Hp} {h h' : Heap} {x e : Addr} {o' : HO}
theorem HOk.write (ok : HOk P w H h) (mu : Mut (H x)) (he : e = x ∨ H e = some (.own x)) (k : ∀ b u, b ≠ e → h.get? b = some u → h'.get? b = some u) (heo : ∃ u, h'.get? e = some u)
    (new : ObjOk P w (upd H x o') h' x o') : HOk P w (upd H x o') h' := fun b u q => by
  have nown : ∀ c y, H c = some (.own y) → c ≠ x := fun c y r z => by subst z; rw [r] at mu; exact mu
  have ntup : ∀ c xs, H c = some (.tup xs) → c ≠ x := fun c xs r z => by subst z; rw [r] at mu; exact mu
  by_cases hb : b = x
  · subst hb; rw [upd_same] at q; cases q; exact new
  · rw [upd_ne hb] at q
    by_cases hbe : b = e
    · have q' : H b = some (.own x) := by
        rcases he with z | z
        · exact absurd (hbe.trans z) hb
        · rw [hbe]; exact z
      rw [q] at q'; cases q'
      obtain ⟨v, hv⟩ := heo
      exact ⟨v, by rw [hbe]; exact hv⟩
    · refine (ok b u q).stay (fun c v hc r => k c v ?_ r) (fun c r => by rw [upd_ne (nown c b r)]; exact r) fun c xs r => by rw [upd_ne (ntup c xs r)]; exact r
      rcases hc with rfl | hc
      · exact hbe
      · rintro rfl
        rcases he with z | z
        · exact nown c b hc z
        · rw [hc] at z; cases z; exact hb rfl
end

structure Un (fs ex : List Addr) (H H' : Hp) (h h' : Heap) : Prop where
  keep : ∀ b o, h.get? b = some o → H b = none → b ∉ fs → b ∉ ex → h'.get? b = some o
  slot : ∀ b o, h.get? b = some o → H b = none → b ∈ fs → b ∉ ex → ∃ sl, h'.get? b = some { o with slots := sl }
  free : ∀ b o, h.get? b = some o → H b = none → b ∉ ex → H' b = none
  there : ∀ b o, h.get? b = some o → b ∉ ex → ∃ o', h'.get? b = some o'
  tups : ∀ b xs, H b = some (.tup xs) → H' b = some (.tup xs)
  frzs : ∀ b o u, H b = some (.frz o u) → H' b = some (.frz o u)
  tbls : ∀ b ps, H b = some (.tbl ps) → ∃ more, H' b = some (.tbl (ps ++ more))
section
variable {fs fs' ex ex' : List Addr} {H H1 H2 : Hp} {h h1 h2 h' : Heap} {a x e : Addr} {o : HO}
theorem Un.any (u : Un fs ex H H1 h h1) {b : Addr} {ob : Obj} (q : h.get? b = some ob) (n : H b = none) (hx : b ∉ ex) : ∃ sl, h1.get? b = some { ob with slots := sl } := by
  by_cases hb : b ∈ fs
  · exact u.slot b ob q n hb hx
  · exact ⟨ob.slots, u.keep b ob q n hb hx⟩
theorem Un.trans (a : Un fs ex H H1 h h1) (b : Un fs ex H1 H2 h1 h2) : Un fs ex H H2 h h2 where
  keep := fun c ob q n hc hx => b.keep c ob (a.keep c ob q n hc hx) (a.free c ob q n hx) hc hx
  slot := fun c ob q n hc hx => by
    obtain ⟨sl, e1⟩ := a.slot c ob q n hc hx
    obtain ⟨sl', e2⟩ := b.slot c _ e1 (a.free c ob q n hx) hc hx
    exact ⟨sl', e2⟩
  free := fun c ob q n hx => by
    obtain ⟨o', e1⟩ := a.there c ob q hx
    exact b.free c o' e1 (a.free c ob q n hx) hx
  there := fun c ob q hx => by
    obtain ⟨o', e1⟩ := a.there c ob q hx
    exact b.there c o' e1 hx
  tups := fun c xs q => b.tups c xs (a.tups c xs q)
  frzs := fun c ob xs q => b.frzs c ob xs (a.frzs c ob xs q)
  tbls := fun c ps q => by
    obtain ⟨m1, e1⟩ := a.tbls c ps q
    obtain ⟨m2, e2⟩ := b.tbls c _ e1
    exact ⟨m1 ++ m2, by rw [e2, Array.append_assoc]⟩
theorem Un.kept (k : ∀ b u, h.get? b = some u → h'.get? b = some u) : Un fs ex H H h h' :=
  ⟨fun b ob q _ _ _ => k b ob q, fun b ob q _ _ _ => ⟨ob.slots, k b ob q⟩, fun _ _ _ n _ => n, fun b ob q _ => ⟨ob, k b ob q⟩, fun _ _ q => q, fun _ _ _ q => q, fun _ ps q => ⟨#[], by rw [q]; simp⟩⟩
theorem Un.refl : Un fs ex H H h h := Un.kept fun _ _ q => q
theorem Un.laid (k : ∀ b u, h.get? b = some u → h'.get? b = some u) (hp : h.objs.size ≤ a) (hn : H a = none) : Un fs ex H (upd H a o) h h' where
  keep := fun b u q _ _ _ => k b u q
  slot := fun b u q _ _ _ => ⟨u.slots, k b u q⟩
  free := fun b u q n _ => by rw [upd_ne (Nat.ne_of_lt (Nat.lt_of_lt_of_le (Heap.lt_size q) hp))]; exact n
  there := fun b u q _ => ⟨u, k b u q⟩
  tups := fun b xs q => by rw [upd_ne (ne_of_none q hn)]; exact q
  frzs := fun b u xs q => by rw [upd_ne (ne_of_none q hn)]; exact q
  tbls := fun b ps q => ⟨#[], by rw [upd_ne (ne_of_none q hn), q]; simp⟩
theorem Un.write (mu : Mut (H x)) (he : e = x ∨ H e = some (.own x)) (k : ∀ b u, b ≠ e → h.get? b = some u → h'.get? b = some u) (heo : ∃ u, h'.get? e = some u) : Un fs ex H (upd H x o) h h' := by
  have hx : ∀ b, H b = none → b ≠ x := fun b n z => by subst z; rw [n] at mu; exact mu
  have hb : ∀ b, H b = none → b ≠ e := fun b n z => by
    subst z
    rcases he with r | r
    · exact hx b n r
    · rw [n] at r; cases r
  have hm : ∀ b u, H b = some u → ¬ Mut (some u) → b ≠ x := fun b u q nm z => by subst z; rw [q] at mu; exact nm mu
  refine ⟨fun b u q n _ _ => k b u (hb b n) q, fun b u q n _ _ => ⟨u.slots, k b u (hb b n) q⟩, fun b u q n _ => by rw [upd_ne (hx b n)]; exact n, fun b u q _ => ?_,
    fun b xs q => by rw [upd_ne (hm b _ q fun z => z)]; exact q, fun b u xs q => by rw [upd_ne (hm b _ q fun z => z)]; exact q, fun b ps q => ⟨#[], by rw [upd_ne (hm b _ q fun z => z), q]; simp⟩⟩
  by_cases hbe : b = e
  · subst hbe; exact heo
  · exact ⟨u, k b u hbe q⟩
theorem Un.mono (u : Un fs ex H H1 h h1) (hs : ∀ b ∈ fs, b ∈ fs') (hx : ∀ b ∈ ex, b ∈ ex') : Un fs' ex' H H1 h h1 :=
  ⟨fun b ob q n hb he => u.keep b ob q n (fun z => hb (hs b z)) fun z => he (hx b z), fun _ _ q n _ he => u.any q n fun z => he (hx _ z), fun b ob q n he => u.free b ob q n fun z => he (hx b z), fun b ob q he => u.there b ob q fun z => he (hx b z), u.tups, u.frzs, u.tbls⟩
end

def trk (h : Heap) (H : Hp) : List Addr := (List.range h.objs.size).filter fun a => (H a).isSome
def hidT (h : Heap) (H : Hp) : Heap := PySem.W.hideAll h (trk h H)
theorem hidT_size (h : Heap) (H : Hp) : (hidT h H).objs.size = h.objs.size := PySem.W.hideAll_size _ _
theorem hidT_get {h : Heap} {H : Hp} {b : Addr} {o : Obj} (e : h.get? b = some o) (n : H b = none) : (hidT h H).get? b = some o :=
  PySem.W.hideAll_get _ e fun hm => by
    have q : (H b).isSome = true := (List.mem_filter.mp hm).2
    rw [n] at q; simp at q
theorem of_hidT {h : Heap} {H : Hp} {b : Addr} {o : Obj} (e : (hidT h H).get? b = some o) : h.get? b = some o ∧ H b = none := by
  have e' : h.get? b = some o := PySem.W.of_hideAll (trk h H) e
  refine ⟨e', ?_⟩
  cases q : H b with
  | none => rfl
  | some x =>
    have hm : b ∈ trk h H := List.mem_filter.mpr ⟨List.mem_range.mpr (Heap.lt_size e'), by simp [q]⟩
    have z : (hidT h H).get? b = none := PySem.W.hideAll_none (trk h H) hm
    rw [z] at e; cases e

def allNews (g h : Heap) (L : Addr) : List (Addr × Obj) := (List.range h.objs.size).filterMap fun a => if a = L ∨ (g.get? a).isSome = true then none else (h.get? a).map fun o => (a, o)
def rest (g h : Heap) (L d : Addr) : List (Addr × Obj) := (allNews g h L).filter fun p => decide (p.1 ≠ d)
end L2

namespace L2
open PySem PySem.Spec PyProof.Rows

structure Mod (K : PySem.W.Frag) (mg : Str → Option Value) (base : Heap) : Prop where
  kin : K.In base
  glob : base.Ns mainGlobals mg
  blt : ∃ mb, base.Ns builtinsNs mb ∧ ∀ x : Str, x ≠ "__name__" → mb x = bootBuiltins x
  nolimit : base.NoLimit

structure Cx where
  prog : Program
  w : World
  K : PySem.W.Frag
  mg : Str → Option Value
  base : Heap
  A : Around
  N : List Str
  s₀ : Shared
  H₀ : Hp
  env : Env
  outer : List Env
  stack : List Env
  ex : List Addr
  fn : Str → Bool
  calm : Bool
  pn : List (Addr × Obj)
  xe : Value → Shared → Prop
def frs (l : List Env) : List Addr := l.filterMap (·.frame)
abbrev Cx.fs (X : Cx) : List Addr := frs X.outer

def Vis (sc : Scope) (x : Str) : Prop := sc.names.lookup x = some .local ∨ sc.names.lookup x = some .cell ∨ sc.names.lookup x = some .free
def Loc (sc : Scope) (x : Str) : Prop := sc.names.lookup x = some .local ∨ sc.names.lookup x = some .cell
def Look (env : Env) (h : Heap) (m : Str → Option Value) (x : Str) (u : Value) : Prop :=
  (env.kindOf x = some .local ∧ m x = some u) ∨ ((env.kindOf x = some .cell ∨ env.kindOf x = some .free) ∧ ∃ c, env.cells.lookup x = some c ∧ h.IsCell c (some u))

structure Cx.Ok (X : Cx) : Prop where
  mod : Mod X.K X.mg X.base
  kind : X.env.scope.kind = .function
  glob : X.env.globals = mainGlobals
  blt : X.env.builtins = builtinsNs
  above : X.s₀.heap.objs.size ≤ X.env.locals
  inj : ∀ x y c, X.env.cells.lookup x = some c → X.env.cells.lookup y = some c → x = y
  has : ∀ x, (X.env.kindOf x = some .cell ∨ X.env.kindOf x = some .free) → ∃ c, X.env.cells.lookup x = some c
  cab : ∀ x c, X.fn x = true → X.env.cells.lookup x = some c → X.s₀.heap.objs.size ≤ c
  hd : X.calm = true → X.A.handled = none
  frames : X.A.frames = some X.stack
  stk : X.stack = X.outer ∨ (X.stack = X.env :: X.outer ∧ X.env.frame = some X.env.locals)
  exf : ∀ b ∈ X.ex, b ≠ X.env.locals ∧ ∀ x c, X.env.cells.lookup x = some c → c ≠ b
  bs : ∀ b o, X.base.get? b = some o → X.s₀.heap.get? b = some o ∧ X.H₀ b = none
  bsz : X.base.objs.size ≤ X.s₀.heap.objs.size
  noex : ∀ b o, X.base.get? b = some o → b ∉ X.ex
  exfs : ∀ b ∈ X.ex, b ∉ X.fs
  funs : X.s₀.heap.FunFrames X.base X.outer
  frf : ∀ b ∈ X.fs, X.H₀ b = none

structure Inv (X : Cx) (pins : List (Addr × Obj)) (σ : List (Option V)) (H : Hp) (s : Shared) : Prop where
  ok : X.Ok
  os : s.os = X.s₀.os
  bare : AllBare s.gens
  base : Un X.fs X.ex X.H₀ H X.s₀.heap s.heap
  loc : ∃ m, s.heap.Ns X.env.locals m ∧ ∀ (i : Nat) (x : Str) (v : V), X.N[i]? = some x → σ[i]? = some (some v) → Vis X.env.scope x → ∃ u, RelV v u ∧ Look X.env s.heap m x u
  cell : ∀ x c, X.env.cells.lookup x = some c → ∃ v, s.heap.IsCell c v
  free : H X.env.locals = none
  freeC : ∀ x c, X.env.cells.lookup x = some c → H c = none
  pin : ∀ p ∈ X.pn ++ pins, s.heap.get? p.1 = some p.2 ∧ H p.1 = none ∧ p.1 ≠ X.env.locals ∧ p.1 ∉ X.fs ∧ ∀ v, p.2.data ≠ .cell v
  hok : HOk X.prog X.w H s.heap
  len : σ.length = X.N.length

section
variable {X : Cx} {pins : List (Addr × Obj)} {σ : List (Option V)} {H H' : Hp} {s : Shared} {h' : Heap}

theorem Cx.Ok.nofr (ok : X.Ok) {b : Addr} {o : Obj} (e : X.base.get? b = some o) : b ∉ X.fs := fun hb => by
  have := (ok.funs.mem hb).1
  rw [e] at this; cases this
theorem Inv.bs (I : Inv X pins σ H s) : ∀ b o, X.base.get? b = some o → s.heap.get? b = some o ∧ H b = none := fun b o e =>
  ⟨I.base.keep b o (I.ok.bs b o e).1 (I.ok.bs b o e).2 (I.ok.nofr e) (I.ok.noex b o e), I.base.free b o (I.ok.bs b o e).1 (I.ok.bs b o e).2 (I.ok.noex b o e)⟩
theorem Inv.bk (I : Inv X pins σ H s) : ∀ b o, X.base.get? b = some o → s.heap.get? b = some o := fun b o e => (I.bs b o e).1
theorem Inv.mod (I : Inv X pins σ H s) : Mod X.K X.mg X.base := I.ok.mod
theorem Inv.kIn (I : Inv X pins σ H s) : X.K.In s.heap := I.ok.mod.kin.keeps I.bk
theorem Inv.nolimit (I : Inv X pins σ H s) : s.heap.NoLimit := I.ok.mod.nolimit.keeps I.bk
theorem Inv.lt (I : Inv X pins σ H s) : X.env.locals < s.heap.objs.size := let ⟨_, hn, _⟩ := I.loc; hn.lt
theorem Inv.sz (I : Inv X pins σ H s) : X.s₀.heap.objs.size ≤ s.heap.objs.size := Nat.le_trans I.ok.above (Nat.le_of_lt I.lt)
theorem Inv.nofs (I : Inv X pins σ H s) {a : Addr} (h : s.heap.objs.size ≤ a) : a ∉ X.fs := fun hb => by
  obtain ⟨_, o, ho, _⟩ := I.ok.funs.mem hb
  exact absurd (Nat.lt_of_lt_of_le (Heap.lt_size ho) (Nat.le_trans I.sz h)) (Nat.lt_irrefl _)
theorem Inv.cne (I : Inv X pins σ H s) : ∀ x c, X.env.cells.lookup x = some c → c ≠ X.env.locals := fun x c e z => by
  obtain ⟨v, o, ho, hd⟩ := I.cell x c e
  obtain ⟨m, ⟨o', es, ep, ho', hd', _⟩, _⟩ := I.loc
  rw [z, ho'] at ho; cases ho; rw [hd'] at hd; cases hd
theorem Inv.funs (I : Inv X pins σ H s) : s.heap.FunFrames X.base X.outer := by
  have all : ∀ (l : List Env), (∀ b ∈ frs l, b ∈ X.fs) → X.s₀.heap.FunFrames X.base l → s.heap.FunFrames X.base l := by
    intro l
    induction l with
    | nil => intro _ _; trivial
    | cons env r ih =>
      intro hs hl
      obtain ⟨hk, ⟨L, o, hf, hn, ho, hd⟩, hr⟩ := hl
      have hL : L ∈ X.fs := hs L (by unfold frs; rw [List.filterMap_cons, hf]; exact List.mem_cons_self)
      obtain ⟨sl, e⟩ := I.base.slot L o ho (I.ok.frf L hL) hL fun z => I.ok.exfs L z hL
      exact ⟨hk, ⟨L, _, hf, hn, e, hd⟩, ih (fun b hb => hs b (by unfold frs; rw [List.filterMap_cons, hf]; exact List.mem_cons_of_mem _ hb)) hr⟩
  exact all X.outer (fun _ hb => hb) I.ok.funs

theorem Inv.stack (I : Inv X pins σ H s) : s.heap.FunFrames X.base X.stack := by
  rcases I.ok.stk with e | ⟨e, hf⟩
  · rw [e]; exact I.funs
  · rw [e]
    obtain ⟨m, hn, _⟩ := I.loc
    refine .cons (by rw [I.ok.kind]; decide) hf hn ?_ I.funs
    exact Heap.get?_none_of_le (Nat.le_trans I.ok.bsz I.ok.above)
theorem Inv.stkSub (I : Inv X pins σ H s) : ∀ b ∈ frs X.stack, b ∈ X.env.locals :: X.fs := fun b hb => by
  rcases I.ok.stk with e | ⟨e, hf⟩
  · rw [e] at hb; exact List.mem_cons_of_mem _ hb
  · rw [e] at hb
    unfold frs at hb
    rw [List.filterMap_cons, hf] at hb
    exact hb
theorem Inv.stkFree (I : Inv X pins σ H s) : ∀ b ∈ frs X.stack, H b = none := fun b hb => by
  rcases List.mem_cons.mp (I.stkSub b hb) with e | hb
  · rw [e]; exact I.free
  · obtain ⟨_, o, ho, _⟩ := I.ok.funs.mem hb
    exact I.base.free b o ho (I.ok.frf b hb) fun z => I.ok.exfs b z hb

theorem Inv.step {g' : Array GenState} {t' : Nat} {d' : Drawn} {ch : List Addr} (I : Inv X pins σ H s)
    (hch : ∀ b ∈ ch, (b ∈ X.ex ∨ X.s₀.heap.objs.size ≤ b) ∧ b ≠ X.env.locals ∧ (∀ x c, X.env.cells.lookup x = some c → c ≠ b) ∧ ∀ p ∈ X.pn ++ pins, p.1 ≠ b)
    (keep : ∀ b o, b ≠ X.env.locals → b ∉ X.fs → b ∉ ch → s.heap.get? b = some o → H b = none → h'.get? b = some o)
    (slot : ∀ b o, b ≠ X.env.locals → b ∈ X.fs → b ∉ ch → s.heap.get? b = some o → H b = none → ∃ sl, h'.get? b = some { o with slots := sl }) (free : ∀ b o, b ∉ ch → s.heap.get? b = some o → H b = none → H' b = none)
    (there : ∀ b o, b ∉ ch → s.heap.get? b = some o → ∃ o', h'.get? b = some o')
    (tups : ∀ b xs, H b = some (.tup xs) → H' b = some (.tup xs)) (frzs : ∀ b o u, H b = some (.frz o u) → H' b = some (.frz o u)) (tbls : ∀ b ps, H b = some (.tbl ps) → ∃ more, H' b = some (.tbl (ps ++ more)))
    (ns : ∀ m, s.heap.Ns X.env.locals m → h'.Ns X.env.locals m) (hok : HOk X.prog X.w H' h') (hg : AllBare g') :
    Inv X pins σ H' { s with heap := h', gens := g', drawn := d', toks := t' } := by
  have neL : ∀ b o, X.s₀.heap.get? b = some o → b ≠ X.env.locals := fun b o e => Nat.ne_of_lt (Nat.lt_of_lt_of_le (Heap.lt_size e) I.ok.above)
  have neC : ∀ b o, X.s₀.heap.get? b = some o → b ∉ X.ex → b ∉ ch := fun b o e hx hb => by
    rcases (hch b hb).1 with z | z
    · exact hx z
    · exact absurd (Nat.lt_of_lt_of_le (Heap.lt_size e) z) (Nat.lt_irrefl _)
  have cellK : ∀ x c, X.env.cells.lookup x = some c → ∀ v, s.heap.IsCell c v → h'.IsCell c v := fun x c e v ⟨o, ho, hd⟩ => by
    have nch : c ∉ ch := fun z => (hch c z).2.2.1 x c e rfl
    by_cases hc : c ∈ X.fs
    · obtain ⟨sl, q⟩ := slot c o (I.cne x c e) hc nch ho (I.freeC x c e)
      exact ⟨_, q, hd⟩
    · exact ⟨o, keep c o (I.cne x c e) hc nch ho (I.freeC x c e), hd⟩
  refine ⟨I.ok, I.os, hg, ⟨fun b o e n hb hx => ?_, fun b o e n hb hx => ?_, fun b o e n hx => ?_, fun b o e hx => ?_, fun b xs e => tups b xs (I.base.tups b xs e), fun b o xs e => frzs b o xs (I.base.frzs b o xs e), fun b ps e => ?_⟩, ?_, fun x c e => ?_, ?_, fun x c e => ?_, fun p hp => ?_, hok, I.len⟩
  · exact keep b o (neL b o e) hb (neC b o e hx) (I.base.keep b o e n hb hx) (I.base.free b o e n hx)
  · obtain ⟨sl, e1⟩ := I.base.slot b o e n hb hx
    obtain ⟨sl', e2⟩ := slot b _ (neL b o e) hb (neC b o e hx) e1 (I.base.free b o e n hx)
    exact ⟨sl', e2⟩
  · obtain ⟨o', e1⟩ := I.base.there b o e hx
    exact free b o' (neC b o e hx) e1 (I.base.free b o e n hx)
  · obtain ⟨o', e1⟩ := I.base.there b o e hx
    exact there b o' (neC b o e hx) e1
  · obtain ⟨m1, e1⟩ := I.base.tbls b ps e
    obtain ⟨m2, e2⟩ := tbls b _ e1
    exact ⟨m1 ++ m2, by rw [e2, Array.append_assoc]⟩
  · obtain ⟨m, hn, hl⟩ := I.loc
    refine ⟨m, ns m hn, fun i x v e1 e2 e3 => ?_⟩
    obtain ⟨u, r, l⟩ := hl i x v e1 e2 e3
    refine ⟨u, r, ?_⟩
    rcases l with l | ⟨k, c, e, z⟩
    · exact .inl l
    · exact .inr ⟨k, c, e, cellK x c e _ z⟩
  · obtain ⟨v, z⟩ := I.cell x c e
    exact ⟨v, cellK x c e v z⟩
  · obtain ⟨m, ⟨o, _, _, ho, _⟩, _⟩ := I.loc
    exact free _ o (fun z => (hch _ z).2.1 rfl) ho I.free
  · obtain ⟨v, o, ho, hd⟩ := I.cell x c e
    exact free c o (fun z => (hch c z).2.2.1 x c e rfl) ho (I.freeC x c e)
  · obtain ⟨e, n, ne, nf, d⟩ := I.pin p hp
    have nch : p.1 ∉ ch := fun z => (hch p.1 z).2.2.2 p hp rfl
    exact ⟨keep p.1 p.2 ne nf nch e n, free p.1 p.2 nch e n, ne, nf, d⟩
theorem Inv.un {t' : Nat} (I : Inv X pins σ H s) (u : Un X.fs [] H H' s.heap h') (hok : HOk X.prog X.w H' h') : Inv X pins σ H' { s with heap := h', toks := t' } := by
  obtain ⟨m, ⟨o, es, ep, ho, r⟩, _⟩ := id I.loc
  obtain ⟨sl, hL⟩ := u.any ho I.free (by simp)
  exact I.step (g' := s.gens) (d' := s.drawn) (ch := []) (fun _ z => nomatch z) (fun b o _ hb _ e n => u.keep b o e n hb (by simp)) (fun b o _ hb _ e n => u.slot b o e n hb (by simp)) (fun b o _ e n => u.free b o e n (by simp)) (fun b o _ e => u.there b o e (by simp)) u.tups u.frzs u.tbls (fun m' hm => by
    obtain ⟨o', es', ep', ho', r'⟩ := hm
    rw [ho] at ho'; cases ho'
    exact ⟨_, es', ep', hL, r'⟩) hok I.bare
theorem Inv.call {g' : Array GenState} {t' : Nat} {d' : Drawn} {ch : List Addr} (I : Inv X pins σ H s) (u : Un (frs X.stack) ch H H' s.heap h') (hok : HOk X.prog X.w H' h') (hg : AllBare g')
    (hch : ∀ b ∈ ch, (b ∈ X.ex ∨ X.s₀.heap.objs.size ≤ b) ∧ b ≠ X.env.locals ∧ (∀ x c, X.env.cells.lookup x = some c → c ≠ b) ∧ ∀ p ∈ X.pn ++ pins, p.1 ≠ b) :
    Inv X pins σ H' { s with heap := h', gens := g', drawn := d', toks := t' } := by
  obtain ⟨m, ⟨o, es, ep, ho, r⟩, _⟩ := id I.loc
  obtain ⟨sl, hL⟩ := u.any ho I.free fun z => (hch _ z).2.1 rfl
  exact I.step (ch := ch) hch (fun b o hL hb hc e n => u.keep b o e n (fun z => (List.mem_cons.mp (I.stkSub b z)).elim hL hb) hc) (fun b o _ _ hc e n => u.any e n hc) (fun b o hc e n => u.free b o e n hc) (fun b o hc e => u.there b o e hc) u.tups u.frzs u.tbls (fun m' hm => by
    obtain ⟨o', es', ep', ho', r'⟩ := hm
    rw [ho] at ho'; cases ho'
    exact ⟨_, es', ep', hL, r'⟩) hok hg
theorem Inv.turned {t' : Nat} {it : Addr} (I : Inv X pins σ H s) (k : ∀ b o, b ≠ it → s.heap.get? b = some o → h'.get? b = some o) (hn : H it = none) (hL : it ≠ X.env.locals)
    (h1 : it ∈ X.ex ∨ X.s₀.heap.objs.size ≤ it) (h2 : ∀ x c, X.env.cells.lookup x = some c → c ≠ it) (h3 : ∀ p ∈ X.pn ++ pins, p.1 ≠ it) : Inv X pins σ H { s with heap := h', toks := t' } := by
  have nit : ∀ b u, H b = some u → b ≠ it := fun b u e z => by rw [z, hn] at e; cases e
  refine I.step (g' := s.gens) (d' := s.drawn) (ch := [it]) (fun b hb => ?_) (fun b o _ _ hc e _ => k b o (fun z => hc (by simp [z])) e) (fun b o _ _ hc e _ => ⟨o.slots, k b o (fun z => hc (by simp [z])) e⟩) (fun _ _ _ _ n => n)
    (fun b o hc e => ⟨o, k b o (fun z => hc (by simp [z])) e⟩) (fun _ _ e => e) (fun _ _ _ e => e) (fun b ps e => ⟨#[], by rw [e]; simp⟩) (fun m hm => ?_) (fun b u e => ?_) I.bare
  · have e : b = it := by simpa using hb
    subst e
    exact ⟨h1, hL, h2, h3⟩
  · obtain ⟨o, es, ep, ho, r⟩ := hm
    exact ⟨o, es, ep, k _ o (Ne.symm hL) ho, r⟩
  · refine (I.hok b u e).stay (fun c v hc q => k c v ?_ q) (fun _ q => q) fun _ _ q => q
    rcases hc with z | z
    · rw [z]; exact nit b u e
    · exact nit c _ z
theorem Inv.tok (I : Inv X pins σ H s) (t : Nat) : Inv X pins σ H { s with toks := t } := I.un (h' := s.heap) (t' := t) Un.refl I.hok
theorem Inv.kept {t' : Nat} (I : Inv X pins σ H s) (k : ∀ b u, s.heap.get? b = some u → h'.get? b = some u) : Inv X pins σ H { s with heap := h', toks := t' } := I.un (Un.kept k) (I.hok.kept k)
theorem Inv.laid {a : Addr} {o : HO} {t' : Nat} (I : Inv X pins σ H s) (k : ∀ b u, s.heap.get? b = some u → h'.get? b = some u) (hp : s.heap.objs.size ≤ a) (new : ObjOk X.prog X.w (upd H a o) h' a o) :
    Inv X pins σ (upd H a o) { s with heap := h', toks := t' } := I.un (Un.laid k hp (I.hok.fresh hp)) (I.hok.laid k hp new)
theorem Inv.write {x e : Addr} {o : HO} {t' : Nat} (I : Inv X pins σ H s) (mu : Mut (H x)) (he : e = x ∨ H e = some (.own x)) (k : ∀ b u, b ≠ e → s.heap.get? b = some u → h'.get? b = some u) (heo : ∃ u, h'.get? e = some u)
    (new : ObjOk X.prog X.w (upd H x o) h' x o) : Inv X pins σ (upd H x o) { s with heap := h', toks := t' } := I.un (Un.write mu he k heo) (I.hok.write mu he k heo new)
theorem Inv.weak {σ' : List (Option V)} (I : Inv X pins σ H s) (hl : σ'.length = σ.length) (w : ∀ (i : Nat) v, σ'[i]? = some (some v) → σ[i]? = some (some v)) : Inv X pins σ' H s :=
  ⟨I.ok, I.os, I.bare, I.base, let ⟨m, hn, hl'⟩ := I.loc; ⟨m, hn, fun i x v e1 e2 e3 => hl' i x v e1 (w i v e2) e3⟩, I.cell, I.free, I.freeC, I.pin, I.hok, hl.trans I.len⟩
theorem Inv.pins_of {pins' : List (Addr × Obj)} (I : Inv X pins σ H s) (h : ∀ p ∈ pins', s.heap.get? p.1 = some p.2 ∧ H p.1 = none ∧ p.1 ≠ X.env.locals ∧ p.1 ∉ X.fs ∧ ∀ v, p.2.data ≠ .cell v) : Inv X pins' σ H s :=
  ⟨I.ok, I.os, I.bare, I.base, I.loc, I.cell, I.free, I.freeC, fun p hp => (List.mem_append.mp hp).elim (fun z => I.pin p (List.mem_append_left _ z)) (h p), I.hok, I.len⟩

theorem nodup_ix {N : List Str} (hN : N.Nodup) {i j : Nat} {x : Str} (a : N[i]? = some x) (b : N[j]? = some x) : i = j := by
  obtain ⟨h1, e1⟩ := List.getElem?_eq_some_iff.mp a
  obtain ⟨h2, e2⟩ := List.getElem?_eq_some_iff.mp b
  exact (List.getElem_inj hN).mp (e1.trans e2.symm)

theorem store_ok2 {M : Model} {A : Around} {E : Value → Shared → Prop} {i : Nat} {x : Str} {v : V} {u : Value} {Q : Unit → Shared → Prop} (I : Inv X pins σ H s) (hN : X.N.Nodup) (hi : X.N[i]? = some x) (hx : Loc X.env.scope x) (r : RelV v u)
    (h : ∀ s', Inv X pins (σ.set i (some v)) H s' → (∃ a, Heap.SameBut a s.heap s'.heap ∧ (a = X.env.locals ∨ X.env.cells.lookup x = some a)) → Q () s') (hf : X.fn x = true ∨ X.env.scope.names.lookup x = some .local := by first | exact .inl rfl | exact .inr rfl | assumption) : wpAny M A (storeName X.env x u) Q E s := by
  obtain ⟨m, hn, hl⟩ := id I.loc
  have hcls : (X.env.scope.kind == .class || (X.env.scope.kind == .module && X.env.locals != X.env.globals)) = false := by rw [I.ok.kind]; rfl
  have hiσ : i < σ.length := by rw [I.len]; exact (List.getElem?_eq_some_iff.mp hi).1
  have cne := I.cne
  have tracked : ∀ {a : Addr} {h' : Heap}, (∃ o, s.heap.get? a = some o ∧ H a = none) → Heap.SameBut a s.heap h' → HOk X.prog X.w H h' := fun {a h'} ha hs b ob e => by
    obtain ⟨_, _, hfree⟩ := ha
    refine (I.hok b ob e).stay (fun c w' hc q => (hs.2 c ?_).trans q) (fun _ q => q) fun _ _ q => q
    rintro rfl
    rcases hc with rfl | hc
    · rw [hfree] at e; cases e
    · rw [hfree] at hc; cases hc
  rcases hx with hk | hk
  · refine wpAny_storeName_local hk hn (fun h' hn' hs => ?_) hcls
    obtain ⟨oL, _, _, hoL, _⟩ := id hn
    refine h _ ⟨I.ok, I.os, I.bare, ⟨fun b o e n hb hx => ?_, fun b o e n hb hx => ?_, I.base.free, fun b o e hx => ?_, I.base.tups, I.base.frzs, I.base.tbls⟩, ⟨_, hn', fun j y v' e1 e2 e3 => ?_⟩, fun y c e => ?_, I.free, I.freeC, fun p hp => ?_, tracked ⟨oL, hoL, I.free⟩ hs, by simpa using I.len⟩ ⟨_, hs, .inl rfl⟩
    · exact (hs.2 b (Nat.ne_of_lt (Nat.lt_of_lt_of_le (Heap.lt_size e) I.ok.above))).trans (I.base.keep b o e n hb hx)
    · obtain ⟨sl, e1⟩ := I.base.slot b o e n hb hx
      exact ⟨sl, (hs.2 b (Nat.ne_of_lt (Nat.lt_of_lt_of_le (Heap.lt_size e) I.ok.above))).trans e1⟩
    · obtain ⟨o', e1⟩ := I.base.there b o e hx
      exact ⟨o', (hs.2 b (Nat.ne_of_lt (Nat.lt_of_lt_of_le (Heap.lt_size e) I.ok.above))).trans e1⟩
    · by_cases hj : j = i
      · subst hj
        rw [hi] at e1; cases e1
        rw [List.getElem?_set_self hiσ] at e2
        cases e2
        exact ⟨u, r, .inl ⟨hk, by simp⟩⟩
      · rw [List.getElem?_set_ne (Ne.symm hj)] at e2
        obtain ⟨u', r', q⟩ := hl j y v' e1 e2 e3
        refine ⟨u', r', ?_⟩
        rcases q with ⟨k, e⟩ | ⟨k, c, e, z⟩
        · refine .inl ⟨k, ?_⟩
          have : y ≠ x := fun e => hj (nodup_ix hN e1 (e ▸ hi))
          simp [this, e]
        · exact .inr ⟨k, c, e, z.sameBut hs (cne y c e)⟩
    · obtain ⟨w', z⟩ := I.cell y c e
      exact ⟨w', z.sameBut hs (cne y c e)⟩
    · obtain ⟨e, n, ne, nf, d⟩ := I.pin p hp
      exact ⟨(hs.2 p.1 ne).trans e, n, ne, nf, d⟩
  · have hfn : X.fn x = true := by
      rcases hf with z | z
      · exact z
      · rw [z] at hk; cases hk
    obtain ⟨c, hc⟩ := I.ok.has x (.inl hk)
    obtain ⟨w', z⟩ := I.cell x c hc
    refine wpAny_storeName_cell I.ok.kind hk hc z (fun h' hc' hs => ?_)
    obtain ⟨oc, hoc, hocd⟩ := id z
    refine h { s with heap := h' } ⟨I.ok, I.os, I.bare, ⟨fun b o e n hb hx => ?_, fun b o e n hb hx => ?_, I.base.free, fun b o e hx => ?_, I.base.tups, I.base.frzs, I.base.tbls⟩, ⟨m, hn.sameBut hs (Ne.symm (cne x c hc)), fun j y v' e1 e2 e3 => ?_⟩, fun y c' e => ?_, I.free, I.freeC, fun p hp => ?_, tracked ⟨oc, hoc, I.freeC x c hc⟩ hs, by simpa using I.len⟩ ⟨c, hs, .inr hc⟩
    · exact (hs.2 b (Nat.ne_of_lt (Nat.lt_of_lt_of_le (Heap.lt_size e) (I.ok.cab x c hfn hc)))).trans (I.base.keep b o e n hb hx)
    · obtain ⟨sl, e1⟩ := I.base.slot b o e n hb hx
      exact ⟨sl, (hs.2 b (Nat.ne_of_lt (Nat.lt_of_lt_of_le (Heap.lt_size e) (I.ok.cab x c hfn hc)))).trans e1⟩
    · obtain ⟨o', e1⟩ := I.base.there b o e hx
      exact ⟨o', (hs.2 b (Nat.ne_of_lt (Nat.lt_of_lt_of_le (Heap.lt_size e) (I.ok.cab x c hfn hc)))).trans e1⟩
    · by_cases hj : j = i
      · subst hj
        rw [hi] at e1; cases e1
        rw [List.getElem?_set_self hiσ] at e2
        cases e2
        exact ⟨u, r, .inr ⟨.inl hk, c, hc, hc'⟩⟩
      · rw [List.getElem?_set_ne (Ne.symm hj)] at e2
        obtain ⟨u', r', q⟩ := hl j y v' e1 e2 e3
        refine ⟨u', r', ?_⟩
        rcases q with q | ⟨k, c', e, z'⟩
        · exact .inl q
        · refine .inr ⟨k, c', e, z'.sameBut hs ?_⟩
          rintro rfl
          exact hj (nodup_ix hN e1 (I.ok.inj _ _ _ e hc ▸ hi))
    · by_cases hcc : c' = c
      · subst hcc; exact ⟨_, hc'⟩
      · obtain ⟨w2, z2⟩ := I.cell y c' e
        exact ⟨w2, z2.sameBut hs hcc⟩
    · obtain ⟨e, n, ne, nf, d⟩ := I.pin p hp
      refine ⟨(hs.2 p.1 ?_).trans e, n, ne, nf, d⟩
      intro q
      rw [q, hoc] at e
      have q' : oc = p.2 := Option.some.inj e
      exact d w' (by rw [← q']; exact hocd)
theorem store_ok {M : Model} {A : Around} {E : Value → Shared → Prop} {i : Nat} {x : Str} {v : V} {u : Value} {Q : Unit → Shared → Prop} (I : Inv X pins σ H s) (hN : X.N.Nodup) (hi : X.N[i]? = some x) (hx : Loc X.env.scope x) (r : RelV v u)
    (h : ∀ s', Inv X pins (σ.set i (some v)) H s' → Q () s') (hf : X.fn x = true ∨ X.env.scope.names.lookup x = some .local := by first | exact .inl rfl | exact .inr rfl | assumption) : wpAny M A (storeName X.env x u) Q E s :=
  store_ok2 I hN hi hx r (fun s' I' _ => h s' I') hf
theorem Inv.call' {s' : Shared} {ch : List Addr} (I : Inv X pins σ H s) (ho : s'.os = s.os) (u : Un (frs X.stack) ch H H' s.heap s'.heap) (hok : HOk X.prog X.w H' s'.heap) (hg : AllBare s'.gens)
    (hch : ∀ b ∈ ch, (b ∈ X.ex ∨ X.s₀.heap.objs.size ≤ b) ∧ b ≠ X.env.locals ∧ (∀ x c, X.env.cells.lookup x = some c → c ≠ b) ∧ ∀ p ∈ X.pn ++ pins, p.1 ≠ b) : Inv X pins σ H' s' := by
  obtain ⟨h', g', d', t', o'⟩ := s'
  have e : o' = s.os := ho
  subst e
  exact I.call (g' := g') (t' := t') (d' := d') u hok hg hch
end

abbrev XK := Value → Option Addr → Hp → Prop
abbrev St := List (Option V)
abbrev VK := V → Hp → Prop
abbrev TE := St → Hp → VK → Prop
abbrev TT := St → Hp → (Bool → Hp → Prop) → Prop
abbrev TA := St → Hp → (List V → Hp → Prop) → Prop
structure Ends where
  nx : St → Hp → Prop
  rt : VK
  bk : St → Hp → Prop := fun _ _ => False
  ct : St → Hp → Prop := fun _ _ => False
abbrev TS := Ends → St → Hp → Prop

def EP (X : Cx) (pins : List (Addr × Obj)) (σ : St) (Q : VK) (u : Value) (s' : Shared) : Prop := ∃ v H', Inv X pins σ H' s' ∧ RelV v u ∧ Q v H'
def TP (X : Cx) (pins : List (Addr × Obj)) (σ : St) (Q : Bool → Hp → Prop) (b : Bool) (s' : Shared) : Prop := ∃ H', Inv X pins σ H' s' ∧ Q b H'
def AP (X : Cx) (pins : List (Addr × Obj)) (σ : St) (Q : List V → Hp → Prop) (us : List Value) (s' : Shared) : Prop := ∃ vs H', Inv X pins σ H' s' ∧ Vals vs us ∧ Q vs H'
def SP (X : Cx) (pins : List (Addr × Obj)) (D : Ends) (f : Flow) (s' : Shared) : Prop :=
  match f with
  | .next => ∃ σ' H', Inv X pins σ' H' s' ∧ D.nx σ' H'
  | .brk => ∃ σ' H', Inv X pins σ' H' s' ∧ D.bk σ' H'
  | .cont => ∃ σ' H', Inv X pins σ' H' s' ∧ D.ct σ' H'
  | .ret u => ∃ v σ' H', Inv X pins σ' H' s' ∧ RelV v u ∧ D.rt v H'

def PE (X : Cx) (e : Expr) (t : TE) : Prop :=
  ∀ (pins : List (Addr × Obj)) (s : Shared) (σ : St) (H : Hp) (Q : VK), Inv X pins σ H s → t σ H Q → wpAny (model X.prog X.w) X.A (eval e X.env) (EP X pins σ Q) X.xe s
def PT (X : Cx) (e : Expr) (t : TT) : Prop :=
  ∀ (pins : List (Addr × Obj)) (s : Shared) (σ : St) (H : Hp) (Q : Bool → Hp → Prop), Inv X pins σ H s → t σ H Q → wpAny (model X.prog X.w) X.A (isTrue e X.env (eval e X.env)) (TP X pins σ Q) X.xe s
def PW (X : Cx) (e : Expr) (t : TT) : Prop :=
  ∀ (whole : Sem Value) (pins : List (Addr × Obj)) (s : Shared) (σ : St) (H : Hp) (Q : Bool → Hp → Prop), Inv X pins σ H s → t σ H Q → wpAny (model X.prog X.w) X.A (isTrue e X.env whole) (TP X pins σ Q) X.xe s
theorem PW.pt {X : Cx} {e : Expr} {t : TT} (h : PW X e t) : PT X e t := h _
def PA (X : Cx) (es : List Expr) (t : TA) : Prop :=
  ∀ (pos : Pos) (pins : List (Addr × Obj)) (s : Shared) (σ : St) (H : Hp) (Q : List V → Hp → Prop), Inv X pins σ H s → t σ H Q → wpAny (model X.prog X.w) X.A (spliced (backTo pos (starEach es X.env))) (AP X pins σ Q) X.xe s
def PS (X : Cx) (st : Stmt) (t : TS) : Prop :=
  ∀ (pins : List (Addr × Obj)) (s : Shared) (σ : St) (H : Hp) (D : Ends), Inv X pins σ H s → t D σ H → wpAny (model X.prog X.w) X.A (exec st X.env) (SP X pins D) X.xe s
def PSs (X : Cx) (st : List Stmt) (t : TS) : Prop :=
  ∀ (pins : List (Addr × Obj)) (s : Shared) (σ : St) (H : Hp) (D : Ends), Inv X pins σ H s → t D σ H → wpAny (model X.prog X.w) X.A (execs st X.env) (SP X pins D) X.xe s
theorem thn {α : Type} {t : Sem α} {Q Q' : α → Shared → Prop} {M : Model} {A : Around} {E : Value → Shared → Prop} {s : Shared} (h : wpAny M A t Q E s) (hQ : ∀ a s, Q a s → Q' a s) : wpAny M A t Q' E s := wpAny_mono h hQ fun _ _ x => x
end L2

namespace L2
open PySem PySem.Spec PyProof.Rows
section
variable {X : Cx}

def tVar (i : Nat) : TE := fun σ H Q => ∃ v, σ[i]? = some (some v) ∧ Q v H
def tC (v : V) : TE := fun _ H Q => Q v H
theorem pe_var {i : Nat} {x : Str} {pos : Pos} (hN : X.N[i]? = some x) (hv : Vis X.env.scope x) (hd : (x == ("__debug__" : Str)) = false := by decide) (hcd : (x == ("__classdict__" : Str)) = false := by decide) : PE X (.Name x pos) (tVar i) := by
  intro pins s σ H Q I h
  obtain ⟨v, e, h⟩ := h
  obtain ⟨m, hn, hl⟩ := I.loc
  obtain ⟨u, r, l⟩ := hl i x v hN e hv
  have fin : EP X pins σ Q u s := ⟨v, H, I, r, h⟩
  rcases l with ⟨hk, hm⟩ | ⟨hk, c, hc, hcell⟩
  · exact wpAny_Name (wpAny_loadName_local I.ok.kind hk hn hm fin) hd
  · rcases hk with hk | hk
    · exact wpAny_Name (wpAny_loadName_cell I.ok.kind hk hc hcell fin) hd
    · exact wpAny_Name (wpAny_loadName_free I.ok.kind hk hc hcell fin hcd) hd
theorem pe_int {i j pos} : PE X (.Constant (.int i) j pos) (tC (.int i)) := fun _ _ _ H _ I h => wpAny_Constant_int ⟨.int i, H, I.tok _, ⟨_, rfl⟩, h⟩
theorem pe_bl {b j pos} : PE X (.Constant (.bool b) j pos) (tC (.bl b)) := fun _ _ _ H _ I h => Constant_bool ⟨.bl b, H, I, rfl, h⟩
theorem pe_str {x j pos} : PE X (.Constant (.str x) j pos) (tC (.str x)) := fun _ _ _ H _ I h => Calls.Constant_str ⟨.str x, H, I.tok _, ⟨_, rfl⟩, h⟩

def Gl (X : Cx) (x : Str) : Prop := X.env.kindOf x = some .globalImplicit
theorem ld_glob {E : Value → Shared → Prop} {pins : List (Addr × Obj)} {s : Shared} {σ : St} {H : Hp} {x : Str} {u : Value} {pos : Pos} {Q : Value → Shared → Prop} (I : Inv X pins σ H s) (hg : Gl X x) (hm : X.mg x = some u) (h : Q u s)
    (hd : (x == ("__debug__" : Str)) = false := by decide) : wpAny (model X.prog X.w) X.A (eval (.Name x pos) X.env) Q E s :=
  Calls.Name_function_global I.ok.kind hg (Calls.loadGlobal_global (by rw [I.ok.glob]; exact I.mod.glob.keeps I.bk) hm h) hd
theorem ld_blt {E : Value → Shared → Prop} {pins : List (Addr × Obj)} {s : Shared} {σ : St} {H : Hp} {x : Str} {u : Value} {pos : Pos} {Q : Value → Shared → Prop} (I : Inv X pins σ H s) (hg : Gl X x) (hm : X.mg x = none) (hv : bootBuiltins x = some u) (h : Q u s)
    (hn : x ≠ "__name__" := by decide) (hd : (x == ("__debug__" : Str)) = false := by decide) : wpAny (model X.prog X.w) X.A (eval (.Name x pos) X.env) Q E s := by
  obtain ⟨mb, h1, h2⟩ := I.mod.blt
  exact Calls.Name_function_global I.ok.kind hg (Calls.loadGlobal_builtin (by rw [I.ok.glob]; exact I.mod.glob.keeps I.bk) hm (by rw [I.ok.blt]; exact h1.keeps I.bk) ((h2 x hn).trans hv) h) hd
theorem pe_glob {x : Str} {v : V} {u : Value} {pos : Pos} (hg : Gl X x) (hm : X.mg x = some u) (r : RelV v u) (hd : (x == ("__debug__" : Str)) = false := by decide) : PE X (.Name x pos) (tC v) :=
  fun _ _ _ H _ I h => ld_glob I hg hm ⟨v, H, I, r, h⟩ hd
theorem pe_bltn {x : Str} {v : V} {u : Value} {pos : Pos} (hg : Gl X x) (hm : X.mg x = none) (hv : bootBuiltins x = some u) (r : RelV v u) (hn : x ≠ "__name__" := by decide) (hd : (x == ("__debug__" : Str)) = false := by decide) : PE X (.Name x pos) (tC v) :=
  fun _ _ _ H _ I h => ld_blt I hg hm hv ⟨v, H, I, r, h⟩ hn hd

variable {a b : Expr} {ta tb : TE} {pos : Pos}
def tB (t : TE) : TT := fun σ H Q => t σ H fun x H1 => ∃ c, x = .bl c ∧ Q c H1
theorem pt_val {e : Expr} {t : TE} (h : PE X e t) (he : ∀ whole, isTrue e X.env whole = (do let v ← whole; standAt e.pos; holding [v] (truthy v)) := by intro _; rfl) : PT X e (tB t) := by
  intro pins s σ H Q I hw
  refine isTrue_plain (thn (h pins s σ H _ I hw) fun v s1 ⟨x, H1, I1, r1, q1⟩ => ?_) (he _)
  obtain ⟨d, rfl, q⟩ := q1
  cases r1
  exact wpAny_truthy_bool ⟨H1, I1, q⟩

variable {tA tB' : TT} {rest : List Expr}
def tAnd (t u : TT) : TT := fun σ H Q => t σ H fun c H1 => if c = true then u σ H1 Q else Q false H1
def tOr (t u : TT) : TT := fun σ H Q => t σ H fun c H1 => if c = true then Q true H1 else u σ H1 Q
def tNot (t : TT) : TT := fun σ H Q => t σ H fun c H1 => Q (!c) H1
theorem pw_and1 (ha : PT X a tA) : PW X (.BoolOp .And [a] pos) tA := by
  intro wh pins s σ H Q I h
  refine isTrue_and (thn (ha pins s σ H Q I h) fun c s1 e => ?_)
  cases c with
  | true => exact isTrue_and_nil e
  | false => exact e
theorem pw_or1 (ha : PT X a tA) : PW X (.BoolOp .Or [a] pos) tA := by
  intro wh pins s σ H Q I h
  refine isTrue_or (thn (ha pins s σ H Q I h) fun c s1 e => ?_)
  cases c with
  | false => exact isTrue_or_nil e
  | true => exact e
theorem pw_and (ha : PT X a tA) (hb : PW X (.BoolOp .And (b :: rest) pos) tB') : PW X (.BoolOp .And (a :: b :: rest) pos) (tAnd tA tB') := by
  intro wh pins s σ H Q I h
  refine isTrue_and (thn (ha pins s σ H _ I h) fun c s1 ⟨H1, I1, q1⟩ => ?_)
  cases c with
  | true => exact hb wh pins s1 σ H1 Q I1 q1
  | false => exact ⟨H1, I1, q1⟩
theorem pw_or (ha : PT X a tA) (hb : PW X (.BoolOp .Or (b :: rest) pos) tB') : PW X (.BoolOp .Or (a :: b :: rest) pos) (tOr tA tB') := by
  intro wh pins s σ H Q I h
  refine isTrue_or (thn (ha pins s σ H _ I h) fun c s1 ⟨H1, I1, q1⟩ => ?_)
  cases c with
  | true => exact ⟨H1, I1, q1⟩
  | false => exact hb wh pins s1 σ H1 Q I1 q1
theorem pt_not (ha : PT X a tA) : PT X (.UnaryOp .Not a pos) (tNot tA) := by
  intro pins s σ H Q I h
  exact isTrue_not (ha pins s σ H (fun c H1 => Q (!c) H1) I h)
def tAndV (ta tb : TE) : TE := fun σ H Q => ta σ H fun x H1 => ∃ c, x = .bl c ∧ if c = true then tb σ H1 Q else Q (.bl false) H1
def tOrV (ta tb : TE) : TE := fun σ H Q => ta σ H fun x H1 => ∃ c, x = .bl c ∧ if c = true then Q (.bl true) H1 else tb σ H1 Q
def tNotV (ta : TE) : TE := fun σ H Q => ta σ H fun x H1 => ∃ c, x = .bl c ∧ Q (.bl (!c)) H1
theorem pe_one {op} {t : TE} (h : PE X a t) : PE X (.BoolOp op [a] pos) t := fun pins s σ H Q I hw => BoolOp_one (h pins s σ H Q I hw)
theorem pe_and (ha : PE X a ta) (hb : PE X (.BoolOp .And (b :: rest) pos) tb) : PE X (.BoolOp .And (a :: b :: rest) pos) (tAndV ta tb) := by
  intro pins s σ H Q I h
  refine BoolOp_and (thn (ha pins s σ H _ I h) fun v s1 ⟨x, H1, I1, r1, q1⟩ => ?_)
  obtain ⟨c, rfl, q1⟩ := q1
  cases r1
  refine wpAny_truthy_bool ?_
  cases c with
  | true => exact hb pins s1 σ H1 Q I1 q1
  | false => exact ⟨.bl false, H1, I1, rfl, q1⟩
theorem pe_or (ha : PE X a ta) (hb : PE X (.BoolOp .Or (b :: rest) pos) tb) : PE X (.BoolOp .Or (a :: b :: rest) pos) (tOrV ta tb) := by
  intro pins s σ H Q I h
  refine BoolOp_or (thn (ha pins s σ H _ I h) fun v s1 ⟨x, H1, I1, r1, q1⟩ => ?_)
  obtain ⟨c, rfl, q1⟩ := q1
  cases r1
  refine wpAny_truthy_bool ?_
  cases c with
  | false => exact hb pins s1 σ H1 Q I1 q1
  | true => exact ⟨.bl true, H1, I1, rfl, q1⟩
theorem pe_not (ha : PE X a ta) : PE X (.UnaryOp .Not a pos) (tNotV ta) := by
  intro pins s σ H Q I h
  refine UnaryOp_ (thn (ha pins s σ H _ I h) fun v s1 ⟨x, H1, I1, r1, q1⟩ => ?_)
  obtain ⟨c, rfl, q1⟩ := q1
  cases r1
  exact not_of (wpAny_truthy_bool ⟨.bl (!c), H1, I1, rfl, q1⟩)
end
end L2

namespace L2
open PySem PySem.Spec PyProof.Rows

def SqL (K : PySem.W.Frag) (H : Hp) (a : Addr) (xs : List V) : Prop :=
  Rd H a (.lst xs) ∨
    ∃ (o : Obj) (its : Array Value) (n : Nat), K.lookup a = some o ∧ o.cls = .type "list" ∧ o.dict = none ∧ o.data = .seq its n ∧ its.size ≤ sizeLine ∧ Vals xs its.toList
def SqT (K : PySem.W.Frag) (H : Hp) (a : Addr) (xs : List V) : Prop :=
  Rd H a (.tup xs) ∨
    ∃ (o : Obj) (its : Array Value) (n : Nat), K.lookup a = some o ∧ o.cls = .type "tuple" ∧ o.data = .seq its n ∧ its.size ≤ sizeLine ∧ Vals xs its.toList
def absV : Value → Option V
  | .none => some .non
  | .bool b => some (.bl b)
  | .int i _ => some (.int i)
  | .str x _ => some (.str x)
  | .bytes b _ => some (.byt b)
  | .float b _ => some (.flt b)
  | .ref a => some (.ref a)
  | .type n => some (.ty n)
  | _ => none
theorem RelV.abs {x : V} {u : Value} (r : RelV x u) : absV u = some x := by
  cases x with
  | non => cases r; rfl
  | bl _ => cases r; rfl
  | int _ => obtain ⟨t, rfl⟩ := r; rfl
  | str _ => obtain ⟨t, rfl⟩ := r; rfl
  | byt _ => obtain ⟨t, rfl⟩ := r; rfl
  | flt _ => obtain ⟨t, rfl⟩ := r; rfl
  | ref _ => cases r; rfl
  | ty _ => cases r; rfl
theorem RelV.inj {x y : V} {u : Value} (r : RelV x u) (q : RelV y u) : x = y := Option.some.inj (r.abs.symm.trans q.abs)
theorem Vals.inj : ∀ {xs ys : List V} {us : List Value}, Vals xs us → Vals ys us → xs = ys
  | _, _, _, .nil, .nil => rfl
  | _, _, _, .cons r t, .cons r' t' => by rw [r.inj r', Vals.inj t t']
section
variable {X : Cx} {pins : List (Addr × Obj)} {σ : St} {H : Hp} {s : Shared} {a : Addr} {xs ys : List V}
theorem SqL.of {K : PySem.W.Frag} (h : H a = some (.lst xs)) : SqL K H a xs := .inl (.inl h)
theorem SqT.of {K : PySem.W.Frag} (h : H a = some (.tup xs)) : SqT K H a xs := .inl (.inl h)
theorem Inv.list (I : Inv X pins σ H s) (h : SqL X.K H a xs) : ∃ its : List Value, Vals xs its ∧ PlainL s.heap a its.toArray ∧ xs.length ≤ sizeLine := by
  rcases h with h | ⟨o, its, n, hk, hc, hd, hs, hz, r⟩
  · obtain ⟨z, its, n, r, e⟩ := h.ok I.hok
    exact ⟨its, r, ⟨_, n, e, rfl, rfl, rfl⟩, z⟩
  · refine ⟨its.toList, r, ⟨o, n, I.kIn a o hk, hc, hd, by simpa using hs⟩, ?_⟩
    have e := r.length
    simp only [Array.length_toList] at e
    omega
theorem Inv.tuple (I : Inv X pins σ H s) (h : SqT X.K H a xs) : ∃ its : List Value, Vals xs its ∧ IsTup s.heap a its.toArray ∧ xs.length ≤ sizeLine := by
  rcases h with h | ⟨o, its, n, hk, hc, hs, hz, r⟩
  · obtain ⟨z, its, r, p⟩ := h.ok I.hok
    exact ⟨its, r, p.tup, z⟩
  · refine ⟨its.toList, r, ⟨o, I.kIn a o hk, hc, n, by simpa using hs⟩, ?_⟩
    have e := r.length
    simp only [Array.length_toList] at e
    omega
theorem Inv.list_inj (I : Inv X pins σ H s) (h : SqL X.K H a xs) (h' : SqL X.K H a ys) : xs = ys := by
  obtain ⟨its, r, ⟨o, n, e, _, _, d⟩, _⟩ := I.list h
  obtain ⟨its', r', ⟨o', n', e', _, _, d'⟩, _⟩ := I.list h'
  rw [e] at e'; cases e'
  rw [d] at d'
  injection d' with d1 _
  have : its = its' := by simpa using congrArg Array.toList d1
  subst this
  exact r.inj r'
theorem Inv.tuple_inj (I : Inv X pins σ H s) (h : SqT X.K H a xs) (h' : SqT X.K H a ys) : xs = ys := by
  obtain ⟨its, r, ⟨o, e, _, n, d⟩, _⟩ := I.tuple h
  obtain ⟨its', r', ⟨o', e', _, n', d'⟩, _⟩ := I.tuple h'
  rw [e] at e'; cases e'
  rw [d] at d'
  injection d' with d1 _
  have : its = its' := by simpa using congrArg Array.toList d1
  subst this
  exact r.inj r'
end

abbrev Cx.wish (X : Cx) (E : Value → Shared → Prop) : Cx := { X with xe := E }
abbrev Cx.nox (X : Cx) : Cx := X.wish fun _ _ => False
theorem Cx.Ok.wish {X : Cx} (ok : X.Ok) (E : Value → Shared → Prop) : (X.wish E).Ok :=
  ⟨ok.mod, ok.kind, ok.glob, ok.blt, ok.above, ok.inj, ok.has, ok.cab, ok.hd, ok.frames, ok.stk, ok.exf, ok.bs, ok.bsz, ok.noex, ok.exfs, ok.funs, ok.frf⟩
theorem Cx.Ok.unwish {X : Cx} {E : Value → Shared → Prop} (ok : (X.wish E).Ok) : X.Ok :=
  ⟨ok.mod, ok.kind, ok.glob, ok.blt, ok.above, ok.inj, ok.has, ok.cab, ok.hd, ok.frames, ok.stk, ok.exf, ok.bs, ok.bsz, ok.noex, ok.exfs, ok.funs, ok.frf⟩
section
variable {X : Cx} {pins : List (Addr × Obj)} {σ : St} {H : Hp} {s : Shared} {E : Value → Shared → Prop}
theorem Inv.wish (I : Inv X pins σ H s) (E : Value → Shared → Prop) : Inv (X.wish E) pins σ H s := ⟨I.ok.wish E, I.os, I.bare, I.base, I.loc, I.cell, I.free, I.freeC, I.pin, I.hok, I.len⟩
theorem Inv.unwish (I : Inv (X.wish E) pins σ H s) : Inv X pins σ H s := ⟨I.ok.unwish, I.os, I.bare, I.base, I.loc, I.cell, I.free, I.freeC, I.pin, I.hok, I.len⟩
theorem SP.unwish {D : Ends} {f : Flow} {s' : Shared} (h : SP (X.wish E) pins D f s') : SP X pins D f s' := by
  cases f with
  | next => obtain ⟨σ', H', I, q⟩ := h; exact ⟨σ', H', I.unwish, q⟩
  | brk => obtain ⟨σ', H', I, q⟩ := h; exact ⟨σ', H', I.unwish, q⟩
  | cont => obtain ⟨σ', H', I, q⟩ := h; exact ⟨σ', H', I.unwish, q⟩
  | ret u => obtain ⟨v, σ', H', I, r, q⟩ := h; exact ⟨v, σ', H', I.unwish, r, q⟩
theorem PE.nox {e : Expr} {t : TE} (h : PE X.nox e t) : PE X e t := fun pins s σ H Q I hw =>
  wpAny_mono (h pins s σ H Q (I.wish _) hw) (fun _ _ ⟨v, H', I', r, q⟩ => ⟨v, H', I'.unwish, r, q⟩) fun _ _ z => False.elim z
theorem PT.nox {e : Expr} {t : TT} (h : PT X.nox e t) : PT X e t := fun pins s σ H Q I hw =>
  wpAny_mono (h pins s σ H Q (I.wish _) hw) (fun _ _ ⟨H', I', q⟩ => ⟨H', I'.unwish, q⟩) fun _ _ z => False.elim z
theorem PSs.nox {st : List Stmt} {t : TS} (h : PSs X.nox st t) : PSs X st t := fun pins s σ H D I hw =>
  wpAny_mono (h pins s σ H D (I.wish _) hw) (fun _ _ q => q.unwish) fun _ _ z => False.elim z
end

section
variable {X : Cx} {st : Stmt} {rest : List Stmt} {t u : TS} {e : Expr} {te : TE} {pos : Pos}
def tNext : TS := fun D σ H => D.nx σ H
def tSeq (t u : TS) : TS := fun D σ H => t { D with nx := u D } σ H
theorem pss_nil : PSs X [] tNext := fun _ _ σ H _ I h => wpAny_execs_nil ⟨σ, H, I, h⟩
theorem pss_cons (h1 : PS X st t) (h2 : PSs X rest u) : PSs X (st :: rest) (tSeq t u) := by
  intro pins s σ H D I h
  refine wpAny_execs_cons (thn (h1 pins s σ H { D with nx := u D } I h) fun f s1 q => ?_)
  cases f with
  | next =>
    obtain ⟨σ', H', I', q⟩ := q
    exact h2 pins s1 σ' H' D I' q
  | ret v => exact q
  | brk => exact q
  | cont => exact q
theorem pss_one (h1 : PS X st t) : PSs X [st] t := by
  intro pins s σ H D I h
  refine wpAny_execs_cons (thn (h1 pins s σ H D I h) fun f s1 q => ?_)
  cases f with
  | next => exact wpAny_execs_nil q
  | ret v => exact q
  | brk => exact q
  | cont => exact q
theorem Inv.quiet {pins : List (Addr × Obj)} {σ : St} {H : Hp} {s : Shared} (I : Inv X pins σ H s) : interactive X.env = false := by simp [interactive, I.ok.kind]
def tDrop (te : TE) : TS := fun D σ H => te σ H fun _ H1 => D.nx σ H1
theorem ps_expr (he : PE X e te) (hs : swapsWith e none pos.line X.env = pure false := by rfl) : PS X (.Expr e pos) (tDrop te) := by
  intro pins s σ H D I h
  exact wpAny_Expr_any (thn (he pins s σ H _ I h) fun v s1 ⟨x, H1, I1, r1, q1⟩ => ⟨σ, H1, I1, q1⟩) I.quiet hs
def tRet (te : TE) : TS := fun D σ H => te σ H D.rt
theorem ps_ret (he : PE X e te) : PS X (.Return (some e) pos) (tRet te) := by
  intro pins s σ H D I h
  exact wpAny_Return_some (thn (he pins s σ H _ I h) fun v s1 ⟨x, H1, I1, r1, q1⟩ => ⟨x, σ, H1, I1, r1, q1⟩)
def tIfS (c : TT) (t u : TS) : TS := fun D σ H => c σ H fun b H1 => if b = true then t D σ H1 else u D σ H1
theorem ps_if {c : Expr} {a b : List Stmt} {tc : TT} (hc : PT X c tc) (ha : PSs X a t) (hb : PSs X b u) : PS X (.If c a b pos) (tIfS tc t u) := by
  intro pins s σ H D I h
  refine wpAny_If (thn (hc pins s σ H _ I h) fun d s1 ⟨H1, I1, q1⟩ => ?_)
  cases d with
  | true => exact ha pins s1 σ H1 D I1 q1
  | false => exact hb pins s1 σ H1 D I1 q1
end

abbrev TG := V → St → Hp → (St → Hp → Prop) → Prop
abbrev TGs := List V → St → Hp → (St → Hp → Prop) → Prop
def PG (X : Cx) (target : Expr) (t : TG) : Prop :=
  ∀ (pins : List (Addr × Obj)) (s : Shared) (σ : St) (H : Hp) (v : V) (u : Value) (Q : St → Hp → Prop), Inv X pins σ H s → RelV v u → t v σ H Q →
    wpAny (model X.prog X.w) X.A (assign target X.env u) (fun _ s' => ∃ σ' H', Inv X pins σ' H' s' ∧ Q σ' H') X.xe s
def PGs (X : Cx) (ts : List Expr) (t : TGs) : Prop :=
  ∀ (pins : List (Addr × Obj)) (s : Shared) (σ : St) (H : Hp) (vs : List V) (us : List Value) (Q : St → Hp → Prop), Inv X pins σ H s → Vals vs us → t vs σ H Q →
    wpAny (model X.prog X.w) X.A (assignInOrder ((assignEach ts X.env).map (·.2)) us) (fun _ s' => ∃ σ' H', Inv X pins σ' H' s' ∧ Q σ' H') X.xe s
section
variable {X : Cx} {pos : Pos}
def gName (i : Nat) : TG := fun v σ H Q => Q (σ.set i (some v)) H
theorem pg_name {i : Nat} {x : Str} (hN : X.N.Nodup) (hi : X.N[i]? = some x) (hx : Loc X.env.scope x) (hf : X.fn x = true ∨ X.env.scope.names.lookup x = some .local := by first | exact .inl rfl | exact .inr rfl | assumption) : PG X (.Name x pos) (gName i) := by
  intro pins s σ H v u Q I r h
  exact wpAny_assign_Name (store_ok I hN hi hx r (fun s' I' => ⟨_, H, I', h⟩) hf)
def gNil : TGs := fun vs σ H Q => vs = [] ∧ Q σ H
def gCons (t : TG) (u : TGs) : TGs := fun vs σ H Q => ∃ v r, vs = v :: r ∧ t v σ H fun σ' H' => u r σ' H' Q
theorem pgs_nil : PGs X [] gNil := by
  intro pins s σ H vs us Q I r h
  obtain ⟨e, h⟩ := h
  subst e
  cases r
  exact assignInOrder_nil ⟨σ, H, I, h⟩
theorem pgs_cons {e : Expr} {es : List Expr} {t : TG} {u : TGs} (h1 : PG X e t) (h2 : PGs X es u)
    (hs : (assignEach (e :: es) X.env).map (·.2) = assign e X.env :: (assignEach es X.env).map (·.2) := by rfl) : PGs X (e :: es) (gCons t u) := by
  intro pins s σ H vs us Q I r h
  obtain ⟨v, vr, e1, h⟩ := h
  subst e1
  cases r with
  | cons r rr =>
    rw [hs]
    refine assignInOrder_cons (thn (h1 pins s σ H _ _ _ I r h) fun _ s1 ⟨σ1, H1, I1, q1⟩ => ?_)
    exact h2 pins s1 σ1 H1 _ _ Q I1 rr q1
def gTup (K : PySem.W.Frag) (n : Nat) (t : TGs) : TG := fun v σ H Q => ∃ a xs, v = .ref a ∧ SqT K H a xs ∧ xs.length = n ∧ t xs σ H Q
theorem pg_tup {es : List Expr} {k : Nat} {t : TGs} {n : Nat} (hc : X.calm = true) (h : PGs X es t)
    (hn : (assignEach es X.env).length = n := by rfl) (hst : (assignEach es X.env).findIdx? (·.1) = none := by rfl) : PG X (.Tuple es k pos) (gTup X.K n t) := by
  intro pins s σ H v u Q I r hw
  obtain ⟨a, xs, e1, hq, hl, hw⟩ := hw
  subst e1
  cases r
  obtain ⟨its, rv, ht, hz⟩ := I.tuple hq
  refine assign_Tuple_tuple (I.ok.hd hc) ht (by simp [hn, ← hl, rv.length]) hst fun h' hx => ?_
  have I1 : Inv X pins σ H { s with heap := h' } := I.kept (t' := s.toks) fun b o e => hx b o (Nat.ne_of_lt (Heap.lt_size e)) e
  exact h pins _ σ H xs _ Q I1 (by simpa using rv) hw
def tAsg (te : TE) (g : TG) : TS := fun D σ H => te σ H fun x H1 => g x σ H1 D.nx
theorem ps_set {i : Nat} {x : Str} {e : Expr} {te : TE} {pos' : Pos} (hN : X.N.Nodup) (hi : X.N[i]? = some x) (hx : Loc X.env.scope x) (he : PE X e te) (hs : swapsWith e (some (.Name x pos')) pos.line X.env = pure false := by rfl) (hf : X.fn x = true ∨ X.env.scope.names.lookup x = some .local := by first | exact .inl rfl | exact .inr rfl | assumption) :
    PS X (.Assign [.Name x pos'] e pos) (tAsg te (gName i)) := by
  intro pins s σ H D I h
  refine wpAny_Assign_Name (thn (he pins s σ H _ I h) fun v s1 ⟨y, H1, I1, r1, q1⟩ => ?_) hs
  exact store_ok I1 hN hi hx r1 (fun s2 I2 => ⟨_, H1, I2, q1⟩) hf
end

section
variable {X : Cx} {pos : Pos}
end

structure It where
  go : Nat → Hp → Prop
  yld : Nat → Hp → V → Hp → Prop
  stop : Nat → Hp → Prop
def FpOk (X : Cx) (pins : List (Addr × Obj)) (H : Hp) (b : Addr) : Prop :=
  H b = none ∧ b ≠ X.env.locals ∧ b ∉ X.fs ∧ (b ∈ X.ex ∨ X.s₀.heap.objs.size ≤ b) ∧ (∀ x c, X.env.cells.lookup x = some c → c ≠ b) ∧ ∀ p ∈ X.pn ++ pins, p.1 ≠ b
theorem Inv.fpOk {X : Cx} {pins : List (Addr × Obj)} {σ : St} {H H' : Hp} {s : Shared} {b : Addr} (I : Inv X pins σ H s) (hb : s.heap.objs.size ≤ b) (hn : H' b = none) : FpOk X pins H' b := by
  refine ⟨hn, Nat.ne_of_gt (Nat.lt_of_lt_of_le I.lt hb), I.nofs hb, .inr (Nat.le_trans I.sz hb), fun x c e z => ?_, fun p hp z => ?_⟩
  · obtain ⟨v, q⟩ := I.cell x c e
    exact absurd (Nat.lt_of_lt_of_le q.lt (by rw [z]; exact hb)) (Nat.lt_irrefl _)
  · exact absurd (Nat.lt_of_lt_of_le (Heap.lt_size (I.pin p hp).1) (by rw [z]; exact hb)) (Nat.lt_irrefl _)
structure Turn (P : Program) (w : World) (K : PySem.W.Frag) (tg : Expr) (J : It) (fp : List Addr) (it : Addr) (tn : Nat → Heap → Prop) : Prop where
  mem : it ∈ fp
  obj : ∀ i h, tn i h → ∀ b ∈ fp, ∃ o, h.get? b = some o ∧ ∀ v, o.data ≠ .cell v
  keep : ∀ i h h', tn i h → (∀ b ∈ fp, ∀ o, h.get? b = some o → h'.get? b = some o) → tn i h'
  item : ∀ (X : Cx), X.prog = P → X.w = w → X.K = K → X.calm = true → ∀ (i : Nat) (pins : List (Addr × Obj)) (s : Shared) (σ : St) (H : Hp) (E : Value → Shared → Prop), Inv X pins σ H s → (∀ b ∈ fp, FpOk X pins H b) → tn i s.heap → J.go i H →
    wpAny (model P w) X.A (pyNext (.ref it)) (fun r s1 => ∃ u, r = some u ∧
      wpAny (model P w) X.A (letOwnedTupleGo tg (.ref it) u) (fun _ s2 => ∃ x H', Inv X pins σ H' s2 ∧ RelV x u ∧ J.yld i H x H' ∧ tn (i + 1) s2.heap ∧ ∀ b ∈ fp, H' b = none) E s1) E s
  done : ∀ (X : Cx), X.prog = P → X.w = w → X.K = K → X.calm = true → ∀ (i : Nat) (pins : List (Addr × Obj)) (s : Shared) (σ : St) (H : Hp) (E : Value → Shared → Prop), Inv X pins σ H s → (∀ b ∈ fp, FpOk X pins H b) → tn i s.heap → J.stop i H →
    wpAny (model P w) X.A (pyNext (.ref it)) (fun r s1 => r = none ∧ Inv X pins σ H s1) E s
  self : ∀ (A : Around) (i : Nat) (s : Shared) (Q : Value → Shared → Prop) (E : Value → Shared → Prop), tn i s.heap → Q (.ref it) s → wpAny (model P w) A (pyIter (.ref it)) Q E s
abbrev TI := St → Hp → (It → Hp → Prop) → Prop
def PIE (X : Cx) (pins : List (Addr × Obj)) (σ : St) (tg : Expr) (R : It → Hp → Prop) (itv : Value) (s2 : Shared) : Prop :=
  ∃ (it : Addr) (fp : List Addr) (tn : Nat → Heap → Prop) (J : It) (H' : Hp), itv = .ref it ∧ Inv X pins σ H' s2 ∧ Turn X.prog X.w X.K tg J fp it tn ∧ tn 0 s2.heap ∧ (∀ b ∈ fp, FpOk X pins H' b) ∧ R J H'
def PI (X : Cx) (tg iter : Expr) (wi : TI) : Prop :=
  ∀ (pins : List (Addr × Obj)) (s : Shared) (σ : St) (H : Hp) (R : It → Hp → Prop), Inv X pins σ H s → wi σ H R →
    wpAny (model X.prog X.w) X.A (eval iter X.env) (fun v s1 => wpAny (model X.prog X.w) X.A (pyIter v) (PIE X pins σ tg R) X.xe s1) X.xe s

theorem go_of {M : Model} {A : Around} {E : Value → Shared → Prop} {s : Shared} {tg : Expr} {it : Addr} {u : Value} {o : Obj} {n : String} {vs : Array Value} {Q : Unit → Shared → Prop} (ho : s.heap.get? it = some o) (hc : o.cls = .type n) (hd : o.data = .fields vs)
    (hn : ["enumerate", "zip", "dict_itemiterator", "dict_reverseitemiterator", "odict_iterator", "itertools.zip_longest", "itertools.pairwise"].contains n = false) (hQ : Q () s) : wpAny M A (letOwnedTupleGo tg (.ref it) u) Q E s := by
  unfold letOwnedTupleGo
  cases tg <;> first
    | exact wpAny_pure hQ
    | (cases u <;> first
        | exact wpAny_pure hQ
        | (refine wpAny_bind (wpAny_load ho ?_)
           rw [hc, hd]
           show wpAny M A (if (["enumerate", "zip", "dict_itemiterator", "dict_reverseitemiterator", "odict_iterator", "itertools.zip_longest", "itertools.pairwise"].contains n && vs[0]? == some (rawInt _)) = true then _ else _) Q E s
           rw [if_neg (by intro h; rw [hn, Bool.false_and] at h; cases h)]
           exact wpAny_pure hQ))

def Itl (K : PySem.W.Frag) (a : Addr) : It :=
  ⟨fun i H => ∃ xs x, SqL K H a xs ∧ xs[i]? = some x, fun i H x H' => H' = H ∧ ∀ xs, SqL K H a xs → xs[i]? = some x, fun i H => ∃ xs, SqL K H a xs ∧ xs.length ≤ i⟩
def Itr (lo : Int) (n : Nat) : It := ⟨fun i _ => i < n, fun i H x H' => H' = H ∧ x = .int (lo + i), fun i _ => n ≤ i⟩
theorem turn_list {P : Program} {w : World} {K : PySem.W.Frag} {tg : Expr} (a it : Addr) : Turn P w K tg (Itl K a) [it] it (fun i h => h.IsListIter it a i) where
  mem := by simp
  obj := fun i h st b hb => by
    have e : b = it := by simpa using hb
    subst e
    obtain ⟨o, e, c, d⟩ := st
    exact ⟨o, e, fun v z => by rw [d] at z; cases z⟩
  keep := fun i h h' st k => st.at fun o e => k it (by simp) o e
  item := by
    intro X hP hw hK hc i pins s σ H E I hf st hg
    subst hP hw hK
    obtain ⟨xs, x, hq, hx⟩ := hg
    obtain ⟨its, rv, p, hz⟩ := I.list hq
    obtain ⟨u, hu, ru⟩ := rv.get hx
    obtain ⟨f0, f1, f2, f3, f4, f5⟩ := hf it (by simp)
    refine wpAny_pyNext_list_item st p.isList (x := u) (by simpa using hu) fun h' st' sb => ?_
    have I1 : Inv X pins σ H { s with heap := h' } := I.turned (t' := s.toks) (fun b o hb e => (sb.2 b hb).trans e) f0 f1 f3 f4 f5
    obtain ⟨o, e, c, d⟩ := id st'
    exact ⟨u, rfl, go_of (s := { s with heap := h' }) e c d (by decide) ⟨x, H, I1, ru, ⟨rfl, fun ys hy => by rw [I.list_inj hy hq]; exact hx⟩, st', fun b hb => (hf b hb).1⟩⟩
  done := by
    intro X hP hw hK hc i pins s σ H E I hf st hg
    subst hP hw hK
    obtain ⟨xs, hq, hx⟩ := hg
    obtain ⟨its, rv, p, hz⟩ := I.list hq
    obtain ⟨f0, f1, f2, f3, f4, f5⟩ := hf it (by simp)
    have hl := rv.length
    exact wpAny_pyNext_list_end (I.ok.hd hc) st p.isList (by simp; omega) fun h' eb => ⟨rfl, I.turned (t' := s.toks) (fun b o hb e => eb b o hb e) f0 f1 f3 f4 f5⟩
  self := fun _ _ _ _ _ st h => wpAny_pyIter_listiter st h
theorem turn_range {P : Program} {w : World} {K : PySem.W.Frag} {tg : Expr} (it : Addr) (lo : Int) (n : Nat) : Turn P w K tg (Itr lo n) [it] it (fun i h => IsRangeIter h it (lo + (i : Nat) * 1) ((n : Int) - (i : Nat)) 1) where
  mem := by simp
  obj := fun i h st b hb => by
    have e : b = it := by simpa using hb
    subst e
    exact ⟨_, st, fun v z => by
      have z' : Data.fields _ = Data.cell v := z
      cases z'⟩
  keep := fun i h h' st k => k it (by simp) _ st
  item := by
    intro X hP hw hK hc i pins s σ H E I hf st hg
    subst hP hw hK
    obtain ⟨f0, f1, f2, f3, f4, f5⟩ := hf it (by simp)
    have W := Walks.range (prog := X.prog) (w := X.w) (I.ok.hd hc) it lo 1 n
    refine W.item i s _ _ hg st fun v h' tk hv st' kk => ?_
    obtain ⟨t, rfl⟩ := hv
    have I1 : Inv X pins σ H { s with heap := h', toks := tk } := I.turned (fun b o hb e => kk b o (by simpa using hb) e) f0 f1 f3 f4 f5
    refine ⟨_, rfl, go_of (s := { s with heap := h', toks := tk }) (n := "range_iterator") st' rfl rfl (by decide) ⟨.int (lo + i), H, I1, ⟨t, ?_⟩, ⟨rfl, rfl⟩, st', fun b hb => (hf b hb).1⟩⟩
    rw [Int.mul_one]
  done := by
    intro X hP hw hK hc i pins s σ H E I hf st hg
    subst hP hw hK
    obtain ⟨f0, f1, f2, f3, f4, f5⟩ := hf it (by simp)
    exact wpAny_pyNext_range_end (I.ok.hd hc) st (by have : n ≤ i := hg; omega) fun h' eb => ⟨rfl, I.turned (t' := s.toks) (fun b o hb e => eb b o hb e) f0 f1 f3 f4 f5⟩
  self := fun _ _ _ _ _ st h => wpAny_pyIter_rangeiter st h
end L2

namespace L2
open PySem PySem.Spec PyProof.Rows
section
variable {X : Cx} {tg : Expr}
def iList (K : PySem.W.Frag) (tl : TE) : TI := fun σ H R => tl σ H fun x H1 => ∃ a, x = .ref a ∧ (∃ xs, SqL K H1 a xs) ∧ R (Itl K a) H1
theorem pi_list {l : Expr} {tl : TE} (hl : PE X l tl) : PI X tg l (iList X.K tl) := by
  intro pins s σ H R I h
  refine thn (hl pins s σ H _ I h) fun v s1 ⟨x, H1, I1, r1, q1⟩ => ?_
  obtain ⟨a, e, ⟨xs, hq⟩, q⟩ := q1
  subst e
  cases r1
  obtain ⟨its, rv, p, hz⟩ := I1.list hq
  refine wpAny_pyIter_list p.isList ?_
  refine ⟨s1.heap.objs.size, [s1.heap.objs.size], _, _, H1, rfl, I1.kept (t' := s1.toks) fun b o e => Heap.get?_push_of_some _ e, turn_list a _, ⟨_, Heap.get?_push_size _ rfl, rfl, rfl⟩, fun b hb => ?_, q⟩
  have e : b = s1.heap.objs.size := by simpa using hb
  subst e
  exact I1.fpOk (Nat.le_refl _) (I1.hok.fresh (Nat.le_refl _))
theorem range_it {pins : List (Addr × Obj)} {σ : St} {H : Hp} {s : Shared} {R : It → Hp → Prop} {E : Value → Shared → Prop} {lo hi : Int} {t u v : Tok} {tk : Nat} (I : Inv X pins σ H s) (h1 : -(2 ^ 62) ≤ lo) (h2 : lo < 2 ^ 62) (h3 : -(2 ^ 62) ≤ hi) (h4 : hi < 2 ^ 62)
    (q : R (Itr lo (hi - lo).toNat) H) : wpAny (model X.prog X.w) X.A (pyIter (.ref s.heap.objs.size)) (PIE X pins σ tg R) E { s with heap := s.heap.push { cls := .type "range", data := .fields #[.int lo t, .int hi u, .int 1 v] }, toks := tk } := by
  refine wpAny_pyIter_range (IsRange.new ..) (small_one h1 h2 h3 h4) ?_
  have I1 : Inv X pins σ H { s with heap := s.heap.push { cls := .type "range", data := .fields #[.int lo t, .int hi u, .int 1 v] }, toks := tk } := I.kept fun b o e => Heap.get?_push_of_some _ e
  refine ⟨(s.heap.push { cls := .type "range", data := .fields #[.int lo t, .int hi u, .int 1 v] }).objs.size, [(s.heap.push { cls := .type "range", data := .fields #[.int lo t, .int hi u, .int 1 v] }).objs.size], _, _, H, rfl,
    I1.kept (t' := tk) fun b o e => Heap.get?_push_of_some _ e, turn_range _ lo (hi - lo).toNat, ?_, fun b hb => ?_, q⟩
  · have e1 : lo + ((0 : Nat) : Int) * 1 = lo := by simp
    have e2 : (((hi - lo).toNat : Nat) : Int) - ((0 : Nat) : Int) = Builtin.Range.rangeSize lo hi 1 := by rw [rangeSize_one]; split <;> omega
    show IsRangeIter _ _ (lo + ((0 : Nat) : Int) * 1) ((((hi - lo).toNat : Nat) : Int) - ((0 : Nat) : Int)) 1
    rw [e1, e2]
    exact Heap.get?_push_size _ rfl
  · have e : b = (s.heap.push { cls := .type "range", data := .fields #[.int lo t, .int hi u, .int 1 v] }).objs.size := by simpa using hb
    subst e
    exact I1.fpOk (Nat.le_refl _) (I1.hok.fresh (Nat.le_refl _))
def iRng1 (ta : TA) : TI := fun σ H R => ta σ H fun vs H1 => ∃ j : Int, vs = [.int j] ∧ -(2 ^ 62) ≤ j ∧ j < 2 ^ 62 ∧ R (Itr 0 j.toNat) H1
theorem pi_range1 {a : Expr} {ta : TA} {p pos : Pos} (hg : Gl X "range") (hm : X.mg "range" = none) (ha : PA X [a] ta) (hs : starEach [a] X.env = [(false, eval a X.env)] := by rfl) : PI X tg (.Call (.Name "range" p) [a] [] pos) (iRng1 ta) := by
  intro pins s σ H R I h
  refine Call_ (ld_blt I hg hm boot_range (PyProof.Rows.callWith_type1 (thn (ha pos pins s σ H _ I h) fun us s1 ⟨vs, H1, I1, r1, q1⟩ => ?_) hs rfl))
  obtain ⟨j, e, q1, q2, q⟩ := q1
  subst e
  cases r1 with
  | cons r rr =>
    cases rr
    obtain ⟨t, rfl⟩ := r
    exact call_range_1 (range_it I1 (by omega) (by omega) q1 q2 (by simpa using q))
def tFor (wi : TI) (g : TG) (tb : TS) : TS := fun D σ H => wi σ H fun J H1 => ∃ W : Nat → Nat → St → Hp → Prop, (∃ m, W 0 m σ H1) ∧ ∀ i m σ H, W i m σ H →
  (J.stop i H ∧ D.nx σ H) ∨ (J.go i H ∧ ∃ N : St → Hp → Prop, (∀ σ' H', N σ' H' → ∃ m', m' < m ∧ W (i + 1) m' σ' H') ∧ ∀ x H', J.yld i H x H' → g x σ H' fun σ2 H2 => tb { D with nx := N, ct := N, bk := D.nx } σ2 H2)
def pinsAt (fp : List Addr) (h : Heap) : List (Addr × Obj) := fp.filterMap fun b => (h.get? b).map fun o => (b, o)
theorem mem_pinsAt {fp : List Addr} {h : Heap} {b : Addr} {o : Obj} (hb : b ∈ fp) (e : h.get? b = some o) : (b, o) ∈ pinsAt fp h := List.mem_filterMap.mpr ⟨b, hb, by rw [e]; rfl⟩
theorem of_pinsAt {fp : List Addr} {h : Heap} {p : Addr × Obj} (hp : p ∈ pinsAt fp h) : p.1 ∈ fp ∧ h.get? p.1 = some p.2 := by
  obtain ⟨b, hb, e⟩ := List.mem_filterMap.mp hp
  cases q : h.get? b with
  | none => rw [q] at e; cases e
  | some o =>
    rw [q] at e
    have e' : (b, o) = p := Option.some.inj e
    subst e'
    exact ⟨hb, q⟩
theorem Inv.pinned {pins : List (Addr × Obj)} {σ : St} {H : Hp} {s : Shared} {fp : List Addr} (I : Inv X pins σ H s) (hf : ∀ b ∈ fp, FpOk X pins H b) (ho : ∀ b ∈ fp, ∃ o, s.heap.get? b = some o ∧ ∀ v, o.data ≠ .cell v) : Inv X (pins ++ pinsAt fp s.heap) σ H s :=
  I.pins_of fun p hp => (List.mem_append.mp hp).elim (fun z => I.pin p (List.mem_append_right _ z)) fun z => by
    obtain ⟨hb, e⟩ := of_pinsAt z
    obtain ⟨f0, f1, f2, _⟩ := hf p.1 hb
    obtain ⟨o, e', d⟩ := ho p.1 hb
    rw [e] at e'; cases e'
    exact ⟨e, f0, f1, f2, d⟩
theorem Inv.unpinned {pins pl : List (Addr × Obj)} {σ : St} {H : Hp} {s : Shared} (I : Inv X (pins ++ pl) σ H s) : Inv X pins σ H s := I.pins_of fun p hp => I.pin p (List.mem_append_right _ (List.mem_append_left _ hp))
theorem ps_for {iter : Expr} {body : List Stmt} {wi : TI} {g : TG} {tb : TS} {pos : Pos} (hp : PassesOwn (model X.prog X.w) X.A X.env X.xe) (hc : X.calm = true) (hi : PI X tg iter wi) (hg : PG X tg g) (hb : PSs X body tb)
    (hs : ∀ x, foldedSetIterable iter X.env x = pure x := by intro _; rfl) : PS X (.For tg iter body [] pos) (tFor wi g tb) := by
  intro pins s σ H D I h
  refine wpAny_For (thn (hi pins s σ H _ I h) fun v s1 h1 => thn h1 fun itv s2 h2 => ?_) hs
  obtain ⟨it, fp, tn, J, H2, e, I2, T, st2, f2, W, ⟨m0, w0⟩, turn⟩ := h2
  subst e
  -- what stays true of the iterator's objects through the loop
  have stat : ∀ {H' : Hp}, (∀ b ∈ fp, H' b = none) → ∀ b ∈ fp, FpOk X pins H' b := fun hn b hb => ⟨hn b hb, (f2 b hb).2⟩
  refine codeAny_forLoop_any (fun n s' => ∃ i σ' H', Inv X pins σ' H' s' ∧ tn i s'.heap ∧ (∀ b ∈ fp, H' b = none) ∧ W i n σ' H') ?_ m0 ⟨0, σ, H2, I2, st2, fun b hb => (f2 b hb).1, w0⟩
  rintro n s3 ⟨i, σ3, H3, I3, st3, fr3, w3⟩
  rcases turn i n σ3 H3 w3 with ⟨stop, qn⟩ | ⟨go, N, hN, step⟩
  · refine wpAny_passesOwn hp (thn (T.done X rfl rfl rfl hc i pins s3 σ3 H3 X.xe I3 (stat fr3) st3 stop) fun r s4 ⟨hr, I4⟩ => ?_)
    subst hr
    exact wpAny_execs_nil ⟨σ3, H3, I4, qn⟩
  · refine wpAny_passesOwn hp (thn (T.item X rfl rfl rfl hc i pins s3 σ3 H3 X.xe I3 (stat fr3) st3 go) fun r s4 ⟨u, hr, h4⟩ => ?_)
    subst hr
    refine wpAny_passesOwn hp (thn h4 fun _ s5 ⟨x, H5, I5, r5, y5, st5, fr5⟩ => ?_)
    have I5' := I5.pinned (stat fr5) (T.obj _ _ st5)
    refine wpAny_passesOwn hp (thn (hg _ s5 σ3 H5 x u _ I5' r5 (step x H5 y5)) fun _ s6 ⟨σ6, H6, I6, q6⟩ => ?_)
    refine wpAny_passesOwn hp (thn (hb _ s6 σ6 H6 _ I6 q6) fun f s7 q7 => ?_)
    have again : ∀ {σ7 : St} {H7 : Hp}, Inv X (pins ++ pinsAt fp s5.heap) σ7 H7 s7 → N σ7 H7 → ∃ m, m < n ∧ ∃ i σ' H', Inv X pins σ' H' s7 ∧ tn i s7.heap ∧ (∀ b ∈ fp, H' b = none) ∧ W i m σ' H' := fun {σ7 H7} I7 n7 => by
      obtain ⟨m', hm, w7⟩ := hN σ7 H7 n7
      refine ⟨m', hm, i + 1, σ7, H7, I7.unpinned, T.keep _ _ _ st5 fun b hb o e => (I7.pin (b, o) (List.mem_append_right _ (List.mem_append_right _ (mem_pinsAt hb e)))).1, fun b hb => ?_, w7⟩
      obtain ⟨o, e, d⟩ := T.obj _ _ st5 b hb
      exact (I7.pin (b, o) (List.mem_append_right _ (List.mem_append_right _ (mem_pinsAt hb e)))).2.1
    cases f with
    | next => obtain ⟨σ7, H7, I7, n7⟩ := q7; exact again I7 n7
    | cont => obtain ⟨σ7, H7, I7, n7⟩ := q7; exact again I7 n7
    | brk => obtain ⟨σ7, H7, I7, q7⟩ := q7; exact ⟨σ7, H7, I7.unpinned, q7⟩
    | ret v => obtain ⟨x7, σ7, H7, I7, r7, q7⟩ := q7; exact ⟨x7, σ7, H7, I7.unpinned, r7, q7⟩
end

theorem for_list {K : PySem.W.Frag} {a : Addr} {xs : List V} {g : TG} {tb : TS} {D : Ends} {σ : St} {H : Hp} (Pv : Nat → St → Hp → Prop) (h0 : Pv 0 σ H) (hl : ∀ i σ H, i ≤ xs.length → Pv i σ H → SqL K H a xs)
    (hs : ∀ i x σ H, xs[i]? = some x → Pv i σ H → g x σ H fun σ2 H2 => tb { D with nx := Pv (i + 1), ct := Pv (i + 1), bk := D.nx } σ2 H2) (hd : ∀ σ H, Pv xs.length σ H → D.nx σ H) :
    ∃ W : Nat → Nat → St → Hp → Prop, (∃ m, W 0 m σ H) ∧ ∀ i m σ H, W i m σ H →
      ((Itl K a).stop i H ∧ D.nx σ H) ∨ ((Itl K a).go i H ∧ ∃ N : St → Hp → Prop, (∀ σ' H', N σ' H' → ∃ m', m' < m ∧ W (i + 1) m' σ' H') ∧ ∀ x H', (Itl K a).yld i H x H' → g x σ H' fun σ2 H2 => tb { D with nx := N, ct := N, bk := D.nx } σ2 H2) := by
  refine ⟨fun i m σ H => m = xs.length - i ∧ i ≤ xs.length ∧ Pv i σ H, ⟨xs.length, by simp, Nat.zero_le _, h0⟩, ?_⟩
  rintro i m σ H ⟨rfl, hi, p⟩
  have q := hl i σ H hi p
  by_cases hlt : i < xs.length
  · refine .inr ⟨⟨xs, xs[i], q, by simp [hlt]⟩, Pv (i + 1), fun σ' H' p' => ⟨xs.length - (i + 1), by omega, rfl, hlt, p'⟩, fun x H' y => ?_⟩
    obtain ⟨e, y⟩ := y
    subst e
    exact hs i x σ _ (y xs q) p
  · have e : i = xs.length := by omega
    subst e
    exact .inl ⟨⟨xs, q, Nat.le_refl _⟩, hd σ H p⟩
theorem for_range {lo : Int} {n : Nat} {g : TG} {tb : TS} {D : Ends} {σ : St} {H : Hp} (Pv : Nat → St → Hp → Prop) (h0 : Pv 0 σ H)
    (hs : ∀ i σ H, i < n → Pv i σ H → g (.int (lo + i)) σ H fun σ2 H2 => tb { D with nx := Pv (i + 1), ct := Pv (i + 1), bk := D.nx } σ2 H2) (hd : ∀ σ H, Pv n σ H → D.nx σ H) :
    ∃ W : Nat → Nat → St → Hp → Prop, (∃ m, W 0 m σ H) ∧ ∀ i m σ H, W i m σ H →
      ((Itr lo n).stop i H ∧ D.nx σ H) ∨ ((Itr lo n).go i H ∧ ∃ N : St → Hp → Prop, (∀ σ' H', N σ' H' → ∃ m', m' < m ∧ W (i + 1) m' σ' H') ∧ ∀ x H', (Itr lo n).yld i H x H' → g x σ H' fun σ2 H2 => tb { D with nx := N, ct := N, bk := D.nx } σ2 H2) := by
  refine ⟨fun i m σ H => m = n - i ∧ i ≤ n ∧ Pv i σ H, ⟨n, by simp, Nat.zero_le _, h0⟩, ?_⟩
  rintro i m σ H ⟨rfl, hi, p⟩
  by_cases hlt : i < n
  · refine .inr ⟨hlt, Pv (i + 1), fun σ' H' p' => ⟨n - (i + 1), by omega, rfl, hlt, p'⟩, fun x H' y => ?_⟩
    obtain ⟨e, y⟩ := y
    subst e y
    exact hs i σ _ hlt p
  · have e : i = n := by omega
    subst e
    exact .inl ⟨Nat.le_refl _, hd σ H p⟩
end L2

namespace L2
open PySem PySem.Spec PyProof.Rows

abbrev R2 := V → V → Hp → VK → Prop
def OpR (X : Cx) (f : Value → Value → Sem Value) (r : R2) : Prop :=
  ∀ (pins : List (Addr × Obj)) (s : Shared) (σ : St) (H : Hp) (x y : V) (v u : Value) (Q : VK), Inv X pins σ H s → RelV x v → RelV y u → r x y H Q →
    wpAny (model X.prog X.w) X.A (f v u) (EP X pins σ Q) X.xe s
def CallR (X : Cx) (f : Value) (r : List V → Hp → VK → Prop) : Prop :=
  ∀ (pins : List (Addr × Obj)) (s : Shared) (σ : St) (H : Hp) (xs : List V) (us : List Value) (Q : VK), Inv X pins σ H s → Vals xs us → r xs H Q →
    wpAny (model X.prog X.w) X.A (call f us) (EP X pins σ Q) X.xe s
def tOp (r : R2) (ta tb : TE) : TE := fun σ H Q => ta σ H fun x H1 => tb σ H1 fun y H2 => r x y H2 Q
def rI (C : Int → Int → Prop) (g : Int → Int → V) : R2 := fun x y H Q => ∃ i j, x = .int i ∧ y = .int j ∧ C i j ∧ Q (g i j) H
def rI0 (g : Int → Int → V) : R2 := fun x y H Q => ∃ i j, x = .int i ∧ y = .int j ∧ Q (g i j) H
section
variable {X : Cx} {a b c : Expr} {ta tb tc : TE} {pos : Pos}

theorem binT (ha : PE X a ta) (hb : PE X b tb) {pins : List (Addr × Obj)} {s : Shared} {σ : St} {H : Hp} {R : V → V → Hp → Prop} (I : Inv X pins σ H s)
    (h : ta σ H fun x H1 => tb σ H1 fun y H2 => R x y H2) {Q : Value → Shared → Prop} {f : Value → Value → Sem Value}
    (hf : ∀ v u s2 x y H2, Inv X pins σ H2 s2 → RelV x v → RelV y u → R x y H2 → wpAny (model X.prog X.w) X.A (f v u) Q X.xe s2) :
    wpAny (model X.prog X.w) X.A (eval a X.env) (fun v s₁ => wpAny (model X.prog X.w) X.A (eval b X.env) (fun u s₂ => wpAny (model X.prog X.w) X.A (f v u) Q X.xe s₂) X.xe s₁) X.xe s := by
  refine thn (ha pins s σ H _ I h) fun v s1 ⟨x, H1, I1, r1, q1⟩ => ?_
  refine thn (hb pins s1 σ H1 _ I1 q1) fun u s2 ⟨y, H2, I2, r2, q2⟩ => ?_
  exact hf v u s2 x y H2 I2 r1 r2 q2

theorem pe_op {op : Operator} {r : R2} (ho : OpR X (binaryOp op) r) (ha : PE X a ta) (hb : PE X b tb) : PE X (.BinOp a op b pos) (tOp r ta tb) := by
  intro pins s σ H Q I h
  exact wpAny_BinOp (binT ha hb I h fun v u s2 x y H2 I2 rx ry q => ho pins s2 σ H2 x y v u Q I2 rx ry q)
theorem opI {f : Value → Value → Sem Value} {C : Int → Int → Prop} {g : Int → Int → Int}
    (rule : ∀ (i j : Int) (t u : Tok) (s : Shared) (Q : Value → Shared → Prop) (E : Value → Shared → Prop), C i j → Q (.int (g i j) s.toks) { s with toks := s.toks + 1 } → wpAny (model X.prog X.w) X.A (f (.int i t) (.int j u)) Q E s) :
    OpR X f (rI C fun i j => .int (g i j)) := by
  intro pins s σ H x y v u Q I rx ry h
  obtain ⟨i, j, rfl, rfl, hc, q⟩ := h
  obtain ⟨t, rfl⟩ := rx
  obtain ⟨t', rfl⟩ := ry
  exact rule i j t t' s _ _ hc ⟨.int (g i j), H, I.tok _, ⟨_, rfl⟩, q⟩
theorem opI0 {f : Value → Value → Sem Value} {g : Int → Int → Int}
    (rule : ∀ (i j : Int) (t u : Tok) (s : Shared) (Q : Value → Shared → Prop) (E : Value → Shared → Prop), Q (.int (g i j) s.toks) { s with toks := s.toks + 1 } → wpAny (model X.prog X.w) X.A (f (.int i t) (.int j u)) Q E s) :
    OpR X f (rI0 fun i j => .int (g i j)) := by
  intro pins s σ H x y v u Q I rx ry h
  obtain ⟨i, j, rfl, rfl, q⟩ := h
  obtain ⟨t, rfl⟩ := rx
  obtain ⟨t', rfl⟩ := ry
  exact rule i j t t' s _ _ ⟨.int (g i j), H, I.tok _, ⟨_, rfl⟩, q⟩
theorem opB0 {f : Value → Value → Sem Value} {g : Int → Int → Bool}
    (rule : ∀ (i j : Int) (t u : Tok) (s : Shared) (Q : Value → Shared → Prop) (E : Value → Shared → Prop), Q (.bool (g i j)) s → wpAny (model X.prog X.w) X.A (f (.int i t) (.int j u)) Q E s) :
    OpR X f (rI0 fun i j => .bl (g i j)) := by
  intro pins s σ H x y v u Q I rx ry h
  obtain ⟨i, j, rfl, rfl, q⟩ := h
  obtain ⟨t, rfl⟩ := rx
  obtain ⟨t', rfl⟩ := ry
  exact rule i j t t' s _ _ ⟨.bl (g i j), H, I, rfl, q⟩

def CDiv (i j : Int) : Prop := 0 < j ∧ j < 1073741824
def CPow (i j : Int) : Prop := 0 ≤ j ∧ j ≤ 1000000 ∧ i.natAbs < 2 ^ 64
def CMul (i j : Int) : Prop := (-(2 ^ 64) < i ∧ i < 2 ^ 64) ∨ (-(2 ^ 64) < j ∧ j < 2 ^ 64)
theorem CMul.ok {i j : Int} (h : CMul i j) : IntMulOk i j := by
  rcases h with ⟨h1, h2⟩ | ⟨h1, h2⟩
  · exact .of_left (intBits_le_64 h1 h2)
  · exact .of_right (intBits_le_64 h1 h2)
theorem op_add : OpR X (binaryOp .Add) (rI0 fun i j => .int (i + j)) := opI0 fun _ _ _ _ _ _ _ q => add_int q
theorem op_sub : OpR X (binaryOp .Sub) (rI0 fun i j => .int (i - j)) := opI0 fun _ _ _ _ _ _ _ q => sub_int q
theorem op_mul : OpR X (binaryOp .Mult) (rI CMul fun i j => .int (i * j)) := opI fun _ _ _ _ _ _ _ hc q => mul_int q hc.ok
theorem op_fdiv : OpR X (binaryOp .FloorDiv) (rI CDiv fun i j => .int (i / j)) := opI fun i j _ _ _ _ _ hc q => by
  have h1 : (0 : Int) < j := hc.1
  have h2 : j < 1073741824 := hc.2
  exact floordiv_int (by omega) (by rw [Int.fdiv_eq_ediv_of_nonneg i (by omega)]; exact q) (.inl (PyProof.noPylong_small (by omega)))
theorem op_mod : OpR X (binaryOp .Mod) (rI (fun _ j => 0 < j) fun i j => .int (i % j)) := opI fun i j _ _ _ _ _ hc q => by
  have h1 : (0 : Int) < j := hc
  exact mod_int' (by omega) (by rw [Int.fmod_eq_emod_of_nonneg i (by omega)]; exact q)
theorem op_pow : OpR X (binaryOp .Pow) (rI CPow fun i j => .int (i ^ j.toNat)) := opI fun _ _ _ _ _ _ _ hc q => pow_int_small hc.1 hc.2.1 hc.2.2 q
end

def scal : V → V → Bool
  | .non, .non => true | .non, .int _ => true | .int _, .non => true | .non, .bl _ => true | .bl _, .non => true | .non, .str _ => true | .str _, .non => true
  | .int _, .int _ => true | .bl _, .bl _ => true | .str _, .str _ => true | .byt _, .byt _ => true
  | .int _, .str _ => true | .str _, .int _ => true | .bl _, .str _ => true | .str _, .bl _ => true
  | _, _ => false
def rEq : R2 := fun x y H Q => scal x y = true ∧ Q (.bl (decide (x = y))) H
def rNe : R2 := fun x y H Q => scal x y = true ∧ Q (.bl (!decide (x = y))) H

theorem dec_int {i j : Int} : decide (V.int i = V.int j) = (i == j) := by
  rw [Bool.eq_iff_iff]
  simp
theorem dec_bl {i j : Bool} : decide (V.bl i = V.bl j) = (i == j) := by
  rw [Bool.eq_iff_iff]
  simp
theorem dec_str {i j : Str} : decide (V.str i = V.str j) = (i == j) := by
  rw [Bool.eq_iff_iff]
  simp
theorem dec_byt {i j : Array UInt8} : decide (V.byt i = V.byt j) = (i.toList == j.toList) := by
  rw [Bool.eq_iff_iff]
  cases i
  cases j
  simp

section
variable {X : Cx} {a b c : Expr} {ta tb tc : TE} {pos : Pos}
theorem fin_bl {pins : List (Addr × Obj)} {σ : St} {H : Hp} {s : Shared} {Q : VK} {k k' : Bool} (I : Inv X pins σ H s) (q : Q (.bl k) H) (e : k = k') : EP X pins σ Q (.bool k') s := by
  subst e
  exact ⟨.bl k, H, I, rfl, q⟩
theorem op_eq : OpR X (compareOp .Eq) rEq := by
  intro pins s σ H x y v u Q I rx ry h
  obtain ⟨hs, q⟩ := h
  cases x with
  | non =>
    cases rx
    cases y with
    | non => cases ry; exact PySem.EqNone.eq_none_none (fin_bl I q (by simp))
    | bl j => cases ry; exact PySem.EqNone.eq_none_bool (fin_bl I q (by simp))
    | int j => obtain ⟨t', rfl⟩ := ry; exact PySem.EqNone.eq_none_int (fin_bl I q (by simp))
    | str j => obtain ⟨t', rfl⟩ := ry; exact PySem.EqNone.eq_none_str (fin_bl I q (by simp))
    | _ => exact absurd (show false = true from hs) Bool.false_ne_true
  | bl i =>
    cases rx
    cases y with
    | non => cases ry; exact PySem.EqNone.eq_bool_none (fin_bl I q (by simp))
    | bl j => cases ry; exact eq_bool (fin_bl I q dec_bl)
    | str j => obtain ⟨t', rfl⟩ := ry; exact PySem.EqMixed.eq_bool_str (fin_bl I q (by simp))
    | _ => exact absurd (show false = true from hs) Bool.false_ne_true
  | int i =>
    obtain ⟨t, rfl⟩ := rx
    cases y with
    | non => cases ry; exact PySem.EqNone.eq_int_none (fin_bl I q (by simp))
    | int j => obtain ⟨t', rfl⟩ := ry; exact eq_int (fin_bl I q dec_int)
    | str j => obtain ⟨t', rfl⟩ := ry; exact PySem.EqMixed.eq_int_str (fin_bl I q (by simp))
    | _ => exact absurd (show false = true from hs) Bool.false_ne_true
  | str i =>
    obtain ⟨t, rfl⟩ := rx
    cases y with
    | non => cases ry; exact PySem.EqNone.eq_str_none (fin_bl I q (by simp))
    | bl j => cases ry; exact PySem.EqMixed.eq_str_bool (fin_bl I q (by simp))
    | int j => obtain ⟨t', rfl⟩ := ry; exact PySem.EqMixed.eq_str_int (fin_bl I q (by simp))
    | str j => obtain ⟨t', rfl⟩ := ry; exact eq_str (fin_bl I q dec_str)
    | _ => exact absurd (show false = true from hs) Bool.false_ne_true
  | byt i =>
    obtain ⟨t, rfl⟩ := rx
    cases y with
    | byt j => obtain ⟨t', rfl⟩ := ry; exact PySem.W.eq_bytes (fin_bl I q dec_byt)
    | _ => exact absurd (show false = true from hs) Bool.false_ne_true
  | _ => cases y <;> exact absurd (show false = true from hs) Bool.false_ne_true
theorem op_ne : OpR X (compareOp .NotEq) rNe := by
  intro pins s σ H x y v u Q I rx ry h
  obtain ⟨hs, q⟩ := h
  cases x with
  | non =>
    cases rx
    cases y with
    | non => cases ry; exact PySem.EqNone.ne_none_none (fin_bl I q (by simp))
    | bl j => cases ry; exact PySem.EqNone.ne_none_bool (fin_bl I q (by simp))
    | int j => obtain ⟨t', rfl⟩ := ry; exact PySem.EqNone.ne_none_int (fin_bl I q (by simp))
    | str j => obtain ⟨t', rfl⟩ := ry; exact PySem.EqNone.ne_none_str (fin_bl I q (by simp))
    | _ => exact absurd (show false = true from hs) Bool.false_ne_true
  | bl i =>
    cases rx
    cases y with
    | non => cases ry; exact PySem.EqNone.ne_bool_none (fin_bl I q (by simp))
    | bl j => cases ry; exact ne_bool (fin_bl I q (congrArg not dec_bl))
    | str j => obtain ⟨t', rfl⟩ := ry; exact PySem.EqMixed.ne_bool_str (fin_bl I q (by simp))
    | _ => exact absurd (show false = true from hs) Bool.false_ne_true
  | int i =>
    obtain ⟨t, rfl⟩ := rx
    cases y with
    | non => cases ry; exact PySem.EqNone.ne_int_none (fin_bl I q (by simp))
    | int j => obtain ⟨t', rfl⟩ := ry; exact ne_int (fin_bl I q (congrArg not dec_int))
    | str j => obtain ⟨t', rfl⟩ := ry; exact PySem.EqMixed.ne_int_str (fin_bl I q (by simp))
    | _ => exact absurd (show false = true from hs) Bool.false_ne_true
  | str i =>
    obtain ⟨t, rfl⟩ := rx
    cases y with
    | non => cases ry; exact PySem.EqNone.ne_str_none (fin_bl I q (by simp))
    | bl j => cases ry; exact PySem.EqMixed.ne_str_bool (fin_bl I q (by simp))
    | int j => obtain ⟨t', rfl⟩ := ry; exact PySem.EqMixed.ne_str_int (fin_bl I q (by simp))
    | str j => obtain ⟨t', rfl⟩ := ry; exact ne_str (fin_bl I q (congrArg not dec_str))
    | _ => exact absurd (show false = true from hs) Bool.false_ne_true
  | byt i =>
    obtain ⟨t, rfl⟩ := rx
    cases y with
    | byt j => obtain ⟨t', rfl⟩ := ry; exact PySem.W.ne_bytes (fin_bl I q (congrArg not dec_byt))
    | _ => exact absurd (show false = true from hs) Bool.false_ne_true
  | _ => cases y <;> exact absurd (show false = true from hs) Bool.false_ne_true

theorem op_lt : OpR X (compareOp .Lt) (rI0 fun i j => .bl (decide (i < j))) := opB0 fun _ _ _ _ _ _ _ q => lt_int q
theorem op_gt : OpR X (compareOp .Gt) (rI0 fun i j => .bl (decide (j < i))) := opB0 fun _ _ _ _ _ _ _ q => gt_int q
theorem nomark (b : Expr) {op : CmpOp} (h : op ≠ .In := by decide) (h2 : op ≠ .NotIn := by decide) : behindInMarks op b = false := by
  have e1 : (op == CmpOp.In) = false := by cases op <;> first | rfl | exact absurd rfl h
  have e2 : (op == CmpOp.NotIn) = false := by cases op <;> first | rfl | exact absurd rfl h2
  cases b <;> simp [behindInMarks, e1, e2]
theorem pe_cmpR {op : CmpOp} {r : R2} (ho : OpR X (compareOp op) r) (ha : PE X a ta) (hb : PE X b tb) (hm : behindInMarks op b = false) : PE X (.Compare a [op] [b] pos) (tOp r ta tb) := by
  intro pins s σ H Q I h
  exact wpAny_Compare1 (binT ha hb I h fun v u s2 x y H2 I2 rx ry q => ho pins s2 σ H2 x y v u Q I2 rx ry q) hm
def tTest (t : TE) : TT := fun σ H Q => t σ H fun x H' => ∃ k, x = .bl k ∧ Q k H'
theorem pt_cmpR {op : CmpOp} {r : R2} (ho : OpR X (compareOp op) r) (ha : PE X a ta) (hb : PE X b tb) (hm : behindInMarks op b = false) : PT X (.Compare a [op] [b] pos) (tTest (tOp r ta tb)) := by
  intro pins s σ H Q I h
  refine wpAny_isTrue_Compare1 (thn (ha pins s σ H _ I h) fun v s1 ⟨x, H1, I1, r1, q1⟩ => thn (hb pins s1 σ H1 _ I1 q1) fun u s2 ⟨y, H2, I2, r2, q2⟩ =>
    thn (ho pins s2 σ H2 x y v u _ I2 r1 r2 q2) fun c s3 ⟨z, H3, I3, r3, k, e, q3⟩ => ?_) hm
  subst e
  cases r3
  exact wpAny_truthy_bool ⟨H3, I3, q3⟩
theorem line63 : (sizeLine : Nat) < 2 ^ 63 := by rw [sizeLine_eq]; decide
theorem op_add_str : OpR X (binaryOp .Add) (fun x y H Q => ∃ i j, x = .str i ∧ y = .str j ∧ i.length + j.length ≤ sizeLine ∧ Q (.str (i ++ j)) H) := by
  intro pins s σ H x y v u Q I rx ry h
  obtain ⟨i, j, rfl, rfl, hz, q⟩ := h
  obtain ⟨t, rfl⟩ := rx
  obtain ⟨t', rfl⟩ := ry
  exact add_str (fun t' tk => ⟨.str (i ++ j), H, I.tok _, ⟨_, rfl⟩, q⟩) hz
theorem vals1 {x : V} {us : List Value} (r : Vals [x] us) : ∃ u, us = [u] ∧ RelV x u := by
  cases r with
  | cons r1 r2 => cases r2; exact ⟨_, rfl, r1⟩
end
end L2

namespace L2
open PySem PySem.Spec PyProof.Rows

structure ObjM (h : Heap) (x dx C : Addr) (mA : Str → Option Value) : Prop where
  obj : h.get? x = some (PySem.W.instObj C dx)
  ns : h.Ns1 dx mA
  ne : dx ≠ x

theorem lookIn_ns {h : Heap} {dx : Addr} {mA : Str → Option Value} (n : h.Ns1 dx mA) : ∃ od, h.get? dx = some od ∧ ∀ name, PySem.W.lookIn name od = some (mA name) := by
  obtain ⟨o, es, ep, ho, hd, hk, _, hm⟩ := n
  refine ⟨o, ho, fun name => ?_⟩
  have e := hm name
  unfold nsFind findBy at e
  rw [← Array.find?_toList] at e
  unfold PySem.W.lookIn
  rw [hd]
  dsimp only
  split
  · rename_i y q
    rw [q] at e
    exact congrArg some e
  · rename_i q
    rw [q] at e
    have a : es.toList.any (·.refKey) = false := by
      rw [List.any_eq_false]
      intro y hy
      obtain ⟨z, t, hkey⟩ := hk y (Array.mem_toList_iff.mp hy)
      simp [DictEntry.refKey, hkey]
    have a' : ¬ es.toList.any (·.refKey) = true := by rw [a]; exact Bool.false_ne_true
    rw [if_neg a']
    exact congrArg some e

theorem ObjM.look {h : Heap} {x dx C : Addr} {mA : Str → Option Value} (I : ObjM h x dx C mA) : ∃ od, PySem.W.InstAt h x (PySem.W.instObj C dx) C (some od) ∧ ∀ name, PySem.W.lookIn name od = some (mA name) :=
  let ⟨od, ho, hl⟩ := lookIn_ns I.ns
  ⟨od, ⟨I.obj, rfl, rfl, ho⟩, hl⟩

section
variable {prog : Program} {w : World} {A : Around} {E : Value → Shared → Prop} {s : Shared} {K : PySem.W.Frag} {x dx C f : Addr} {mA : Str → Option Value} {name : Str} {v : Value}

theorem get_map {expr : Bool} {Q : Value → Shared → Prop} (X : K.In s.heap) (I : ObjM s.heap x dx C mA) (hg : PySem.W.plainGet K C name = true) (hh : PySem.W.hasDictIn K C = true)
    (ha : PySem.W.findIn K (.ref C) name = some none) (hv : mA name = some v) (hv' : PySem.W.handedIn v = true) (h : Q v { s with toks := s.toks + 1 }) :
    wpAny (model prog w) A (getAttr (.ref x) name expr) Q E s := by
  obtain ⟨od, J, hl⟩ := I.look
  exact PySem.W.get_value X J (PySem.W.plainGet_of hg).1 (PySem.W.findObj_own hh ha rfl (by rw [hl, hv])) hv' h

theorem get_meth {pl : Sem Bool} {Q : Value × List Value → Shared → Prop} (X : K.In s.heap) (I : ObjM s.heap x dx C mA) (hg : PySem.W.plainGet K C name = true)
    (hf : PySem.W.findIn K (.ref C) name = some (some (.ref f))) (ht : PySem.W.isFn K (.ref f) = true) (hv : mA name = none) (h : Q (.ref f, [.ref x]) s) :
    wpAny (model prog w) A (getMethod (.ref x) name pl) Q E s := by
  obtain ⟨od, J, hl⟩ := I.look
  exact PySem.W.method_fn X J (PySem.W.plainGet_of hg).1 (PySem.W.plainGet_of hg).2 hf (beq_iff_eq.mp ht) (by show (PySem.W.lookIn name od).map (·.isSome) = some false; rw [hl, hv]; rfl) h

theorem set_map {ns : List Str} {Q : Unit → Shared → Prop} (X : K.In s.heap) (I : ObjM s.heap x dx C mA)
    (hs : PySem.W.findIn K (.ref C) "__setattr__" = some (some (.builtin "object.__setattr__"))) (hp : PySem.W.plainOver K C = true) (ht : PySem.W.takerIn K C name = some none) (hh : PySem.W.hasDictIn K C = true)
    (hw : PySem.Within mA ns) (hsz : ns.length ≤ sizeLine)
    (h : ∀ h', ObjM h' x dx C (fun y => if y = name then some v else mA y) → Heap.SameBut dx s.heap h' → Q () { s with heap := h', toks := s.toks + 2 }) :
    wpAny (model prog w) A (setAttr (.ref x) name v) Q E s := by
  obtain ⟨od, J, hl⟩ := I.look
  refine PySem.W.set_plain X J hs (PySem.W.osa_open (s := { s with toks := s.toks + 1 }) (r := none) X J hp ht fun b => ?_)
  obtain ⟨cd, hc, hd'⟩ := PySem.W.any_some hh
  have hx : s.heap.get? x = some ⟨.ref C, some dx, .plain, #[]⟩ := I.obj
  refine wpAny_bind (wpAny_pure (wpAny_bind (wpAny_bind (wpAny_loadPart hx (wpAny_bind (PySem.W.Looks.here (s := { s with toks := s.toks + 1 }) (PySem.W.looks_clsIn X hc) ?_))))))
  rw [hd']
  refine wpAny_pure (a := some dx) (wpAny_bind (wpAny_pure (wpAny_bind ?_)))
  refine wpAny_nsSet1 (s := { s with toks := s.toks + 1 }) I.ns fun h' hn2 hs2 => ?_
  obtain ⟨oD, esD, epD, hoD, hdD, hcD⟩ := hn2.count (PySem.Within.cons name v hw)
  refine wpAny_bind (wpAny_lookBehind hoD (by rw [hdD]; exact pastItsLine_dict (Nat.le_trans hcD (by rw [List.length_cons]; omega))) ?_)
  exact wpAny_pure (h _ ⟨(hs2.2 _ (Ne.symm I.ne)).trans I.obj, hn2, I.ne⟩ hs2)

theorem make_map {R : Result → Shared → Prop} {vs : List Value} {kw : List (Str × Value)} (X : K.In s.heap) (hm : PySem.W.makesIn K C = true)
    (hi : PySem.W.findIn K (.ref C) "__init__" = some (some (.ref f))) (hf : PySem.W.typeIn K (.ref f) = some (.type "function"))
    (h : codeAny (model prog w) (A.under (.builtin "type.__call__" ⟨.ref C :: vs, kw⟩)) (.call (.ref f) ⟨.ref (s.heap.objs.size + 1) :: vs, kw⟩) (PySem.W.InitBack (s.heap.objs.size + 1) R)
      { s with heap := (s.heap.push PySem.W.emptyDict).push (PySem.W.instObj C s.heap.objs.size) }) :
    codeAny (model prog w) A (.call (.ref C) ⟨vs, kw⟩) R s := by
  obtain ⟨hh, g, d, t, os⟩ := s
  exact PySem.W.make_core (PySem.W.makes_of X hm) (PySem.W.looks_findIn X hi) (fun self => PySem.W.bind_fn X self hf) (.inl rfl) h
end

def putF (f : Str) (v : V) : List (Str × V) → List (Str × V)
  | [] => [(f, v)]
  | (g, x) :: r => if g = f then (g, v) :: r else (g, x) :: putF f v r
theorem lookup_putF (f g : Str) (v : V) : ∀ fs : List (Str × V), (putF f v fs).lookup g = if g = f then some v else fs.lookup g
  | [] => by
    show List.lookup g [(f, v)] = _
    by_cases h : g = f
    · have hb : (g == f) = true := beq_iff_eq.mpr h
      simp only [List.lookup, hb, if_pos h]
    · have hb : (g == f) = false := beq_eq_false_iff_ne.mpr h
      simp only [List.lookup, hb, if_neg h]
  | (k, x) :: r => by
    have ih := lookup_putF f g v r
    rw [show putF f v ((k, x) :: r) = (if k = f then (k, v) :: r else (k, x) :: putF f v r) from rfl]
    by_cases hk : k = f
    · rw [if_pos hk]
      by_cases h : g = k
      · have hb : (g == k) = true := beq_iff_eq.mpr h
        simp only [List.lookup, hb, if_pos (h.trans hk)]
      · have hb : (g == k) = false := beq_eq_false_iff_ne.mpr h
        simp only [List.lookup, hb, if_neg (fun e : g = f => h (e.trans hk.symm))]
    · rw [if_neg hk]
      by_cases h : g = k
      · have hb : (g == k) = true := beq_iff_eq.mpr h
        simp only [List.lookup, hb, if_neg (fun e : g = f => hk (h.symm.trans e))]
      · have hb : (g == k) = false := beq_eq_false_iff_ne.mpr h
        simp only [List.lookup, hb]
        exact ih
theorem keys_putF (f : Str) (v : V) : ∀ fs : List (Str × V), f ∈ (putF f v fs).map (·.1) ∧ ∀ g, g ∈ fs.map (·.1) → g ∈ (putF f v fs).map (·.1)
  | [] => ⟨by simp [putF], fun g h => by simp at h⟩
  | (k, x) :: r => by
    obtain ⟨i1, i2⟩ := keys_putF f v r
    rw [show putF f v ((k, x) :: r) = (if k = f then (k, v) :: r else (k, x) :: putF f v r) from rfl]
    by_cases hk : k = f
    · rw [if_pos hk]
      subst hk
      exact ⟨by simp, fun g h => by simpa using h⟩
    · rw [if_neg hk]
      refine ⟨?_, fun g h => ?_⟩
      · rw [List.map_cons]
        exact List.mem_cons_of_mem _ i1
      · rw [List.map_cons] at h ⊢
        rcases List.mem_cons.mp h with e | e
        · exact List.mem_cons.mpr (.inl e)
        · exact List.mem_cons_of_mem _ (i2 g e)
theorem length_putF (f : Str) (v : V) : ∀ fs : List (Str × V), (putF f v fs).length ≤ fs.length + 1
  | [] => by simp [putF]
  | (k, x) :: r => by
    have ih := length_putF f v r
    rw [show putF f v ((k, x) :: r) = (if k = f then (k, v) :: r else (k, x) :: putF f v r) from rfl]
    by_cases hk : k = f
    · rw [if_pos hk, List.length_cons, List.length_cons]; omega
    · rw [if_neg hk, List.length_cons, List.length_cons]; omega

theorem RelO.some_of {v : V} {o : Option Value} (r : RelO (some v) o) : ∃ u, o = some u ∧ RelV v u := by
  cases o with
  | none => exact (show False from r).elim
  | some u => exact ⟨u, rfl, r⟩
theorem RelO.none_of {o : Option Value} (r : RelO none o) : o = none := by
  cases o with
  | none => rfl
  | some u => exact (show False from r).elim
theorem handed_of {v : V} {u : Value} (r : RelV v u) : PySem.W.handedIn u = true := by
  cases v with
  | non => cases (show u = Value.none from r); rfl
  | bl b => cases (show u = Value.bool b from r); rfl
  | int i => obtain ⟨t, e⟩ := (show ∃ t, u = Value.int i t from r); cases e; rfl
  | str x => obtain ⟨t, e⟩ := (show ∃ t, u = Value.str x t from r); cases e; rfl
  | byt b => obtain ⟨t, e⟩ := (show ∃ t, u = Value.bytes b t from r); cases e; rfl
  | flt b => obtain ⟨t, e⟩ := (show ∃ t, u = Value.float b t from r); cases e; rfl
  | ref a => cases (show u = Value.ref a from r); rfl
  | ty n => cases (show u = Value.type n from r); rfl

section
variable {P : Program} {w : World} {H H' : Hp} {h h' : Heap} {a C dx : Addr} {fs fs' : List (Str × V)}
theorem ins_get (hok : HOk P w H h) (e : H a = some (.ins C dx fs)) : ∃ mA, ObjM h a dx C mA ∧ (∀ f, RelO (fs.lookup f) (mA f)) ∧ PySem.Within mA (fs.map (·.1)) ∧ fs.length ≤ 1000 ∧ H dx = some (.own a) := by
  obtain ⟨d, z, ne, ob, mA, n, r, q⟩ := (show ObjOk P w H h a (.ins C dx fs) from hok a _ e)
  exact ⟨mA, ⟨ob, n, ne⟩, r, q, z, d⟩
end

structure Cls (K : PySem.W.Frag) (C : Addr) : Prop where
  pg : PySem.W.plainGet K C Str.empty = true
  hd : PySem.W.hasDictIn K C = true
  po : PySem.W.plainOver K C = true
  sa : PySem.W.findIn K (.ref C) "__setattr__" = some (some (.builtin "object.__setattr__"))
theorem Cls.get {K : PySem.W.Frag} {C : Addr} (c : Cls K C) (f : Str) : PySem.W.plainGet K C f = true := c.pg
def NoAttr (K : PySem.W.Frag) (C : Addr) (f : Str) : Prop := PySem.W.findIn K (.ref C) f = some none
theorem NoAttr.taker {K : PySem.W.Frag} {C : Addr} {f : Str} (n : NoAttr K C f) : PySem.W.takerIn K C f = some none := by
  unfold PySem.W.takerIn
  rw [show PySem.W.findIn K (.ref C) f = some none from n]
  rfl
structure Con (K : PySem.W.Frag) (C : Addr) (f : Str) (v : V) (u : Value) : Prop where
  at_ : PySem.W.findIn K (.ref C) f = some (some u)
  rel : RelV v u
  get : PySem.W.specialIn K u "__get__" = some none
  cp : PySem.W.copiedNames.contains f = false
structure Meth (K : PySem.W.Frag) (C : Addr) (m : Str) (f : Addr) : Prop where
  at_ : PySem.W.findIn K (.ref C) m = some (some (.ref f))
  fn : PySem.W.isFn K (.ref f) = true
  kp : PySem.W.keepIn K (.ref f) = true

section
variable {X : Cx} {pins : List (Addr × Obj)} {σ : St} {H : Hp} {s : Shared} {a C dx : Addr} {fs : List (Str × V)} {f : Str} {v : V} {A : Around} {E : Value → Shared → Prop}

theorem getattr_ok {b : Bool} {Q : Value → Shared → Prop} (I : Inv X pins σ H s) (e : H a = some (.ins C dx fs)) (c : Cls X.K C) (n : NoAttr X.K C f) (l : fs.lookup f = some v)
    (h : ∀ u s', Inv X pins σ H s' → RelV v u → Q u s') : wpAny (model X.prog X.w) A (getAttr (.ref a) f b) Q E s := by
  obtain ⟨mA, O, r, _, _, _⟩ := ins_get I.hok e
  obtain ⟨u, hu, ru⟩ := RelO.some_of (v := v) (o := mA f) (by rw [← l]; exact r f)
  exact get_map I.kIn O (c.get f) c.hd n hu (handed_of ru) (h u _ (I.tok _) ru)

theorem getmeth_ok {m : Str} {g : Addr} {pl : Sem Bool} {Q : Value × List Value → Shared → Prop} (I : Inv X pins σ H s) (e : H a = some (.ins C dx fs)) (c : Cls X.K C) (k : Meth X.K C m g) (l : fs.lookup m = none)
    (h : Q (.ref g, [.ref a]) s) : wpAny (model X.prog X.w) A (getMethod (.ref a) m pl) Q E s := by
  obtain ⟨mA, O, r, _, _, _⟩ := ins_get I.hok e
  have hn : mA m = none := RelO.none_of (by rw [← l]; exact r m)
  exact get_meth I.kIn O (c.get m) k.at_ k.fn hn h

theorem setattr_ok {y : V} {u : Value} {Q : Unit → Shared → Prop} (I : Inv X pins σ H s) (e : H a = some (.ins C dx fs)) (c : Cls X.K C) (n : NoAttr X.K C f) (hl : fs.length < 1000) (ry : RelV y u)
    (h : ∀ s', Inv X pins σ (upd H a (.ins C dx (putF f y fs))) s' → Q () s') : wpAny (model X.prog X.w) A (setAttr (.ref a) f u) Q E s := by
  obtain ⟨mA, O, r, wi, _, ho⟩ := ins_get I.hok e
  have hz : (fs.map (·.1)).length ≤ sizeLine := by rw [List.length_map, sizeLine_eq]; omega
  refine set_map I.kIn O c.sa c.po n.taker c.hd wi hz fun h' O' sb => h _ ?_
  have hd : ∃ o, h'.get? dx = some o := let ⟨o, _, _, e', _⟩ := O'.ns; ⟨o, e'⟩
  refine I.write (x := a) (e := dx) (by rw [e]; exact True.intro) (.inr ho) (fun b q hb z => (sb.2 b hb).trans z) hd ?_
  refine ⟨by rw [upd_ne O.ne]; exact ho, ?_, O.ne, O'.obj, _, O'.ns, fun g => ?_, fun g hg => ?_⟩
  · have := length_putF f y fs; omega
  · show RelO ((putF f y fs).lookup g) (if g = f then some u else mA g)
    rw [lookup_putF]
    by_cases q : g = f
    · rw [if_pos q, if_pos q]; exact ry
    · rw [if_neg q, if_neg q]; exact r g
  · by_cases q : g = f
    · rw [q]; exact (keys_putF f y fs).1
    · refine (keys_putF f y fs).2 g (wi g fun z => hg ?_)
      show (if g = f then some u else mA g) = none
      rw [if_neg q]; exact z

theorem Inv.made (I : Inv X pins σ H s) : Inv X pins σ (upd (upd H s.heap.objs.size (.own (s.heap.objs.size + 1))) (s.heap.objs.size + 1) (.ins C s.heap.objs.size []))
    { s with heap := (s.heap.push PySem.W.emptyDict).push (PySem.W.instObj C s.heap.objs.size) } := by
  have e1 : (s.heap.push PySem.W.emptyDict).get? s.heap.objs.size = some PySem.W.emptyDict := Heap.get?_push_size s.heap rfl
  have e2 : ((s.heap.push PySem.W.emptyDict).push (PySem.W.instObj C s.heap.objs.size)).get? (s.heap.objs.size + 1) = some (PySem.W.instObj C s.heap.objs.size) := by
    have := Heap.get?_push_size (s.heap.push PySem.W.emptyDict) (o := PySem.W.instObj C s.heap.objs.size) rfl
    rwa [Heap.size_push] at this
  have e3 : (s.heap.push PySem.W.emptyDict).Ns s.heap.objs.size (fun _ => none) := ⟨PySem.W.emptyDict, #[], _, e1, rfl, (fun e he => absurd he (by simp)), fun _ => rfl⟩
  have I1 := I.laid (a := s.heap.objs.size) (o := .own (s.heap.objs.size + 1)) (h' := s.heap.push PySem.W.emptyDict) (t' := s.toks) (fun b u q => Heap.get?_push_of_some _ q) (Nat.le_refl _) ⟨_, e1⟩
  refine I1.laid (a := s.heap.objs.size + 1) (o := .ins C s.heap.objs.size []) (t' := s.toks) (fun b u q => Heap.get?_push_of_some _ q) (Nat.le_of_eq (Heap.size_push _ _)) ?_
  have ne : s.heap.objs.size ≠ s.heap.objs.size + 1 := Nat.ne_of_lt (Nat.lt_succ_self _)
  refine ⟨by rw [upd_ne ne, upd_same], Nat.zero_le _, ne, e2, fun _ => none, (Heap.Ns1.of_empty e3).at fun o q => Heap.get?_push_of_some _ q, fun _ => True.intro, fun y hy => absurd rfl hy⟩

theorem attr_of {prog : Program} {w : World} {env : Env} {e : Expr} {f : Str} {pos : Pos} {s : Shared} {Q : Value → Shared → Prop} (hb : attributeBase e f env (eval e env) = eval e env)
    (h : wpAny (model prog w) A (eval e env) (fun o s₁ => wpAny (model prog w) A (getAttr o f true) Q E s₁) E s) : wpAny (model prog w) A (eval (.Attribute e f pos) env) Q E s :=
  Attribute_any_ h (by rw [arm_eval_Attribute, hb])
end

def tFld (K : PySem.W.Frag) (ta : TE) (f : Str) : TE := fun σ H Q => ta σ H fun x H1 => ∃ a C dx fs v, x = .ref a ∧ H1 a = some (.ins C dx fs) ∧ Cls K C ∧ NoAttr K C f ∧ fs.lookup f = some v ∧ Q v H1
def sFld (K : PySem.W.Frag) (ta tv : TE) (f : Str) : TS := fun D σ H => tv σ H fun y H1 => ta σ H1 fun x H2 => ∃ a C dx fs, x = .ref a ∧ H2 a = some (.ins C dx fs) ∧ Cls K C ∧ NoAttr K C f ∧ fs.length < 1000 ∧
  D.nx σ (upd H2 a (.ins C dx (putF f y fs)))
section
variable {X : Cx} {o e value : Expr} {f : Str} {pos pos' tpos : Pos} {ta tv : TE}
theorem pe_fld (he : PE X e ta) (hb : attributeBase e f X.env (eval e X.env) = eval e X.env) : PE X (.Attribute e f pos) (tFld X.K ta f) := by
  intro pins s σ H Q I h
  refine attr_of hb (thn (he pins s σ H _ I h) fun u s1 ⟨x, H1, I1, rx, a, C, dx, fs, v, ex, ea, c, n, l, q⟩ => ?_)
  subst ex
  obtain rfl : u = Value.ref a := rx
  exact getattr_ok I1 ea c n l fun u' s2 I2 ru => ⟨v, H1, I2, ru, q⟩
theorem ps_fld (ha : PE X o ta) (hv : PE X value tv) (hs : swapsWith value (some (.Attribute o f pos')) pos.line X.env = pure false) : PS X (.Assign [.Attribute o f pos'] value pos) (sFld X.K ta tv f) := by
  intro pins s σ H D I h
  refine plainObj_wpAny_Assign_Attribute (thn (hv pins s σ H _ I h) fun u s1 ⟨y, H1, I1, ry, q⟩ => thn (ha pins s1 σ H1 _ I1 q) fun ov s2 ⟨x, H2, I2, rx, a, C, dx, fs, ex, ea, c, n, l, q2⟩ => ?_) hs
  subst ex
  obtain rfl : ov = Value.ref a := rx
  exact setattr_ok I2 ea c n l ry fun s3 I3 => ⟨σ, _, I3, q2⟩
end

section
variable {X : Cx} {pins : List (Addr × Obj)} {σ : St} {H : Hp} {s : Shared} {A : Around} {E : Value → Shared → Prop} {Q : Value → Shared → Prop} {c : Value} {b : Bool}
inductive TyOf (K : PySem.W.Frag) (H : Hp) : V → Value → Prop where
  | non : TyOf K H .non (.type "NoneType")
  | bl (x : Bool) : TyOf K H (.bl x) (.type "bool")
  | int (i : Int) : TyOf K H (.int i) (.type "int")
  | str (x : Str) : TyOf K H (.str x) (.type "str")
  | flt (x : UInt64) : TyOf K H (.flt x) (.type "float")
  | lst {a : Addr} {xs : List V} (e : H a = some (.lst xs)) : TyOf K H (.ref a) (.type "list")
  | frz {a : Addr} {o : Obj} {xs : List V} (e : H a = some (.frz o (.lst xs))) : TyOf K H (.ref a) (.type "list")
  | tup {a : Addr} {xs : List V} (e : H a = some (.tup xs)) : TyOf K H (.ref a) (.type "tuple")
  | dK {a : Addr} {kvs : List (Key × V)} (e : H a = some (.dK kvs)) : TyOf K H (.ref a) (.type "dict")
  | dT {a : Addr} {kvs : List (List Key × V)} (e : H a = some (.dT kvs)) : TyOf K H (.ref a) (.type "dict")
  | ins {a C dx : Addr} {fs : List (Str × V)} (e : H a = some (.ins C dx fs)) (cl : Cls K C) (ha : PySem.W.findIn K (.ref C) "__class__" = some (some (.builtin "object.__class__")))
      (hn : PySem.W.specialIn K (.builtin "object.__class__") "__get__" = some (some (.builtin "getset_descriptor.__get__"))) (htk : PySem.W.takesIn K (.builtin "object.__class__") = some true)
      (hm : PySem.W.mroIn K C (.type "object") = some true) : TyOf K H (.ref a) (.ref C)
theorem isinst_ok {x : V} {u t : Value} (I : Inv X pins σ H s) (rx : RelV x u) (ty : TyOf X.K H x t) (e : PySem.W.kitOne X.K t c = some b) (h : ∀ tk, Q (.bool b) { s with toks := tk }) :
    wpAny (model X.prog X.w) A (call (.builtin "isinstance") [u, c]) Q E s := by
  cases ty with
  | non => cases (show u = Value.none from rx); exact PySem.W.kia_one PySem.W.kitx_none I.kIn True.intro e (fun z => nomatch z) h
  | bl y => cases (show u = Value.bool y from rx); exact PySem.W.kia_one PySem.W.kitx_bool I.kIn True.intro e (fun z => nomatch z) h
  | int i => obtain ⟨t, q⟩ := (show ∃ t, u = Value.int i t from rx); cases q; exact PySem.W.kia_one PySem.W.kitx_int I.kIn True.intro e (fun z => nomatch z) h
  | str y => obtain ⟨t, q⟩ := (show ∃ t, u = Value.str y t from rx); cases q; exact PySem.W.kia_one PySem.W.kitx_str I.kIn True.intro e (fun z => nomatch z) h
  | flt y => obtain ⟨t, q⟩ := (show ∃ t, u = Value.float y t from rx); cases q; exact PySem.W.kia_one PySem.W.kitx_float I.kIn True.intro e (fun z => nomatch z) h
  | @lst a xs ea =>
    cases (show u = Value.ref a from rx)
    obtain ⟨_, _, n, _, h1⟩ := (show ObjOk X.prog X.w H s.heap a (.lst xs) from I.hok a _ ea)
    exact PySem.W.kia_one PySem.W.kitx_list I.kIn ⟨_, h1, rfl⟩ e (fun z => nomatch z) h
  | @frz a ob xs ea =>
    cases (show u = Value.ref a from rx)
    obtain ⟨_, _, _, n, _, h1⟩ := (show ObjOk X.prog X.w H s.heap a (.frz ob (.lst xs)) from I.hok a _ ea)
    exact PySem.W.kia_one PySem.W.kitx_list I.kIn ⟨_, h1, rfl⟩ e (fun z => nomatch z) h
  | @tup a xs ea =>
    cases (show u = Value.ref a from rx)
    obtain ⟨_, _, _, p⟩ := (show ObjOk X.prog X.w H s.heap a (.tup xs) from I.hok a _ ea)
    obtain ⟨o, h1, h2, _⟩ := p
    exact PySem.W.kia_one PySem.W.kitx_tuple I.kIn ⟨o, h1, h2⟩ e (fun z => nomatch z) h
  | @dK a kvs ea =>
    cases (show u = Value.ref a from rx)
    obtain ⟨_, _, vs, _, p⟩ := (show ObjOk X.prog X.w H s.heap a (.dK kvs) from I.hok a _ ea)
    obtain ⟨o, es, ep, h1, h2, _⟩ := p
    exact PySem.W.kia_one PySem.W.kitx_dict I.kIn ⟨o, h1, h2.1⟩ e (fun z => nomatch z) h
  | @dT a kvs ea =>
    cases (show u = Value.ref a from rx)
    obtain ⟨_, _, xs, _, o, es, ep, h1, h2, _⟩ := (show ObjOk X.prog X.w H s.heap a (.dT kvs) from I.hok a _ ea)
    exact PySem.W.kia_one PySem.W.kitx_dict I.kIn ⟨o, h1, h2.1⟩ e (fun z => nomatch z) h
  | @ins a C dx fs ea cl ha hn htk hm =>
    cases (show u = Value.ref a from rx)
    obtain ⟨mA, O, _⟩ := ins_get I.hok ea
    obtain ⟨od, J, _⟩ := O.look
    exact PySem.W.kia_one (PySem.W.kitx_own (cl.get _) cl.hd ha hn htk hm) I.kIn J e (fun z => nomatch z) h
end
end L2

namespace L2
open PySem PySem.Spec PyProof.Rows

structure Room (k : Nat) (A : Around) : Prop where
  hd : A.handled = none
  dp : A.depth + 3 * k + 5 < recursionLimit
  un : A.units + 16 * k + 200 < cLine
theorem Room.mono {j k : Nat} {A : Around} (r : Room k A) (h : j ≤ k) : Room j A := ⟨r.hd, by have := r.dp; omega, by have := r.un; omega⟩
theorem Room.deeper {k : Nat} {A : Around} (r : Room (k + 1) A) (env : Env) : Room k (A.deeper env) :=
  ⟨r.hd, by have := r.dp; show A.depth + 1 + 3 * k + 5 < _; omega, by have := r.un; show A.units + 3 + 16 * k + 200 < _; omega⟩
theorem Room.in1 {k : Nat} {A : Around} (r : Room (k + 1) A) : Room k A.in1 :=
  ⟨r.hd, by have := r.dp; show A.depth + 3 * k + 5 < _; omega, by have := r.un; show A.units + 1 + 16 * k + 200 < _; omega⟩
theorem make_depth {A : Around} {C : Addr} {us : List Value} {kw : List (Str × Value)} : (A.under (.builtin "type.__call__" ⟨.ref C :: us, kw⟩)).depth = A.depth + 1 := by
  first | rfl | simp [Around.under, Code.weight, Code.isCreation, Code.isGuard, Code.isCaller, Code.frames, Code.isFrame, guardIds]
theorem make_units {A : Around} {C : Addr} {us : List Value} {kw : List (Str × Value)} : (A.under (.builtin "type.__call__" ⟨.ref C :: us, kw⟩)).units = A.units + 1 := by
  first | rfl | simp [Around.under, Code.cUnits, Code.frames, Code.isFrame]
theorem Room.make {k : Nat} {A : Around} (r : Room (k + 1) A) (C : Addr) (us : List Value) (kw : List (Str × Value)) : Room k (A.under (.builtin "type.__call__" ⟨.ref C :: us, kw⟩)) :=
  ⟨r.hd, by have := r.dp; rw [make_depth]; omega, by have := r.un; rw [make_units]; omega⟩
theorem Room.depth {k : Nat} {A : Around} (r : Room k A) : A.depth < recursionLimit := by have := r.dp; omega
theorem Room.units {k : Nat} {A : Around} (r : Room k A) : A.units + 64 < cLine := by have := r.un; omega
def tNil : TA := fun _ H Q => Q [] H
def tCons (ta : TE) (tr : TA) : TA := fun σ H Q => ta σ H fun x H1 => tr σ H1 fun xs H2 => Q (x :: xs) H2
section
variable {X : Cx} {e : Expr} {es : List Expr} {te : TE} {t : TA} {pos : Pos}
theorem pa_nil : PA X [] tNil := fun _ _ _ _ H Q I h => Calls.spliced_nil ⟨[], H, I, .nil, h⟩
theorem pa_cons (ha : PE X e te) (hr : PA X es t) (hs : starEach (e :: es) X.env = (false, eval e X.env) :: starEach es X.env := by rfl) : PA X (e :: es) (tCons te t) := by
  intro pos pins s σ H Q I h
  rw [hs]
  show wpAny _ _ (spliced ((false, eval e X.env) :: backTo pos (starEach es X.env))) _ _ s
  refine Calls.spliced_cons (thn (ha pins s σ H _ I h) fun u s1 ⟨x, H1, I1, r1, q1⟩ => ?_)
  exact thn (hr pos pins s1 σ H1 _ I1 q1) fun us s2 ⟨xs, H2, I2, r2, q2⟩ => ⟨x :: xs, H2, I2, .cons r1 r2, q2⟩

def tTup (t : TA) : TE := fun σ H Q => t σ H fun xs H1 => xs.length ≤ sizeLine ∧ ∀ p, H1 p = none → Q (.ref p) (upd H1 p (.tup xs))
def tLst (t : TA) : TE := fun σ H Q => t σ H fun xs H1 => xs.length ≤ sizeLine ∧ ∀ p, H1 p = none → Q (.ref p) (upd H1 p (.lst xs))
theorem pe_tup {x1} (h : PA X es t) : PE X (.Tuple es x1 pos) (tTup t) := by
  intro pins s σ H Q I hq
  refine wpAny_Tuple_spliced (thn (h pos pins s σ H _ I hq) fun us s1 ⟨xs, H1, I1, r, z, q⟩ => ⟨by rw [← r.length]; exact z, ?_⟩)
  have hf : H1 s1.heap.objs.size = none := I1.hok.fresh (Nat.le_refl _)
  refine ⟨.ref s1.heap.objs.size, upd H1 s1.heap.objs.size (.tup xs), I1.laid (t' := s1.toks) (fun b u e => Heap.get?_push_of_some _ e) (Nat.le_refl _) ?_, rfl, q _ hf⟩
  exact ⟨z, us, r, ⟨_, Heap.get?_push_size _ rfl, rfl, ⟨_, rfl⟩, rfl⟩⟩
theorem pe_lst (h : PA X es t) : PE X (.List es pos) (tLst t) := by
  intro pins s σ H Q I hq
  refine wpAny_List_spliced (thn (h pos pins s σ H _ I hq) fun us s1 ⟨xs, H1, I1, r, z, q⟩ => ⟨by rw [← r.length]; exact z, ?_⟩)
  have hf : H1 s1.heap.objs.size = none := I1.hok.fresh (Nat.le_refl _)
  refine ⟨.ref s1.heap.objs.size, upd H1 s1.heap.objs.size (.lst xs), I1.laid (t' := s1.toks) (fun b u e => Heap.get?_push_of_some _ e) (Nat.le_refl _) ?_, rfl, q _ hf⟩
  exact ⟨z, us, 0, r, Heap.get?_push_size _ rfl⟩
end

abbrev Sp := List V → Hp → VK → XK → Prop
abbrev CXT := List Env → Hp → Shared → XK → Value → Shared → Prop

structure Env0 (P : Program) (w : World) (K : PySem.W.Frag) (mg : Str → Option Value) (base : Heap) (A : Around) (outer : List Env) (s : Shared) (H : Hp) : Prop where
  frames : A.frames = some outer
  mod : Mod K mg base
  bs : ∀ b o, base.get? b = some o → s.heap.get? b = some o ∧ H b = none
  bsz : base.objs.size ≤ s.heap.objs.size
  funs : s.heap.FunFrames base outer
  frf : ∀ b ∈ frs outer, H b = none
  hok : HOk P w H s.heap
  bare : AllBare s.gens
def CE (outer : List Env) (P : Program) (w : World) (H : Hp) (s : Shared) (Q : VK) (u : Value) (s' : Shared) : Prop :=
  ∃ v H', s'.os = s.os ∧ AllBare s'.gens ∧ Un (frs outer) [] H H' s.heap s'.heap ∧ HOk P w H' s'.heap ∧ RelV v u ∧ Q v H'
def CR (CX : CXT) (outer : List Env) (P : Program) (w : World) (H : Hp) (s : Shared) (Q : VK) (E : XK) (r : Result) (s' : Shared) : Prop :=
  match r with
  | .ok (.ret u) => CE outer P w H s Q u s'
  | .ok _ => False
  | .error e => CX outer H s E e s'
structure FnOk (P : Program) (w : World) (K : PySem.W.Frag) (mg : Str → Option Value) (base : Heap) (CX : CXT) (k : Nat) (f : Addr) (fd : FuncData) (ps : List Str) (sp : Sp) : Prop where
  len : ∀ vs H Q E, sp vs H Q E → vs.length = ps.length
  run : ∀ (A : Around) (outer : List Env) (s : Shared) (H : Hp) (args : Args) (us : List Value) (vs : List V) (Q : VK) (E : XK), Room k A → Env0 P w K mg base A outer s H → BindsTo s fd args (ps.zip us) → Vals vs us → sp vs H Q E →
    codeAny (model P w) A (.call (.ref f) args) (CR CX outer P w H s Q E) s
theorem FnOk.mono {P : Program} {w : World} {K : PySem.W.Frag} {mg : Str → Option Value} {base : Heap} {CX : CXT} {j k : Nat} {f : Addr} {fd : FuncData} {ps : List Str} {sp : Sp} (F : FnOk P w K mg base CX j f fd ps sp) (h : j ≤ k) :
    FnOk P w K mg base CX k f fd ps sp := ⟨F.len, fun A outer s H args us vs Q E hr => F.run A outer s H args us vs Q E (hr.mono h)⟩
theorem FnOk.imp {P : Program} {w : World} {K : PySem.W.Frag} {mg : Str → Option Value} {base : Heap} {CX : CXT} {k : Nat} {f : Addr} {fd : FuncData} {ps : List Str} {sp sp' : Sp} (F : FnOk P w K mg base CX k f fd ps sp)
    (h : ∀ vs H Q E, sp' vs H Q E → sp vs H Q E) : FnOk P w K mg base CX k f fd ps sp' :=
  ⟨fun vs H Q E q => F.len vs H Q E (h _ _ _ _ q), fun A outer s H args us vs Q E hr he hb hv hs => F.run A outer s H args us vs Q E hr he hb hv (h _ _ _ _ hs)⟩

theorem Env0.make {P : Program} {w : World} {K : PySem.W.Frag} {mg : Str → Option Value} {base : Heap} {A : Around} {outer : List Env} {s : Shared} {H : Hp} (e : Env0 P w K mg base A outer s H) (C : Addr) (us : List Value) (kw : List (Str × Value)) :
    Env0 P w K mg base (A.under (.builtin "type.__call__" ⟨.ref C :: us, kw⟩)) outer s H := ⟨by first | exact e.frames | (simpa [Around.under, Code.envs, Code.isFrame, pushEnvs] using e.frames), e.mod, e.bs, e.bsz, e.funs, e.frf, e.hok, e.bare⟩
theorem Env0.in1 {P : Program} {w : World} {K : PySem.W.Frag} {mg : Str → Option Value} {base : Heap} {A : Around} {outer : List Env} {s : Shared} {H : Hp} (e : Env0 P w K mg base A outer s H) :
    Env0 P w K mg base A.in1 outer s H := ⟨e.frames, e.mod, e.bs, e.bsz, e.funs, e.frf, e.hok, e.bare⟩

section
variable {X : Cx} {pins : List (Addr × Obj)} {σ : St} {H : Hp} {s s' : Shared}
theorem Inv.env0 (I : Inv X pins σ H s) : Env0 X.prog X.w X.K X.mg X.base X.A X.stack s H :=
  ⟨I.ok.frames, I.ok.mod, I.bs, Nat.le_trans I.ok.bsz I.sz, I.stack, I.stkFree, I.hok, I.bare⟩
theorem Inv.after {Q : VK} {u : Value} (I : Inv X pins σ H s) (h : CE X.stack X.prog X.w H s Q u s') : EP X pins σ Q u s' := by
  obtain ⟨v, H', os, bare, un, hok, r, q⟩ := h
  obtain ⟨hh, g, d, t, os'⟩ := s'
  obtain rfl : os' = s.os := os
  exact ⟨v, H', I.call (h' := hh) (g' := g) (d' := d) (t' := t) (ch := []) un hok bare (fun b z => absurd z (by simp)), r, q⟩
end

def tCall (sp : Sp) (dvs : List V) (E : XK) (t : TA) : TE := fun σ H Q => t σ H fun vs H1 => sp (vs ++ dvs) H1 Q E
def tMeth (C : Addr) (m : Str) (sp : Sp) (dvs : List V) (E : XK) (ta : TE) (t : TA) : TE := fun σ H Q => ta σ H fun x H1 => ∃ a dx fs, x = .ref a ∧ H1 a = some (.ins C dx fs) ∧ fs.lookup m = none ∧
  t σ H1 fun vs H2 => sp (x :: (vs ++ dvs)) H2 Q E
def tMake (C : Addr) (sp : Sp) (dvs : List V) (E : XK) (t : TA) : TE := fun σ H Q => t σ H fun vs H1 => ∀ x dx, H1 x = none → H1 dx = none → dx ≠ x →
  sp (.ref x :: (vs ++ dvs)) (upd (upd H1 dx (.own x)) x (.ins C dx [])) (fun v H2 => v = .non ∧ Q (.ref x) H2) E

def Binds (K : PySem.W.Frag) (fd : FuncData) (ps : List Str) (ds : List Value) : Prop :=
  ∀ (s : Shared) (us : List Value), K.In s.heap → (us ++ ds).length = ps.length → BindsTo s fd ⟨us, []⟩ (ps.zip (us ++ ds))
theorem Binds.all {K : PySem.W.Frag} {fd : FuncData} {ps : List Str} (h : ∀ us : List Value, us.length = ps.length → bindArgs fd ⟨us, []⟩ = pure (ps.zip us)) : Binds K fd ps [] := fun s us _ hl => by
  rw [List.append_nil] at hl ⊢
  exact .of_eq (h us hl)

def Passes (CX : CXT) (X : Cx) (E : XK) : Prop := ∀ (pins : List (Addr × Obj)) (σ : St) (H : Hp) (s : Shared) (e : Value) (s' : Shared), Inv X pins σ H s → CX X.stack H s E e s' → X.xe e s'

section
variable {X : Cx} {CX : CXT} {k : Nat} {f C : Addr} {fd : FuncData} {ps : List Str} {sp : Sp} {dvs : List V} {ds : List Value} {E : XK} {x m : Str} {p pos apos : Pos} {e o : Expr} {es : List Expr} {ta : TE} {t : TA}

theorem run_fn {pins : List (Addr × Obj)} {σ : St} {H : Hp} {s : Shared} {Q : VK} {us : List Value} {vs : List V} (F : FnOk X.prog X.w X.K X.mg X.base CX k f fd ps sp) (hr : Room k X.A) (hb : Binds X.K fd ps ds) (hd : Vals dvs ds) (hx : Passes CX X E)
    (I : Inv X pins σ H s) (r : Vals vs us) (h : sp (vs ++ dvs) H Q E) : wpAny (model X.prog X.w) X.A (call (.ref f) us) (EP X pins σ Q) X.xe s := by
  have r2 : Vals (vs ++ dvs) (us ++ ds) := r.append hd
  have hl : (us ++ ds).length = ps.length := by rw [← r2.length]; exact F.len _ _ _ _ h
  refine wpAny_call (codeAny_mono (F.run X.A X.stack s H ⟨us, []⟩ (us ++ ds) (vs ++ dvs) Q E hr I.env0 (hb s us I.kIn hl) r2 h) fun r s' hq => ?_)
  cases r with
  | error e => exact hx pins σ H s e s' I hq
  | ok fl =>
    cases fl with
    | ret u => exact I.after hq
    | next => exact False.elim hq
    | brk => exact False.elim hq
    | cont => exact False.elim hq

theorem pe_call (F : FnOk X.prog X.w X.K X.mg X.base CX k f fd ps sp) (hr : Room k X.A) (hg : Gl X x) (hm : X.mg x = some (.ref f)) (hk : PySem.W.keepIn X.K (.ref f) = true) (hb : Binds X.K fd ps ds) (hd : Vals dvs ds) (hx : Passes CX X E)
    (ha : PA X (e :: es) t) (hdb : (x == ("__debug__" : Str)) = false := by decide) (he : starEach (e :: es) X.env = (false, eval e X.env) :: starEach es X.env := by rfl) (hpl : (backTo pos (starEach es X.env)).any (·.1) = false := by rfl) :
    PE X (.Call (.Name x p) (e :: es) [] pos) (tCall sp dvs E t) := by
  intro pins s σ H Q I h
  refine wpAny_Call_Name_kw (ld_glob I hg hm ?_ hdb)
  refine PySem.W.callWith_K (h₀ := X.base) I.ok.mod.kin hk (thn (ha pos pins s σ H _ I h) fun us s1 ⟨vs, H1, I1, r, q⟩ => ⟨I1.kIn, ?_⟩) he hpl
  exact run_fn F hr hb hd hx I1 r q
theorem pe_meth0 {pl : Sem Bool} (he : PE X o ta) (c : Cls X.K C) (hm : Meth X.K C m f) (F : FnOk X.prog X.w X.K X.mg X.base CX k f fd ps sp) (hr : Room k X.A) (hb : Binds X.K fd ps ds) (hd : Vals dvs ds) (hx : Passes CX X E)
    (ht : eval (.Call (.Attribute o m apos) [] [] pos) X.env = (do
      let ov ← eval o X.env
      standAt apos.atName
      let (f, first) ← holding [ov] (getMethod ov m pl)
      callWith pos f first (backTo pos (starEach [] X.env)) (backToKw pos (keywordEach [] X.env))) := by rfl) :
    PE X (.Call (.Attribute o m apos) [] [] pos) (tMeth C m sp dvs E ta tNil) := by
  intro pins s σ H Q I h
  refine PySem.W.methodCall_KW (pl := pl) (thn (he pins s σ H _ I h) fun u s1 ⟨x, H1, I1, rx, a, dx, fs, ex, ea, l, q⟩ => ?_) ht
  subst ex
  obtain rfl : u = Value.ref a := rx
  refine getmeth_ok I1 ea c hm l ?_
  exact PySem.W.callWith_K0 (first := [.ref a]) I1.kIn hm.kp (run_fn (us := [.ref a]) (vs := [.ref a]) F hr hb hd hx I1 (.cons rfl .nil) q)

structure Mk (K : PySem.W.Frag) (C f : Addr) : Prop where
  makes : PySem.W.makesIn K C = true
  init : PySem.W.findIn K (.ref C) "__init__" = some (some (.ref f))
  fn : PySem.W.isFn K (.ref f) = true
  kp : PySem.W.keepIn K (.ref C) = true

theorem run_make {pins : List (Addr × Obj)} {σ : St} {H : Hp} {s : Shared} {Q : VK} {us : List Value} {vs : List V} (M : Mk X.K C f) (F : FnOk X.prog X.w X.K X.mg X.base CX k f fd ps sp) (hr : Room (k + 1) X.A) (hb : Binds X.K fd ps ds) (hd : Vals dvs ds)
    (hx : Passes CX X E) (I : Inv X pins σ H s) (r : Vals vs us)
    (h : ∀ x dx, H x = none → H dx = none → dx ≠ x → sp (.ref x :: (vs ++ dvs)) (upd (upd H dx (.own x)) x (.ins C dx [])) (fun v H2 => v = .non ∧ Q (.ref x) H2) E) :
    wpAny (model X.prog X.w) X.A (call (.ref C) us) (EP X pins σ Q) X.xe s := by
  have hq := h (s.heap.objs.size + 1) s.heap.objs.size (I.hok.fresh (Nat.le_succ _)) (I.hok.fresh (Nat.le_refl _)) (Nat.ne_of_lt (Nat.lt_succ_self _))
  have I2 := Inv.made (C := C) I
  have r2 : Vals (V.ref (s.heap.objs.size + 1) :: (vs ++ dvs)) (Value.ref (s.heap.objs.size + 1) :: (us ++ ds)) := .cons rfl (r.append hd)
  have hl : (Value.ref (s.heap.objs.size + 1) :: us ++ ds).length = ps.length := by
    have e := r2.length
    rw [F.len _ _ _ _ hq] at e
    exact e.symm
  refine wpAny_call (make_map (f := f) I.kIn M.makes M.init (beq_iff_eq.mp M.fn) (codeAny_mono (F.run _ X.stack _ _ ⟨Value.ref (s.heap.objs.size + 1) :: us, []⟩ (Value.ref (s.heap.objs.size + 1) :: (us ++ ds)) _ _ E (hr.make C us [])
    (I2.env0.make C us []) (hb _ (Value.ref (s.heap.objs.size + 1) :: us) I2.kIn hl) r2 hq) fun r s' hq' => ?_))
  cases r with
  | error e => exact hx pins σ _ _ e s' I2 hq'
  | ok fl =>
    cases fl with
    | ret u =>
      obtain ⟨v, H', I3, rv, ev, q3⟩ := I2.after hq'
      subst ev
      exact ⟨rv, ⟨V.ref (s.heap.objs.size + 1), H', I3, rfl, q3⟩⟩
    | next => exact False.elim hq'
    | brk => exact False.elim hq'
    | cont => exact False.elim hq'
theorem pe_make (M : Mk X.K C f) (F : FnOk X.prog X.w X.K X.mg X.base CX k f fd ps sp) (hr : Room (k + 1) X.A) (hg : Gl X x) (hm : X.mg x = some (.ref C)) (hb : Binds X.K fd ps ds) (hd : Vals dvs ds) (hx : Passes CX X E)
    (ha : PA X (e :: es) t) (hdb : (x == ("__debug__" : Str)) = false := by decide) (he : starEach (e :: es) X.env = (false, eval e X.env) :: starEach es X.env := by rfl) (hpl : (backTo pos (starEach es X.env)).any (·.1) = false := by rfl) :
    PE X (.Call (.Name x p) (e :: es) [] pos) (tMake C sp dvs E t) := by
  intro pins s σ H Q I h
  refine wpAny_Call_Name_kw (ld_glob I hg hm ?_ hdb)
  refine PySem.W.callWith_K (h₀ := X.base) I.ok.mod.kin M.kp (thn (ha pos pins s σ H _ I h) fun us s1 ⟨vs, H1, I1, r, q⟩ => ⟨I1.kIn, ?_⟩) he hpl
  exact run_make M F hr hb hd hx I1 r q
end

section
variable {X : Cx} {CX : CXT} {k : Nat} {f C : Addr} {fd : FuncData} {ps ks : List Str} {sp : Sp} {E : XK} {x m : Str} {p pos apos kpos : Pos} {e o : Expr} {es : List Expr} {kws : List Keyword} {te ta : TE} {t tk : TA} {nm : Option Str}
structure KBinds (K : PySem.W.Frag) (fd : FuncData) (ps ks : List Str) (g : List Value → List Value → List Value) (gV : List V → List V → List V) : Prop where
  to : ∀ (s : Shared) (us ws : List Value), K.In s.heap → (g us ws).length = ps.length → BindsTo s fd ⟨us, ks.zip ws⟩ (ps.zip (g us ws))
  rel : ∀ {vs : List V} {us : List Value} {zs : List V} {ws : List Value}, Vals vs us → Vals zs ws → Vals (gV vs zs) (g us ws)
variable {g : List Value → List Value → List Value} {gV : List V → List V → List V}
end

structure FnScope (N P : List Str) (sc : Scope) : Prop where
  kind : sc.kind = .function
  co : sc.isCoroutine = false
  gen : sc.isGenerator = false
  nd : N.Nodup
  pre : N.take P.length = P
  par : ∀ x ∈ P, sc.names.lookup x = some .local ∨ sc.names.lookup x = some .cell
  nofree : ∀ y ∈ sc.names, y.2 ≠ .free

theorem bindL_out {kindOf : Str → Option NameKind} {x : Str} : ∀ {binds : List (Str × Value)} {m : Str → Option Value}, (∀ v, (x, v) ∉ binds) → bindL kindOf binds m x = m x
  | [], _, _ => rfl
  | (n, v) :: r, m, h => by
    unfold bindL
    rw [bindL_out fun w hw => h w (List.mem_cons_of_mem _ hw)]
    split
    · have : x ≠ n := by rintro rfl; exact h v List.mem_cons_self
      simp [this]
    · rfl
theorem bindC_out {kindOf : Str → Option NameKind} {x : Str} : ∀ {binds : List (Str × Value)} {m : Str → Option Value}, (∀ v, (x, v) ∉ binds) → bindC kindOf binds m x = m x
  | [], _, _ => rfl
  | (n, v) :: r, m, h => by
    unfold bindC
    rw [bindC_out fun w hw => h w (List.mem_cons_of_mem _ hw)]
    split
    · rfl
    · have : x ≠ n := by rintro rfl; exact h v List.mem_cons_self
      simp [this]
theorem bindL_get {kindOf : Str → Option NameKind} {x : Str} {v : Value} : ∀ {P : List Str} {vs : List Value} {i : Nat} {m : Str → Option Value}, P.Nodup → P[i]? = some x → vs[i]? = some v → kindOf x = some .local →
    bindL kindOf (P.zip vs) m x = some v
  | [], _, _, _, _, h, _, _ => by simp at h
  | _ :: _, [], _, _, _, _, h, _ => by simp at h
  | p :: P, w :: vs, 0, m, nd, h1, h2, hk => by
    simp at h1 h2; subst h1; subst h2
    show bindL kindOf ((p, w) :: P.zip vs) m p = _
    unfold bindL
    rw [bindL_out fun v hv => (List.nodup_cons.mp nd).1 (List.of_mem_zip hv).1, if_pos hk]
    simp
  | p :: P, w :: vs, i + 1, m, nd, h1, h2, hk => by
    show bindL kindOf ((p, w) :: P.zip vs) m x = _
    unfold bindL
    exact bindL_get (i := i) (List.nodup_cons.mp nd).2 (by simpa using h1) (by simpa using h2) hk
theorem bindC_get {kindOf : Str → Option NameKind} {x : Str} {v : Value} : ∀ {P : List Str} {vs : List Value} {i : Nat} {m : Str → Option Value}, P.Nodup → P[i]? = some x → vs[i]? = some v → kindOf x ≠ some .local →
    bindC kindOf (P.zip vs) m x = some v
  | [], _, _, _, _, h, _, _ => by simp at h
  | _ :: _, [], _, _, _, _, h, _ => by simp at h
  | p :: P, w :: vs, 0, m, nd, h1, h2, hk => by
    simp at h1 h2; subst h1; subst h2
    show bindC kindOf ((p, w) :: P.zip vs) m p = _
    unfold bindC
    rw [bindC_out fun v hv => (List.nodup_cons.mp nd).1 (List.of_mem_zip hv).1, if_neg hk]
    simp
  | p :: P, w :: vs, i + 1, m, nd, h1, h2, hk => by
    show bindC kindOf ((p, w) :: P.zip vs) m x = _
    unfold bindC
    exact bindC_get (i := i) (List.nodup_cons.mp nd).2 (by simpa using h1) (by simpa using h2) hk

def start (N : List Str) (vs : List V) : St := vs.map some ++ List.replicate (N.length - vs.length) none

def cxOf (CX : CXT) (P : Program) (w : World) (K : PySem.W.Frag) (mg : Str → Option Value) (base : Heap) (N : List Str) (qual : Str) (scope : Scope) (f : Addr) (cd : Value) (A : Around) (outer : List Env) (s : Shared) (H : Hp) (E : XK) : Cx where
  prog := P
  w := w
  K := K
  mg := mg
  base := base
  A := A.deeper (envOfC qual scope s.heap.objs.size f cd)
  N := N
  s₀ := s
  H₀ := H
  env := envOfC qual scope s.heap.objs.size f cd
  outer := outer
  stack := envOfC qual scope s.heap.objs.size f cd :: outer
  ex := []
  calm := true
  fn := fun _ => true
  pn := []
  xe := fun e s' => wpAny (model P w) (A.deeper (envOfC qual scope s.heap.objs.size f cd)) (leaving (envOfC qual scope s.heap.objs.size f cd) e) (fun _ s'' => CX outer H s E e s'') (fun e' s'' => CX outer H s E e' s'') s'

theorem cell_has {sc : Scope} {n : Nat} {x : Str} (h : sc.names.lookup x = some .cell) : ∃ c, (cellsFrom n sc.names []).lookup x = some c := by
  have q := PySem.W.cellsFrom_some sc.names n [] (.inl h)
  exact Option.isSome_iff_exists.mp q

theorem inv_start {CX : CXT} {P : Program} {w : World} {K : PySem.W.Frag} {mg : Str → Option Value} {base : Heap} {N ps : List Str} {qual : Str} {scope : Scope} {f : Addr} {cd : Value} {A : Around} {outer : List Env} {s s1 : Shared} {H : Hp} {E : XK} {us : List Value} {vs : List V}
    (S : FnScope N ps scope) (hd : A.handled = none) (e0 : Env0 P w K mg base A outer s H) (hl : vs.length = ps.length) (r : Vals vs us)
    (x : InCallC s s.heap.objs.size (bindL (envOfC qual scope s.heap.objs.size f cd).kindOf (ps.zip us) fun _ => none) (cellsFrom (s.heap.objs.size + 1) scope.names []) (bindC (envOfC qual scope s.heap.objs.size f cd).kindOf (ps.zip us) fun _ => none) s1) :
    Inv (cxOf CX P w K mg base N qual scope f cd A outer s H E) [] (start N vs) H s1 := by
  have hpl : ps.length ≤ N.length := by have := congrArg List.length S.pre; rw [List.length_take] at this; omega
  obtain ⟨h1, tk, rfl, hk⟩ := x.done
  have noA : ∀ b : Addr, b ∉ (cxOf CX P w K mg base N qual scope f cd A outer s H E).ex := fun b z => absurd (show b ∈ ([] : List Addr) from z) (by simp)
  refine ⟨⟨e0.mod, S.kind, rfl, rfl, Nat.le_refl _, fun y z c h1 h2 => ?_, fun y hy => ?_, fun y c _ h => ?_, fun _ => hd, Around.frames_deeper e0.frames, .inr ⟨rfl, rfl⟩, fun b z => absurd z (noA b), e0.bs, e0.bsz, fun b _ _ => noA b, fun b z => absurd z (noA b), e0.funs, e0.frf⟩,
    rfl, e0.bare, Un.kept hk, ⟨_, x.toInCall.ns, fun i y v h1 h2 h3 => ?_⟩, fun y c h => ⟨_, x.cell y c h⟩, e0.hok.fresh (Nat.le_refl _), fun y c h => ?_, fun p hp => absurd (show p ∈ ([] : List (Addr × Obj)) from hp) (by simp), e0.hok.kept hk, ?_⟩
  · exact name_of_addr x.apart (PySem.mem_of_lookup h1) (PySem.mem_of_lookup h2)
  · have hy : scope.names.lookup y = some .cell ∨ scope.names.lookup y = some .free := hy
    rcases hy with hy | hy
    · exact cell_has hy
    · exact absurd rfl (S.nofree _ (PySem.mem_of_lookup hy))
  · exact Nat.le_of_lt (x.above y c (PySem.mem_of_lookup h))
  · have hi : i < vs.length := by
      unfold start at h2
      by_cases hi : i < vs.length
      · exact hi
      · rw [List.getElem?_append_right (by simpa using hi)] at h2
        rw [List.getElem?_replicate] at h2
        split at h2 <;> cases h2
    have ha : vs[i]? = some v := by
      unfold start at h2
      rw [List.getElem?_append_left (by simpa using hi), List.getElem?_map] at h2
      cases e : vs[i]? with
      | none => rw [e] at h2; cases h2
      | some a => rw [e] at h2; cases h2; rfl
    obtain ⟨u, hu, rv⟩ := r.get ha
    have hp : ps[i]? = some y := by
      rw [← S.pre, List.getElem?_take_of_lt (by omega)]; exact h1
    have ndP : ps.Nodup := by rw [← S.pre]; exact S.nd.sublist (List.take_sublist _ _)
    refine ⟨u, rv, ?_⟩
    rcases S.par y (List.mem_of_getElem? hp) with k | k
    · exact .inl ⟨k, bindL_get ndP hp hu k⟩
    · obtain ⟨c, e⟩ := cell_has (n := s.heap.objs.size + 1) k
      refine .inr ⟨.inl k, c, e, ?_⟩
      have q := x.cell y c e
      rw [bindC_get ndP hp hu (by show scope.names.lookup y ≠ _; rw [k]; decide)] at q
      exact q
  · exact e0.hok.fresh (Nat.le_of_lt (x.above y c (PySem.mem_of_lookup h)))
  · unfold start
    show _ = N.length
    rw [List.length_append, List.length_map, List.length_replicate]
    omega

theorem fn_of {CX : CXT} {P : Program} {w : World} {K : PySem.W.Frag} {mg : Str → Option Value} {base : Heap} {k : Nat} {f : Addr} {name qual : Str} {params : Arguments} {body : List Stmt} {scope : Scope} {dV kV doc pm cdv ct oc : Value} {an od : Option Addr}
    {osl : Array (Option Value)} {N ps : List Str} {sp : Sp} (lk : K.lookup f = some ⟨oc, od, .func (PySem.W.fnOf name qual params body scope dV kV doc pm an cdv ct), osl⟩) (hcd : PySem.W.codeIn K cdv qual = true) (S : FnScope N ps scope)
    (len : ∀ vs H Q E, sp vs H Q E → vs.length = ps.length)
    (hbody : ∀ (A : Around) (outer : List Env) (s : Shared) (H : Hp) (vs : List V) (Q : VK) (E : XK), Room k (A.deeper (envOfC qual scope s.heap.objs.size f cdv)) → sp vs H Q E →
      ∃ t, PSs (cxOf CX P w K mg base N qual scope f cdv A outer s H E) body t ∧ t { nx := fun _ H' => Q .non H', rt := Q } (start N vs) H) :
    FnOk P w K mg base CX (k + 1) f (PySem.W.fnOf name qual params body scope dV kV doc pm an cdv ct) ps sp := by
  refine ⟨len, fun A outer s H args us vs Q E hr e0 hb r hsp => ?_⟩
  have hl := len _ _ _ _ hsp
  have KX : K.In s.heap := e0.mod.kin.keeps fun b o e => (e0.bs b o e).1
  have lim : s.heap.NoLimit := e0.mod.nolimit.keeps fun b o e => (e0.bs b o e).1
  have hkind : ∀ y ∈ ps.zip us, scope.names.lookup y.1 = some .local ∨ (scope.names.lookup y.1 = some .cell ∧ ((cellsFrom (s.heap.objs.size + 1) scope.names []).lookup y.1).isSome = true) := fun ⟨n, v⟩ hy => by
    rcases S.par n (List.of_mem_zip hy).1 with q | q
    · exact .inl q
    · exact .inr ⟨q, PySem.W.cellsFrom_some _ _ _ (.inl q)⟩
  refine codeAny_call_function hr.depth (KX _ _ lk) rfl S.co S.gen rfl (PySem.W.codeRec_of KX hcd) (hb _ _ _ _ ?_)
  refine wpAny_newFunctionEnv_cells S.kind hkind fun env he s1 x => ?_
  subst he
  refine ⟨lim.keeps x.toInCall.keep, codeAny_func ?_⟩
  obtain ⟨t, ht, hq⟩ := hbody A outer s H vs Q E (hr.deeper _) hsp
  have I : Inv (cxOf CX P w K mg base N qual scope f cdv A outer s H E) [] (start N vs) H s1 := inv_start S hr.hd e0 hl r x
  refine wpAny_mono (ht [] s1 (start N vs) H _ I hq) (fun fl s' hs => ?_) fun e s' hs => hs
  have fin : ∀ {σ' : St} {H' : Hp} {v : V} {u : Value}, Inv (cxOf CX P w K mg base N qual scope f cdv A outer s H E) [] σ' H' s' → RelV v u → Q v H' → CE outer P w H s Q u s' :=
    fun {σ' H' v u} J rv q => ⟨v, H', J.os, J.bare, J.base, J.hok, rv, q⟩
  cases fl with
  | ret u =>
    obtain ⟨v, σ', H', J, rv, q⟩ := hs
    exact fin J rv q
  | next =>
    obtain ⟨σ', H', J, q⟩ := hs
    exact fin (v := V.non) (u := Value.none) J rfl q
  | brk =>
    obtain ⟨_, _, _, q⟩ := hs
    exact False.elim q
  | cont =>
    obtain ⟨_, _, _, q⟩ := hs
    exact False.elim q
end L2

namespace L2
open PySem PySem.Spec PyProof.Rows
section
variable {X : Cx} {x : Str} {p pos : Pos} {e : Expr} {es : List Expr} {t : TA} {id T : String} {r : List V → Hp → VK → Prop}

def tCB (r : List V → Hp → VK → Prop) (t : TA) : TE := fun σ H Q => t σ H fun vs H1 => r vs H1 Q
theorem pe_callB (hc : CallR X (.builtin id) r) (hg : Gl X x) (hm : X.mg x = none) (hv : bootBuiltins x = some (.builtin id)) (ha : PA X (e :: es) t) (hn : x ≠ "__name__" := by decide) (hdb : (x == ("__debug__" : Str)) = false := by decide)
    (he : starEach (e :: es) X.env = (false, eval e X.env) :: starEach es X.env := by rfl) (hpl : (backTo pos (starEach es X.env)).any (·.1) = false := by rfl) : PE X (.Call (.Name x p) (e :: es) [] pos) (tCB r t) := by
  intro pins s σ H Q I h
  refine wpAny_Call_Name_kw (ld_blt I hg hm hv ?_ hn hdb)
  exact PyProof.Rows.callWith_builtin1 (thn (ha pos pins s σ H _ I h) fun us s1 ⟨vs, H1, I1, r1, q1⟩ => hc pins s1 σ H1 vs us Q I1 r1 q1) he hpl
theorem pe_callTy (hc : CallR X (.type T) r) (hg : Gl X x) (hm : X.mg x = none) (hv : bootBuiltins x = some (.type T)) (ha : PA X (e :: es) t) (hn : x ≠ "__name__" := by decide) (hdb : (x == ("__debug__" : Str)) = false := by decide)
    (he : starEach (e :: es) X.env = (false, eval e X.env) :: starEach es X.env := by rfl) (hpl : (backTo pos (starEach es X.env)).any (·.1) = false := by rfl) : PE X (.Call (.Name x p) (e :: es) [] pos) (tCB r t) := by
  intro pins s σ H Q I h
  refine wpAny_Call_Name_kw (ld_blt I hg hm hv ?_ hn hdb)
  exact PyProof.Rows.callWith_type1 (thn (ha pos pins s σ H _ I h) fun us s1 ⟨vs, H1, I1, r1, q1⟩ => hc pins s1 σ H1 vs us Q I1 r1 q1) he hpl
end
end L2

namespace HT
open PySem PyProof.Rows

section
open PySem.SeqAt
open PySem.AutoSeq1 (wpAny_loadPart')
open PySem.MeetsSeq PySem.MeetsSeq2 PySem.MeetsSeq3

end

section
variable {prog : Program} {w : World} {A : Around} {E : Value → Shared → Prop} {s : Shared}

def sIx (n d : Nat) : Option Int → Nat
  | none => d
  | some v => if v < 0 then (v + (n : Int)).toNat else min v.toNat n
theorem sIx_none (n d : Nat) : sIx n d none = d := rfl
theorem sIx_nat (n d k : Nat) : sIx n d (some (k : Int)) = min k n := by
  show (if (k : Int) < 0 then ((k : Int) + (n : Int)).toNat else min (k : Int).toNat n) = min k n
  rw [if_neg (by omega), Int.toNat_natCast]
theorem sIx_le (n d : Nat) (hd : d ≤ n) (o : Option Int) : sIx n d o ≤ n := by
  cases o with
  | none => exact hd
  | some v =>
    show (if v < 0 then (v + (n : Int)).toNat else min v.toNat n) ≤ n
    by_cases hv : v < 0
    · rw [if_pos hv]; omega
    · rw [if_neg hv]; exact Nat.min_le_right _ _
end
end HT

namespace L2
open PySem PySem.Spec PyProof.Rows

abbrev TO := St → Hp → (Option Int → Hp → Prop) → Prop
def PO (X : Cx) (e : Option Expr) (t : TO) : Prop :=
  ∀ (pins : List (Addr × Obj)) (s : Shared) (σ : St) (H : Hp) (Q : Option Int → Hp → Prop), Inv X pins σ H s → t σ H Q →
    wpAny (model X.prog X.w) X.A (evalPart e X.env) (fun u s' => ∃ o H', Inv X pins σ H' s' ∧ IsPart u o ∧ Q o H') X.xe s
def tNoPart : TO := fun _ H Q => Q none H
def tPart (t : TE) : TO := fun σ H Q => t σ H fun x H1 => ∃ i, x = .int i ∧ Q (some i) H1

section
variable {X : Cx} {e : Expr} {te : TE} {lo hi : Option Expr} {tl th : TO} {pos p2 : Pos}

theorem po_none : PO X none tNoPart := by
  intro pins s σ H Q I h
  rw [evalPart_none]
  exact wpAny_pure ⟨none, H, I, .none, h⟩
theorem po_some (h : PE X e te) : PO X (some e) (tPart te) := by
  intro pins s σ H Q I hw
  rw [evalPart_some]
  refine thn (h pins s σ H _ I hw) fun u s1 ⟨x, H1, I1, r1, q1⟩ => ?_
  obtain ⟨i, rfl, q⟩ := q1
  obtain ⟨t, rfl⟩ := r1
  exact ⟨some i, H1, I1, .int i t, q⟩

def SlR (X : Cx) (r : V → Option Int → Option Int → Hp → VK → Prop) : Prop :=
  ∀ (pins : List (Addr × Obj)) (s : Shared) (σ : St) (H : Hp) (x : V) (v vl vu : Value) (lo hi : Option Int) (sl : Addr) (Q : VK), Inv X pins σ H s → RelV x v → s.heap.IsSliceOf sl vl vu .none → IsPart vl lo → IsPart vu hi → r x lo hi H Q →
    ∃ T id, typeLookup (.type T) "__getitem__" = pure (some (.builtin id)) ∧ s.TypeIs v T ∧ wpAny (model X.prog X.w) X.A (getItem v (.ref sl)) (EP X pins σ Q) X.xe s
def tSl (r : V → Option Int → Option Int → Hp → VK → Prop) (te : TE) (tl th : TO) : TE := fun σ H Q => te σ H fun x H1 => tl σ H1 fun l H2 => th σ H2 fun u H3 => r x l u H3 Q
theorem pe_slice {r : V → Option Int → Option Int → Hp → VK → Prop} (hr : SlR X r) (he : PE X e te) (hl : PO X lo tl) (hu : PO X hi th) : PE X (.Subscript e (.Slice lo hi none p2) pos) (tSl r te tl th) := by
  intro pins s σ H Q I h
  refine Subscript_ (thn (he pins s σ H _ I h) fun v s1 ⟨x, H1, I1, r1, q1⟩ => ?_)
  refine wpAny_Slice (thn (hl pins s1 σ H1 _ I1 q1) fun vl s2 ⟨l, H2, I2, pl, q2⟩ => thn (hu pins s2 σ H2 _ I2 q2) fun vu s3 ⟨u, H3, I3, pu, q3⟩ => ?_)
  rw [evalPart_none]
  refine wpAny_pure ?_
  have I4 : Inv X pins σ H3 { s3 with heap := s3.heap.push { cls := .type "slice", data := .fields #[vl, vu, .none] } } := I3.kept (t' := s3.toks) fun b ob q => Heap.get?_push_of_some _ q
  obtain ⟨T, id, hT, ht, hg⟩ := hr pins { s3 with heap := s3.heap.push { cls := .type "slice", data := .fields #[vl, vu, .none] } } σ H3 x v vl vu l u s3.heap.objs.size Q I4 r1 (Heap.IsSliceOf.new ..) pl pu q3
  show wpAny (model X.prog X.w) X.A (subscriptTail e (.Slice lo hi none p2) v (.ref s3.heap.objs.size)) (EP X pins σ Q) X.xe { s3 with heap := s3.heap.push { cls := .type "slice", data := .fields #[vl, vu, .none] } }
  exact tail_any (ops := [.ref s3.heap.objs.size, v]) ht hT hg (by with_unfolding_all rfl)

def cutV (xs : List V) (lo hi : Option Int) : List V := (xs.drop (HT.sIx xs.length 0 lo)).take (HT.sIx xs.length xs.length hi - HT.sIx xs.length 0 lo)
theorem cutV_length (xs : List V) (lo hi : Option Int) : (cutV xs lo hi).length ≤ xs.length := by
  unfold cutV
  rw [List.length_take, List.length_drop]
  omega
theorem Vals.nil_iff {xs : List V} {us : List Value} (r : Vals xs us) : us = [] ↔ xs = [] := by
  cases r with
  | nil => simp
  | cons _ _ => simp
end
end L2

namespace L2
open PySem PySem.Spec PyProof.Rows

def ixN (n : Nat) (i : Int) : Option Nat := if 0 ≤ i then (if i < n then some i.toNat else none) else if -(n : Int) ≤ i then some (i + n).toNat else none
def atI {α : Type} (xs : List α) (i : Int) : Option α := (ixN xs.length i).bind fun j => xs[j]?
theorem ixN_seq {n : Nat} {i : Int} {j : Nat} (h : ixN n i = some j) : seqIndex? i n = some j ∧ j < n ∧ -(n : Int) ≤ i ∧ i < n := by
  unfold ixN at h
  by_cases h0 : 0 ≤ i
  · rw [if_pos h0] at h
    by_cases h1 : i < n
    · rw [if_pos h1] at h
      have e : i.toNat = j := Option.some.inj h
      exact ⟨by rw [seqIndex_of h0 h1, e], by omega, by omega, h1⟩
    · rw [if_neg h1] at h; cases h
  · rw [if_neg h0] at h
    by_cases h1 : -(n : Int) ≤ i
    · rw [if_pos h1] at h
      have e : (i + n).toNat = j := Option.some.inj h
      exact ⟨by rw [seqIndex_neg (by omega) h1, e], by omega, h1, by omega⟩
    · rw [if_neg h1] at h; cases h
theorem atI_get {α : Type} {xs : List α} {i : Int} {v : α} (h : atI xs i = some v) : ∃ j, seqIndex? i xs.length = some j ∧ xs[j]? = some v ∧ j < xs.length ∧ -(xs.length : Int) ≤ i ∧ i < xs.length := by
  unfold atI at h
  cases e : ixN xs.length i with
  | none => rw [e] at h; cases h
  | some j =>
    rw [e] at h
    obtain ⟨h1, h2, h3, h4⟩ := ixN_seq e
    exact ⟨j, h1, h, h2, h3, h4⟩
theorem atI_nat {α : Type} {xs : List α} {j : Nat} {v : α} (h : xs[j]? = some v) : atI xs (j : Int) = some v := by
  have hj : j < xs.length := (List.getElem?_eq_some_iff.mp h).1
  have e : ixN xs.length (j : Int) = some j := by
    unfold ixN
    rw [if_pos (by omega), if_pos (by omega)]; simp
  unfold atI; rw [e]; exact h
def PlainIx (b : Expr) : Prop := ∀ o i, subscripted b false o i = operate [o, i] (getItem o i)
def IxR (X : Cx) (r : R2) : Prop :=
  ∀ (value slice : Expr) (pins : List (Addr × Obj)) (s : Shared) (σ : St) (H : Hp) (x y : V) (v u : Value) (Q : VK), Inv X pins σ H s → RelV x v → RelV y u → r x y H Q →
    subscripted slice false v u = operate [v, u] (getItem v u) → wpAny (model X.prog X.w) X.A (subscriptTail value slice v u) (EP X pins σ Q) X.xe s
def MtR (X : Cx) (id : String) (r : V → List V → Hp → VK → Prop) : Prop :=
  ∀ (pins : List (Addr × Obj)) (s : Shared) (σ : St) (H : Hp) (x : V) (xs : List V) (v : Value) (us : List Value) (Q : VK), Inv X pins σ H s → RelV x v → Vals xs us → r x xs H Q →
    wpAny (model X.prog X.w) X.A (call (.builtin id) (v :: us)) (EP X pins σ Q) X.xe s
section
variable {X : Cx} {a b : Expr} {ta tb : TE} {pos : Pos}
theorem pe_ix {r : R2} (hr : IxR X r) (ha : PE X a ta) (hb : PE X b tb) (hs : PlainIx b) : PE X (.Subscript a b pos) (tOp r ta tb) := by
  intro pins s σ H Q I h
  exact Subscript_ (binT ha hb I h fun v u s2 x y H2 I2 rx ry q => hr a b pins s2 σ H2 x y v u Q I2 rx ry q (hs _ _))

def rIxL (K : PySem.W.Frag) : R2 := fun x y H Q => ∃ p xs i v, x = .ref p ∧ y = .int i ∧ SqL K H p xs ∧ atI xs i = some v ∧ Q v H
def rIxT (K : PySem.W.Frag) : R2 := fun x y H Q => ∃ p xs i v, x = .ref p ∧ y = .int i ∧ SqT K H p xs ∧ atI xs i = some v ∧ Q v H
def rIxS : R2 := fun x y H Q => ∃ z i c, x = .str z ∧ y = .int i ∧ z.length ≤ sizeLine ∧ atI z.cps.toList i = some c ∧ Q (.str ⟨#[c]⟩) H
theorem ix_list : IxR X (rIxL X.K) := by
  intro value slice pins s σ H x y v u Q I rx ry h hs
  obtain ⟨p, xs, i, z, rfl, rfl, hq, he, q⟩ := h
  cases rx
  obtain ⟨t, rfl⟩ := ry
  obtain ⟨its, r, pl, hz⟩ := I.list hq
  obtain ⟨j, h1, h2, h3, h4, h5⟩ := atI_get he
  obtain ⟨w, ew, rw'⟩ := r.get h2
  have hl := r.length
  have hn := line63
  have fin : EP X pins σ Q w s := ⟨z, H, I, rw', q⟩
  by_cases h0 : 0 ≤ i
  · have hj : i.toNat = j := by
      rw [seqIndex_of h0 h5] at h1
      exact Option.some.inj h1
    exact item_listR pl.isList h0 (by omega) (by rw [hj]; simpa using ew) fin hs
  · have hj : (i + (its.toArray.size : Int)).toNat = j := by
      rw [seqIndex_neg (by omega) h4] at h1
      rw [List.size_toArray, ← hl]
      exact Option.some.inj h1
    exact subscriptTail_builtinR (x := w) pl.isList.typeIs slot_list_getitem.lookup
      (wpAny_getItem_list_neg (Q := fun r s' => r = w ∧ EP X pins σ Q r s') pl.isList (by omega) (by rw [List.size_toArray] <;> omega) (by omega) (by rw [hj]; simpa using ew) ⟨rfl, fin⟩) hs
theorem ix_tup : IxR X (rIxT X.K) := by
  intro value slice pins s σ H x y v u Q I rx ry h hs
  obtain ⟨p, xs, i, z, rfl, rfl, hq, he, q⟩ := h
  cases rx
  obtain ⟨t, rfl⟩ := ry
  obtain ⟨its, r, pl, hz⟩ := I.tuple hq
  obtain ⟨j, h1, h2, h3, h4, h5⟩ := atI_get he
  obtain ⟨w, ew, rw'⟩ := r.get h2
  have hl := r.length
  have hn := line63
  have fin : EP X pins σ Q w s := ⟨z, H, I, rw', q⟩
  exact subscriptTail_builtinR (x := w) pl.typeIs slot_tuple_getitem.lookup
    (getItem_tuple (j := j) (Q := fun r s' => r = w ∧ EP X pins σ Q r s') pl (by omega) (by omega) (by rw [List.size_toArray, ← hl]; exact h1) (by simpa using ew) ⟨rfl, fin⟩) hs
theorem ix_str : IxR X rIxS := by
  intro value slice pins s σ H x y v u Q I rx ry h hs
  obtain ⟨z, i, c, rfl, rfl, hz, he, q⟩ := h
  obtain ⟨t, rfl⟩ := rx
  obtain ⟨t', rfl⟩ := ry
  obtain ⟨j, h1, h2, h3, h4, h5⟩ := atI_get he
  have hl : z.cps.toList.length = z.length := by simp [Str.length]
  rw [hl] at h1 h4 h5
  have hn := line63
  exact tail_any (typeIs_str s z t) slot_str_getitem.lookup (getItem_str (c := c) (by
    have e1 : decide (i < -(2 ^ 63 : Int)) = false := decide_eq_false (by omega)
    have e2 : decide (i ≥ 2 ^ 63) = false := decide_eq_false (by omega)
    rw [e1, e2, Bool.or_false]) (by rw [h1]; simpa using h2) ⟨.str ⟨#[c]⟩, H, I.tok _, ⟨_, rfl⟩, q⟩) hs
theorem Inv.lst {pins : List (Addr × Obj)} {σ : St} {H : Hp} {s : Shared} {p : Addr} {xs : List V} (I : Inv X pins σ H s) (h : H p = some (.lst xs)) :
    ∃ (its : List Value) (n : Nat), Vals xs its ∧ s.heap.get? p = some { cls := .type "list", data := .seq its.toArray n } ∧ xs.length ≤ sizeLine := by
  obtain ⟨z, its, n, r, e⟩ := I.hok p _ h
  exact ⟨its, n, r, e, z⟩
theorem slice_bounds (lo hi : Option Int) (n : Nat) : (sliceBounds lo hi none n).1 = ((HT.sIx n 0 lo : Nat) : Int) ∧ (sliceBounds lo hi none n).2.1 = ((HT.sIx n n hi : Nat) : Int) ∧ (sliceBounds lo hi none n).2.2 = 1 := by
  refine ⟨?_, ?_, rfl⟩
  · cases lo with
    | none => simp [sliceBounds, HT.sIx]
    | some i =>
      simp only [sliceBounds, HT.sIx, Option.getD_none, show (1 : Int) > 0 by decide, if_true]
      by_cases h : i < 0
      · simp only [h, if_true] <;> omega
      · simp only [h, if_false] <;> omega
  · cases hi with
    | none => simp [sliceBounds, HT.sIx]
    | some i =>
      simp only [sliceBounds, HT.sIx, Option.getD_none, show (1 : Int) > 0 by decide, if_true]
      by_cases h : i < 0
      · simp only [h, if_true] <;> omega
      · simp only [h, if_false] <;> omega
theorem slicePick_cut (its : List Value) (lo hi : Option Int) : slicePick its.toArray lo hi none = ((its.drop (HT.sIx its.length 0 lo)).take (HT.sIx its.length its.length hi - HT.sIx its.length 0 lo)).toArray := by
  obtain ⟨h1, h2, h3⟩ := slice_bounds lo hi its.toArray.size
  unfold slicePick
  rw [h1, h2, h3]
  simp only [sliceRange_one, pick_run, List.size_toArray] <;> rfl
def rSlL (K : PySem.W.Frag) : V → Option Int → Option Int → Hp → VK → Prop := fun x lo hi H Q => ∃ a xs, x = .ref a ∧ SqL K H a xs ∧ ∀ p, H p = none → Q (.ref p) (upd H p (.lst (cutV xs lo hi)))
theorem sl_list : SlR X (rSlL X.K) := by
  intro pins s σ H x v vl vu lo hi sl Q I rx hs pl pu h
  obtain ⟨a, xs, rfl, hx, q⟩ := h
  cases rx
  obtain ⟨its, r, ht, hz⟩ := I.list hx
  have hlen := r.length
  refine ⟨"list", _, slot_list_getitem.lookup, ht.isList.typeIs, ?_⟩
  refine wpAny_getItem_list_slice ht.isList hs pl pu .none (by simp) ?_ (by rw [List.size_toArray] <;> omega)
  rw [slicePick_cut, ← hlen]
  refine ⟨.ref s.heap.objs.size, _, I.laid (t' := s.toks) (o := .lst (cutV xs lo hi)) (fun b ob q => Heap.get?_push_of_some _ q) (Nat.le_refl _) ?_, rfl, q _ (I.hok.fresh (Nat.le_refl _))⟩
  exact ⟨Nat.le_trans (cutV_length xs lo hi) hz, _, 0, (r.drop (HT.sIx xs.length 0 lo)).take (HT.sIx xs.length xs.length hi - HT.sIx xs.length 0 lo), Heap.get?_push_size _ rfl⟩

def flatV : V → Bool
  | .non => true
  | .bl _ => true
  | .int _ => true
  | .str _ => true
  | _ => false
def eqV : V → V → Bool
  | .non, .non => true
  | .bl a, .bl b => a == b
  | .bl a, .int b => (if a then 1 else 0) == b
  | .int a, .bl b => a == (if b then 1 else 0)
  | .int a, .int b => a == b
  | .str a, .str b => a == b
  | _, _ => false
theorem eqAt_V {A : Around} {s : Shared} {y x : V} {u v : Value} (ry : RelV y u) (rx : RelV x v) (fy : flatV y = true) (fx : flatV x = true) : SeqAt.EqAt A s u v (eqV y x) := by
  cases y with
  | non =>
    cases ry
    cases x with
    | non => cases rx; exact SeqAt.EqAt.same _
    | bl b => cases rx; exact SeqAt.EqAt.none_bool b
    | int b => obtain ⟨t, rfl⟩ := rx; exact SeqAt.EqAt.none_int b t
    | str b => obtain ⟨t, rfl⟩ := rx; exact SeqAt.EqAt.none_str b t
    | _ => exact absurd (show false = true from fx) Bool.false_ne_true
  | bl a =>
    cases ry
    cases x with
    | non => cases rx; exact SeqAt.EqAt.bool_none a
    | bl b => cases rx; exact SeqAt.EqAt.bool_bool a b
    | int b => obtain ⟨t, rfl⟩ := rx; exact SeqAt.EqAt.bool_int a b t
    | str b => obtain ⟨t, rfl⟩ := rx; exact SeqAt.EqAt.bool_str a b t
    | _ => exact absurd (show false = true from fx) Bool.false_ne_true
  | int a =>
    obtain ⟨t', rfl⟩ := ry
    cases x with
    | non => cases rx; exact SeqAt.EqAt.int_none a t'
    | bl b => cases rx; exact SeqAt.EqAt.int_bool a t' b
    | int b => obtain ⟨t, rfl⟩ := rx; exact SeqAt.EqAt.int_int a t' b t
    | str b => obtain ⟨t, rfl⟩ := rx; exact SeqAt.EqAt.int_str a t' b t
    | _ => exact absurd (show false = true from fx) Bool.false_ne_true
  | str a =>
    obtain ⟨t', rfl⟩ := ry
    cases x with
    | non => cases rx; exact SeqAt.EqAt.str_none a t'
    | bl b => cases rx; exact SeqAt.EqAt.str_bool a t' b
    | int b => obtain ⟨t, rfl⟩ := rx; exact SeqAt.EqAt.str_int a t' b t
    | str b => obtain ⟨t, rfl⟩ := rx; exact SeqAt.EqAt.str_str a t' b t
    | _ => exact absurd (show false = true from fx) Bool.false_ne_true
  | _ => exact absurd (show false = true from fy) Bool.false_ne_true
def eqU (x : V) (u : Value) : Bool := match u with
  | .none => eqV .non x
  | .bool b => eqV (.bl b) x
  | .int i _ => eqV (.int i) x
  | .str z _ => eqV (.str z) x
  | _ => false
theorem eqU_of {x y : V} {u : Value} (r : RelV y u) (f : flatV y = true) : eqU x u = eqV y x := by
  cases y with
  | non => cases r; rfl
  | bl b => cases r; rfl
  | int i => obtain ⟨t, rfl⟩ := r; rfl
  | str z => obtain ⟨t, rfl⟩ := r; rfl
  | _ => exact absurd (show false = true from f) Bool.false_ne_true
theorem any_eqU {x : V} : ∀ {xs : List V} {us : List Value}, Vals xs us → xs.all flatV = true → us.any (eqU x) = xs.any fun y => eqV y x
  | _, _, .nil, _ => rfl
  | y :: xs, u :: us, .cons r t, f => by
    rw [List.all_cons, Bool.and_eq_true] at f
    rw [List.any_cons, List.any_cons, eqU_of r f.1, any_eqU t f.2]
theorem mem_eqAt {A : Around} {s : Shared} {x : V} {v : Value} (rx : RelV x v) (fx : flatV x = true) : ∀ {xs : List V} {us : List Value}, Vals xs us → xs.all flatV = true → ∀ u ∈ us, SeqAt.EqAt A s u v (eqU x u)
  | _, _, .nil, _ => fun u hu => by cases hu
  | y :: xs, u :: us, .cons r t, f => fun u' hu => by
    rw [List.all_cons, Bool.and_eq_true] at f
    rcases List.mem_cons.mp hu with rfl | hu
    · rw [eqU_of r f.1]; exact eqAt_V r rx f.1 fx
    · exact mem_eqAt rx fx t f.2 u' hu
def inV (x : V) (xs : List V) : Bool := xs.any fun y => eqV y x
def rIn (K : PySem.W.Frag) (neg : Bool) : R2 := fun x y H Q => ∃ p xs, y = .ref p ∧ (SqL K H p xs ∨ SqT K H p xs) ∧ flatV x = true ∧ xs.all flatV = true ∧ Q (.bl (if neg then !inV x xs else inV x xs)) H
theorem op_in_seq : OpR X (compareOp .In) (rIn X.K false) := by
  intro pins s σ H x y v u Q I rx ry h
  obtain ⟨p, xs, rfl, hq, fx, fs, q⟩ := h
  cases ry
  rcases hq with hq | hq
  · obtain ⟨its, r, pl, hz⟩ := I.list hq
    refine SeqAt.in_listAt (eqU x) pl.isList (fun w hw => mem_eqAt rx fx r fs w (by simpa using hw)) ⟨.bl _, H, I, rfl, ?_⟩
    rw [show its.toArray.any (eqU x) = its.any (eqU x) by simp, any_eqU r fs]
    exact q
  · obtain ⟨its, r, pl, hz⟩ := I.tuple hq
    refine SeqAt.in_tupleAt (eqU x) pl (fun w hw => mem_eqAt rx fx r fs w (by simpa using hw)) ⟨.bl _, H, I, rfl, ?_⟩
    rw [show its.toArray.any (eqU x) = its.any (eqU x) by simp, any_eqU r fs]
    exact q
theorem call_len_seq : CallR X (.builtin "len") (fun xs H Q => ∃ p ys, xs = [.ref p] ∧ (SqL X.K H p ys ∨ SqT X.K H p ys) ∧ Q (.int ys.length) H) := by
  intro pins s σ H xs us Q I r h
  obtain ⟨p, ys, rfl, hq, q⟩ := h
  obtain ⟨u, rfl, rx⟩ := vals1 r
  cases rx
  have hn := line63
  rcases hq with hq | hq
  · obtain ⟨its, r', pl, hz⟩ := I.list hq
    have hlen := r'.length
    exact Calls.call_len_list pl.isList (by simp only [List.size_toArray] <;> omega) ⟨.int ys.length, H, I.tok _, ⟨s.toks + 1, by rw [List.size_toArray, hlen]⟩, q⟩
  · obtain ⟨its, r', pl, hz⟩ := I.tuple hq
    have hlen := r'.length
    exact len_tuple pl (by simp only [List.size_toArray] <;> omega) ⟨.int ys.length, H, I.tok _, ⟨s.toks + 1, by rw [List.size_toArray, hlen]⟩, q⟩
theorem call_list_of : CallR X (.type "list") (fun xs H Q => ∃ p ys, xs = [.ref p] ∧ (SqL X.K H p ys ∨ SqT X.K H p ys) ∧ ∀ l, H l = none → Q (.ref l) (upd H l (.lst ys))) := by
  intro pins s σ H xs us Q I r h
  obtain ⟨p, ys, rfl, hq, q⟩ := h
  obtain ⟨u, rfl, rx⟩ := vals1 r
  cases rx
  have fin : ∀ (its : List Value), Vals ys its → ys.length ≤ sizeLine → ∀ (h' : Heap) (c' : Nat), (∀ b o', s.heap.get? b = some o' → h'.get? b = some o') →
      h'.get? s.heap.objs.size = some { cls := .type "list", dict := none, data := .seq its.toArray c', slots := #[] } → EP X pins σ Q (.ref s.heap.objs.size) { s with heap := h' } := fun its r' hz h' c' kp e =>
    ⟨.ref s.heap.objs.size, _, I.laid (t' := s.toks) kp (Nat.le_refl _) (show ObjOk X.prog X.w _ h' _ (.lst ys) from ⟨hz, its, c', r', e⟩), rfl, q _ (I.hok.fresh (Nat.le_refl _))⟩
  rcases hq with hq | hq
  · obtain ⟨its, r', pl, hz⟩ := I.list hq
    have hlen := r'.length
    obtain ⟨o, ho, hc, n, hd⟩ := pl.isList
    exact call_list_seq p (.inl rfl) ho hc hd (fun h' c' kp e => fin its r' hz h' c' kp e) (by simp only [List.size_toArray] <;> omega)
  · obtain ⟨its, r', pl, hz⟩ := I.tuple hq
    have hlen := r'.length
    obtain ⟨o, ho, hc, n, hd⟩ := pl
    exact call_list_seq p (.inr rfl) ho hc hd (fun h' c' kp e => fin its r' hz h' c' kp e) (by simp only [List.size_toArray] <;> omega)
theorem call_tuple_of : CallR X (.type "tuple") (fun xs H Q => ∃ p ys, xs = [.ref p] ∧ ((SqL X.K H p ys ∧ ∀ l, H l = none → Q (.ref l) (upd H l (.tup ys))) ∨ (SqT X.K H p ys ∧ Q (.ref p) H))) := by
  intro pins s σ H xs us Q I r h
  obtain ⟨p, ys, rfl, h⟩ := h
  obtain ⟨u, rfl, rx⟩ := vals1 r
  cases rx
  rcases h with ⟨hq, q⟩ | ⟨hq, q⟩
  · obtain ⟨its, r', pl, hz⟩ := I.list hq
    have hlen := r'.length
    refine call_tuple_list pl.isList (fun h' kp => ?_) (by simp only [List.size_toArray] <;> omega)
    have I1 : Inv X pins σ H { s with heap := h' } := I.kept (t' := s.toks) kp
    have I2 : Inv X pins σ (upd H h'.objs.size (.tup ys)) { s with heap := h'.push { cls := .type "tuple", data := .seq its.toArray } } :=
      I1.laid (t' := s.toks) (fun b o e => Heap.get?_push_of_some _ e) (Nat.le_refl _) (show ObjOk X.prog X.w _ _ _ (.tup ys) from ⟨hz, its, r', IsTupN.new _ _⟩)
    exact ⟨.ref h'.objs.size, _, I2, rfl, q _ (I1.hok.fresh (Nat.le_refl _))⟩
  · obtain ⟨its, r', pl, hz⟩ := I.tuple hq
    exact call_tuple_same pl ⟨.ref p, H, I, rfl, q⟩

def tyV (K : PySem.W.Frag) (T : String) (x : V) (H : Hp) : Prop := match x with
  | .str _ => T = "str"
  | .int _ => T = "int"
  | .ref p => (T = "list" ∧ ∃ xs, SqL K H p xs) ∨ (T = "tuple" ∧ ∃ o, K.lookup p = some o ∧ o.cls = .type "tuple" ∧ o.dict = none) ∨
      (T = "dict" ∧ ((∃ kvs, H p = some (.dK kvs)) ∨ ∃ kvs, H p = some (.dT kvs))) ∨ (T = "set" ∧ ∃ S n, H p = some (.set S n))
  | _ => False
theorem tyV_is {pins : List (Addr × Obj)} {σ : St} {H : Hp} {s : Shared} {T : String} {x : V} {v : Value} (I : Inv X pins σ H s) (r : RelV x v) (ty : tyV X.K T x H) :
    s.TypeIs v T ∧ ∀ a, v = .ref a → ∃ ob, s.heap.get? a = some ob ∧ ob.dict = none := by
  cases x with
  | str z =>
    obtain ⟨t, rfl⟩ := r
    cases (show T = "str" from ty)
    exact ⟨typeIs_str s z t, fun _ e => nomatch e⟩
  | int i =>
    obtain ⟨t, rfl⟩ := r
    cases (show T = "int" from ty)
    exact ⟨typeIs_int s i t, fun _ e => nomatch e⟩
  | ref p =>
    cases r
    rcases ty with ⟨rfl, xs, hq⟩ | ⟨rfl, o, hk, hc, hd⟩ | ⟨rfl, hk⟩ | ⟨rfl, S, n, hk⟩
    · obtain ⟨its, _, pl, _⟩ := I.list hq
      refine ⟨pl.isList.typeIs, fun a e => ?_⟩
      cases e
      obtain ⟨o, n, e, c, hd, _⟩ := pl
      exact ⟨o, e, hd⟩
    · refine ⟨⟨o, I.kIn p o hk, hc⟩, fun a e => ?_⟩
      cases e
      exact ⟨o, I.kIn _ o hk, hd⟩
    · have z : ∃ o, s.heap.get? p = some o ∧ o.ExactDict := by
        rcases hk with ⟨kvs, hk⟩ | ⟨kvs, hk⟩
        · obtain ⟨_, _, _, _, o, _, _, e, ex, _⟩ := I.hok p _ hk
          exact ⟨o, e, ex⟩
        · obtain ⟨_, _, _, _, o, _, _, e, ex, _⟩ := I.hok p _ hk
          exact ⟨o, e, ex⟩
      obtain ⟨o, e, ex⟩ := z
      refine ⟨⟨o, e, ex.1⟩, fun a e2 => ?_⟩
      cases e2
      exact ⟨o, e, ex.2.1⟩
    · obtain ⟨o, _, _, _, e, ex, _⟩ := I.hok p _ hk
      refine ⟨⟨o, e, ex.1⟩, fun a e2 => ?_⟩
      cases e2
      exact ⟨o, e, ex.2.1⟩
  | _ => exact False.elim ty
def tBM0 (K : PySem.W.Frag) (T : String) (r : V → List V → Hp → VK → Prop) (to : TE) : TE := fun σ H Q => to σ H fun x H1 => tyV K T x H1 ∧ r x [] H1 Q
def tBM (K : PySem.W.Frag) (T : String) (r : V → List V → Hp → VK → Prop) (to : TE) (t : TA) : TE := fun σ H Q => to σ H fun x H1 => tyV K T x H1 ∧ t σ H1 fun xs H2 => r x xs H2 Q
variable {o e : Expr} {es : List Expr} {to : TE} {t : TA} {name : Str} {apos cpos : Pos} {T id : String} {r : V → List V → Hp → VK → Prop}
theorem pe_bm0 (pa : PlainAttrs T) (slot : Slot T name id) (hty : typeOf (.builtin id) = pure (.type "method_descriptor")) (hm : MtR X id r) (ho : PE X o to)
    (hbase : attributeBase o name X.env (eval o X.env) = eval o X.env := by rfl) (hline : (apos.endLine == cpos.line) = true := by rfl) : PE X (.Call (.Attribute o name apos) [] [] cpos) (tBM0 X.K T r to) := by
  intro pins s σ H Q I h
  refine wpAny_Call_method0_late hbase hline (thn (ho pins s σ H _ I h) fun v s1 ⟨x, H1, I1, r1, ty, q1⟩ => ?_)
  obtain ⟨h1, h2⟩ := tyV_is I1 r1 ty
  exact ⟨T, id, pa, slot, hty, h1, h2, Calls.callWith_builtin rfl (PySem.evalArgs_none (hm pins s1 σ H1 x [] v [] Q I1 r1 .nil q1))⟩
theorem pe_bm (pa : PlainAttrs T) (slot : Slot T name id) (hty : typeOf (.builtin id) = pure (.type "method_descriptor")) (hm : MtR X id r) (ho : PE X o to) (ha : PA X (e :: es) t)
    (hbase : attributeBase o name X.env (eval o X.env) = eval o X.env := by rfl)
    (hfew : ((backTo cpos (starEach (e :: es) X.env)).all (fun x => !x.1) && (backToKw cpos (keywordEach [] X.env)).all (fun x => x.1.isSome)
      && decide ((e :: es).length + ([] : List Keyword).length + (if ([] : List Keyword).isEmpty then 0 else 1) < 30)) = true := by rfl)
    (hline : (apos.endLine == cpos.line) = true := by rfl) (hs : starEach (e :: es) X.env = (false, eval e X.env) :: starEach es X.env := by rfl) (hplain : (backTo cpos (starEach es X.env)).any (·.1) = false := by rfl) :
    PE X (.Call (.Attribute o name apos) (e :: es) [] cpos) (tBM X.K T r to t) := by
  intro pins s σ H Q I h
  refine wpAny_Call_method_late hbase hfew hline rfl (thn (ho pins s σ H _ I h) fun v s1 ⟨x, H1, I1, r1, ty, q1⟩ => ?_)
  obtain ⟨h1, h2⟩ := tyV_is I1 r1 ty
  refine ⟨T, id, pa, slot, hty, h1, h2, ?_⟩
  have hA := ha cpos pins s1 σ H1 _ I1 q1
  rw [hs] at hA ⊢
  refine Calls.callWith_builtin (by show (false || (backTo cpos (starEach es X.env)).any (·.1)) = false; rw [hplain] <;> rfl) (Calls.evalArgs_plain ?_)
  exact thn hA fun us s2 ⟨vs, H2, I2, r2, q2⟩ => hm pins s2 σ H2 x vs v us Q I2 r1 r2 q2
end
end L2

namespace L2
open PySem PySem.Spec PyProof.Rows

def MtM (X : Cx) (id : String) (r : V → List V → Hp → VK → Prop) : Prop :=
  ∀ (pins : List (Addr × Obj)) (s : Shared) (σ : St) (H : Hp) (x : V) (xs : List V) (v : Value) (us : List Value) (Q : VK), Inv X pins σ H s → RelV x v → Vals xs us → r x xs H Q →
    wpAny (model X.prog X.w) X.A (call (.builtin id) (v :: us)) (EP X pins σ Q) X.xe s

theorem Vals.one : ∀ {x : V} {us : List Value}, Vals [x] us → ∃ u, us = [u] ∧ RelV x u
  | _, _, .cons r .nil => ⟨_, rfl, r⟩
theorem Vals.two : ∀ {x y : V} {us : List Value}, Vals [x, y] us → ∃ u v, us = [u, v] ∧ RelV x u ∧ RelV y v
  | _, _, _, .cons r (.cons q .nil) => ⟨_, _, rfl, r, q⟩
theorem Vals.zero : ∀ {us : List Value}, Vals [] us → us = []
  | _, .nil => rfl
theorem Vals.dropLast {xs : List V} {us : List Value} (h : Vals xs us) : Vals xs.dropLast us.dropLast := by
  induction h with
  | nil => exact .nil
  | cons r t ih =>
    cases t with
    | nil => exact .nil
    | cons q t' => exact .cons r ih
theorem Vals.eraseIdx : ∀ {xs : List V} {us : List Value} (i : Nat), Vals xs us → Vals (xs.eraseIdx i) (us.eraseIdx i)
  | _, _, _, .nil => .nil
  | _, _, 0, .cons _ t => t
  | _, _, i + 1, .cons r t => .cons r (Vals.eraseIdx i t)
theorem erase_last {α : Type} (l : List α) : l.eraseIdx (l.length - 1) = l.dropLast := by
  induction l with
  | nil => rfl
  | cons a r ih =>
    cases r with
    | nil => rfl
    | cons b r =>
      have e : (a :: b :: r).length - 1 = ((b :: r).length - 1) + 1 := by
        have h1 : (a :: b :: r).length = r.length + 2 := rfl
        have h2 : (b :: r).length = r.length + 1 := rfl
        omega
      rw [e, List.eraseIdx_cons_succ, ih]
      all_goals rfl
section
variable {X : Cx} {pins : List (Addr × Obj)} {σ : St} {H : Hp} {s : Shared} {l b : Addr} {xs ys zs : List V}

theorem Inv.lset {its its' : List Value} {n : Nat} {f : Array Value → Array Value} {t' : Nat} (I : Inv X pins σ H s) (hH : H l = some (.lst xs))
    (e : s.heap.get? l = some { cls := .type "list", data := .seq its.toArray n }) (hf : f its.toArray = its'.toArray) (hv : Vals ys its') (hz : ys.length ≤ sizeLine) :
    Inv X pins σ (upd H l (.lst ys)) { s with heap := s.heap.update l (Obj.mapSeq f), toks := t' } := by
  have q := PySem.IsL.update e f
  rw [hf] at q
  refine I.write (x := l) (e := l) (by rw [hH]; exact trivial) (.inl rfl) (fun b' u hb hu => (Heap.get?_update_other s.heap (Obj.mapSeq f) (Ne.symm hb)).trans hu) ⟨_, q⟩ ?_
  exact ⟨hz, its', _, hv, q⟩
theorem Inv.lnew {its : List Value} {t' : Nat} (I : Inv X pins σ H s) (hv : Vals ys its) (hz : ys.length ≤ sizeLine) :
    Inv X pins σ (upd H s.heap.objs.size (.lst ys)) { s with heap := s.heap.push { cls := .type "list", data := .seq its.toArray }, toks := t' } :=
  I.laid (fun _ _ q => Heap.get?_push_of_some _ q) (Nat.le_refl _) ⟨hz, its, 0, hv, Heap.get?_push_size _ rfl⟩
theorem Inv.fresh (I : Inv X pins σ H s) : H s.heap.objs.size = none := I.hok.fresh (Nat.le_refl _)
theorem Inv.lstM (I : Inv X pins σ H s) (hH : H l = some (.lst xs)) : xs.length ≤ sizeLine ∧ ∃ (its : List Value) (n : Nat), Vals xs its ∧ xs.length = its.length ∧ s.heap.get? l = some { cls := .type "list", data := .seq its.toArray n } := by
  obtain ⟨z, its, n, r, e⟩ := I.hok l _ hH
  exact ⟨z, its, n, r, r.length, e⟩

end

section
variable {X : Cx}

def rAppend : V → List V → Hp → VK → Prop := fun x vs H Q => ∃ l xs y, x = .ref l ∧ vs = [y] ∧ H l = some (.lst xs) ∧ xs.length < sizeLine ∧ Q .non (upd H l (.lst (xs ++ [y])))
theorem mt_append : MtM X "list.append" rAppend := by
  intro pins s σ H x vs v us Q I rx rv h
  obtain ⟨l, xs, y, rfl, rfl, hH, hz, q⟩ := h
  cases rx
  obtain ⟨u, rfl, ru⟩ := rv.one
  obtain ⟨z, its, n, r, hl, e⟩ := I.lstM hH
  refine call_meets F.slot_list_append ⟨_, e, rfl⟩ F.entry_list_append (F.args_list_append_2 _ _) (PySem.list_append l its.toArray n u (by rw [List.size_toArray]; omega)) ⟨e, ?_⟩
  refine ⟨.non, _, I.lset (its' := its ++ [u]) hH e (by simp) (r.append (.cons ru .nil)) ?_, rfl, q⟩
  rw [List.length_append, List.length_singleton]
  omega

def rPop : V → List V → Hp → VK → Prop := fun x vs H Q => ∃ l xs y, x = .ref l ∧ vs = [] ∧ H l = some (.lst xs) ∧ xs[xs.length - 1]? = some y ∧ Q y (upd H l (.lst xs.dropLast))
theorem mt_pop : MtM X "list.pop" rPop := by
  intro pins s σ H x vs v us Q I rx rv h
  obtain ⟨l, xs, y, rfl, rfl, hH, hy, q⟩ := h
  cases rx
  have hus := rv.zero
  subst hus
  obtain ⟨z, its, n, r, hl, e⟩ := I.lstM hH
  obtain ⟨u, hu, ru⟩ := r.get hy
  have hy' : its.toArray[its.toArray.size - 1]? = some u := by
    show its.toArray[its.length - 1]? = some u
    rw [← Array.getElem?_toList, ← hl]
    exact hu
  refine call_meets F.slot_list_pop ⟨_, e, rfl⟩ F.entry_list_pop (F.args_list_pop_1 _) (MeetsSeq.list_pop_last l its.toArray n u hy' (by rw [List.size_toArray]; omega)) ⟨e, ?_⟩
  refine ⟨y, _, I.lset (its' := its.dropLast) hH e ?_ r.dropLast ?_, ru, q⟩
  · show its.toArray.eraseIdxIfInBounds (its.toArray.size - 1) = its.dropLast.toArray
    rw [List.size_toArray, List.eraseIdxIfInBounds_toArray, erase_last]
  · rw [List.length_dropLast]
    omega

def rClear : V → List V → Hp → VK → Prop := fun x vs H Q => ∃ l xs, x = .ref l ∧ vs = [] ∧ H l = some (.lst xs) ∧ Q .non (upd H l (.lst []))
theorem mt_clear : MtM X "list.clear" rClear := by
  intro pins s σ H x vs v us Q I rx rv h
  obtain ⟨l, xs, rfl, rfl, hH, q⟩ := h
  cases rx
  have hus := rv.zero
  subst hus
  obtain ⟨z, its, n, r, hl, e⟩ := I.lstM hH
  refine call_meets F.slot_list_clear ⟨_, e, rfl⟩ F.entry_list_clear (F.args_list_clear_1 _) (AutoSeq1.list_clear_list_0 l its.toArray n (by rw [List.size_toArray]; omega)) ⟨e, ?_⟩
  exact ⟨.non, _, I.lset (its' := []) (ys := []) hH e rfl .nil (Nat.zero_le _), rfl, q⟩

def rCat : R2 := fun x y H Q => ∃ l b xs zs, x = .ref l ∧ y = .ref b ∧ H l = some (.lst xs) ∧ H b = some (.lst zs) ∧ xs.length + zs.length ≤ sizeLine ∧ ∀ p, H p = none → Q (.ref p) (upd H p (.lst (xs ++ zs)))
theorem op_cat : OpR X (binaryOp .Add) rCat := by
  intro pins s σ H x y v u Q I rx ry h
  obtain ⟨l, b, xs, zs, rfl, rfl, hH, hB, hz, q⟩ := h
  cases rx
  cases ry
  obtain ⟨z, its, n, r, hl, e⟩ := I.lstM hH
  obtain ⟨z2, its2, n2, r2, hl2, e2⟩ := I.lstM hB
  refine PySem.P.add_list e e2 ?_ (by rw [List.size_toArray, List.size_toArray]; omega)
  have ea : its.toArray ++ its2.toArray = (its ++ its2).toArray := by simp
  rw [ea]
  exact ⟨.ref _, _, I.lnew (t' := s.toks) (r.append r2) (by rw [List.length_append]; omega), rfl, q _ I.fresh⟩
end

section
variable {prog : Program} {w : World} {A : Around} {E : Value → Shared → Prop} {s : Shared}
set_option maxRecDepth 100000 in
end

section
variable {X : Cx}
end
end L2

namespace L2
open PySem PySem.Spec PyProof.Rows

section
variable {κ : Type} [DecidableEq κ]
def valV (kvs : List (κ × V)) (k : κ) : Option V := (kvs.find? fun kv => decide (kv.1 = k)).map (·.2)
def putK (kvs : List (κ × V)) (k : κ) (v : V) : List (κ × V) :=
  if (kvs.any fun kv => decide (kv.1 = k)) = true then kvs.map (fun kv => if kv.1 = k then (kv.1, v) else kv) else kvs ++ [(k, v)]
def dropK (kvs : List (κ × V)) (k : κ) : List (κ × V) := kvs.filter fun kv => decide (kv.1 ≠ k)

theorem valV_pos {p : κ × V} {r : List (κ × V)} {k : κ} (e : p.1 = k) : valV (p :: r) k = some p.2 := by simp [valV, List.find?_cons, e]
theorem valV_neg {p : κ × V} {r : List (κ × V)} {k : κ} (e : ¬ p.1 = k) : valV (p :: r) k = valV r k := by simp [valV, List.find?_cons, e]
theorem RelO.getD {o : Option V} {u : Option Value} {d : V} {d' : Value} (r : RelO o u) (rd : RelV d d') : RelV (o.getD d) (u.getD d') := by
  cases o with
  | none => cases u with
    | none => exact rd
    | some _ => exact (show False from r).elim
  | some _ => cases u with
    | none => exact (show False from r).elim
    | some _ => exact r

theorem KV.val {kvs : List (κ × V)} {vs : List (κ × Value)} (r : KV kvs vs) (k : κ) : RelO (valV kvs k) (valueAt vs k) := by
  unfold KV at r
  induction r with
  | nil => exact True.intro
  | @cons p q ps qs h t ih =>
    obtain ⟨h1, h2⟩ := h
    by_cases e : p.1 = k
    · have e' : q.1 = k := h1.symm.trans e
      have b : valueAt (q :: qs) k = some q.2 := by simp [valueAt, List.find?_cons, e']
      rw [valV_pos e, b]; exact h2
    · have e' : ¬ q.1 = k := fun z => e (h1.trans z)
      have b : valueAt (q :: qs) k = valueAt qs k := by simp [valueAt, List.find?_cons, e']
      rw [valV_neg e, b]; exact ih
theorem KV.any {kvs : List (κ × V)} {vs : List (κ × Value)} (r : KV kvs vs) (k : κ) : (kvs.any fun kv => decide (kv.1 = k)) = vs.any fun kv => decide (kv.1 = k) := by
  unfold KV at r
  induction r with
  | nil => rfl
  | cons h t ih => rw [List.any_cons, List.any_cons, ih, h.1]
theorem KV.drop {kvs : List (κ × V)} {vs : List (κ × Value)} (r : KV kvs vs) (k : κ) : KV (dropK kvs k) (without vs k) := by
  unfold KV at r ⊢
  unfold dropK without
  induction r with
  | nil => exact .nil
  | @cons p q ps qs h t ih =>
    obtain ⟨h1, h2⟩ := h
    rw [List.filter_cons, List.filter_cons]
    by_cases e : p.1 = k
    · have a : ¬ decide (p.1 ≠ k) = true := by simp [e]
      have b : ¬ decide (q.1 ≠ k) = true := by simp [h1.symm.trans e]
      rw [if_neg a, if_neg b]; exact ih
    · have e' : ¬ q.1 = k := fun z => e (h1.trans z)
      have a : decide (p.1 ≠ k) = true := by simp [e]
      have b : decide (q.1 ≠ k) = true := by simp [e']
      rw [if_pos a, if_pos b]; exact .cons ⟨h1, h2⟩ ih
theorem KV.keys {kvs : List (κ × V)} {vs : List (κ × Value)} (r : KV kvs vs) : kvs.map (·.1) = vs.map (·.1) := by
  unfold KV at r
  induction r with
  | nil => rfl
  | cons h t ih => rw [List.map_cons, List.map_cons, ih, h.1]
theorem KV.length {kvs : List (κ × V)} {vs : List (κ × Value)} (r : KV kvs vs) : kvs.length = vs.length := Paired.length r
end


abbrev KT (H : Hp) : List (List Key × V) → List (List Key × Addr × Value) → Prop := Paired fun p q => p.1 = q.1 ∧ H q.2.1 = some (.tup (p.1.map kV)) ∧ RelV p.2 q.2.2
theorem KT.val {H : Hp} {kvs : List (List Key × V)} {xs : List (List Key × Addr × Value)} (r : KT H kvs xs) (k : List Key) : RelO (valV kvs k) ((atKey xs k).map (·.2)) := by
  induction r with
  | nil => exact True.intro
  | @cons p q ps qs h t ih =>
    obtain ⟨h1, _, h2⟩ := h
    by_cases e : p.1 = k
    · have e' : q.1 = k := h1.symm.trans e
      have b : atKey (q :: qs) k = some q.2 := by simp [atKey, List.find?_cons, e']
      rw [valV_pos e, b]; exact h2
    · have e' : ¬ q.1 = k := fun z => e (h1.trans z)
      have b : atKey (q :: qs) k = atKey qs k := by simp [atKey, List.find?_cons, e']
      rw [valV_neg e, b]; exact ih
theorem KT.keeps {H H' : Hp} {kvs : List (List Key × V)} {xs : List (List Key × Addr × Value)} (r : KT H kvs xs) (ht : ∀ b ys, H b = some (.tup ys) → H' b = some (.tup ys)) : KT H' kvs xs :=
  Paired.mapP r fun _ _ z => ⟨z.1, ht _ _ z.2.1, z.2.2⟩

section
variable {P : Program} {w : World} {H : Hp} {h : Heap} {a : Addr}
end

def DGet (H : Hp) (a : Addr) (y : V) (r : Option V) : Prop :=
  (∃ kvs k, Rd H a (.dK kvs) ∧ y = kV k ∧ r = valV kvs k) ∨ ∃ kvs k b, Rd H a (.dT kvs) ∧ y = .ref b ∧ H b = some (.tup (k.map kV)) ∧ r = valV kvs k
def DPut (H : Hp) (a : Addr) (y v : V) (H' : Hp) : Prop :=
  (∃ kvs k, H a = some (.dK kvs) ∧ y = kV k ∧ kvs.length < sizeLine ∧ H' = upd H a (.dK (putK kvs k v))) ∨
  ∃ kvs k b, H a = some (.dT kvs) ∧ y = .ref b ∧ H b = some (.tup (k.map kV)) ∧ kvs.length < sizeLine ∧ H' = upd H a (.dT (putK kvs k v))
theorem DGet.k {H : Hp} {a : Addr} {kvs : List (Key × V)} {k : Key} (e : H a = some (.dK kvs)) : DGet H a (kV k) (valV kvs k) := .inl ⟨kvs, k, .inl e, rfl, rfl⟩
theorem DGet.t {H : Hp} {a b : Addr} {kvs : List (List Key × V)} {k : List Key} (e : H a = some (.dT kvs)) (eb : H b = some (.tup (k.map kV))) : DGet H a (.ref b) (valV kvs k) := .inr ⟨kvs, k, b, .inl e, rfl, eb, rfl⟩
theorem DPut.k {H : Hp} {a : Addr} {kvs : List (Key × V)} {k : Key} {v : V} (e : H a = some (.dK kvs)) (hl : kvs.length < sizeLine) : DPut H a (kV k) v (upd H a (.dK (putK kvs k v))) := .inl ⟨kvs, k, e, rfl, hl, rfl⟩
theorem DPut.t {H : Hp} {a b : Addr} {kvs : List (List Key × V)} {k : List Key} {v : V} (e : H a = some (.dT kvs)) (eb : H b = some (.tup (k.map kV))) (hl : kvs.length < sizeLine) :
    DPut H a (.ref b) v (upd H a (.dT (putK kvs k v))) := .inr ⟨kvs, k, b, e, rfl, eb, hl, rfl⟩


section
variable {X : Cx} {pins : List (Addr × Obj)} {σ : St} {H : Hp} {s : Shared} {a : Addr} {y v : V} {u r : Value} {o : Option V} {A : Around} {E : Value → Shared → Prop}

end

section
variable {X : Cx} {pins : List (Addr × Obj)} {σ : St} {H : Hp} {s : Shared} {a : Addr} {kvs : List (Key × V)} {k : Key} {u : Value} {A : Around} {E : Value → Shared → Prop}
end


section
variable {X : Cx} {o i e value : Expr} {pos pos' tpos : Pos} {td ty tv : TE}
end


section
variable {X : Cx} {pos : Pos}
end

structure M1 (X : Cx) (o : Expr) (m : Str) (apos : Pos) (e : Expr) (cpos : Pos) : Prop where
  base : attributeBase o m X.env (eval o X.env) = eval o X.env
  few : ((backTo cpos (starEach [e] X.env)).all (fun x => !x.1) && (backToKw cpos (keywordEach [] X.env)).all (fun x => x.1.isSome)
    && decide (([e] : List Expr).length + ([] : List Keyword).length + (if ([] : List Keyword).isEmpty then 0 else 1) < 30)) = true
  line : (apos.endLine == cpos.line) = true
  trees : backTo cpos (starEach [e] X.env) = [(false, eval e X.env)]
structure M2 (X : Cx) (o : Expr) (m : Str) (apos : Pos) (e f : Expr) (cpos : Pos) : Prop where
  base : attributeBase o m X.env (eval o X.env) = eval o X.env
  few : ((backTo cpos (starEach [e, f] X.env)).all (fun x => !x.1) && (backToKw cpos (keywordEach [] X.env)).all (fun x => x.1.isSome)
    && decide (([e, f] : List Expr).length + ([] : List Keyword).length + (if ([] : List Keyword).isEmpty then 0 else 1) < 30)) = true
  line : (apos.endLine == cpos.line) = true
  trees : backTo cpos (starEach [e, f] X.env) = [(false, eval e X.env), (false, eval f X.env)]

section
variable {X : Cx} {pins : List (Addr × Obj)} {σ : St} {H : Hp} {s : Shared} {a : Addr} {y d : V} {u r : Value} {o : Option V} {A : Around} {E : Value → Shared → Prop}
end

section
variable {X : Cx} {o e f : Expr} {apos cpos : Pos} {td ty tx : TE}
end

section
variable {X : Cx} {pins : List (Addr × Obj)} {σ : St} {H : Hp} {s : Shared} {a : Addr} {kvs : List (Key × V)} {A : Around} {E : Value → Shared → Prop}
end


section
variable {X : Cx} {pins : List (Addr × Obj)} {σ : St} {H : Hp} {s : Shared} {a : Addr} {y : V} {u : Value} {A : Around} {E : Value → Shared → Prop}
end
end L2

namespace Att
open PySem PySem.W PySem.Calls PyProof.Rows

theorem ints_of_wellAll {P : Params} {h : Heap} : ∀ (ns : List Int) (vs : List Value), WellAll P h vs (ns.map WData.int) → IntsAre vs ns := by
  intro ns
  induction ns with
  | nil =>
    intro vs w
    rw [List.map_nil] at w
    cases w
    exact .nil
  | cons n ns ih =>
    intro vs w
    rw [List.map_cons] at w
    cases w with
    | cons a b =>
      cases a
      exact .cons _ _ (ih _ b)

theorem script_of {l : OpenLaw} {n : Nat} (hn : l.most = some n) {P : Params} {h : Heap} {args : List WData} {vals : List Value}
    (hpre : l.row.toRowW.claim.pre args = true) (hwl : WellAll P h vals args) :
    ∃ a vs ns, vals = [Value.ref a] ∧ args = [WData.list (ns.map WData.int)] ∧ h.get? a = some { cls := .type "list", data := .seq vs.toArray } ∧ IntsAre vs ns ∧ ns.length ≤ n := by
  have hsh : WShape.hasAll [] args [.list .int] = true := (pre_splitW hpre).1
  have hc : l.pre.holds [] { args := args } = true := (pre_splitW hpre).2
  obtain ⟨d, r, rfl, h1, h2⟩ := hasAllW_cons hsh
  obtain rfl := hasAllW_nil h2
  obtain ⟨xs, rfl, h3⟩ := hasW_list h1
  obtain ⟨ns, rfl⟩ := items_int h3
  have hlen : ns.length ≤ n := by
    unfold OpenLaw.pre at hc
    have h4 : (WTm.not (.lt (.lit (.int (n : Int))) (.len (.arg 0)))).holds [] { args := [.list (ns.map .int)] } = true := by
      have h4 := (holds_andW hc).1
      rw [hn] at h4
      exact h4
    have h5 := condW_of h4 (w_not (w_lt w_lit (w_len_list (w_arg rfl))))
    rw [List.length_map] at h5
    refine Nat.le_of_not_lt fun q => ?_
    have q' : (n : Int) < ((ns.length : Nat) : Int) := by omega
    first
      | (rw [decide_eq_true q'] at h5; exact absurd h5 (by decide))
      | (simp at h5; omega)
  cases hwl with
  | cons w1 w2 =>
    cases w2
    cases w1 with
    | list ho hall => exact ⟨_, _, ns, rfl, rfl, ho, ints_of_wellAll ns _ hall, hlen⟩

theorem post_true (l : OpenLaw) (args : List WData) : l.row.toRowW.claim.post args (.bool true) args = true :=
  postW_of (r := l.row.toRowW) (X := (true == true))
    (show WShape.has [] (.bool true) .bool = true by first | rfl | decide | simp [WShape.has, WShape.arms, WShape.armsAll])
    (show (WTm.eq .res (.lit (.bool true))).value [] { args := args, res := some (.bool true), after := args } = some (.bool (true == true)) from w_eq_bool (w_res rfl) w_lit) rfl

theorem attach_call {l : OpenLaw} {n : Nat} {q : Program} {loose : List Str} {XP : (Str → Option Value) → Heap → Prop} {YP : World → Heap → Prop} {d : DefRec}
    (hn : l.most = some n) (hdf : d.params.defaults = [])
    (call : ∀ (w : World) (s₀ s₁ : Shared) (mg mb : Str → Option Value) (fa : Addr) (o : Obj) (pm cd doc : Value) (a : Addr) (vs : List Value) (ns : List Int),
      Ground q loose [] XP w s₀ mg mb s₁.heap → YP w s₁.heap →
      s₁.heap.get? fa = some o → o.data = .func (docDef d.name d.params d.body d.scope pm cd doc) → s₁.heap.CodeRec cd d.name → mg d.name = some (.ref fa) →
      s₁.heap.get? a = some { cls := .type "list", data := .seq vs.toArray } → IntsAre vs ns → ns.length ≤ n → s₁.gens = #[] →
      codeAny (model l.prog w) callerA (.call (.ref fa) ⟨[.ref a], []⟩) (fun r s' => r = .ok (.ret (.bool true)) ∧ OldK s₁.heap s'.heap ∧ s'.os = s₁.os ∧ AllBare s'.gens) s₁) :
    WalkO q loose XP YP l.row.toRowW d [] (fun f vs => PySem.call f vs) := by
  intro w s₀ s₁ mg mb G Y fa o pm cd doc dV kV ho hd hcd hD hmg hg args vals as hpre hlay hrd hwl hlo
  obtain rfl : dV = .none := Dflts.none hD hdf
  obtain rfl : kV = .none := Dflts.noKw hD
  obtain ⟨a, vs, ns, rfl, rfl, hobj, hints, hlen⟩ := script_of hn hpre hwl
  refine enter_call (codeAny_mono (call w s₀ s₁ mg mb fa o pm cd doc a vs ns G Y ho (fd_plain hd) hcd hmg hobj hints hlen hg) fun r s' hq => ?_)
  obtain ⟨rfl, h2, h3, h4⟩ := hq
  exact ⟨.inl ⟨.bool true, .bool true, [], rfl, fun _ => rfl, .bool true, post_true l _, fun _ => ⟨List.Pairwise.nil, fun _ hm => (nomatch hm)⟩⟩, h2, h3, h4⟩

section
variable {prog : Program} {w : World} {A : Around} {E : Value → Shared → Prop} {s : Shared} {K : Frag}

end
end Att

namespace L2
open PySem PySem.Spec PyProof.Rows

theorem vals_ints : ∀ {vs : List Value} {ns : List Int}, IntsAre vs ns → Vals (ns.map V.int) vs
  | _, _, .nil => .nil
  | _, _, .cons n t h => .cons ⟨t, rfl⟩ (vals_ints h)

def Only (H : Hp) : Prop := ∀ b, H b = none ∨ ∃ o xs, H b = some (.frz o (.lst xs))

theorem law_call {P : Program} {w : World} {K : PySem.W.Frag} {mg mb : Str → Option Value} {CX : CXT} {k : Nat} {fa a : Addr} {fd : FuncData} {x : Str} {sp : Sp} {s₁ : Shared} {vs : List Value} {ns : List Int}
    (KX : K.In s₁.heap) (hns : s₁.heap.Ns mainGlobals mg) (hb : s₁.heap.Ns builtinsNs mb) (hbb : ∀ x : Str, x ≠ "__name__" → mb x = bootBuiltins x) (hlim : s₁.heap.NoLimit) (hg : s₁.gens = #[])
    (ha : s₁.heap.get? a = some { cls := .type "list", data := .seq vs.toArray }) (hi : IntsAre vs ns) (hl : ns.length ≤ sizeLine) (hr : Room k callerA)
    (F : ∀ base : Heap, K.In base → base.Ns mainGlobals mg → FnOk P w K mg base CX k fa fd [x] sp) (hbind : ∀ (s : Shared) (u : Value), BindsTo s fd ⟨[u], []⟩ [(x, u)])
    (hsp : ∀ H : Hp, Only H → SqL K H a (ns.map V.int) → sp [.ref a] H (fun v _ => v = .bl true) fun _ _ _ => False)
    (hCX : ∀ H e s', CX [] H s₁ (fun _ _ _ => False) e s' → False) :
    codeAny (model P w) callerA (.call (.ref fa) ⟨[.ref a], []⟩) (fun r s' => r = .ok (.ret (.bool true)) ∧ OldK s₁.heap s'.heap ∧ s'.os = s₁.os ∧ AllBare s'.gens) s₁ := by
  have rv := vals_ints hi
  have lenV := hi.length
  -- from an abstract heap in which nothing but the script may be tracked
  have core : ∀ H : Hp, Only H → SqL K H a (ns.map V.int) → HOk P w H s₁.heap → (∀ b, H b ≠ none → b = a) → (H a ≠ none → K.lookup a = none) →
      codeAny (model P w) callerA (.call (.ref fa) ⟨[.ref a], []⟩) (fun r s' => r = .ok (.ret (.bool true)) ∧ OldK s₁.heap s'.heap ∧ s'.os = s₁.os ∧ AllBare s'.gens) s₁ := by
    intro H hO hS hok hA hK
    have base_of : ∀ {b : Addr} {o : Obj}, s₁.heap.get? b = some o → H b = none → (hidT s₁.heap H).get? b = some o := fun e n => hidT_get e n
    have noA : ∀ {b : Addr} {o : Obj} {es : Array DictEntry} {ep : Nat}, s₁.heap.get? b = some o → o.data = .dict es ep → H b = none := fun {b o es ep} e d => by
      cases q : H b with
      | none => rfl
      | some u =>
        have e' : b = a := hA b (by rw [q]; simp)
        subst e'
        rw [ha] at e; cases e
        have d' : Data.seq vs.toArray _ = Data.dict es ep := d
        cases d'
    have nsK : ∀ {b : Addr} {m : Str → Option Value}, s₁.heap.Ns b m → (hidT s₁.heap H).Ns b m := fun {b m} ⟨o, es, ep, e, d, r⟩ => ⟨o, es, ep, base_of e (noA e d), d, r⟩
    have hKb : K.In (hidT s₁.heap H) := fun b o e => base_of (KX b o e) (by
      cases q : H b with
      | none => rfl
      | some u =>
        have e' : b = a := hA b (by rw [q]; simp)
        subst e'
        rw [hK (by rw [q]; simp)] at e; cases e)
    have hM : Mod K mg (hidT s₁.heap H) := ⟨hKb, nsK hns, ⟨mb, nsK hb, hbb⟩, let ⟨mc, h1, h2⟩ := hlim; ⟨mc, nsK h1, h2⟩⟩
    have e0 : Env0 P w K mg (hidT s₁.heap H) callerA [] s₁ H := ⟨rfl, hM, fun b o e => of_hidT e, Nat.le_of_eq (hidT_size _ _), trivial, fun b hb => absurd (show b ∈ ([] : List Addr) from hb) (by simp), hok, .of_eq hg⟩
    refine codeAny_mono ((F _ hKb (nsK hns)).run callerA [] s₁ H ⟨[.ref a], []⟩ [.ref a] [.ref a] _ _ hr e0 (hbind s₁ (.ref a)) (.cons rfl .nil) (hsp H hO hS)) fun r s' h => ?_
    cases r with
    | error e => exact (hCX H e s' h).elim
    | ok fl =>
      cases fl with
      | next => exact False.elim h
      | brk => exact False.elim h
      | cont => exact False.elim h
      | ret u =>
        obtain ⟨v, H', os, bare, un, hok', r', q⟩ := h
        have q' : v = .bl true := q
        subst q'
        obtain rfl : u = Value.bool true := r'
        refine ⟨rfl, OldK.of_keep fun b o e => ?_, os, bare⟩
        cases q : H b with
        | none => exact un.keep b o e q (by intro z; exact absurd (show b ∈ ([] : List Addr) from z) (by simp)) (by simp)
        | some u =>
          rcases hO b with z | ⟨ob, xs, z⟩
          · rw [q] at z; cases z
          · have z2 := un.frzs b ob _ z
            obtain ⟨e1, _⟩ := hok b _ z
            obtain ⟨e2, _⟩ := hok' b _ z2
            rw [e] at e1; cases e1
            exact e2
  cases hk : K.lookup a with
  | some o =>
    -- the script is one of the module's own objects
    have e := KX a o hk
    rw [ha] at e
    cases e
    refine core (fun _ => none) (fun _ => .inl rfl) (.inr ⟨_, vs.toArray, _, hk, rfl, rfl, rfl, by rw [List.size_toArray, lenV]; exact hl, by simpa using rv⟩) (fun b u z => by have z' : (none : Option HO) = some u := z; cases z') (fun b z => absurd rfl z) fun z => absurd rfl z
  | none =>
    refine core (fun b => if b = a then some (.frz { cls := .type "list", data := .seq vs.toArray } (.lst (ns.map V.int))) else none) (fun b => ?_) (.inl (.inr ⟨{ cls := .type "list", data := .seq vs.toArray }, if_pos rfl⟩)) (fun b u z => ?_) (fun b z => ?_) fun _ => hk
    · by_cases hb : b = a
      · exact .inr ⟨_, _, if_pos hb⟩
      · exact .inl (if_neg hb)
    · by_cases hb : b = a
      · have z' := (if_pos hb).symm.trans z
        cases z'
        subst hb
        exact ⟨ha, by rw [List.length_map]; exact hl, vs, _, rv, ha⟩
      · have z' := (if_neg hb).symm.trans z
        cases z'
    · by_cases hb : b = a
      · exact hb
      · exact absurd (if_neg hb) z
end L2

namespace L2
open PySem PySem.Spec PyProof.Rows

theorem walk_of {l : PySem.W.OpenLaw} {n k : Nat} {q : Program} {loose : List Str} {XP : (Str → Option Value) → Heap → Prop} {YP : World → Heap → Prop} {d : DefRec} {K : Params → PySem.W.Frag} {CX : World → CXT} {sp : World → Sp} {x : Str}
    (hn : l.most = some n) (hn2 : n ≤ sizeLine) (hdf : d.params.defaults = []) (hr : Room k callerA)
    (hY : ∀ (w : World) (h : Heap), YP w h → (K w.params).In h)
    (F : ∀ (w : World) (mg : Str → Option Value) (fa : Addr) (h : Heap), (K w.params).In h → h.Ns mainGlobals mg → mg d.name = some (.ref fa) →
      ∃ fd : FuncData, (∀ (s : Shared) (u : Value), BindsTo s fd ⟨[u], []⟩ [(x, u)]) ∧
        ∀ base : Heap, (K w.params).In base → base.Ns mainGlobals mg → FnOk l.prog w (K w.params) mg base (CX w) k fa fd [x] (sp w))
    (hsp : ∀ (w : World) (H : Hp) (a : Addr) (ns : List Int), ns.length ≤ n → Only H → SqL (K w.params) H a (ns.map V.int) → sp w [.ref a] H (fun v _ => v = .bl true) fun _ _ _ => False)
    (hCX : ∀ (w : World) (H : Hp) (s : Shared) (e : Value) (s' : Shared), CX w [] H s (fun _ _ _ => False) e s' → False) :
    PySem.W.WalkO q loose XP YP l.row.toRowW d [] (fun f vs => PySem.call f vs) := by
  refine Att.attach_call hn hdf fun w s₀ s₁ mg mb fa o pm cd doc a vs ns G Y ho hd hcd hmg hobj hints hlen hg => ?_
  have KX := hY w _ Y
  obtain ⟨fd, hb, hF⟩ := F w mg fa _ KX G.T.g hmg
  exact law_call KX G.T.g G.T.b G.T.builtins G.T.nolimit hg hobj hints (Nat.le_trans hlen hn2) hr hF hb (fun H hO hS => hsp w H a ns hlen hO hS) fun H e s' => hCX w H s₁ e s'
end L2


namespace L2
open PySem PySem.Spec PyProof.Rows

def inClass (s : Stmt) (j : Nat) : Stmt := match s with
  | .ClassDef _ _ _ body _ _ _ _ _ _ _ => body.getD j (.Pass ⟨0, 0, 0, 0⟩)
  | _ => .Pass ⟨0, 0, 0, 0⟩
def defArgs (s : Stmt) : Arguments := match s with
  | .FunctionDef _ a _ _ _ _ _ _ _ _ => a
  | _ => { posonlyargs := [], args := [], vararg := none, kwonlyargs := [], kw_defaults := [], kwarg := none, defaults := [] }
def defBody (s : Stmt) : List Stmt := match s with
  | .FunctionDef _ _ b _ _ _ _ _ _ _ => b
  | _ => []
def defScope (s : Stmt) : Scope := match s with
  | .FunctionDef _ _ _ _ _ _ sc _ _ _ => sc
  | _ => { kind := .function, names := [], isGenerator := false, isCoroutine := false }

abbrev CX0 : CXT := fun _ _ _ _ _ _ => False
abbrev E0 : XK := fun _ _ _ => False
theorem pass0 {X : Cx} : Passes CX0 X E0 := fun _ _ _ _ _ _ _ h => h.elim

structure Fun (K : PySem.W.Frag) (x qual : Str) (st : Stmt) (f : Addr) (fd : FuncData) : Prop where
  ex : ∃ (oc : Value) (od : Option Addr) (kV doc pm : Value) (an : Option Addr) (cdv ct : Value) (osl : Array (Option Value)),
    fd = PySem.W.fnOf x qual (defArgs st) (defBody st) (defScope st) .none kV doc pm an cdv ct ∧ K.lookup f = some ⟨oc, od, .func fd, osl⟩ ∧ PySem.W.codeIn K cdv qual = true
  kp : PySem.W.keepIn K (.ref f) = true
section
variable {P : Program} {w : World} {K : PySem.W.Frag} {mg : Str → Option Value} {base : Heap}
theorem Fun.ok {x qual : Str} {st : Stmt} {f : Addr} {fd : FuncData} {N ps : List Str} {k : Nat} {sp : Sp} (F : Fun K x qual st f fd) (S : FnScope N ps (defScope st)) (len : ∀ vs H Q E, sp vs H Q E → vs.length = ps.length)
    (hbody : ∀ (cdv : Value) (A : Around) (outer : List Env) (s : Shared) (H : Hp) (vs : List V) (Q : VK) (E : XK), Room k (A.deeper (envOfC qual (defScope st) s.heap.objs.size f cdv)) → sp vs H Q E →
      ∃ t, PSs (cxOf CX0 P w K mg base N qual (defScope st) f cdv A outer s H E).nox (defBody st) t ∧ t { nx := fun _ H' => Q .non H', rt := Q } (start N vs) H) : FnOk P w K mg base CX0 (k + 1) f fd ps sp := by
  obtain ⟨oc, od, kV, doc, pm, an, cdv, ct, osl, rfl, lk, hcd⟩ := F.ex
  refine fn_of lk hcd S len fun A outer s H vs Q E hr hsp => ?_
  obtain ⟨t, h, q⟩ := hbody cdv A outer s H vs Q E hr hsp
  exact ⟨t, h.nox, q⟩
theorem Fun.binds {x qual : Str} {st : Stmt} {f : Addr} {fd : FuncData} {ps : List Str} (F : Fun K x qual st f fd)
    (h : ∀ (kV doc pm : Value) (an : Option Addr) (cdv ct : Value) (us : List Value), us.length = ps.length → bindArgs (PySem.W.fnOf x qual (defArgs st) (defBody st) (defScope st) .none kV doc pm an cdv ct) ⟨us, []⟩ = pure (ps.zip us)) : Binds K fd ps [] := by
  obtain ⟨oc, od, kV, doc, pm, an, cdv, ct, osl, rfl, lk, hcd⟩ := F.ex
  exact .all (h kV doc pm an cdv ct)
theorem fun_mk {x qual : Str} {st : Stmt} {f : Addr} {oc : Value} {od an : Option Addr} {osl : Array (Option Value)} {kV doc pm cdv ct : Value} (l : K.lookup f = some ⟨oc, od, .func (PySem.W.fnOf x qual (defArgs st) (defBody st) (defScope st) .none kV doc pm an cdv ct), osl⟩)
    (c : PySem.W.codeIn K cdv qual = true) (k : PySem.W.keepIn K (.ref f) = true) : Fun K x qual st f (PySem.W.fnOf x qual (defArgs st) (defBody st) (defScope st) .none kV doc pm an cdv ct) := ⟨⟨oc, od, kV, doc, pm, an, cdv, ct, osl, rfl, l, c⟩, k⟩
end
section
variable {X : Cx}
theorem pv (i : Nat) {x : Str} {pos : Pos} (hN : X.N[i]? = some x := by rfl) (hv : Vis X.env.scope x := by first | exact Or.inl rfl | exact Or.inr (Or.inl rfl) | exact Or.inr (Or.inr rfl)) (hd : (x == ("__debug__" : Str)) = false := by decide)
    (hcd : (x == ("__classdict__" : Str)) = false := by decide) : PE X (.Name x pos) (tVar i) := pe_var hN hv hd hcd
end

theorem iteF {A B : Prop} (h : B) : if false = true then A else B := by
  rw [if_neg Bool.false_ne_true]
  exact h
theorem iteT {A B : Prop} (h : A) : if true = true then A else B := by
  rw [if_pos rfl]
  exact h
theorem ite2 {c A B : Prop} [Decidable c] (h1 : c → A) (h2 : ¬ c → B) : if c then A else B := by
  by_cases h : c
  · rw [if_pos h]
    exact h1 h
  · rw [if_neg h]
    exact h2 h
def Same (H H' : Hp) : Prop := ∀ b o, H b = some o → H' b = some o
theorem Same.refl (H : Hp) : Same H H := fun _ _ h => h
theorem Same.trans {H H1 H2 : Hp} (a : Same H H1) (b : Same H1 H2) : Same H H2 := fun c o h => b c o (a c o h)
theorem Same.free {H H' : Hp} (e : Same H H') {l : Addr} (h : H' l = Option.none) : H l = Option.none := by
  cases q : H l with
  | none => rfl
  | some o =>
    rw [e l o q] at h
    cases h
theorem Same.seq {K : PySem.W.Frag} {H H' : Hp} {a : Addr} {xs : List V} (e : Same H H') (h : SqL K H a xs) : SqL K H' a xs := by
  rcases h with (h | ⟨o, h⟩) | h
  · exact .inl (.inl (e _ _ h))
  · exact .inl (.inr ⟨o, e _ _ h⟩)
  · exact .inr h

section
variable {κ : Type} [DecidableEq κ]
end
end L2


set_option Elab.async false
set_option linter.all false
set_option maxRecDepth 100000
set_option maxHeartbeats 4000000
namespace L2
open PySem PySem.Spec PyProof.Rows

theorem clos_aux (env : Env) : ∀ (l : List (Str × NameKind)) (cs : List (Str × Addr)), (∀ n, (n, NameKind.free) ∈ l → ∃ c, env.cells.lookup n = some c) → (∀ x c, cs.lookup x = some c → env.cells.lookup x = some c) →
    ∃ cl, (forIn l cs fun x s => if (x.snd == NameKind.free) = true then do let c ← cellOf env x.fst; pure (ForInStep.yield ((x.fst, c) :: s)) else pure (ForInStep.yield s)) = (pure cl : Sem (List (Str × Addr))) ∧
      (∀ x c, cl.lookup x = some c → env.cells.lookup x = some c) ∧ (∀ n, (n, NameKind.free) ∈ l → ∃ c, cl.lookup n = some c) ∧ ∀ n c, cs.lookup n = some c → ∃ c', cl.lookup n = some c'
  | [], cs, _, h => ⟨cs, rfl, h, (fun _ z => nomatch z), (fun n c e => ⟨c, e⟩)⟩
  | (n, k) :: r, cs, hf, h => by
    by_cases hk : k = .free
    · subst hk
      obtain ⟨c, hc⟩ := hf n List.mem_cons_self
      have e : cellOf env n = pure c := by unfold cellOf; rw [hc]
      obtain ⟨cl, e1, h1, h2, h3⟩ := clos_aux env r ((n, c) :: cs) (fun m hm => hf m (List.mem_cons_of_mem _ hm)) (fun x c' q => by
        rw [List.lookup_cons] at q
        by_cases hx : x = n
        · subst hx; simp at q; subst q; exact hc
        · have : (x == n) = false := by simpa using hx
          rw [this] at q; exact h x c' q)
      refine ⟨cl, ?_, h1, fun m hm => ?_, fun m c' q => ?_⟩
      · rw [List.forIn_cons]
        show ((do let c ← cellOf env n; pure (ForInStep.yield ((n, c) :: cs))) >>= _) = _
        rw [e]
        exact e1
      · rcases List.mem_cons.mp hm with z | z
        · cases z; exact h3 n c (by simp)
        · exact h2 m z
      · by_cases hx : m = n
        · subst hx; exact h3 m c (by simp)
        · have : (m == n) = false := by simpa using hx
          exact h3 m c' (by rw [List.lookup_cons, this]; exact q)
    · have hb : (k == NameKind.free) = false := by simpa using hk
      obtain ⟨cl, e1, h1, h2, h3⟩ := clos_aux env r cs (fun m hm => hf m (List.mem_cons_of_mem _ hm)) h
      refine ⟨cl, ?_, h1, fun m hm => ?_, h3⟩
      · rw [List.forIn_cons]
        dsimp only
        rw [hb]
        exact e1
      · rcases List.mem_cons.mp hm with z | z
        · cases z; exact absurd rfl hk
        · exact h2 m z

theorem closureFor_of {scope : Scope} {env : Env} (h : ∀ n, (n, NameKind.free) ∈ scope.names → ∃ c, env.cells.lookup n = some c) :
    ∃ cl, closureFor scope env = pure cl ∧ (∀ x c, cl.lookup x = some c → env.cells.lookup x = some c) ∧ ∀ n, (n, NameKind.free) ∈ scope.names → ∃ c, cl.lookup n = some c := by
  obtain ⟨cl, e, h1, h2, _⟩ := clos_aux env scope.names [] h (fun _ _ z => by simp at z)
  refine ⟨cl, ?_, h1, h2⟩
  simp only [closureFor]
  rw [e]
  rfl

def compCx (X : Cx) (scope : Scope) (N' : List Str) (cl : List (Str × Addr)) (C : Addr) (s : Shared) (H : Hp) (fp : List Addr) (pins : List (Addr × Obj)) : Cx where
  prog := X.prog
  w := X.w
  K := X.K
  mg := X.mg
  base := X.base
  A := X.A
  N := N'
  s₀ := s
  H₀ := H
  env := compEnvC scope cl C X.env
  outer := X.stack
  stack := X.stack
  ex := fp
  calm := X.calm
  fn := fun _ => false
  pn := X.pn ++ pins
  xe := fun _ _ => False

structure CompScope (sc : Scope) (out : Scope) : Prop where
  kind : sc.kind = .function
  cell : ∀ y ∈ sc.names, y.2 ≠ .cell
  loc : ∀ y ∈ sc.names, y.2 = .local → sc.names.lookup y.1 = some .local
  free : ∀ y ∈ sc.names, y.2 = .free → out.names.lookup y.1 = some .cell ∨ out.names.lookup y.1 = some .free

def inSt (ρ : List (Option Nat)) (σ : St) : St := ρ.map fun o => match o with | some i => (σ[i]?).getD none | none => none
def SlotOk (sc : Scope) (env : Env) (N N' : List Str) (ρ : List (Option Nat)) : Prop :=
  ρ.length = N'.length ∧ ∀ (j i : Nat) (x : Str), ρ[j]? = some (some i) → N'[j]? = some x → N[i]? = some x ∧ Vis env.scope x ∧ (x, NameKind.free) ∈ sc.names

theorem lookup_relabel {names : List (Str × NameKind)} {env : Env} {x : Str} {k : NameKind} (h : (names.map fun (n, k) => if (k == NameKind.free && env.scope.kind == .function && env.kindOf n == some .cell) then (n, NameKind.cell) else (n, k)).lookup x = some k)
    (hk : k = .cell ∨ k = .free) (hc : ∀ y ∈ names, y.2 ≠ .cell) : (x, NameKind.free) ∈ names := by
  induction names with
  | nil => simp at h
  | cons p r ih =>
    obtain ⟨n, k'⟩ := p
    by_cases hx : x = n
    · subst hx
      have hk' : k' = .free := by
        by_cases hc' : (k' == NameKind.free && env.scope.kind == .function && env.kindOf x == some .cell) = true
        · simp only [Bool.and_eq_true, beq_iff_eq] at hc'
          exact hc'.1.1
        · simp only [List.map_cons] at h
          rw [if_neg hc'] at h
          simp at h
          subst h
          rcases hk with z | z
          · exact absurd z (hc (x, k') List.mem_cons_self)
          · exact z
      rw [hk']; exact List.mem_cons_self
    · have hb : (x == n) = false := by simpa using hx
      refine List.mem_cons_of_mem _ (ih ?_ fun y hy => hc y (List.mem_cons_of_mem _ hy))
      simp only [List.map_cons] at h
      by_cases hc' : (k' == NameKind.free && env.scope.kind == .function && env.kindOf n == some .cell) = true
      · rw [if_pos hc', List.lookup_cons, hb] at h; exact h
      · rw [if_neg hc', List.lookup_cons, hb] at h; exact h

theorem lookup_relabel_free : ∀ {names : List (Str × NameKind)} {env : Env} {x : Str}, (x, NameKind.free) ∈ names → (names.map fun (n, k) => if (k == NameKind.free && env.scope.kind == .function && env.kindOf n == some .cell) then (n, NameKind.cell) else (n, k)).lookup x = some .cell ∨
    (names.map fun (n, k) => if (k == NameKind.free && env.scope.kind == .function && env.kindOf n == some .cell) then (n, NameKind.cell) else (n, k)).lookup x = some .free ∨ names.lookup x ≠ some .free := by
  intro names env x hm
  by_cases hl : names.lookup x = some .free
  · induction names with
    | nil => simp at hl
    | cons p r ih =>
      obtain ⟨n, k'⟩ := p
      by_cases hx : x = n
      · subst hx
        simp at hl
        subst hl
        by_cases hc' : (NameKind.free == NameKind.free && env.scope.kind == .function && env.kindOf x == some .cell) = true
        · left; simp only [List.map_cons]; rw [if_pos hc']; simp
        · right; left; simp only [List.map_cons]; rw [if_neg hc']; simp
      · have hb : (x == n) = false := by simpa using hx
        rw [List.lookup_cons, hb] at hl
        have hm' : (x, NameKind.free) ∈ r := by
          rcases List.mem_cons.mp hm with z | z
          · cases z; exact absurd rfl hx
          · exact z
        have q := ih hm' hl
        simp only [List.map_cons]
        by_cases hc' : (k' == NameKind.free && env.scope.kind == .function && env.kindOf n == some .cell) = true
        · rw [if_pos hc', List.lookup_cons, hb, List.lookup_cons, hb]; exact q
        · rw [if_neg hc', List.lookup_cons, hb, List.lookup_cons, hb]; exact q
  · exact .inr (.inr hl)

section
variable {X : Cx} {pins : List (Addr × Obj)} {σ : St} {H : Hp} {s : Shared} {scope : Scope} {N' : List Str} {ρ : List (Option Nat)} {cl : List (Str × Addr)} {fp : List Addr} {C D : Addr}

theorem comp_ok (I : Inv X pins σ H s) (S : CompScope scope X.env.scope) (hf : ∀ b ∈ fp, FpOk X pins H b) (h1 : ∀ x c, cl.lookup x = some c → X.env.cells.lookup x = some c) (h2 : ∀ n, (n, NameKind.free) ∈ scope.names → ∃ c, cl.lookup n = some c)
    (hC : s.heap.objs.size ≤ C) (hfs : ∀ b ∈ fp, b < s.heap.objs.size) : (compCx X scope N' cl C s H fp pins).Ok where
  mod := I.ok.mod
  kind := S.kind
  glob := I.ok.glob
  blt := I.ok.blt
  above := hC
  inj := fun x y c e1 e2 => I.ok.inj x y c (h1 x c e1) (h1 y c e2)
  has := fun x hk => h2 x (by
    rcases hk with hk | hk
    · exact lookup_relabel (env := X.env) hk (.inl rfl) S.cell
    · exact lookup_relabel (env := X.env) hk (.inr rfl) S.cell)
  cab := fun _ _ z => nomatch z
  hd := I.ok.hd
  frames := I.ok.frames
  stk := .inl rfl
  exf := fun b hb => ⟨Nat.ne_of_lt (Nat.lt_of_lt_of_le (hfs b hb) hC), fun x c e => (hf b hb).2.2.2.2.1 x c (h1 x c e)⟩
  bs := I.bs
  bsz := Nat.le_trans I.ok.bsz I.sz
  noex := fun b o e hb => by
    rcases (hf b hb).2.2.2.1 with z | z
    · exact I.ok.noex b o e z
    · exact absurd (Nat.lt_of_lt_of_le (Nat.lt_of_lt_of_le (Heap.lt_size e) I.ok.bsz) z) (Nat.lt_irrefl _)
  exfs := fun b hb z => by
    rcases List.mem_cons.mp (I.stkSub b z) with q | q
    · exact (hf b hb).2.1 q
    · exact (hf b hb).2.2.1 q
  funs := I.stack
  frf := I.stkFree

theorem comp_start {h₁ : Heap} {tk : Nat} (I : Inv X pins σ H s) (S : CompScope scope X.env.scope) (hρ : SlotOk scope X.env X.N N' ρ) (hf : ∀ b ∈ fp, FpOk X pins H b) (h1 : ∀ x c, cl.lookup x = some c → X.env.cells.lookup x = some c)
    (h2 : ∀ n, (n, NameKind.free) ∈ scope.names → ∃ c, cl.lookup n = some c) (hC : s.heap.objs.size ≤ C) (hfs : ∀ b ∈ fp, b < s.heap.objs.size) (hn : h₁.Ns C (fun _ => none)) (hk : ∀ b o, s.heap.get? b = some o → h₁.get? b = some o)
    (hl : ∀ x, (x, NameKind.free) ∈ scope.names → scope.names.lookup x = some .free) :
    Inv (compCx X scope N' cl C s H fp pins) [] (inSt ρ σ) H { s with heap := h₁, toks := tk } where
  ok := comp_ok I S hf h1 h2 hC hfs
  os := rfl
  bare := I.bare
  base := Un.kept hk
  loc := by
    refine ⟨_, hn, fun j x v e1 e2 hv => ?_⟩
    obtain ⟨m, hm, hl'⟩ := I.loc
    unfold inSt at e2
    rw [List.getElem?_map] at e2
    cases hr : ρ[j]? with
    | none => rw [hr] at e2; simp at e2
    | some o =>
      cases o with
      | none => rw [hr] at e2; simp at e2
      | some i =>
        rw [hr] at e2
        obtain ⟨q1, q2, q3⟩ := hρ.2 j i x hr e1
        have e3 : σ[i]? = some (some v) := by
          cases hσ : σ[i]? with
          | none => simp [hσ] at e2
          | some z => simp [hσ] at e2; rw [e2]
        obtain ⟨u, r, lk⟩ := hl' i x v q1 e3 q2
        refine ⟨u, r, ?_⟩
        obtain ⟨c, hc⟩ := h2 x q3
        have hkind : (relabel scope X.env).names.lookup x = some .cell ∨ (relabel scope X.env).names.lookup x = some .free := by
          rcases lookup_relabel_free (env := X.env) q3 with z | z | z
          · exact .inl z
          · exact .inr z
          · exact absurd (hl x q3) z
        refine .inr ⟨hkind, c, hc, ?_⟩
        rcases lk with ⟨k, _⟩ | ⟨_, c', e', z⟩
        · rcases S.free (x, .free) q3 rfl with z | z
          · have k' : X.env.scope.names.lookup x = some .local := k
            rw [z] at k'; cases k'
          · have k' : X.env.scope.names.lookup x = some .local := k
            rw [z] at k'; cases k'
        · have := h1 x c hc
          rw [e'] at this; cases this
          obtain ⟨o, ho, hd⟩ := z
          exact ⟨o, hk _ _ ho, hd⟩
  cell := fun x c e => by
    obtain ⟨v, o, ho, hd⟩ := I.cell x c (h1 x c e)
    exact ⟨v, o, hk _ _ ho, hd⟩
  free := I.hok.fresh hC
  freeC := fun x c e => I.freeC x c (h1 x c e)
  pin := fun p hp => by
    have hp' : p ∈ X.pn ++ pins := by simpa [compCx] using hp
    obtain ⟨e, n, ne, nf, d⟩ := I.pin p hp'
    refine ⟨hk _ _ e, n, Nat.ne_of_lt (Nat.lt_of_lt_of_le (Heap.lt_size e) hC), fun z => ?_, d⟩
    rcases List.mem_cons.mp (I.stkSub p.1 z) with q | q
    · exact ne q
    · exact nf q
  hok := I.hok.kept hk
  len := by
    show (inSt ρ σ).length = N'.length
    unfold inSt
    rw [List.length_map]; exact hρ.1
end

theorem HOk.track {P : Program} {w : World} {H : Hp} {h : Heap} {D : Addr} {o : HO} (x : HOk P w H h) (n : H D = none) (new : ObjOk P w (upd H D o) h D o) : HOk P w (upd H D o) h := fun b u e => by
  by_cases hb : b = D
  · subst hb; rw [upd_same] at e; cases e; exact new
  · rw [upd_ne hb] at e
    exact (x b u e).stay (fun c v _ q => q) (fun c q => by rw [upd_ne (ne_of_none q n)]; exact q) fun c xs q => by rw [upd_ne (ne_of_none q n)]; exact q

section
variable {prog : Program} {w : World} {A : Around} {R : Result → Shared → Prop} {s : Shared}
theorem compLoop_gen {elt target iter : Expr} {ifs : List Expr} {scope : Scope} {pos : Pos} {it acc : Value} {env : Env} (I : Nat → Shared → Prop)
    (turn : ∀ n s, I n s → wpAny (model prog w) A (pyNext it) (fun r s₁ => match r with
      | none => R (.ok .next) s₁
      | some v => wpAny (model prog w) A (letOwnedTupleGo target it v) (fun _ s₁' => wpAny (model prog w) A (assign target env v) (fun _ s₂ =>
          wpAny (model prog w) A (forIn ifs true fun c r => if r = true then do let ok ← isTrue c env (eval c env); pure (ForInStep.yield ok) else pure (ForInStep.yield r)) (fun ok s₃ =>
            if ok = true then wpAny (model prog w) A (eval elt env) (fun x s₄ =>
              wpAny (model prog w) A (call (.builtin "list.append") [acc, x]) (fun _ s₅ => ∃ m, m < n ∧ I m s₅) (fun _ _ => False) s₄) (fun _ _ => False) s₃
            else ∃ m, m < n ∧ I m s₃) (fun _ _ => False) s₂) (fun _ _ => False) s₁') (fun _ _ => False) s₁) (fun _ _ => False) s)
    (n : Nat) (h : I n s) :
    codeAny (model prog w) A (.compLoop (.ListComp elt [⟨target, iter, ifs, 0⟩] scope pos) 0 it acc env) R s := by
  refine codeAny_loop rfl I (fun n s hI => ?_) n h
  show wpAny _ A ((compTurn (.ListComp elt [⟨target, iter, ifs, 0⟩] scope pos) 0 it acc env).onRaise (fun x => do noteFrame x env; theTreesLotGoes x)) _ _ s
  refine wpAny_noted ?_
  rw [compTurn_list]
  refine wpAny_bind (wpAny_standAt (wpAny_bind (wpAny_mono (turn n s hI) (fun r s₁ h₁ => ?_) fun _ _ h' => h'.elim)))
  cases r with
  | none => exact wpAny_pure h₁
  | some v =>
    refine wpAny_bind (wpAny_mono h₁ (fun _ s₁' h₁ => ?_) fun _ _ h' => h'.elim)
    refine wpAny_bind (wpAny_mono h₁ (fun _ s₂ h₂ => wpAny_bind (wpAny_mono h₂ (fun ok s₃ h₃ => ?_) fun _ _ h' => h'.elim)) fun _ _ h' => h'.elim)
    cases ok with
    | false => exact wpAny_pure ⟨rfl, h₃⟩
    | true =>
      exact wpAny_bind (wpAny_bind (wpAny_mono h₃ (fun x s₄ h₄ => wpAny_bind (wpAny_mono h₄ (fun _ s₅ h₅ => wpAny_pure (wpAny_pure ⟨rfl, h₅⟩)) fun _ _ h' => h'.elim)) fun _ _ h' => h'.elim))
end

def PTs (X : Cx) (ifs : List Expr) (t : TT) : Prop :=
  ∀ (pins : List (Addr × Obj)) (s : Shared) (σ : St) (H : Hp) (Q : Bool → Hp → Prop), Inv X pins σ H s → t σ H Q →
    wpAny (model X.prog X.w) X.A (forIn ifs true fun c r => if r = true then do let ok ← isTrue c X.env (eval c X.env); pure (ForInStep.yield ok) else pure (ForInStep.yield r)) (TP X pins σ Q) X.xe s
def tYes : TT := fun _ H Q => Q true H
theorem pts_nil {X : Cx} : PTs X [] tYes := fun _ _ _ H _ I h => wpAny_tests_nil ⟨H, I, h⟩
def Outs (ρ : List (Option Nat)) (σ σ2 : St) : Prop := σ2.length = ρ.length ∧ ∀ (j : Nat) v, (inSt ρ σ)[j]? = some (some v) → σ2[j]? = some (some v)
def CompW (ρ : List (Option Nat)) (g : TG) (tt : TT) (te : TE) (σ : St) (Q : VK) (J : It) (H1 : Hp) : Prop := ∃ W : Nat → Nat → List V → Hp → Prop, (∃ m, W 0 m [] H1) ∧ ∀ i m ys H', W i m ys H' →
  (J.stop i H' ∧ ys.length ≤ sizeLine ∧ ∀ p, H' p = none → Q (.ref p) (upd H' p (.lst ys))) ∨
  (J.go i H' ∧ ys.length < sizeLine ∧ ∃ N : List V → Hp → Prop, (∀ ys' H'', N ys' H'' → ∃ m', m' < m ∧ W (i + 1) m' ys' H'') ∧ ∀ x H2, J.yld i H' x H2 → g x (inSt ρ σ) H2 fun σ2 H3 => Outs ρ σ σ2 ∧ tt σ2 H3 fun ok H4 => if ok = true then te σ2 H4 fun v H5 => N (ys ++ [v]) H5 else N ys H4)
def tComp (ρ : List (Option Nat)) (wi : TI) (g : TG) (tt : TT) (te : TE) : TE := fun σ H Q => wi σ H fun J H1 => CompW ρ g tt te σ Q J H1

theorem comp_run {X : Cx} {elt iter tg : Expr} {ifs : List Expr} {scope : Scope} {pos : Pos} {N' : List Str} {ρ : List (Option Nat)} {wi : TI} {g : TG} {tt : TT} {te : TE} {cl : List (Str × Addr)} {RR : Value → Addr → Result → Shared → Prop} (hc : X.calm = true) (hi : PI X tg iter wi) (S : CompScope scope X.env.scope) (hρ : SlotOk scope X.env X.N N' ρ)
    (hl : ∀ x, (x, NameKind.free) ∈ scope.names → scope.names.lookup x = some .free)
    (inner : ∀ (cl : List (Str × Addr)) (C : Addr) (s : Shared) (H : Hp) (fp : List Addr) (pins : List (Addr × Obj)), PG (compCx X scope N' cl C s H fp pins) tg g ∧ PTs (compCx X scope N' cl C s H fp pins) ifs tt ∧ PE (compCx X scope N' cl C s H fp pins) elt te)
    {pins : List (Addr × Obj)} {s : Shared} {σ : St} {H : Hp} {Q : VK} (I : Inv X pins σ H s) (h : tComp ρ wi g tt te σ H Q)
    (h1 : ∀ x c, cl.lookup x = some c → X.env.cells.lookup x = some c) (h2 : ∀ n, (n, NameKind.free) ∈ scope.names → ∃ c, cl.lookup n = some c)
    (fin : ∀ D C s' H' m, Inv X pins σ H' s' → Q (.ref D) H' → s'.heap.Ns C m → FpOk X pins H' C → RR (.ref D) C (.ok .next) s') :
    wpAny (model X.prog X.w) X.A (eval iter X.env) (fun x s₁ => wpAny (model X.prog X.w) X.A (pyIter x) (fun it s₂ => wpAny (model X.prog X.w) X.A (newList []) (fun acc s₃ =>
      wpAny (model X.prog X.w) X.A (newFunctionEnv scope X.env.globals cl [] X.env.qual none .none (some X.env)) (fun cenv s₄ =>
        codeAny (model X.prog X.w) X.A (.compStart (.ListComp elt [⟨tg, iter, ifs, 0⟩] scope pos) 0 it acc { cenv with scope := relabel scope X.env }) (RR acc cenv.locals) s₄) X.xe s₃) X.xe s₂) X.xe s₁) X.xe s := by
  refine thn (hi pins s σ H _ I h) fun v s1 h1' => thn h1' fun itv s2 hx => ?_
  obtain ⟨it, fp, tn, J, H2, e, I2, T, st2, f2, W, ⟨m0, w0⟩, turn⟩ := hx
  subst e
  have hfs : ∀ b ∈ fp, b < s2.heap.objs.size := fun b hb => by
    obtain ⟨o, e, _⟩ := T.obj _ _ st2 b hb
    exact Heap.lt_size e
  refine wpAny_newObj_type (wpAny_newFunctionEnv S.cell (by intro y hy; simp at hy) (fun h₁ hns₁ hsb₁ => ?_) S.kind)
  dsimp only at hns₁ hsb₁ ⊢
  generalize hH2 : s2.heap.push { cls := .type "list", dict := none, data := .seq ([] : List Value).toArray } = G at hns₁ hsb₁ ⊢
  have hC : G.objs.size = s2.heap.objs.size + 1 := by rw [← hH2, Heap.size_push]
  have hDC : s2.heap.objs.size ≠ G.objs.size := by rw [hC]; exact Nat.ne_of_lt (Nat.lt_succ_self _)
  have hCle : s2.heap.objs.size ≤ G.objs.size := by rw [hC]; exact Nat.le_succ _
  have old : ∀ b o, s2.heap.get? b = some o → h₁.get? b = some o := fun b o e => hsb₁.extBut b o (Nat.ne_of_lt (Nat.lt_of_lt_of_le (Heap.lt_size e) hCle)) (Heap.get?_push_of_some _ (hH2 ▸ Heap.get?_push_of_some _ e))
  have hacc : h₁.get? s2.heap.objs.size = some { cls := .type "list", dict := none, data := .seq ([] : List Value).toArray } := hsb₁.extBut _ _ hDC (Heap.get?_push_of_some _ (hH2 ▸ Heap.get?_push_size _ rfl))
  have hns₂ : h₁.Ns G.objs.size (fun _ => none) := hns₁
  generalize hXX : compCx X scope N' cl G.objs.size s2 H2 fp pins = XX at *
  have IN : ∀ (tk : Nat), Inv XX [] (inSt ρ σ) H2 { s2 with heap := h₁, toks := tk } := fun tk => hXX ▸ comp_start (N' := N') I2 S hρ f2 h1 h2 hCle hfs hns₂ old hl
  obtain ⟨pg, pt, pe⟩ := inner cl G.objs.size s2 H2 fp pins
  rw [hXX] at pg pt pe
  have eP : XX.prog = X.prog := by rw [← hXX]; rfl
  have eW : XX.w = X.w := by rw [← hXX]; rfl
  have eK : XX.K = X.K := by rw [← hXX]; rfl
  have eA : XX.A = X.A := by rw [← hXX]; rfl
  have eE : XX.env = compEnvC scope cl G.objs.size X.env := by rw [← hXX]; rfl
  have eL : XX.env.locals = G.objs.size := by rw [eE]; rfl
  have ec : XX.calm = true := by rw [← hXX]; exact hc
  have ex : XX.xe = fun _ _ => False := by rw [← hXX]; rfl
  have es0 : XX.s₀ = s2 := by rw [← hXX]; rfl
  have eex : XX.ex = fp := by rw [← hXX]; rfl
  have efs : XX.fs = frs X.stack := by rw [← hXX]; rfl
  have eH0 : XX.H₀ = H2 := by rw [← hXX]; rfl
  have epn : XX.pn = X.pn ++ pins := by rw [← hXX]; rfl
  have ecl : XX.env.cells = cl := by rw [eE]; rfl
  -- what stays true of the iterator's records
  have stat : ∀ {H' : Hp} {ps : List (Addr × Obj)}, (∀ b ∈ fp, H' b = none) → (∀ p ∈ ps, p.1 = s2.heap.objs.size) → ∀ b ∈ fp, FpOk XX ps H' b := fun {H' ps} hn hp b hb => by
    refine ⟨hn b hb, ?_, ?_, ?_, ?_, ?_⟩
    · rw [eL]; exact Nat.ne_of_lt (Nat.lt_of_lt_of_le (hfs b hb) hCle)
    · rw [efs]
      intro z
      rcases List.mem_cons.mp (I2.stkSub b z) with q | q
      · exact (f2 b hb).2.1 q
      · exact (f2 b hb).2.2.1 q
    · rw [eex]; exact .inl hb
    · rw [ecl]; exact fun x c e => (f2 b hb).2.2.2.2.1 x c (h1 x c e)
    · intro p hp' z
      rw [epn] at hp'
      rcases List.mem_append.mp hp' with q | q
      · exact (f2 b hb).2.2.2.2.2 p q z
      · rw [hp p q] at z
        exact absurd (hfs b hb) (by rw [z]; exact Nat.lt_irrefl _)
  have nofsD : s2.heap.objs.size ∉ XX.fs := by
    rw [efs]; intro z
    rcases List.mem_cons.mp (I2.stkSub _ z) with q | q
    · exact absurd I2.lt (by rw [← q]; exact Nat.lt_irrefl _)
    · exact I2.nofs (Nat.le_refl _) q
  have pinD : ∀ {σ' : St} {H' : Hp} {s' : Shared} {its : List Value} {n : Nat}, Inv XX [] σ' H' s' → H' s2.heap.objs.size = none → s'.heap.get? s2.heap.objs.size = some { cls := .type "list", data := .seq its.toArray n } →
      Inv XX [(s2.heap.objs.size, { cls := .type "list", data := .seq its.toArray n })] σ' H' s' := fun {σ' H' s' its n} I' hn ho => I'.pins_of fun p hp => by
    have e : p = (s2.heap.objs.size, { cls := .type "list", data := .seq its.toArray n }) := by simpa using hp
    subst e
    refine ⟨ho, hn, by rw [eL]; exact hDC, nofsD, fun v z => ?_⟩
    have z' : Data.seq its.toArray n = Data.cell v := z
    cases z'
  have loop : ∀ s₃ : Shared, (∃ tk, s₃ = { s2 with heap := h₁, toks := tk }) →
      codeAny (model X.prog X.w) X.A (.compLoop (.ListComp elt [⟨tg, iter, ifs, 0⟩] scope pos) 0 (.ref it) (.ref s2.heap.objs.size) (compEnvC scope cl G.objs.size X.env)) (RR (.ref s2.heap.objs.size) G.objs.size) s₃ := by
    rintro s₃ ⟨tk, rfl⟩
    refine compLoop_gen (fun n s' => ∃ i ys its k H', Inv XX [] (inSt ρ σ) H' s' ∧ tn i s'.heap ∧ (∀ b ∈ fp, H' b = none) ∧ H' s2.heap.objs.size = none ∧ Vals ys its ∧
      s'.heap.get? s2.heap.objs.size = some { cls := .type "list", data := .seq its.toArray k } ∧ W i n ys H') ?_ m0
      ⟨0, [], [], 0, H2, IN tk, T.keep _ _ _ st2 fun b _ o e => old b o e, fun b hb => (f2 b hb).1, I2.hok.fresh (Nat.le_refl _), .nil, hacc, w0⟩
    rintro n s3 ⟨i, ys, its, k, H3, I3, st3, fr3, hD3, rv, ho3, w3⟩
    rcases turn i n ys H3 w3 with ⟨stop, hz, qn⟩ | ⟨go, hz, N, hN, step⟩
    · have I3p := pinD I3 hD3 ho3
      have q := T.done XX eP eW eK ec i _ s3 (inSt ρ σ) H3 (fun _ _ => False) I3p (stat fr3 (by simp)) st3 stop
      rw [eA] at q
      refine thn q fun r s4 ⟨hr, I4⟩ => ?_
      subst hr
      have ho4 := (I4.pin (s2.heap.objs.size, { cls := .type "list", data := .seq its.toArray k }) (by simp)).1
      obtain ⟨m, hm, _⟩ := I4.loc
      rw [eL] at hm
      have hun : Un (frs X.stack) fp H2 (upd H3 s2.heap.objs.size (.lst ys)) s2.heap s4.heap := by
        have u := I4.base
        rw [efs, eex, eH0, es0] at u
        refine ⟨u.keep, u.slot, fun b o e n hx => ?_, u.there, fun b xs e => ?_, fun b o xs e => ?_, fun b ps e => ?_⟩
        · rw [upd_ne (Nat.ne_of_lt (Heap.lt_size e))]; exact u.free b o e n hx
        · have q := u.tups b xs e
          rw [upd_ne (ne_of_none q hD3)]; exact q
        · have q := u.frzs b o xs e
          rw [upd_ne (ne_of_none q hD3)]; exact q
        · obtain ⟨more, q⟩ := u.tbls b ps e
          exact ⟨more, by rw [upd_ne (ne_of_none q hD3)]; exact q⟩
      have hok : HOk X.prog X.w (upd H3 s2.heap.objs.size (.lst ys)) s4.heap := by
        have q := I4.hok
        rw [eP, eW] at q
        exact q.track hD3 ⟨hz, its, k, rv, ho4⟩
      have hfr : ∀ b ∈ fp, (b ∈ X.ex ∨ X.s₀.heap.objs.size ≤ b) ∧ b ≠ X.env.locals ∧ (∀ x c, X.env.cells.lookup x = some c → c ≠ b) ∧ ∀ p ∈ X.pn ++ pins, p.1 ≠ b := fun b hb => ⟨(f2 b hb).2.2.2.1, (f2 b hb).2.1, (f2 b hb).2.2.2.2.1, (f2 b hb).2.2.2.2.2⟩
      have IO : Inv X pins σ (upd H3 s2.heap.objs.size (.lst ys)) s4 := I2.call' (by have := I4.os; rw [es0] at this; exact this) hun hok I4.bare hfr
      refine fin _ _ s4 _ m IO (qn _ hD3) hm (I2.fpOk hCle ?_)
      rw [upd_ne (Ne.symm hDC)]
      have := I4.free
      rw [eL] at this
      exact this
    · have I3p := pinD I3 hD3 ho3
      have q := T.item XX eP eW eK ec i _ s3 (inSt ρ σ) H3 (fun _ _ => False) I3p (stat fr3 (by simp)) st3 go
      rw [eA] at q
      refine thn q fun r s4 ⟨u, hr, h4⟩ => ?_
      subst hr
      refine thn h4 fun _ s5 ⟨x, H5, I5, r5, y5, st5, fr5⟩ => ?_
      have I5' := I5.pinned (stat fr5 (by simp)) (T.obj _ _ st5)
      have qa := pg _ s5 (inSt ρ σ) H5 x u _ I5' r5 (step x H5 y5)
      rw [eP, eW, eA, eE, ex] at qa
      refine thn qa fun _ s6 ⟨σ6, H6, I6, ⟨ou1, ou2⟩, q6⟩ => ?_
      have hw6 : (inSt ρ σ).length = σ6.length := by rw [ou1]; unfold inSt; rw [List.length_map]
      have qt := pt _ s6 σ6 H6 _ I6 q6
      rw [eP, eW, eA, eE, ex] at qt
      refine thn qt fun ok s7 ⟨H7, I7, q7⟩ => ?_
      have back : ∀ {s8 : Shared} {H8 : Hp}, Inv XX ([(s2.heap.objs.size, { cls := .type "list", data := .seq its.toArray k })] ++ pinsAt fp s5.heap) σ6 H8 s8 → tn (i + 1) s8.heap ∧ (∀ b ∈ fp, H8 b = none) ∧ H8 s2.heap.objs.size = none ∧
          s8.heap.get? s2.heap.objs.size = some { cls := .type "list", data := .seq its.toArray k } := fun {s8 H8} I8 => by
        refine ⟨T.keep _ _ _ st5 fun b hb o e => (I8.pin (b, o) (List.mem_append_right _ (List.mem_append_right _ (mem_pinsAt hb e)))).1, fun b hb => ?_, ?_, ?_⟩
        · obtain ⟨o, e, d⟩ := T.obj _ _ st5 b hb
          exact (I8.pin (b, o) (List.mem_append_right _ (List.mem_append_right _ (mem_pinsAt hb e)))).2.1
        · exact (I8.pin (s2.heap.objs.size, { cls := .type "list", data := .seq its.toArray k }) (by simp)).2.1
        · exact (I8.pin (s2.heap.objs.size, { cls := .type "list", data := .seq its.toArray k }) (by simp)).1
      cases ok with
      | false =>
        obtain ⟨m', hm, w7⟩ := hN _ _ q7
        obtain ⟨b1, b2, b3, b4⟩ := back I7
        exact ⟨m', hm, i + 1, ys, its, k, H7, (I7.pins_of (pins' := []) (fun _ z => nomatch z)).weak hw6 ou2, b1, b2, b3, rv, b4, w7⟩
      | true =>
        have qe := pe _ s7 σ6 H7 _ I7 q7
        rw [eP, eW, eA, eE, ex] at qe
        refine thn qe fun y s8 ⟨v8, H8, I8, r8, n8⟩ => ?_
        obtain ⟨m', hm, w8⟩ := hN _ _ n8
        obtain ⟨b1, b2, b3, b4⟩ := back I8
        have hlen := rv.length
        refine call_meets F.slot_list_append ⟨_, b4, rfl⟩ F.entry_list_append (F.args_list_append_2 _ _) (PySem.list_append s2.heap.objs.size its.toArray k y (by rw [List.size_toArray]; omega)) ⟨b4, ?_⟩
        have qL := PySem.IsL.update b4 (fun xs => xs.push y)
        have I8' : Inv XX [] σ6 H8 s8 := I8.pins_of (fun _ z => nomatch z)
        have I9 : Inv XX [] σ6 H8 { s8 with heap := s8.heap.update s2.heap.objs.size (Obj.mapSeq fun xs => xs.push y), toks := s8.toks } := I8'.turned (it := s2.heap.objs.size) (fun b o hb e => (Heap.get?_update_other s8.heap _ (Ne.symm hb)).trans e) b3
          (by rw [eL]; exact hDC) (.inr (by rw [es0]; exact Nat.le_refl _)) (by
            rw [ecl]; intro x c e z
            obtain ⟨v, qc⟩ := I2.cell x c (h1 x c e)
            exact absurd qc.lt (by rw [z]; exact Nat.lt_irrefl _)) (by
            intro p hp z
            have hp' : p ∈ X.pn ++ pins := by rw [epn] at hp; simpa using hp
            exact absurd (Heap.lt_size (I2.pin p hp').1) (by rw [z]; exact Nat.lt_irrefl _))
        have hnd : s2.heap.objs.size ∉ fp := fun z => Nat.lt_irrefl _ (hfs _ z)
        rw [show its.toArray.push y = (its ++ [y]).toArray by simp] at qL
        refine ⟨m', hm, i + 1, ys ++ [v8], its ++ [y], _, H8, I9.weak hw6 ou2, T.keep _ _ _ b1 fun b hb o e => (Heap.get?_update_other s8.heap _ (by rintro rfl; exact hnd hb)).trans e, b2, b3, rv.append (.cons r8 .nil), qL, w8⟩
  refine codeAny_compStart_list (loop _ ⟨_, rfl⟩) (T.self X.A 0 _ _ _ (T.keep _ _ _ st2 fun b _ o e => old b o e) (loop _ ⟨_, rfl⟩))
theorem pe_comp {X : Cx} {elt iter tg : Expr} {ifs : List Expr} {scope : Scope} {pos : Pos} (N' : List Str) (ρ : List (Option Nat)) {wi : TI} {g : TG} {tt : TT} {te : TE} (hc : X.calm = true) (hi : PI X tg iter wi) (S : CompScope scope X.env.scope) (hρ : SlotOk scope X.env X.N N' ρ)
    (hl : ∀ x, (x, NameKind.free) ∈ scope.names → scope.names.lookup x = some .free)
    (inner : ∀ (cl : List (Str × Addr)) (C : Addr) (s : Shared) (H : Hp) (fp : List Addr) (pins : List (Addr × Obj)), PG (compCx X scope N' cl C s H fp pins) tg g ∧ PTs (compCx X scope N' cl C s H fp pins) ifs tt ∧ PE (compCx X scope N' cl C s H fp pins) elt te)
    (hs : ∀ x, foldedSetIterable iter X.env x = pure x := by intro _; rfl) : PE X (.ListComp elt [⟨tg, iter, ifs, 0⟩] scope pos) (tComp ρ wi g tt te) := by
  intro pins s σ H Q I h
  obtain ⟨cl, hcl, h1, h2⟩ := closureFor_of (scope := scope) (env := X.env) (fun n hn => I.ok.has n (S.free (n, .free) hn rfl))
  rw [eval_ListComp]
  refine wpAny_comprehension_free (use := none) rfl hs hcl S.kind S.loc ?_
  refine comp_run (RR := fun acc C => compPost (model X.prog X.w) X.A X.xe none (EP X pins σ Q) acc C) hc hi S hρ hl inner I h h1 h2 ?_
  intro D C s' H' m I' q hm hf
  refine ⟨m, hm, fun h' sb => ⟨.ref D, H', ?_, rfl, q⟩⟩
  exact I'.turned (t' := s'.toks) (fun b o hb e => (sb.2 b hb).trans e) hf.1 hf.2.1 hf.2.2.2.1 hf.2.2.2.2.1 hf.2.2.2.2.2

theorem ps_setcomp {X : Cx} {elt iter tg : Expr} {ifs : List Expr} {scope : Scope} {pos pos' spos : Pos} {i : Nat} {x : Str} (N' : List Str) (ρ : List (Option Nat)) {wi : TI} {g : TG} {tt : TT} {te : TE} (hN : X.N.Nodup) (hix : X.N[i]? = some x) (hx : Loc X.env.scope x)
    (hc : X.calm = true) (hi : PI X tg iter wi) (S : CompScope scope X.env.scope) (hρ : SlotOk scope X.env X.N N' ρ)
    (hl : ∀ x, (x, NameKind.free) ∈ scope.names → scope.names.lookup x = some .free)
    (inner : ∀ (cl : List (Str × Addr)) (C : Addr) (s : Shared) (H : Hp) (fp : List Addr) (pins : List (Addr × Obj)), PG (compCx X scope N' cl C s H fp pins) tg g ∧ PTs (compCx X scope N' cl C s H fp pins) ifs tt ∧ PE (compCx X scope N' cl C s H fp pins) elt te)
    (hsw : swapsWith (.ListComp elt [⟨tg, iter, ifs, 0⟩] scope pos) (some (.Name x pos')) spos.line X.env = pure true := by rfl)
    (hs : ∀ x, foldedSetIterable iter X.env x = pure x := by intro _; rfl) (hf : X.fn x = true ∨ X.env.scope.names.lookup x = some .local := by first | exact .inl rfl | exact .inr rfl | assumption) :
    PS X (.Assign [.Name x pos'] (.ListComp elt [⟨tg, iter, ifs, 0⟩] scope pos) spos) (tAsg (tComp ρ wi g tt te) (gName i)) := by
  intro pins s σ H Dn I h
  obtain ⟨cl, hcl, h1, h2⟩ := closureFor_of (scope := scope) (env := X.env) (fun n hn => I.ok.has n (S.free (n, .free) hn rfl))
  rw [exec_Assign_Name_used _ _ _ _ hsw]
  refine wpAny_bind (wpAny_standAt (wpAny_bind ?_))
  show wpAny _ X.A (do let _ ← comprehension (.ListComp elt [⟨tg, iter, ifs, 0⟩] scope pos) scope X.env _ (newList []) false (eval iter X.env) (some (assign (.Name x pos') X.env))) _ _ s
  refine wpAny_bind (wpAny_mono (wpAny_comprehension_free (use := some (assign (.Name x pos') X.env)) (Q := fun _ s' => SP X pins Dn .next s') rfl hs hcl S.kind S.loc ?_) (fun _ s' hq => wpAny_pure (wpAny_pure hq)) fun _ _ e => e)
  refine comp_run (RR := fun acc C => compPost (model X.prog X.w) X.A X.xe (some (assign (.Name x pos') X.env)) (fun _ s' => SP X pins Dn .next s') acc C) hc hi S hρ hl inner I h h1 h2 ?_
  intro D C s' H' m I' q hm hfC
  obtain ⟨oC, es, ep, hoC, hr⟩ := id hm
  have pin : Inv X (pins ++ pinsAt [C] s'.heap) σ H' s' := I'.pinned (fun b hb => by
    have e : b = C := by simpa using hb
    subst e
    exact hfC) (fun b hb => by
    have e : b = C := by simpa using hb
    subst e
    exact ⟨oC, hoC, fun v z => by rw [hr.1] at z; cases z⟩)
  show wpAny _ X.A (assign (.Name x pos') X.env (.ref D)) _ _ _
  refine wpAny_assign_Name ?_
  refine store_ok (M := model X.prog X.w) (A := X.A) (E := X.xe) pin hN hix hx (v := .ref D) (u := .ref D) rfl (fun s'' I'' => ?_) hf
  have pC := (I''.pin (C, oC) (List.mem_append_right _ (List.mem_append_right _ (mem_pinsAt (by simp) hoC))))
  refine ⟨m, ⟨oC, es, ep, pC.1, hr⟩, fun h' sb => ⟨_, H', ?_, q⟩⟩
  have I2 : Inv X pins (σ.set i (some (.ref D))) H' s'' := I''.unpinned
  exact I2.turned (t' := s''.toks) (fun b o hb e => (sb.2 b hb).trans e) hfC.1 hfC.2.1 hfC.2.2.2.1 hfC.2.2.2.2.1 hfC.2.2.2.2.2

theorem inSt_cons (σ : St) (o : Option Nat) (ρ : List (Option Nat)) : inSt (o :: ρ) σ = (match o with | some i => (σ[i]?).getD none | none => none) :: inSt ρ σ := rfl
theorem outs1 {ρ : List (Option Nat)} {σ : St} (o : Option V) : Outs (none :: ρ) σ (o :: inSt ρ σ) := by
  refine ⟨by unfold inSt; simp, fun j v e => ?_⟩
  cases j with
  | zero => rw [inSt_cons] at e; simp at e
  | succ j => rw [inSt_cons] at e; simpa using e
theorem comp_by {J : It} {n : Nat} {X : Nat → V → Prop} {ρ : List (Option Nat)} {tt : TT} {te : TE} {σ : St} {H : Hp} {Q : VK} (Pv : Nat → List V → Hp → Prop) (h0 : Pv 0 [] H) (hlen : n ≤ sizeLine)
    (hy : ∀ i ys H, i ≤ n → Pv i ys H → ys.length ≤ i) (hgo : ∀ i ys H, i < n → Pv i ys H → J.go i H) (hyl : ∀ i ys H x H', i < n → Pv i ys H → J.yld i H x H' → H' = H ∧ X i x) (hst : ∀ ys H, Pv n ys H → J.stop n H)
    (hs : ∀ i x ys H, i < n → X i x → Pv i ys H → tt (some x :: inSt ρ σ) H fun ok H4 => if ok = true then te (some x :: inSt ρ σ) H4 fun v H5 => Pv (i + 1) (ys ++ [v]) H5 else Pv (i + 1) ys H4)
    (hd : ∀ ys H, Pv n ys H → ∀ p, H p = none → Q (.ref p) (upd H p (.lst ys))) :
    CompW (none :: ρ) (gName 0) tt te σ Q J H := by
  refine ⟨fun i m ys H => m = n - i ∧ i ≤ n ∧ Pv i ys H, ⟨n, by simp, Nat.zero_le _, h0⟩, ?_⟩
  rintro i m ys H ⟨rfl, hi, p⟩
  have hl := hy i ys H hi p
  by_cases hlt : i < n
  · refine .inr ⟨hgo i ys H hlt p, by omega, Pv (i + 1), fun ys' H'' p' => ⟨n - (i + 1), by omega, rfl, hlt, p'⟩, fun x H' y => ?_⟩
    obtain ⟨e, y2⟩ := hyl i ys H x H' hlt p y
    subst e
    exact ⟨outs1 _, hs i x ys _ hlt y2 p⟩
  · have e : i = n := by omega
    subst e
    exact .inl ⟨hst ys H p, by omega, hd ys H p⟩
theorem comp_list {K : PySem.W.Frag} {a : Addr} {xs : List V} {ρ : List (Option Nat)} {tt : TT} {te : TE} {σ : St} {H : Hp} {Q : VK} (Pv : Nat → List V → Hp → Prop) (h0 : Pv 0 [] H) (hlen : xs.length ≤ sizeLine) (hl : ∀ i ys H, i ≤ xs.length → Pv i ys H → SqL K H a xs ∧ ys.length ≤ i)
    (hs : ∀ i x ys H, xs[i]? = some x → Pv i ys H → tt (some x :: inSt ρ σ) H fun ok H4 => if ok = true then te (some x :: inSt ρ σ) H4 fun v H5 => Pv (i + 1) (ys ++ [v]) H5 else Pv (i + 1) ys H4)
    (hd : ∀ ys H, Pv xs.length ys H → ∀ p, H p = none → Q (.ref p) (upd H p (.lst ys))) :
    CompW (none :: ρ) (gName 0) tt te σ Q (Itl K a) H :=
  comp_by (n := xs.length) (X := fun i x => xs[i]? = some x) Pv h0 hlen (fun i ys H hi p => (hl i ys H hi p).2) (fun i ys H hi p => ⟨xs, xs[i], (hl i ys H (Nat.le_of_lt hi) p).1, by simp [hi]⟩) (fun i ys H x H' hi p y => ⟨y.1, y.2 xs (hl i ys H (Nat.le_of_lt hi) p).1⟩)
    (fun ys H p => ⟨xs, (hl _ ys H (Nat.le_refl _) p).1, Nat.le_refl _⟩) (fun i x ys H _ e p => hs i x ys H e p) hd
theorem comp_range {lo : Int} {n : Nat} {ρ : List (Option Nat)} {tt : TT} {te : TE} {σ : St} {H : Hp} {Q : VK} (Pv : Nat → List V → Hp → Prop) (h0 : Pv 0 [] H) (hlen : n ≤ sizeLine) (hl : ∀ i ys H, i ≤ n → Pv i ys H → ys.length ≤ i)
    (hs : ∀ i ys H, i < n → Pv i ys H → tt (some (.int (lo + i)) :: inSt ρ σ) H fun ok H4 => if ok = true then te (some (.int (lo + i)) :: inSt ρ σ) H4 fun v H5 => Pv (i + 1) (ys ++ [v]) H5 else Pv (i + 1) ys H4)
    (hd : ∀ ys H, Pv n ys H → ∀ p, H p = none → Q (.ref p) (upd H p (.lst ys))) :
    CompW (none :: ρ) (gName 0) tt te σ Q (Itr lo n) H :=
  comp_by (n := n) (X := fun i x => x = .int (lo + i)) Pv h0 hlen hl (fun i ys H hi p => hi) (fun i ys H x H' hi p y => y) (fun ys H p => Nat.le_refl _) (fun i x ys H hi e p => by subst e; exact hs i ys H hi p) hd
end L2

set_option Elab.async false
set_option linter.all false
set_option maxRecDepth 100000
set_option maxHeartbeats 4000000
namespace L2
open PySem PySem.Spec PyProof.Rows

abbrev cds (x : Str) : List Nat := x.cps.toList
theorem cds_len (x : Str) : (cds x).length = x.length := by simp [cds, Str.length]
theorem cds_ext {x y : Str} (h : cds x = cds y) : x = y := StrLaws.mk_of_toList (x := x) h ▸ (StrLaws.mk_of_toList (x := y) rfl).symm
theorem cds_app (x y : Str) : cds (x ++ y) = cds x ++ cds y := by simp [cds, Str.cps_append]
theorem cds_mk (l : List Nat) : cds ⟨l.toArray⟩ = l := by simp [cds]
def sOf (l : List Nat) : Str := ⟨l.toArray⟩
theorem cds_sOf (l : List Nat) : cds (sOf l) = l := by simp [cds, sOf]
theorem sOf_cds (x : Str) : sOf (cds x) = x := cds_ext (cds_sOf _)

def cutC {α : Type} (xs : List α) (lo hi : Option Int) : List α := (xs.drop (HT.sIx xs.length 0 lo)).take (HT.sIx xs.length xs.length hi - HT.sIx xs.length 0 lo)
theorem clip_str (n : Nat) (i : Int) (k : Nat) : max 0 (min (if i < 0 then i + (n : Int) else i) (n : Int)) = ((HT.sIx n k (some i) : Nat) : Int) := by
  unfold HT.sIx
  dsimp only
  split <;> omega
theorem slice_ix (lo hi : Option Int) (n : Nat) : Builtin.Str.strSliceIndices lo hi 1 n = (List.range (HT.sIx n n hi - HT.sIx n 0 lo)).map (fun k => HT.sIx n 0 lo + k) := by
  have e : Builtin.Str.strSliceIndices lo hi 1 n = sliceRange ((HT.sIx n 0 lo : Nat) : Int) ((HT.sIx n n hi : Nat) : Int) 1 := by
    unfold Builtin.Str.strSliceIndices
    simp only [show ((1 : Int) > 0) = True by simp, if_true]
    congr 1
    · cases lo with
      | none => rfl
      | some i => exact clip_str n i 0
    · cases hi with
      | none => rfl
      | some i => exact clip_str n i n
  rw [e]
  unfold sliceRange
  simp only [show ((1 : Int) > 0) = True by simp, if_true]
  generalize HT.sIx n 0 lo = a
  generalize HT.sIx n n hi = b
  by_cases h : (a : Int) < b
  · rw [if_pos h, show (((b : Int) - a + 1 - 1) / 1).toNat = b - a by simp <;> omega]
    refine List.map_congr_left fun k _ => ?_
    omega
  · rw [if_neg h, show b - a = 0 by omega]
    rfl
theorem cds_slice (x : Str) (lo hi : Option Int) : cds (Txt.slice x lo hi) = cutC (cds x) lo hi := by
  unfold Txt.slice cutC
  have hl := cds_len x
  rw [hl, slice_ix]
  have b1 := HT.sIx_le x.length 0 (Nat.zero_le _) lo
  have b2 := HT.sIx_le x.length x.length (Nat.le_refl _) hi
  generalize HT.sIx x.length 0 lo = a at *
  generalize HT.sIx x.length x.length hi = b at *
  split
  · rename_i h
    have hb : b - a = x.length := by simpa using h
    have ha : a = 0 := by omega
    subst ha
    rw [List.drop_zero, hb, ← hl, List.take_length]
  · by_cases hab : a ≤ b
    · have q := StrLaws.picks (cds x) (b - a) a (by omega)
      have q2 : (List.filterMap (fun x_1 => x.cps[x_1]?) (List.map (fun k => a + k) (List.range (b - a)))) = List.filterMap (fun x_1 => (cds x)[x_1]?) (List.map (fun k => a + k) (List.range (b - a))) := by
        simp [cds]
      rw [cds_mk, q2, q]
    · rw [show b - a = 0 by omega]
      simp [cds]
section
variable {X : Cx}
def rSlS : V → Option Int → Option Int → Hp → VK → Prop := fun x lo hi H Q => ∃ z, x = .str z ∧ z.length ≤ sizeLine ∧ Q (.str (sOf (cutC (cds z) lo hi))) H
theorem sl_str : SlR X rSlS := by
  intro pins s σ H x v vl vu lo hi sl Q I rx hs pl pu h
  obtain ⟨z, rfl, hz, q⟩ := h
  obtain ⟨t, rfl⟩ := rx
  rw [← cds_slice, sOf_cds] at q
  refine ⟨"str", _, F.slot_str_getitem.lookup, typeIs_str _ _ _, ?_⟩
  have go : ∀ (l u : Option (Int × Tok)), l.map (·.1) = lo → u.map (·.1) = hi → s.heap.IsSlice sl l u none → wpAny (model X.prog X.w) X.A (getItem (.str z t) (.ref sl)) (EP X pins σ Q) X.xe s := fun l u e1 e2 hS => by
    subst e1 e2
    exact wpAny_getItem_str_slice hS rfl (post_val_or_str ⟨Nat.le_trans (Txt.slice_le z _ _) hz, fun t' k => ⟨.str _, H, I.tok _, ⟨_, rfl⟩, q⟩⟩)
  cases pl with
  | none =>
    cases pu with
    | none => exact go none none rfl rfl hs
    | int j u => exact go none (some (j, u)) rfl rfl hs
  | int i t' =>
    cases pu with
    | none => exact go (some (i, t')) none rfl rfl hs
    | int j u => exact go (some (i, t')) (some (j, u)) rfl rfl hs

def rJoin (K : PySem.W.Frag) : V → List V → Hp → VK → Prop := fun x xs H Q => ∃ z p ys, x = .str z ∧ xs = [.ref p] ∧ (SqL K H p (ys.map V.str) ∨ SqT K H p (ys.map V.str)) ∧ (ys.map (·.length)).sum + ys.length * z.length ≤ 16777216 ∧ Q (.str (Txt.join z ys)) H
theorem strsAre_of : ∀ {ys : List Str} {us : List Value}, Vals (ys.map V.str) us → StrsAre us ys
  | [], _, .nil => .nil
  | y :: ys, _, .cons r t => by
    obtain ⟨k, rfl⟩ := r
    exact .cons y k (strsAre_of t)
theorem mt_join : MtR X "str.join" (rJoin X.K) := by
  intro pins s σ H x xs v us Q I rx rv h
  obtain ⟨z, p, ys, rfl, rfl, hq, hz, q⟩ := h
  obtain ⟨t, rfl⟩ := rx
  obtain ⟨u, rfl, ru⟩ := rv.one
  cases ru
  rcases hq with hq | hq
  · obtain ⟨its, r, pl, _⟩ := I.list hq
    exact join_list pl.isList (by simpa using strsAre_of r) hz fun t' k => ⟨.str _, H, I.tok _, ⟨_, rfl⟩, q⟩
  · obtain ⟨its, r, pl, _⟩ := I.tuple hq
    exact join_tuple pl (by simpa using strsAre_of r) hz fun t' k => ⟨.str _, H, I.tok _, ⟨_, rfl⟩, q⟩
end

section
variable {X : Cx}
def clsV : V → Option Value
  | .ty n => some (.type n)
  | .ref a => some (.ref a)
  | _ => none
theorem call_isi : CallR X (.builtin "isinstance") (fun xs H Q => ∃ x c t cv b, xs = [x, c] ∧ clsV c = some cv ∧ TyOf X.K H x t ∧ PySem.W.kitOne X.K t cv = some b ∧ Q (.bl b) H) := by
  intro pins s σ H xs us Q I r h
  obtain ⟨x, c, t, cv, b, rfl, rc, ty, e, q⟩ := h
  obtain ⟨u, w', rfl, rx, rw'⟩ := r.two
  have : w' = cv := by
    cases c with
    | ref a => cases rc; exact rw'
    | ty a => cases rc; exact rw'
    | _ => cases rc
  subst this
  exact isinst_ok I rx ty e fun tk => ⟨.bl b, H, I.tok _, rfl, q⟩
end
end L2

set_option Elab.async false
set_option linter.all false
set_option maxRecDepth 100000
set_option maxHeartbeats 4000000
namespace L2
open PySem PySem.Spec PyProof.Rows

def compB (sc out : Scope) (N N' : List Str) (ρ : List (Option Nat)) : Bool :=
  decide (sc.kind = .function) && sc.names.all (fun y => decide (y.2 ≠ .cell)) && sc.names.all (fun y => decide (y.2 = .local → sc.names.lookup y.1 = some .local)) &&
  sc.names.all (fun y => decide (y.2 = .free → sc.names.lookup y.1 = some .free ∧ (out.names.lookup y.1 = some .cell ∨ out.names.lookup y.1 = some .free))) &&
  decide (ρ.length = N'.length) && decide N'.Nodup &&
  (ρ.zip N').all (fun p => match p.1 with | none => true | some i => decide (N[i]? = some p.2) && decide (out.names.lookup p.2 = some .local ∨ out.names.lookup p.2 = some .cell ∨ out.names.lookup p.2 = some .free) && sc.names.any (fun y => decide (y = (p.2, NameKind.free))))
structure CompF (sc : Scope) (env : Env) (N N' : List Str) (ρ : List (Option Nat)) : Prop where
  S : CompScope sc env.scope
  sl : SlotOk sc env N N' ρ
  hl : ∀ x, (x, NameKind.free) ∈ sc.names → sc.names.lookup x = some .free
  nd : N'.Nodup
theorem compF_of {sc : Scope} {env : Env} {N N' : List Str} {ρ : List (Option Nat)} (h : compB sc env.scope N N' ρ = true) : CompF sc env N N' ρ := by
  unfold compB at h
  simp only [Bool.and_eq_true, decide_eq_true_eq, List.all_eq_true] at h
  obtain ⟨⟨⟨⟨⟨⟨h1, h2⟩, h3⟩, h4⟩, h5⟩, h6⟩, h7⟩ := h
  refine ⟨⟨h1, h2, h3, fun y hy e => (h4 y hy e).2⟩, ⟨h5, fun j i x e1 e2 => ?_⟩, fun x hx => (h4 _ hx rfl).1, h6⟩
  have hm : (some i, x) ∈ ρ.zip N' := by
    refine List.mem_of_getElem? (i := j) ?_
    rw [List.getElem?_zip_eq_some]
    exact ⟨e1, e2⟩
  have q := h7 _ hm
  simp only [Bool.and_eq_true, decide_eq_true_eq, List.any_eq_true] at q
  obtain ⟨⟨q1, q2⟩, y, hy, e⟩ := q
  exact ⟨q1, q2, e ▸ hy⟩

theorem pe_compB {X : Cx} {elt iter tg : Expr} {ifs : List Expr} {scope : Scope} {pos : Pos} (N' : List Str) (ρ : List (Option Nat)) {wi : TI} {g : TG} {tt : TT} {te : TE} (hc : X.calm = true) (hi : PI X tg iter wi) (h : compB scope X.env.scope X.N N' ρ = true)
    (inner : ∀ (cl : List (Str × Addr)) (C : Addr) (s : Shared) (H : Hp) (fp : List Addr) (pins : List (Addr × Obj)), PG (compCx X scope N' cl C s H fp pins) tg g ∧ PTs (compCx X scope N' cl C s H fp pins) ifs tt ∧ PE (compCx X scope N' cl C s H fp pins) elt te)
    (hs : ∀ x, foldedSetIterable iter X.env x = pure x := by intro _; rfl) : PE X (.ListComp elt [⟨tg, iter, ifs, 0⟩] scope pos) (tComp ρ wi g tt te) :=
  have F := compF_of h
  pe_comp N' ρ hc hi F.S F.sl F.hl inner hs
theorem ps_setcompB {X : Cx} {elt iter tg : Expr} {ifs : List Expr} {scope : Scope} {pos pos' spos : Pos} {i : Nat} {x : Str} (N' : List Str) (ρ : List (Option Nat)) {wi : TI} {g : TG} {tt : TT} {te : TE} (hN : X.N.Nodup) (hix : X.N[i]? = some x) (hx : Loc X.env.scope x)
    (hc : X.calm = true) (hi : PI X tg iter wi) (h : compB scope X.env.scope X.N N' ρ = true)
    (inner : ∀ (cl : List (Str × Addr)) (C : Addr) (s : Shared) (H : Hp) (fp : List Addr) (pins : List (Addr × Obj)), PG (compCx X scope N' cl C s H fp pins) tg g ∧ PTs (compCx X scope N' cl C s H fp pins) ifs tt ∧ PE (compCx X scope N' cl C s H fp pins) elt te)
    (hsw : swapsWith (.ListComp elt [⟨tg, iter, ifs, 0⟩] scope pos) (some (.Name x pos')) spos.line X.env = pure true := by rfl)
    (hs : ∀ x, foldedSetIterable iter X.env x = pure x := by intro _; rfl) (hf : X.fn x = true ∨ X.env.scope.names.lookup x = some .local := by first | exact .inl rfl | exact .inr rfl | assumption) :
    PS X (.Assign [.Name x pos'] (.ListComp elt [⟨tg, iter, ifs, 0⟩] scope pos) spos) (tAsg (tComp ρ wi g tt te) (gName i)) :=
  have F := compF_of h
  ps_setcomp N' ρ hN hix hx hc hi F.S F.sl F.hl inner hsw hs hf

def spLaw (K : PySem.W.Frag) : Sp := fun vs H Q _ => ∃ (a : Addr) (ns : List Int), vs = [.ref a] ∧ SqL K H a (ns.map V.int) ∧ ns.length ≤ 63 ∧ Only H ∧ ∀ H', Q (.bl true) H'
theorem law_walk {l : PySem.W.OpenLaw} {q : Program} {loose : List Str} {XP : (Str → Option Value) → Heap → Prop} {YP : World → Heap → Prop} {d : DefRec} {K : Params → PySem.W.Frag} {x : Str} (k : Nat) (hk : k ≤ 200) (hn : l.most = some 63) (hdf : d.params.defaults = [])
    (hY : ∀ (w : World) (h : Heap), YP w h → (K w.params).In h)
    (F : ∀ (w : World) (mg : Str → Option Value) (fa : Addr) (h : Heap), (K w.params).In h → h.Ns mainGlobals mg → mg d.name = some (.ref fa) →
      ∃ fd : FuncData, (∀ (s : Shared) (u : Value), BindsTo s fd ⟨[u], []⟩ [(x, u)]) ∧ ∀ base : Heap, (K w.params).In base → base.Ns mainGlobals mg → FnOk l.prog w (K w.params) mg base CX0 k fa fd [x] (spLaw (K w.params))) :
    PySem.W.WalkO q loose XP YP l.row.toRowW d [] (fun f vs => PySem.call f vs) :=
  L2.walk_of (n := 63) (k := k) (x := x) (CX := fun _ => CX0) (sp := fun w => spLaw (K w.params)) hn (by decide) hdf
    ⟨rfl, by have : callerA.depth + 605 < recursionLimit := by decide
             omega, by have : callerA.units + 3400 < cLine := by decide
                       omega⟩ hY F (fun _ H a ns hl hO hS => ⟨a, ns, rfl, hS, hl, hO, fun _ => rfl⟩) fun _ _ _ _ _ z => z
end L2
namespace L2
open PySem
def mkSc (l : List (Str × NameKind)) : Scope := { kind := .function, names := l, isGenerator := false, isCoroutine := false, more := [] }
end L2

namespace L2
open PySem
theorem bt_len : bootBuiltins "len" = some (.builtin "len") := by decide +kernel
theorem bt_isinstance : bootBuiltins "isinstance" = some (.builtin "isinstance") := by decide +kernel
theorem bt_int : bootBuiltins "int" = some (.type "int") := by decide +kernel
theorem bt_bool : bootBuiltins "bool" = some (.type "bool") := by decide +kernel
theorem bt_list : bootBuiltins "list" = some (.type "list") := by decide +kernel
theorem bt_tuple : bootBuiltins "tuple" = some (.type "tuple") := by decide +kernel
end L2

set_option Elab.async false
set_option linter.all false
set_option maxRecDepth 100000
set_option maxHeartbeats 4000000
namespace L2
open PySem PySem.Spec PyProof.Rows

theorem szl {n : Nat} (h : n ≤ 1000000) : n ≤ sizeLine := by rw [sizeLine_eq]; omega
theorem szlt {n : Nat} (h : n < 1000000) : n < sizeLine := by rw [sizeLine_eq]; omega
theorem same_new {H : Hp} {p : Addr} (h : H p = none) (o : HO) : Same H (upd H p o) := fun b u q => by rw [upd_ne (ne_of_none q h)]; exact q
theorem Same.seqT {K : PySem.W.Frag} {H H' : Hp} {a : Addr} {xs : List V} (e : Same H H') (h : SqT K H a xs) : SqT K H' a xs := by
  rcases h with h | h
  · rcases h with h | ⟨o, h⟩
    · exact .inl (.inl (e _ _ h))
    · exact .inl (.inr ⟨o, e _ _ h⟩)
  · exact .inr h
theorem dT {p : Prop} [Decidable p] (h : decide p = true) : p := of_decide_eq_true h
theorem dF {p : Prop} [Decidable p] (h : ¬ decide p = true) : ¬ p := fun z => h (decide_eq_true z)

def spCell (K : PySem.W.Frag) : Sp := fun vs H Q _ => ∃ (a : Addr) (ns : List Int) (k : Int), vs = [.ref a, .int k] ∧ SqL K H a (ns.map V.int) ∧ 0 ≤ k ∧ Q (.int (ns.getD k.toNat 0)) H
theorem cell_in {ns : List Int} {k : Int} (h0 : 0 ≤ k) (h : k < (ns.length : Int)) : atI (ns.map V.int) k = some (.int (ns.getD k.toNat 0)) := by
  have hk : k.toNat < ns.length := by omega
  have ek : k = ((k.toNat : Nat) : Int) := by omega
  have q : atI (ns.map V.int) ((k.toNat : Nat) : Int) = some (.int (ns.getD k.toNat 0)) := atI_nat (by rw [List.getElem?_map, List.getElem?_eq_getElem hk]; simp [List.getD_eq_getElem?_getD, hk])
  rw [← ek] at q
  exact q
theorem cell_out {ns : List Int} {k : Int} (h : ¬ k < (ns.length : Int)) : ns.getD k.toNat 0 = 0 := by rw [List.getD_eq_getElem?_getD, List.getElem?_eq_none (by omega)]; rfl
def isInt : V → Bool
  | .int _ => true
  | _ => false
def plainV : V → Bool
  | .int _ => true
  | .bl _ => true
  | .non => true
  | .str _ => true
  | _ => false
def spWhole : Sp := fun vs H Q _ => ∃ x, vs = [x] ∧ plainV x = true ∧ Q (.bl (isInt x)) H
def GoodN (l : List Nat) : Prop := 1 ≤ l.length ∧ l.length ≤ 18 ∧ ¬ (l.head? = some 48 ∧ 1 < l.length) ∧ ∀ c ∈ l, 48 ≤ c ∧ c ≤ 57
instance (l : List Nat) : Decidable (GoodN l) := by unfold GoodN; infer_instance
theorem take_snoc {α : Type} {l : List α} {i : Nat} {c : α} (h : l[i]? = some c) : l.take (i + 1) = l.take i ++ [c] := by
  rw [List.take_succ, h]; rfl
end L2
namespace L2
open PySem
theorem atI_some {α : Type} {l : List α} {i : Int} (h0 : 0 ≤ i) (h1 : i < (l.length : Int)) : ∃ c, atI l i = some c ∧ l[i.toNat]? = some c := by
  have hk : i.toNat < l.length := by omega
  have e : i = ((i.toNat : Nat) : Int) := by omega
  have q : atI l ((i.toNat : Nat) : Int) = some l[i.toNat] := atI_nat (List.getElem?_eq_getElem hk)
  rw [← e] at q
  exact ⟨_, q, List.getElem?_eq_getElem hk⟩
end L2
namespace L2
open PySem
theorem seq_any {t u : TS} {D : Ends} {σ : St} {H : Hp} (M : St → Hp → Prop) (hu : ∀ σ' H', M σ' H' → u D σ' H') (ht : (∀ σ' H', M σ' H' → u D σ' H') → t { D with nx := u D } σ H) : tSeq t u D σ H := ht hu
theorem ndF {p : Prop} [Decidable p] (h : p) : (!decide p) = false := by rw [decide_eq_true h]; rfl
theorem iteE {b : Bool} {A B : Prop} {v : Bool} (e : b = v) (h : if v = true then A else B) : if b = true then A else B := by rw [e]; exact h
end L2
namespace L2
open PySem
theorem len_sOf (l : List Nat) : (sOf l).length = l.length := by rw [← cds_len, cds_sOf]
theorem len_app (x y : Str) : (x ++ y).length = x.length + y.length := Str.length_append x y
end L2

set_option Elab.async false
set_option linter.all false
set_option maxRecDepth 100000
set_option maxHeartbeats 4000000
namespace L2
open PySem PySem.Spec PyProof.Rows

inductive Tr where
  | v (x : V)
  | lst (l : List Tr)
  | tup (l : List Tr)
mutual
inductive TrIs (K : PySem.W.Frag) (H : Hp) : V → Tr → Prop
  | flat {x : V} : flatV x = true → TrIs K H x (.v x)
  | lst {p : Addr} {xs : List V} {l : List Tr} : SqL K H p xs → TrsIs K H xs l → TrIs K H (.ref p) (.lst l)
  | tup {p : Addr} {xs : List V} {l : List Tr} : SqT K H p xs → TrsIs K H xs l → TrIs K H (.ref p) (.tup l)
inductive TrsIs (K : PySem.W.Frag) (H : Hp) : List V → List Tr → Prop
  | nil : TrsIs K H [] []
  | cons {x : V} {t : Tr} {xs : List V} {l : List Tr} : TrIs K H x t → TrsIs K H xs l → TrsIs K H (x :: xs) (t :: l)
end
mutual
def eqT : Tr → Tr → Bool
  | .v x, .v y => eqV x y
  | .lst l, .lst m => eqTs l m
  | .tup l, .tup m => eqTs l m
  | _, _ => false
def eqTs : List Tr → List Tr → Bool
  | [], [] => true
  | x :: l, y :: m => eqT x y && eqTs l m
  | _, _ => false
end
mutual
def simT : Tr → Tr → Bool
  | .v _, .v _ => true
  | .lst l, .lst m => simTs l m
  | .tup l, .tup m => simTs l m
  | _, _ => false
def simTs : List Tr → List Tr → Bool
  | x :: l, y :: m => simT x y && simTs l m
  | _, _ => true
end
mutual
def depT : Tr → Nat
  | .v _ => 0
  | .lst l => depTs l + 1
  | .tup l => depTs l + 1
def depTs : List Tr → Nat
  | [] => 0
  | x :: l => max (depT x) (depTs l)
end
theorem eqV_refl {x : V} (h : flatV x = true) : eqV x x = true := by
  cases x <;> first | rfl | (simp [eqV]; done) | (simp [flatV] at h)
mutual
/-- a tree of flat values -/
def okT : Tr → Bool
  | .v x => flatV x
  | .lst l => okTs l
  | .tup l => okTs l
def okTs : List Tr → Bool
  | [] => true
  | x :: l => okT x && okTs l
end
mutual
theorem eqT_refl : ∀ t : Tr, okT t = true → eqT t t = true
  | .v x, h => by rw [eqT]; exact eqV_refl (by simpa [okT] using h)
  | .lst l, h => by rw [eqT]; exact eqTs_refl l (by simpa [okT] using h)
  | .tup l, h => by rw [eqT]; exact eqTs_refl l (by simpa [okT] using h)
theorem eqTs_refl : ∀ l : List Tr, okTs l = true → eqTs l l = true
  | [], _ => by rw [eqTs]
  | x :: l, h => by
    rw [okTs, Bool.and_eq_true] at h
    rw [eqTs, eqT_refl x h.1, eqTs_refl l h.2]; rfl
end
mutual
theorem simT_refl : ∀ t : Tr, simT t t = true
  | .v x => by rw [simT]
  | .lst l => by rw [simT]; exact simTs_refl l
  | .tup l => by rw [simT]; exact simTs_refl l
theorem simTs_refl : ∀ l : List Tr, simTs l l = true
  | [] => by simp [simTs]
  | x :: l => by rw [simTs, simT_refl x, simTs_refl l]; rfl
end
mutual
theorem TrIs.ok {K : PySem.W.Frag} {H : Hp} : ∀ {x : V} {t : Tr}, TrIs K H x t → okT t = true
  | _, _, .flat h => by rw [okT]; exact h
  | _, _, .lst _ h => by rw [okT]; exact h.ok
  | _, _, .tup _ h => by rw [okT]; exact h.ok
theorem TrsIs.ok {K : PySem.W.Frag} {H : Hp} : ∀ {xs : List V} {l : List Tr}, TrsIs K H xs l → okTs l = true
  | _, _, .nil => by rw [okTs]
  | _, _, .cons h r => by rw [okTs, h.ok, r.ok]; rfl
end
theorem TrsIs.length {K : PySem.W.Frag} {H : Hp} : ∀ {xs : List V} {l : List Tr}, TrsIs K H xs l → xs.length = l.length
  | _, _, .nil => rfl
  | _, _, .cons _ r => by simp [r.length]
theorem eqTs_len : ∀ {l m : List Tr}, l.length ≠ m.length → eqTs l m = false
  | [], [], h => absurd rfl h
  | [], _ :: _, _ => by rw [eqTs] <;> simp
  | _ :: _, [], _ => by rw [eqTs] <;> simp
  | x :: l, y :: m, h => by
    rw [eqTs, eqTs_len (l := l) (m := m) (fun e => h (by simp [e])), Bool.and_false]
section
variable {X : Cx} {pins : List (Addr × Obj)} {σ : St} {H : Hp} {s : Shared}
mutual
theorem TrIs.inj (I : Inv X pins σ H s) : ∀ {t t' : Tr} {x : V}, TrIs X.K H x t → TrIs X.K H x t' → t = t'
  | .v x, t', _, .flat h, h' => by
    cases h' with
    | flat _ => rfl
    | lst _ _ => cases h
    | tup _ _ => cases h
  | .lst l, t', _, .lst (p := p) (xs := xs) hq hr, h' => by
    cases h' with
    | flat h => cases h
    | lst hq' hr' =>
      have e := I.list_inj hq hq'
      subst e
      rw [TrsIs.inj I hr hr']
    | tup hq' hr' =>
      obtain ⟨_, _, ⟨o, n, e1, c1, _⟩, _⟩ := I.list hq
      obtain ⟨_, _, ⟨o', e2, c2, _⟩, _⟩ := I.tuple hq'
      rw [e1] at e2; cases e2
      rw [c1] at c2; simp at c2
  | .tup l, t', _, .tup (p := p) (xs := xs) hq hr, h' => by
    cases h' with
    | flat h => cases h
    | tup hq' hr' =>
      have e := I.tuple_inj hq hq'
      subst e
      rw [TrsIs.inj I hr hr']
    | lst hq' hr' =>
      obtain ⟨_, _, ⟨o, n, e1, c1, _⟩, _⟩ := I.list hq'
      obtain ⟨_, _, ⟨o', e2, c2, _⟩, _⟩ := I.tuple hq
      rw [e1] at e2; cases e2
      rw [c1] at c2; simp at c2
theorem TrsIs.inj (I : Inv X pins σ H s) : ∀ {l l' : List Tr} {xs : List V}, TrsIs X.K H xs l → TrsIs X.K H xs l' → l = l'
  | [], _, _, .nil, h' => by cases h'; rfl
  | t :: l, _, _, .cons h r, h' => by
    cases h' with
    | cons h2 r2 => rw [TrIs.inj I h h2, TrsIs.inj I r r2]
end
theorem range_all_eq {α : Type} {e : Nat → Bool} {f : α → Bool} : ∀ {l : List α}, (∀ j x, l[j]? = some x → e j = f x) → (List.range l.length).all e = l.all f := by
  intro l h
  rw [Bool.eq_iff_iff]
  simp only [List.all_eq_true, List.mem_range]
  constructor
  · intro q x hx
    obtain ⟨i, hi, hx⟩ := List.mem_iff_getElem.mp hx
    rw [← h i x (by rw [List.getElem?_eq_getElem hi, hx])]
    exact q i hi
  · intro q i hi
    rw [h i l[i] (List.getElem?_eq_getElem hi)]
    exact q _ (List.getElem_mem hi)
theorem eqTs_zip : ∀ {l m : List Tr}, l.length = m.length → eqTs l m = (l.zip m).all fun p => eqT p.1 p.2
  | [], [], _ => by rw [eqTs]; rfl
  | [], _ :: _, h => by simp at h
  | _ :: _, [], h => by simp at h
  | x :: l, y :: m, h => by
    rw [eqTs, eqTs_zip (l := l) (m := m) (by simpa using h)]
    rfl
theorem TrsIs.at {K : PySem.W.Frag} {H : Hp} : ∀ {xs : List V} {l : List Tr} {j : Nat} {t : Tr}, TrsIs K H xs l → l[j]? = some t → ∃ x, xs[j]? = some x ∧ TrIs K H x t
  | _, _, _, _, .nil, h => by simp at h
  | _, _, 0, _, .cons h _, e => by simp at e; subst e; exact ⟨_, rfl, h⟩
  | _, _, j + 1, _, .cons _ r, e => by
    obtain ⟨x, h1, h2⟩ := r.at (j := j) (by simpa using e)
    exact ⟨x, by simpa using h1, h2⟩
theorem simTs_at : ∀ {l m : List Tr} {j : Nat} {t t' : Tr}, simTs l m = true → l[j]? = some t → m[j]? = some t' → simT t t' = true
  | [], _, _, _, _, _, h, _ => by simp at h
  | _ :: _, [], _, _, _, _, _, h => by simp at h
  | x :: l, y :: m, 0, t, t', h, e1, e2 => by
    simp at e1 e2; subst e1 e2
    rw [simTs, Bool.and_eq_true] at h; exact h.1
  | x :: l, y :: m, j + 1, t, t', h, e1, e2 => by
    rw [simTs, Bool.and_eq_true] at h
    exact simTs_at (j := j) h.2 (by simpa using e1) (by simpa using e2)
theorem depTs_at : ∀ {l : List Tr} {j : Nat} {t : Tr}, l[j]? = some t → depT t ≤ depTs l
  | [], _, _, h => by simp at h
  | x :: l, 0, t, h => by simp at h; subst h; rw [depTs]; omega
  | x :: l, j + 1, t, h => by
    have := depTs_at (l := l) (j := j) (t := t) (by simpa using h)
    rw [depTs]; omega
theorem items_eq {A : Around} {l m : List Tr} {xs ys : List V} {its jts : List Value} (hr : TrsIs X.K H xs l) (hr' : TrsIs X.K H ys m) (rv : Vals xs its) (rv' : Vals ys jts)
    (ih : ∀ (j : Nat) (t t' : Tr) (x y : V) (u v : Value), l[j]? = some t → m[j]? = some t' → TrIs X.K H x t → RelV x u → TrIs X.K H y t' → RelV y v → SeqAt.EqAt A.in1 s u v (eqT t t')) :
    ∀ j (h1 : j < its.toArray.size) (h2 : j < jts.toArray.size), SeqAt.EqAt A.in1 s its.toArray[j] jts.toArray[j] (match l[j]?, m[j]? with | some t, some t' => eqT t t' | _, _ => true) := by
  intro j h1 h2
  have l1 := hr.length; have l2 := hr'.length; have l3 := rv.length; have l4 := rv'.length
  rw [List.size_toArray] at h1 h2
  obtain ⟨t, ht⟩ : ∃ t, l[j]? = some t := ⟨l[j]'(by omega), List.getElem?_eq_getElem (by omega)⟩
  obtain ⟨t', ht'⟩ : ∃ t', m[j]? = some t' := ⟨m[j]'(by omega), List.getElem?_eq_getElem (by omega)⟩
  obtain ⟨x, hx, hxt⟩ := hr.at ht
  obtain ⟨y, hy, hyt⟩ := hr'.at ht'
  obtain ⟨u, hu, ru⟩ := rv.get hx
  obtain ⟨v, hv, rw'⟩ := rv'.get hy
  rw [ht, ht']
  have e1 : its.toArray[j] = u := by
    have := List.getElem?_eq_getElem (l := its) (i := j) h1
    rw [hu] at this
    simpa using (Option.some.inj this).symm
  have e2 : jts.toArray[j] = v := by
    have := List.getElem?_eq_getElem (l := jts) (i := j) h2
    rw [hv] at this
    simpa using (Option.some.inj this).symm
  rw [e1, e2]
  exact ih j t t' x y u v ht ht' hxt ru hyt rw'
theorem all_items {l m : List Tr} (h : l.length = m.length) : (List.range l.length).all (fun j => match l[j]?, m[j]? with | some t, some t' => eqT t t' | _, _ => true) = eqTs l m := by
  rw [eqTs_zip h]
  have e : l.length = (l.zip m).length := by rw [List.length_zip]; omega
  rw [e]
  refine range_all_eq fun j p hp => ?_
  obtain ⟨h1, h2⟩ := List.getElem?_zip_eq_some.mp hp
  rw [h1, h2]
theorem RcAt_lists {A : Around} {p q : Addr} {xs ys : List V} {l m : List Tr} (I : Inv X pins σ H s) (hu : A.units < cLine) (hq : SqL X.K H p xs) (hr : TrsIs X.K H xs l) (hq' : SqL X.K H q ys) (hr' : TrsIs X.K H ys m)
    (ih : ∀ (j : Nat) (t t' : Tr) (x y : V) (u v : Value), l[j]? = some t → m[j]? = some t' → TrIs X.K H x t → RelV x u → TrIs X.K H y t' → RelV y v → SeqAt.EqAt A.in1 s u v (eqT t t')) :
    SeqAt.RcAt A s (.ref p) (.ref q) (eqTs l m) ∧ SeqAt.RcNeAt A s (.ref p) (.ref q) (!eqTs l m) := by
  obtain ⟨its, rv, pl, _⟩ := I.list hq
  obtain ⟨jts, rv', pl', _⟩ := I.list hq'
  have l1 := hr.length; have l2 := hr'.length; have l3 := rv.length; have l4 := rv'.length
  by_cases hl : l.length = m.length
  · have e : its.toArray.size = l.length := by rw [List.size_toArray]; omega
    have a := SeqAt.RcAt.lists (A := A) pl.isList pl'.isList (by rw [List.size_toArray, List.size_toArray]; omega) hu (items_eq hr hr' rv rv' ih)
    have b := SeqAt.RcNeAt.lists (A := A) pl.isList pl'.isList (by rw [List.size_toArray, List.size_toArray]; omega) hu (items_eq hr hr' rv rv' ih)
    rw [e, all_items hl] at a b
    exact ⟨a, b⟩
  · rw [eqTs_len hl]
    have hne : (its.toArray.size != jts.toArray.size) = true := by
      rw [List.size_toArray, List.size_toArray]
      simp only [bne_iff_ne, ne_eq]; omega
    exact ⟨SeqAt.RcAt.lists_lengths pl.isList pl'.isList hne hu, SeqAt.RcNeAt.lists_lengths pl.isList pl'.isList hne hu⟩
theorem RcAt_tuples {A : Around} {p q : Addr} {xs ys : List V} {l m : List Tr} (I : Inv X pins σ H s) (hu : A.units < cLine) (hq : SqT X.K H p xs) (hr : TrsIs X.K H xs l) (hq' : SqT X.K H q ys) (hr' : TrsIs X.K H ys m)
    (ih : ∀ (j : Nat) (t t' : Tr) (x y : V) (u v : Value), l[j]? = some t → m[j]? = some t' → TrIs X.K H x t → RelV x u → TrIs X.K H y t' → RelV y v → SeqAt.EqAt A.in1 s u v (eqT t t')) :
    SeqAt.RcAt A s (.ref p) (.ref q) (eqTs l m) ∧ SeqAt.RcNeAt A s (.ref p) (.ref q) (!eqTs l m) := by
  obtain ⟨its, rv, pl, _⟩ := I.tuple hq
  obtain ⟨jts, rv', pl', _⟩ := I.tuple hq'
  have l1 := hr.length; have l2 := hr'.length; have l3 := rv.length; have l4 := rv'.length
  have a := SeqAt.RcAt.tuples (A := A) (show s.heap.IsTuple p its.toArray from pl) (show s.heap.IsTuple q jts.toArray from pl') hu (items_eq hr hr' rv rv' ih)
  have b := SeqAt.RcNeAt.tuples (A := A) (show s.heap.IsTuple p its.toArray from pl) (show s.heap.IsTuple q jts.toArray from pl') hu (items_eq hr hr' rv rv' ih)
  have e : ((List.range (min its.toArray.size jts.toArray.size)).all (fun j => match l[j]?, m[j]? with | some t, some t' => eqT t t' | _, _ => true) && its.toArray.size == jts.toArray.size) = eqTs l m := by
    by_cases hl : l.length = m.length
    · have e1 : min its.toArray.size jts.toArray.size = l.length := by rw [List.size_toArray, List.size_toArray]; omega
      have e2 : (its.toArray.size == jts.toArray.size) = true := by rw [List.size_toArray, List.size_toArray]; simp; omega
      rw [e1, e2, all_items hl, Bool.and_true]
    · have e2 : (its.toArray.size == jts.toArray.size) = false := by rw [List.size_toArray, List.size_toArray]; simp; omega
      rw [e2, eqTs_len hl, Bool.and_false]
  rw [e] at a b
  exact ⟨a, b⟩
theorem eqAt_T (I : Inv X pins σ H s) (n : Nat) : ∀ (A : Around) (t t' : Tr) (x y : V) (u v : Value), depT t ≤ n → A.units + n < cLine → simT t t' = true → TrIs X.K H x t → RelV x u → TrIs X.K H y t' → RelV y v → SeqAt.EqAt A s u v (eqT t t') := by
  induction n with
  | zero =>
    intro A t t' x y u v hd hu hs hx rx hy ry
    cases hx with
    | flat fx =>
      cases hy with
      | flat fy => rw [eqT]; exact eqAt_V rx ry fx fy
      | lst _ _ => simp [simT] at hs
      | tup _ _ => simp [simT] at hs
    | lst _ _ => simp [depT] at hd
    | tup _ _ => simp [depT] at hd
  | succ n ih =>
    intro A t t' x y u v hd hu hs hx rx hy ry
    cases hx with
    | flat fx =>
      cases hy with
      | flat fy => rw [eqT]; exact eqAt_V rx ry fx fy
      | lst _ _ => simp [simT] at hs
      | tup _ _ => simp [simT] at hs
    | @lst p xs l hq hr =>
      cases hy with
      | flat fy => simp [simT] at hs
      | tup _ _ => simp [simT] at hs
      | @lst q ys m hq' hr' =>
        cases rx; cases ry
        rw [depT] at hd
        rw [simT] at hs
        by_cases e : p = q
        · subst e
          have e1 := TrIs.inj I (TrIs.lst hq hr) (TrIs.lst hq' hr')
          rw [← e1, eqT_refl _ (TrIs.lst hq hr).ok]
          exact SeqAt.EqAt.same _
        · rw [eqT]
          refine SeqAt.EqAt.of_refs e (RcAt_lists I (by omega) hq hr hq' hr' fun j t t' x y u v h1 h2 h3 h4 h5 h6 => ?_).1
          exact ih A.in1 t t' x y u v (by have := depTs_at h1; omega) (by show A.units + 1 + n < cLine; omega) (simTs_at hs h1 h2) h3 h4 h5 h6
    | @tup p xs l hq hr =>
      cases hy with
      | flat fy => simp [simT] at hs
      | lst _ _ => simp [simT] at hs
      | @tup q ys m hq' hr' =>
        cases rx; cases ry
        rw [depT] at hd
        rw [simT] at hs
        by_cases e : p = q
        · subst e
          have e1 := TrIs.inj I (TrIs.tup hq hr) (TrIs.tup hq' hr')
          rw [← e1, eqT_refl _ (TrIs.tup hq hr).ok]
          exact SeqAt.EqAt.same _
        · rw [eqT]
          refine SeqAt.EqAt.of_refs e (RcAt_tuples I (by omega) hq hr hq' hr' fun j t t' x y u v h1 h2 h3 h4 h5 h6 => ?_).1
          exact ih A.in1 t t' x y u v (by have := depTs_at h1; omega) (by show A.units + 1 + n < cLine; omega) (simTs_at hs h1 h2) h3 h4 h5 h6
end

section
variable {X : Cx}
def rEqX (K : PySem.W.Frag) (neg : Bool) : R2 := fun x y H Q => ∃ t t', TrIs K H x t ∧ TrIs K H y t' ∧ (∃ p, x = .ref p) ∧ (∃ p, y = .ref p) ∧ simT t t' = true ∧ depT t ≤ 60 ∧ Q (.bl (if neg then !eqT t t' else eqT t t')) H
theorem eqX_aux {neg : Bool} (hu : X.A.units + 64 < cLine) : OpR X (compareOp (if neg then .NotEq else .Eq)) (rEqX X.K neg) := by
  intro pins s σ H x y v u Q I rx ry h
  obtain ⟨t, t', hx, hy, ⟨p, rfl⟩, ⟨q, rfl⟩, hs, hd, q'⟩ := h
  cases rx; cases ry
  have done : ∀ l m, SeqAt.RcAt X.A s (.ref p) (.ref q) (eqTs l m) ∧ SeqAt.RcNeAt X.A s (.ref p) (.ref q) (!eqTs l m) → Q (.bl (if neg then !eqTs l m else eqTs l m)) H →
      wpAny (model X.prog X.w) X.A (compareOp (if neg then .NotEq else .Eq) (.ref p) (.ref q)) (EP X pins σ Q) X.xe s := fun l m hb hq => by
    cases neg with
    | false => exact hb.1 X.prog X.w X.xe _ ⟨.bl _, H, I, rfl, hq⟩
    | true => exact hb.2 X.prog X.w X.xe _ ⟨.bl _, H, I, rfl, hq⟩
  cases hx with
  | flat fx => cases fx
  | @lst _ xs l hq hr =>
    cases hy with
    | flat fy => cases fy
    | tup _ _ => simp [simT] at hs
    | @lst _ ys m hq' hr' =>
      rw [depT] at hd
      rw [simT] at hs
      rw [eqT] at q'
      refine done l m (RcAt_lists I (by omega) hq hr hq' hr' fun j t t' x y u v h1 h2 h3 h4 h5 h6 => ?_) q'
      exact eqAt_T I 60 X.A.in1 t t' x y u v (by have := depTs_at h1; omega) (by show X.A.units + 1 + 60 < cLine; omega) (simTs_at hs h1 h2) h3 h4 h5 h6
  | @tup _ xs l hq hr =>
    cases hy with
    | flat fy => cases fy
    | lst _ _ => simp [simT] at hs
    | @tup _ ys m hq' hr' =>
      rw [depT] at hd
      rw [simT] at hs
      rw [eqT] at q'
      refine done l m (RcAt_tuples I (by omega) hq hr hq' hr' fun j t t' x y u v h1 h2 h3 h4 h5 h6 => ?_) q'
      exact eqAt_T I 60 X.A.in1 t t' x y u v (by have := depTs_at h1; omega) (by show X.A.units + 1 + 60 < cLine; omega) (simTs_at hs h1 h2) h3 h4 h5 h6
theorem op_eqS (hu : X.A.units + 64 < cLine) : OpR X (compareOp .Eq) (rEqX X.K false) := eqX_aux (neg := false) hu
theorem op_neS (hu : X.A.units + 64 < cLine) : OpR X (compareOp .NotEq) (rEqX X.K true) := eqX_aux (neg := true) hu
theorem hu64 {A : Around} {k : Nat} (hr : Room k A) : A.units + 64 < cLine := by have := hr.un; omega
end
end L2

set_option Elab.async false
set_option linter.all false
set_option maxRecDepth 100000
set_option maxHeartbeats 4000000
namespace L2
open PySem PySem.Spec PyProof.Rows

section
variable {X : Cx}
def flatD (k : List (Key × V)) : Prop := ∀ p ∈ k, flatV p.2 = true
end

end L2

set_option Elab.async false
set_option linter.all false
set_option maxRecDepth 100000
set_option maxHeartbeats 4000000
namespace L2
open PySem PySem.Spec PyProof.Rows

def stepS (x : Int) (k : Int) : Int := (x * x + 48271 * x + k) % 2147483647
def seqS (x k : Int) : Nat → List Int
  | 0 => []
  | n + 1 => stepS x k :: seqS (stepS x k) (k + 1) n
theorem seqS_len (x k : Int) (n : Nat) : (seqS x k n).length = n := by
  induction n generalizing x k with
  | zero => rfl
  | succ n ih => simp [seqS, ih]
theorem seqS_mem {x k y : Int} {n : Nat} (h : y ∈ seqS x k n) : 0 ≤ y ∧ y < 2147483647 := by
  induction n generalizing x k with
  | zero => cases h
  | succ n ih =>
    rcases List.mem_cons.mp h with rfl | h
    · exact ⟨Int.emod_nonneg _ (by decide), Int.emod_lt_of_pos _ (by decide)⟩
    · exact ih h
def lastS (x k : Int) : Nat → Int
  | 0 => x
  | n + 1 => lastS (stepS x k) (k + 1) n
theorem lastS_succ (x k : Int) (n : Nat) : lastS x k (n + 1) = stepS (lastS x k n) (k + n) := by
  induction n generalizing x k with
  | zero => simp [lastS]
  | succ n ih =>
    rw [lastS, ih, lastS]
    congr 1
    omega
theorem seqS_snoc (x k : Int) (n : Nat) : seqS x k (n + 1) = seqS x k n ++ [lastS x k (n + 1)] := by
  induction n generalizing x k with
  | zero => simp [seqS, lastS]
  | succ n ih =>
    rw [seqS, ih, seqS, List.cons_append]
    rfl
def seedS (c : Int) : Int := c % 2147483647 + 48271
def strm (c : Int) (n : Nat) : List Int := (seqS (seedS c) 0 (n + 1)).drop 1
theorem strm_len (c : Int) (n : Nat) : (strm c n).length = n := by unfold strm; rw [List.length_drop, seqS_len]; omega
theorem strm_mem {c y : Int} {n : Nat} (h : y ∈ strm c n) : 0 ≤ y ∧ y < 2147483647 := seqS_mem (List.mem_of_mem_drop h)
def spStream : Sp := fun vs H Q _ => ∃ (c n : Int), vs = [.int c, .int n] ∧ 0 ≤ n ∧ n ≤ 1000 ∧ ∀ (r : Addr) (H' : Hp), Same H H' → H' r = some (.lst ((strm c n.toNat).map V.int)) → Q (.ref r) H'
theorem step_bound {x : Int} (h0 : 0 ≤ x) (h1 : x < 2147531918) : -(2 ^ 64 : Int) < x ∧ x < 2 ^ 64 := by
  have : (2 : Int) ^ 64 = 18446744073709551616 := by decide
  omega
theorem seed_bound (c : Int) : 0 ≤ seedS c ∧ seedS c < 2147531918 := by
  have h0 := Int.emod_nonneg c (show (2147483647 : Int) ≠ 0 by decide)
  have h1 := Int.emod_lt_of_pos c (show (0 : Int) < 2147483647 by decide)
  unfold seedS; omega
theorem last_bound (c : Int) (n : Nat) : 0 ≤ lastS (seedS c) 0 n ∧ lastS (seedS c) 0 n < 2147531918 := by
  cases n with
  | zero => exact seed_bound c
  | succ n =>
    rw [lastS_succ]
    unfold stepS
    have h0 := Int.emod_nonneg (lastS (seedS c) 0 n * lastS (seedS c) 0 n + 48271 * lastS (seedS c) 0 n + (0 + (n : Int))) (show (2147483647 : Int) ≠ 0 by decide)
    have h1 := Int.emod_lt_of_pos (lastS (seedS c) 0 n * lastS (seedS c) 0 n + 48271 * lastS (seedS c) 0 n + (0 + (n : Int))) (show (0 : Int) < 2147483647 by decide)
    omega
theorem cut1 {α : Type} (l : List α) : (l.drop (HT.sIx l.length 0 (some 1))).take (HT.sIx l.length l.length none - HT.sIx l.length 0 (some 1)) = l.drop 1 := by
  rw [show HT.sIx l.length 0 (some (1 : Int)) = min 1 l.length from HT.sIx_nat _ _ 1, HT.sIx_none]
  cases l with
  | nil => rfl
  | cons a r =>
    have e : min 1 (a :: r).length = 1 := by simp
    rw [e]
    simp
theorem cutV_1 (xs : List Int) : cutV (xs.map V.int) (some 1) none = (xs.drop 1).map V.int := by
  unfold cutV
  rw [cut1, List.map_drop]

theorem cds_join0 : ∀ ys : List Str, cds (Txt.join "" ys) = (ys.map cds).flatten := by
  intro ys
  show cds (Builtin.Str.glued "" ys) = _
  rw [StrLaws.glued_eq_join]
  induction ys with
  | nil => rfl
  | cons y r ih =>
    cases r with
    | nil => simp [Str.join]
    | cons z r =>
      show cds (y ++ "" ++ Str.join "" (z :: r)) = _
      rw [cds_app, cds_app, ih]
      have : cds ("" : Str) = [] := by decide +kernel
      rw [this, List.append_nil]
      rfl
abbrev abc : Str := "abcdefghijklmnopqrstuvwxyz"
theorem cds_abc : cds abc = (List.range 26).map (97 + ·) := by decide +kernel
def letC (x : Int) : Nat := 97 + (x % 26).toNat
theorem abc_at (x : Int) : atI (cds abc) (x % 26) = some (letC x) := by
  have h0 := Int.emod_nonneg x (show (26 : Int) ≠ 0 by decide)
  have h1 := Int.emod_lt_of_pos x (show (0 : Int) < 26 by decide)
  have e : x % 26 = (((x % 26).toNat : Nat) : Int) := by omega
  rw [e]
  refine atI_nat ?_
  rw [cds_abc, List.getElem?_map, List.getElem?_range (by omega)]
  rfl
theorem abc_len : abc.length ≤ sizeLine := szl (by decide +kernel)
def nameW (xs : List Int) : List Nat := (xs.drop 2).map letC
def nameLong (xs : List Int) : Int := 1 + xs.getD 1 0 % 8
def nameAt (xs : List Int) : Int := xs.getD 1 0 / 8 % nameLong xs
def nameA (xs : List Int) (w : List Nat) (k : Int) : List Nat := w.take (nameAt xs).toNat ++ [letC (xs.getD (2 + nameAt xs).toNat 0 + k)] ++ (w.drop (nameAt xs + 1).toNat).take ((nameLong xs).toNat - (nameAt xs + 1).toNat)
def nameB (xs : List Int) (w : List Nat) (k : Int) : List Nat := w.take (1 + (nameLong xs + 3 * k) % 8).toNat
def nameRaw (xs : List Int) (w : List Nat) (k : Int) : List Nat := if xs.getD 0 0 % 2 = 0 then nameB xs w k else nameA xs w k
def resv : List (List Nat) := [cds "for", cds "end", cds "size"]
def nameC (xs : List Int) (w : List Nat) (k : Int) : List Nat := if nameRaw xs w k ∈ resv then [122, 122] ++ nameRaw xs w k else nameRaw xs w k
def namesF (c : Int) (many : Nat) : List (List Nat) := (List.range many).map fun k : Nat => nameC (strm c 10) (nameW (strm c 10)) (k : Int)
def strsV (l : List (List Nat)) : List V := l.map fun x => V.str (sOf x)
def spNames : Sp := fun vs H Q _ => ∃ (c n : Int), vs = [.int c, .int n] ∧ 0 ≤ n ∧ n ≤ 100 ∧ ∀ (r : Addr) (H' : Hp), Same H H' → H' r = some (.lst (strsV (namesF c n.toNat))) → Q (.ref r) H'
theorem long_b (xs : List Int) : 1 ≤ nameLong xs ∧ nameLong xs ≤ 8 := by
  have h0 := Int.emod_nonneg (xs.getD 1 0) (show (8 : Int) ≠ 0 by decide)
  have h1 := Int.emod_lt_of_pos (xs.getD 1 0) (show (0 : Int) < 8 by decide)
  unfold nameLong; omega
theorem at_b (xs : List Int) : 0 ≤ nameAt xs ∧ nameAt xs < nameLong xs := by
  have := long_b xs
  exact ⟨Int.emod_nonneg _ (by omega), Int.emod_lt_of_pos _ (by omega)⟩
theorem nameW_len {xs : List Int} (h : xs.length = 10) : (nameW xs).length = 8 := by unfold nameW; rw [List.length_map, List.length_drop, h]
theorem in_resv (z : List Nat) : inV (.str (sOf z)) [.str "for", .str "end", .str "size"] = decide (z ∈ resv) := by
  have key : ∀ y : Str, eqV (.str y) (.str (sOf z)) = decide (z = cds y) := fun y => by
    show (y == sOf z) = _
    rw [Bool.eq_iff_iff]
    simp only [beq_iff_eq, decide_eq_true_eq]
    exact ⟨fun e => by rw [e, cds_sOf], fun e => by rw [e, sOf_cds]⟩
  unfold inV resv
  simp only [List.any_cons, List.any_nil, key, Bool.or_false]
  rw [Bool.eq_iff_iff]
  simp
theorem cut_to {α : Type} (l : List α) {k : Int} (h : 0 ≤ k) : cutC l none (some k) = l.take k.toNat := by
  unfold cutC
  have e : k = ((k.toNat : Nat) : Int) := by omega
  rw [HT.sIx_none, e, HT.sIx_nat, List.drop_zero, Nat.sub_zero]
  rw [show (((k.toNat : Nat) : Int)).toNat = k.toNat by omega]
  by_cases h : k.toNat ≤ l.length
  · rw [Nat.min_eq_left h]
  · rw [Nat.min_eq_right (by omega), List.take_of_length_le (by omega), List.take_of_length_le (by omega)]
theorem cut_mid {α : Type} (l : List α) {i j : Int} (hi : 0 ≤ i) (hj : 0 ≤ j) (hl : j ≤ (l.length : Int)) (hij : i ≤ j) : cutC l (some i) (some j) = (l.drop i.toNat).take (j.toNat - i.toNat) := by
  unfold cutC
  have e1 : i = ((i.toNat : Nat) : Int) := by omega
  have e2 : j = ((j.toNat : Nat) : Int) := by omega
  rw [e1, e2, HT.sIx_nat, HT.sIx_nat]
  rw [show (((i.toNat : Nat) : Int)).toNat = i.toNat by omega, show (((j.toNat : Nat) : Int)).toNat = j.toNat by omega, Nat.min_eq_left (by omega), Nat.min_eq_left (by omega)]
theorem cut_from {α : Type} (l : List α) {i : Int} (hi : 0 ≤ i) : cutC l (some i) none = l.drop i.toNat := by
  unfold cutC
  have e1 : i = ((i.toNat : Nat) : Int) := by omega
  rw [e1, HT.sIx_nat, HT.sIx_none, show (((i.toNat : Nat) : Int)).toNat = i.toNat by omega]
  by_cases h : i.toNat ≤ l.length
  · rw [Nat.min_eq_left h, List.take_of_length_le (by rw [List.length_drop]; omega)]
  · rw [Nat.min_eq_right (by omega), Nat.sub_self, List.take_zero, List.drop_eq_nil_of_le (by omega)]
theorem len_nameC {xs : List Int} {w : List Nat} (hw : w.length = 8) (k : Int) : (nameC xs w k).length ≤ 10 := by
  have hr : (nameRaw xs w k).length ≤ 8 := by
    unfold nameRaw
    split
    · unfold nameB; rw [List.length_take]; omega
    · have := long_b xs; have := at_b xs
      unfold nameA
      rw [List.length_append, List.length_append, List.length_take, List.length_take, List.length_drop, List.length_singleton]
      omega
  unfold nameC
  split
  · rw [List.length_append]; simp; omega
  · omega
abbrev nst (c n : Int) (rx : Addr) (xs : List Int) (l : Addr) (o1 o2 : Option V) (z : Str) : St := [some (.int c), some (.int n), some (.str abc), some (.ref rx), some (.str (sOf (nameW xs))), some (.int (nameLong xs)), some (.int (nameAt xs)), some (.ref l), o1, o2, some (.str z)]

end L2
namespace L2
open PySem
def SpotAt (K : PySem.W.Frag) (H : Hp) (p : Addr) (nm : Str) (n : Int) : Prop := SqT K H p [.str nm, .int n]
end L2
namespace L2
open PySem
abbrev SpotsAt (K : PySem.W.Frag) (H : Hp) : List V → List (Str × Int) → Prop := Paired fun v s => ∃ p, v = V.ref p ∧ SpotAt K H p s.1 s.2
theorem SpotsAt.get {K : PySem.W.Frag} {H : Hp} : ∀ {vs : List V} {sps : List (Str × Int)} {i : Nat} {v : V}, SpotsAt K H vs sps → vs[i]? = some v → ∃ p s, v = .ref p ∧ sps[i]? = some s ∧ SpotAt K H p s.1 s.2
  | _, _, _, _, .nil, e => by simp at e
  | _, _, 0, _, .cons ⟨p, h1, h2⟩ _, e => by simp at e; subst e; exact ⟨p, _, h1, rfl, h2⟩
  | _, _, i + 1, _, .cons _ t, e => by
    obtain ⟨p, s, h1, h2, h3⟩ := SpotsAt.get (i := i) t (by simpa using e)
    exact ⟨p, s, h1, by simpa using h2, h3⟩
theorem SpotsAt.same {K : PySem.W.Frag} {H H' : Hp} (e : Same H H') : ∀ {vs : List V} {sps : List (Str × Int)}, SpotsAt K H vs sps → SpotsAt K H' vs sps
  | _, _, .nil => .nil
  | _, _, .cons ⟨p, h1, h2⟩ t => .cons ⟨p, h1, e.seqT h2⟩ (SpotsAt.same e t)
theorem SpotsAt.length {K : PySem.W.Frag} {H : Hp} {vs : List V} {sps : List (Str × Int)} (h : SpotsAt K H vs sps) : vs.length = sps.length := Paired.length h
theorem SpotsAt.snoc {K : PySem.W.Frag} {H : Hp} {vs : List V} {sps : List (Str × Int)} {p : Addr} {s : Str × Int} (h : SpotsAt K H vs sps) (hp : SpotAt K H p s.1 s.2) : SpotsAt K H (vs ++ [.ref p]) (sps ++ [s]) := Paired.snoc h ⟨p, rfl, hp⟩
structure GoodD (kvs : List (Key × V)) (n : Nat) (zs : List Str) : Prop where
  nd : (kvs.map (·.1)).Nodup
  fl : flatD kvs
  len : kvs.length ≤ n
  has : ∀ z ∈ zs, ∃ i, valV kvs (Sum.inr z) = some (.int i)
theorem GoodD.mono {kvs : List (Key × V)} {n m : Nat} {zs ys : List Str} (h : GoodD kvs n zs) (hn : n ≤ m) (hs : ∀ y ∈ ys, y ∈ zs) : GoodD kvs m ys := ⟨h.nd, h.fl, Nat.le_trans h.len hn, fun y hy => h.has y (hs y hy)⟩
end L2
namespace L2
open PySem
theorem SqT.upd {K : PySem.W.Frag} {H : Hp} {a l : Addr} {xs ys : List V} {o : HO} (h : SqT K H a xs) (hl : H l = some (.lst ys)) : SqT K (L2.upd H l o) a xs := by
  rcases h with (h | ⟨ob, h⟩) | h
  · exact .inl (.inl (by rw [upd_ne (ne_of h hl (by intro z; cases z))]; exact h))
  · exact .inl (.inr ⟨ob, by rw [upd_ne (ne_of h hl (by intro z; cases z))]; exact h⟩)
  · exact .inr h
theorem SpotsAt.upd {K : PySem.W.Frag} {H : Hp} {l : Addr} {ys : List V} {o : HO} (hl : H l = some (.lst ys)) : ∀ {vs : List V} {sps : List (Str × Int)}, SpotsAt K H vs sps → SpotsAt K (L2.upd H l o) vs sps
  | _, _, .nil => .nil
  | _, _, .cons ⟨p, h1, h2⟩ t => .cons ⟨p, h1, SqT.upd h2 hl⟩ (SpotsAt.upd hl t)
theorem strs_at {zs : List (List Nat)} {k : Int} (h0 : 0 ≤ k) (h1 : k < (zs.length : Int)) : ∃ z, z ∈ zs.map sOf ∧ atI (strsV zs) k = some (.str z) ∧ (zs.map sOf)[k.toNat]? = some z := by
  have hl : (strsV zs).length = zs.length := by unfold strsV; rw [List.length_map]
  obtain ⟨c, hc, hc2⟩ := atI_some (l := strsV zs) h0 (by rw [hl]; exact h1)
  unfold strsV at hc2
  rw [List.getElem?_map] at hc2
  cases e : zs[k.toNat]? with
  | none => rw [e] at hc2; cases hc2
  | some y =>
    rw [e] at hc2
    have : c = .str (sOf y) := by simpa using hc2.symm
    subst this
    exact ⟨sOf y, List.mem_map.mpr ⟨y, List.mem_of_getElem? e, rfl⟩, hc, by rw [List.getElem?_map, e]; rfl⟩
end L2

set_option Elab.async false
set_option linter.all false
set_option maxRecDepth 100000
set_option maxHeartbeats 4000000
namespace L2
open PySem PySem.Spec PyProof.Rows

def NameOk (l : List Nat) : Prop := 1 ≤ l.length ∧ l.length ≤ 8 ∧ (∀ c ∈ l, c ∈ cds abc) ∧ l ∉ resv
instance (l : List Nat) : Decidable (NameOk l) := by unfold NameOk; infer_instance
def SpotQ (o : Option (List Nat × Int)) (H : Hp) (Q : VK) : Prop := match o with
  | none => ∀ H', Same H H' → Q .non H'
  | some s => ∀ r H', Same H H' → H' r = some (.tup [.str (sOf s.1), .int s.2]) → Q (.ref r) H'
theorem SpotQ.over {o : Option (List Nat × Int)} {H H1 : Hp} {Q : VK} (q : SpotQ o H Q) (e : Same H H1) : SpotQ o H1 Q := by
  cases o with
  | none => exact fun H' e' => q H' (e.trans e')
  | some s => exact fun r H' e' h => q r H' (e.trans e') h
end L2

set_option Elab.async false
set_option linter.all false
set_option maxRecDepth 100000
set_option maxHeartbeats 4000000
namespace L2
open PySem PySem.Spec PyProof.Rows
def spDInit (C : Addr) : Sp := fun vs H Q _ => ∃ (x dx : Addr) (v1 v2 v3 v4 v5 v6 v7 : V), vs = [.ref x, v1, v2, v3, v4, v5, v6, v7] ∧ H x = some (.ins C dx []) ∧ ∀ H', (∀ b o, H b = some o → b ≠ x → H' b = some o) → (∃ dx, H' x = some (.ins C dx [("names", v1), ("lows", v2), ("highs", v3), ("table", v4), ("spots", v5), ("term", v6), ("path", v7)])) → Q .non H'
structure Rw where
  ids : List Int
  path : List Int
def Rel (R S : Rw) (k : Nat) : Prop := k ≤ R.ids.length ∧ k ≤ S.ids.length ∧ R.ids.take k = S.ids.take k ∧ (∀ x ∈ R.ids.drop k, x ∉ S.ids) ∧ (∀ x ∈ S.ids.drop k, x ∉ R.ids) ∧ (∀ e < k, R.path.getD e 0 = S.path.getD e 0) ∧ (k < R.ids.length → k < S.ids.length → R.path.getD k 0 ≠ S.path.getD k 0)
def DeedAt (C : Addr) (H : Hp) (v : V) (R : Rw) : Prop := ∃ (d dx nm pt : Addr) (xs : List V) (v2 v3 v4 v5 v6 : V), v = .ref d ∧ H d = some (.ins C dx [("names", .ref nm), ("lows", v2), ("highs", v3), ("table", v4), ("spots", v5), ("term", v6), ("path", .ref pt)]) ∧ H nm = some (.tup xs) ∧ xs.length = R.ids.length ∧ H pt = some (.tup (R.path.map V.int)) ∧ R.path.length = R.ids.length + 1 ∧ R.ids.length ≤ 100
theorem names_len (c : Int) (n : Nat) : (namesF c n).length = n := by unfold namesF; rw [List.length_map, List.length_range]
def wo (H : Hp) (l : Addr) : Hp := fun b => if b = l then none else H b
theorem wo_same {H : Hp} {l : Addr} : Same (wo H l) H := fun b o h => by
  unfold wo at h
  split at h
  · cases h
  · exact h
theorem wo_mono {H H' : Hp} {l : Addr} (e : Same H H') : Same (wo H l) (wo H' l) := fun b o h => by
  unfold wo at h ⊢
  split at h
  · cases h
  · rename_i c; rw [if_neg c]; exact e b o h
theorem wo_upd {H : Hp} {l : Addr} {o : HO} : wo (upd H l o) l = wo H l := by
  funext b
  unfold wo
  by_cases c : b = l
  · rw [if_pos c, if_pos c]
  · rw [if_neg c, if_neg c, upd_ne c]
theorem wo_ne {H : Hp} {l b : Addr} (h : b ≠ l) : wo H l b = H b := by unfold wo; rw [if_neg h]
def LoopAt (H : Hp) (v : V) (id : Int) : Prop := ∃ (p p1 p2 : Addr) (nm b1 : Str) (n1 : Int) (b2 : Str) (n2 : Int), v = .ref p ∧ H p = some (.tup [.str nm, .ref p1, .ref p2, .int id]) ∧ H p1 = some (.tup [.str b1, .int n1]) ∧ H p2 = some (.tup [.str b2, .int n2])
def OpenAt (H : Hp) (v : V) (ids : List Int) : Prop := ∃ (o : Addr) (vs : List V), v = .ref o ∧ H o = some (.lst vs) ∧ vs.length = ids.length ∧ ∀ (i : Nat) (x : V) (id : Int), vs[i]? = some x → ids[i]? = some id → LoopAt H x id
def RowAt (H : Hp) (v : V) (R : Rw) : Prop := ∃ t o pt : Addr, v = .ref t ∧ H t = some (.tup [.ref o, .ref pt]) ∧ OpenAt H (.ref o) R.ids ∧ H pt = some (.tup (R.path.map V.int)) ∧ R.path.length = R.ids.length + 1 ∧ R.ids.length ≤ 3
theorem LoopAt.over {H H' : Hp} {v : V} {id : Int} (h : LoopAt H v id) (e : Same H H') : LoopAt H' v id := by
  obtain ⟨p, p1, p2, nm, b1, n1, b2, n2, rfl, h0, h1, h2⟩ := h
  exact ⟨p, p1, p2, nm, b1, n1, b2, n2, rfl, e _ _ h0, e _ _ h1, e _ _ h2⟩
theorem OpenAt.over {H H' : Hp} {v : V} {ids : List Int} (h : OpenAt H v ids) (e : Same H H') : OpenAt H' v ids := by
  obtain ⟨o, vs, rfl, h0, h1, h2⟩ := h
  exact ⟨o, vs, rfl, e _ _ h0, h1, fun i x id a b => (h2 i x id a b).over e⟩
theorem RowAt.over {H H' : Hp} {v : V} {R : Rw} (h : RowAt H v R) (e : Same H H') : RowAt H' v R := by
  obtain ⟨t, o, pt, rfl, h0, h1, h2, h3⟩ := h
  exact ⟨t, o, pt, rfl, e _ _ h0, h1.over e, e _ _ h2, h3⟩
theorem DeedAt.over {C : Addr} {H H' : Hp} {v : V} {R : Rw} (h : DeedAt C H v R) (e : Same H H') : DeedAt C H' v R := by
  obtain ⟨d, dx, nm, pt, xs, v2, v3, v4, v5, v6, rfl, h0, h1, h2, h3, h4⟩ := h
  exact ⟨d, dx, nm, pt, xs, v2, v3, v4, v5, v6, rfl, e _ _ h0, e _ _ h1, h2, e _ _ h3, h4⟩
theorem flat_strs (l : List (List Nat)) : (strsV l).all flatV = true := by
  unfold strsV
  rw [List.all_map]
  exact List.all_eq_true.mpr fun _ _ => rfl
def RowsAt (H : Hp) (l : Addr) (Rs : List Rw) : Prop := ∃ vs : List V, H l = some (.lst vs) ∧ vs.length = Rs.length ∧ ∀ (i : Nat) (x : V) (R : Rw), vs[i]? = some x → Rs[i]? = some R → RowAt H x R
theorem RowsAt.over {H H' : Hp} {l : Addr} {Rs : List Rw} (h : RowsAt H l Rs) (e : Same H H') : RowsAt H' l Rs := by
  obtain ⟨vs, h0, h1, h2⟩ := h
  exact ⟨vs, e _ _ h0, h1, fun i x R a b => (h2 i x R a b).over e⟩
def AllRel (Rs : List Rw) : Prop := ∀ R ∈ Rs, ∀ S ∈ Rs, ∃ k, Rel R S k
def RelC (R : Rw) (ids path : List Int) : Prop := ∃ k, k ≤ R.ids.length ∧ k ≤ ids.length ∧ R.ids.take k = ids.take k ∧ (∀ x ∈ R.ids.drop k, x ∉ ids) ∧ (∀ x ∈ ids.drop k, x ∉ R.ids) ∧ (∀ e < k, R.path.getD e 0 = path.getD e 0) ∧ R.path.getD k 0 < path.getD k 0
structure Cur (Rs : List Rw) (ids path : List Int) (many : Int) : Prop where
  pl : path.length = ids.length + 1
  il : ids.length ≤ 3
  nd : ids.Nodup
  le : ∀ x ∈ ids, x ≤ many
  rl : ∀ R ∈ Rs, ∀ x ∈ R.ids, x ≤ many
  rc : ∀ R ∈ Rs, RelC R ids path
  ar : AllRel Rs
theorem Rel.symm {R S : Rw} {k : Nat} (h : Rel R S k) : Rel S R k := by
  obtain ⟨k1, k2, k3, k4, k5, k6, k7⟩ := h
  exact ⟨k2, k1, k3.symm, k5, k4, fun e he => (k6 e he).symm, fun a b z => k7 b a z.symm⟩
structure NestAt (H : Hp) (l o pt la : Addr) (ids path : List Int) (Rs : List Rw) : Prop where
  rows : ∃ vs : List V, H l = some (.lst vs) ∧ vs.length = Rs.length ∧ ∀ (i : Nat) (x : V) (R : Rw), vs[i]? = some x → Rs[i]? = some R → RowAt (wo H l) x R
  op : OpenAt (wo H l) (.ref o) ids
  pa : wo H l pt = some (.lst (path.map V.int))
  la : ∃ id, LoopAt (wo H l) (.ref la) id
theorem NestAt.over {H H' : Hp} {l o pt la : Addr} {ids path : List Int} {Rs : List Rw} (h : NestAt H l o pt la ids path Rs) (e : Same H H') : NestAt H' l o pt la ids path Rs := by
  obtain ⟨vs, h0, h1, h2⟩ := h.rows
  obtain ⟨id, hl⟩ := h.la
  exact ⟨⟨vs, e _ _ h0, h1, fun i x R a b => (h2 i x R a b).over (wo_mono e)⟩, h.op.over (wo_mono e), wo_mono e _ _ h.pa, ⟨id, hl.over (wo_mono e)⟩⟩
theorem NestAt.all {H : Hp} {l o pt la : Addr} {ids path : List Int} {Rs : List Rw} (h : NestAt H l o pt la ids path Rs) : RowsAt H l Rs := by
  obtain ⟨vs, h0, h1, h2⟩ := h.rows
  exact ⟨vs, h0, h1, fun i x R a b => (h2 i x R a b).over wo_same⟩
theorem if_any {tt : TT} {ta tb : TS} {D : Ends} {σ : St} {H : Hp} (M : Hp → Prop) (hb : ∀ H', M H' → tb D σ H') (h : (∀ H', M H' → tb D σ H') → tIfS tt ta tb D σ H) : tIfS tt ta tb D σ H := h hb
theorem NestAt.start {H : Hp} {o pt l q1 q2 la : Addr} (h1 : H o = none) (h2 : (upd H o (.lst [])) pt = none) (h3 : (upd (upd H o (.lst [])) pt (.lst [.int 0])) l = none)
    (h4 : (upd (upd (upd H o (.lst [])) pt (.lst [.int 0])) l (.lst [])) q1 = none) (h5 : (upd (upd (upd (upd H o (.lst [])) pt (.lst [.int 0])) l (.lst [])) q1 (.tup [.str (Str.ofString ""), .int 0])) q2 = none)
    (h6 : (upd (upd (upd (upd (upd H o (.lst [])) pt (.lst [.int 0])) l (.lst [])) q1 (.tup [.str (Str.ofString ""), .int 0])) q2 (.tup [.str (Str.ofString ""), .int 0])) la = none) :
    NestAt (upd (upd (upd (upd (upd (upd H o (.lst [])) pt (.lst [.int 0])) l (.lst [])) q1 (.tup [.str (Str.ofString ""), .int 0])) q2 (.tup [.str (Str.ofString ""), .int 0])) la (.tup [.str (Str.ofString ""), .ref q1, .ref q2, .int 0])) l o pt la [] [0] [] := by
  have a1 : (upd H o (.lst [])) o = some (.lst []) := upd_same
  have b1 := same_new h2 (.lst [.int 0]) _ _ a1
  have b2 : (upd (upd H o (.lst [])) pt (.lst [.int 0])) pt = some (.lst [.int 0]) := upd_same
  have c1 := same_new h3 (.lst []) _ _ b1
  have c2 := same_new h3 (.lst []) _ _ b2
  have c3 : (upd (upd (upd H o (.lst [])) pt (.lst [.int 0])) l (.lst [])) l = some (.lst []) := upd_same
  have nO : o ≠ l := ne_of_none b1 h3
  have nP : pt ≠ l := ne_of_none b2 h3
  have s4 := same_new h4 (.tup [.str (Str.ofString ""), .int 0])
  have s5 := same_new h5 (.tup [.str (Str.ofString ""), .int 0])
  have s6 := same_new h6 (.tup [.str (Str.ofString ""), .ref q1, .ref q2, .int 0])
  have t := (s4.trans s5).trans s6
  have n1 : q1 ≠ l := (ne_of_none c3 h4).symm
  have n2 : q2 ≠ l := (ne_of_none (s4 _ _ c3) h5).symm
  have n3 : la ≠ l := (ne_of_none (s5 _ _ (s4 _ _ c3)) h6).symm
  refine ⟨⟨[], t _ _ c3, rfl, fun i x R a => by simp at a⟩, ⟨o, [], rfl, by rw [wo_ne nO]; exact t _ _ c1, rfl, fun i x id a => by simp at a⟩, by rw [wo_ne nP]; exact t _ _ c2, ⟨0, la, q1, q2, Str.ofString "", Str.ofString "", 0, Str.ofString "", 0, rfl, ?_, ?_, ?_⟩⟩
  · rw [wo_ne n3]; exact upd_same
  · rw [wo_ne n1]; exact s6 _ _ (s5 _ _ upd_same)
  · rw [wo_ne n2]; exact s6 _ _ upd_same
theorem tup_ne {H : Hp} {p l : Addr} {xs ys : List V} (h1 : H p = some (.tup xs)) (h2 : H l = some (.lst ys)) : p ≠ l := fun e => by
  rw [e, h2] at h1
  cases h1
theorem LoopAt.wo {H : Hp} {v : V} {id : Int} {l : Addr} {ys : List V} (h : LoopAt H v id) (hl : H l = some (.lst ys)) : LoopAt (L2.wo H l) v id := by
  obtain ⟨p, p1, p2, nm, b1, n1, b2, n2, rfl, h0, h1, h2⟩ := h
  exact ⟨p, p1, p2, nm, b1, n1, b2, n2, rfl, by rw [wo_ne (tup_ne h0 hl)]; exact h0, by rw [wo_ne (tup_ne h1 hl)]; exact h1, by rw [wo_ne (tup_ne h2 hl)]; exact h2⟩
theorem made_same {H H2 : Hp} {x dx C : Addr} (hx : H x = none) (hdx : H dx = none) (k : ∀ b o, (upd (upd H dx (.own x)) x (.ins C dx [])) b = some o → b ≠ x → H2 b = some o) : Same H H2 := fun b o e => by
  have n1 := ne_of_none e hx
  have n2 := ne_of_none e hdx
  exact k b o (by rw [upd_ne n1, upd_ne n2]; exact e) n1
theorem cutV_map (ns : List Int) (lo hi : Option Int) : cutV (ns.map V.int) lo hi = (cutC ns lo hi).map V.int := by
  unfold cutV cutC
  rw [List.length_map, List.map_take, List.map_drop]
end L2

set_option Elab.async false
set_option linter.all false
set_option maxRecDepth 100000
set_option maxHeartbeats 4000000
namespace L2
open PySem PySem.Spec PyProof.Rows
section
variable {X : Cx} {pins : List (Addr × Obj)} {σ : St} {H : Hp} {s : Shared} {h' : Heap}
theorem Inv.turnedL {t' : Nat} {ch : List Addr} (I : Inv X pins σ H s) (k : ∀ b o, b ∉ ch → s.heap.get? b = some o → h'.get? b = some o) (hf : ∀ b ∈ ch, FpOk X pins H b) : Inv X pins σ H { s with heap := h', toks := t' } := by
  have nit : ∀ b u, H b = some u → b ∉ ch := fun b u e z => by rw [(hf b z).1] at e; cases e
  have hL : X.env.locals ∉ ch := fun z => (hf _ z).2.1 rfl
  refine I.step (g' := s.gens) (d' := s.drawn) (ch := ch) (fun b hb => ?_) (fun b o _ _ hc e _ => k b o hc e) (fun b o _ _ hc e _ => ⟨o.slots, k b o hc e⟩) (fun _ _ _ _ n => n)
    (fun b o hc e => ⟨o, k b o hc e⟩) (fun _ _ e => e) (fun _ _ _ e => e) (fun b ps e => ⟨#[], by rw [e]; simp⟩) (fun m hm => ?_) (fun b u e => ?_) I.bare
  · obtain ⟨f0, f1, f2, f3, f4, f5⟩ := hf b hb
    exact ⟨f3, f1, f4, f5⟩
  · obtain ⟨o, es, ep, ho, r⟩ := hm
    exact ⟨o, es, ep, k _ o hL ho, r⟩
  · refine (I.hok b u e).stay (fun c v hc q => k c v ?_ q) (fun _ q => q) fun _ _ q => q
    rcases hc with z | z
    · rw [z]; exact nit b u e
    · exact nit c _ z
end
def Itz (K : PySem.W.Frag) (a b : Addr) : It :=
  ⟨fun i H => ∃ xs ys x y, SqL K H a xs ∧ SqL K H b ys ∧ xs[i]? = some x ∧ ys[i]? = some y, fun i H v H' => ∃ x y T, (∀ xs, SqL K H a xs → xs[i]? = some x) ∧ (∀ ys, SqL K H b ys → ys[i]? = some y) ∧ H T = none ∧ v = .ref T ∧ H' = upd H T (.tup [x, y]),
    fun i H => ∃ xs ys, SqL K H a xs ∧ SqL K H b ys ∧ (xs.length ≤ i ∨ ys.length ≤ i)⟩
theorem turn_zip {P : Program} {w : World} {K : PySem.W.Frag} {elts : List Expr} {x1 : Nat} {pos : Pos} (a b z TI TO i1 i2 : Addr) (D : ZipApart z TI TO i1 i2 a b) :
    Turn P w K (.Tuple elts x1 pos) (Itz K a b) [z, TI, TO, i1, i2] z (fun i h => IsZip h z TI TO .none ∧ IsPair h TI (.ref i1) (.ref i2) ∧ (∃ p q, IsPair h TO p q) ∧ h.IsListIter i1 a i ∧ h.IsListIter i2 b i) where
  mem := by simp
  obj := fun i h st c hc => by
    obtain ⟨hz, hTI, ⟨p, q, hTO⟩, h1, h2⟩ := st
    simp only [List.mem_cons, List.not_mem_nil, or_false] at hc
    rcases hc with rfl | rfl | rfl | rfl | rfl
    · exact ⟨_, hz, fun v z => by cases z⟩
    · exact ⟨_, hTI, fun v z => by cases z⟩
    · exact ⟨_, hTO, fun v z => by cases z⟩
    · obtain ⟨o, e, c, d⟩ := h1
      exact ⟨o, e, fun v z => by rw [d] at z; cases z⟩
    · obtain ⟨o, e, c, d⟩ := h2
      exact ⟨o, e, fun v z => by rw [d] at z; cases z⟩
  keep := fun i h h' st k => by
    obtain ⟨hz, hTI, ⟨p, q, hTO⟩, h1, h2⟩ := st
    exact ⟨k z (by simp) _ hz, k TI (by simp) _ hTI, ⟨p, q, k TO (by simp) _ hTO⟩, h1.at fun o e => k i1 (by simp) o e, h2.at fun o e => k i2 (by simp) o e⟩
  item := by
    intro X hP hw hK hc i pins s σ H E I hf st hg
    subst hP hw hK
    obtain ⟨xs, ys, x, y, hq1, hq2, hx, hy⟩ := hg
    obtain ⟨its1, rv1, p1, _⟩ := I.list hq1
    obtain ⟨its2, rv2, p2, _⟩ := I.list hq2
    obtain ⟨u, hu, ru⟩ := rv1.get hx
    obtain ⟨v, hv, rv⟩ := rv2.get hy
    obtain ⟨hz, hTI, ⟨pa, qa, hTO⟩, h1, h2⟩ := st
    refine wpAny_pyNext_zip_item D hz hTI hTO h1 h2 p1.isList p2.isList (x := u) (y := v) (by simpa using hu) (by simpa using hv) fun hh hz' hTO' h1' h2' hT hsz hk => ⟨_, rfl, ?_⟩
    refine wpAny_letOwnedTupleGo_zip hz' fun h3 hz3 hs3 => ?_
    have hTn : H s.heap.objs.size = none := I.hok.fresh (Nat.le_refl _)
    have lts : ∀ c ∈ [z, TI, TO, i1, i2], c < s.heap.objs.size := fun c hc => by
      simp only [List.mem_cons, List.not_mem_nil, or_false] at hc
      rcases hc with rfl | rfl | rfl | rfl | rfl
      · exact Heap.lt_size hz
      · exact Heap.lt_size hTI
      · exact Heap.lt_size hTO
      · obtain ⟨_, e, _⟩ := h1; exact Heap.lt_size e
      · obtain ⟨_, e, _⟩ := h2; exact Heap.lt_size e
    have I1 : Inv X pins σ (upd H s.heap.objs.size (.tup [x, y])) { s with heap := s.heap.push { cls := .type "tuple", data := .seq #[u, v] } } := I.laid (t' := s.toks) (o := .tup [x, y]) (fun b o e => Heap.get?_push_of_some _ e) (Nat.le_refl _) ⟨szl (by show 2 ≤ 1000000; decide), [u, v], .cons ru (.cons rv .nil), IsTupN.new _ _⟩
    have I2 : Inv X pins σ (upd H s.heap.objs.size (.tup [x, y])) { s with heap := h3 } := by
      refine Inv.turnedL (s := { s with heap := s.heap.push { cls := .type "tuple", data := .seq #[u, v] } }) (h' := h3) (ch := [z, TI, TO, i1, i2]) (t' := s.toks) I1 (fun b o hb q => ?_) (fun b hb => ?_)
      · simp only [List.mem_cons, List.not_mem_nil, or_false, not_or] at hb
        obtain ⟨n1, n2, n3, n4, n5⟩ := hb
        show h3.get? b = some o
        rw [hs3.2 b n1]
        rcases Heap.get?_push_cases q with ⟨rfl, rfl⟩ | q
        · exact hT
        · exact hk b o n1 n3 n4 n5 q
      · obtain ⟨f0, f1, f2, f3, f4, f5⟩ := hf b hb
        exact ⟨by rw [upd_ne (Nat.ne_of_lt (lts b hb))]; exact f0, f1, f2, f3, f4, f5⟩
    have k3 : ∀ c, c ≠ z → ∀ o, hh.get? c = some o → h3.get? c = some o := fun c hc o e => (hs3.2 c hc).trans e
    refine ⟨.ref s.heap.objs.size, _, I2, rfl, ⟨x, y, _, fun zs hy => by rw [I.list_inj hy hq1]; exact hx, fun zs hy' => by rw [I.list_inj hy' hq2]; exact hy, hTn, rfl, rfl⟩, ⟨hz3, k3 TI D.TIz _ (hk TI _ D.TIz D.TITO D.TIi1 D.TIi2 hTI), ⟨u, v, k3 TO D.TOz _ hTO'⟩, h1'.at (k3 i1 D.i1z), h2'.at (k3 i2 D.i2z)⟩, fun b hb => ?_⟩
    rw [upd_ne (Nat.ne_of_lt (lts b hb))]
    exact (hf b hb).1
  done := by
    intro X hP hw hK hc i pins s σ H E I hf st hg
    subst hP hw hK
    obtain ⟨xs, ys, hq1, hq2, hl⟩ := hg
    obtain ⟨its1, rv1, p1, _⟩ := I.list hq1
    obtain ⟨its2, rv2, p2, _⟩ := I.list hq2
    obtain ⟨hz, hTI, ⟨pa, qa, hTO⟩, h1, h2⟩ := st
    have hl1 := rv1.length
    have hl2 := rv2.length
    refine wpAny_pyNext_zip_end (I.ok.hd hc) D hz hTI hTO h1 h2 p1.isList p2.isList (hl.imp (fun z => by simp; omega) (fun z => by simp; omega)) fun h' hk => ⟨rfl, ?_⟩
    refine I.turnedL (ch := [z, TI, TO, i1, i2]) (t' := s.toks) (fun b o hb q => ?_) hf
    simp only [List.mem_cons, List.not_mem_nil, or_false, not_or] at hb
    obtain ⟨n1, n2, n3, n4, n5⟩ := hb
    exact hk b o n1 n3 n4 n5 q
  self := fun _ _ _ _ _ st h => by
    obtain ⟨hz, _⟩ := st
    exact wpAny_pyIter_zip hz h
def iZip (K : PySem.W.Frag) (ta : TA) : TI := fun σ H R => ta σ H fun vs H1 => ∃ a b : Addr, vs = [.ref a, .ref b] ∧ (∃ xs, SqL K H1 a xs) ∧ (∃ ys, SqL K H1 b ys) ∧ R (Itz K a b) H1
theorem pi_zip2 {X : Cx} {a b : Expr} {ta : TA} {p pos : Pos} {elts : List Expr} {x1 : Nat} {pos2 : Pos} (hg : Gl X "zip") (hm : X.mg "zip" = none) (ha : PA X [a, b] ta) (hs : starEach [a, b] X.env = [(false, eval a X.env), (false, eval b X.env)] := by rfl) (hs2 : starEach [b] X.env = [(false, eval b X.env)] := by rfl) :
    PI X (.Tuple elts x1 pos2) (.Call (.Name "zip" p) [a, b] [] pos) (iZip X.K ta) := by
  intro pins s σ H R I h
  refine Call_ (ld_blt I hg hm boot_zip (PyProof.Rows.callWith_type1 (thn (ha pos pins s σ H _ I h) fun us s1 ⟨vs, H1, I1, r1, q1⟩ => ?_) (by rw [hs, hs2]) (by rw [hs2]; rfl)))
  obtain ⟨l1, l2, rfl, ⟨xs, hq1⟩, ⟨ys, hq2⟩, q⟩ := q1
  cases r1 with
  | cons r rr =>
    cases rr with
    | cons r' rr =>
      cases rr
      cases r
      cases r'
      obtain ⟨its1, rv1, p1, _⟩ := I1.list hq1
      obtain ⟨its2, rv2, p2, _⟩ := I1.list hq2
      have lt1 : l1 < s1.heap.objs.size := by obtain ⟨_, e, _⟩ := p1.isList; exact Heap.lt_size e
      have lt2 : l2 < s1.heap.objs.size := by obtain ⟨_, e, _⟩ := p2.isList; exact Heap.lt_size e
      refine call_zip_2 p1.isList p2.isList fun h' hz hTI hTO h1 h2 hsz hk => ?_
      refine wpAny_pyIter_zip hz ?_
      have ne : ∀ {m n : Nat}, m < n → (m : Nat) ≠ n := fun h => Nat.ne_of_lt h
      refine ⟨_, [s1.heap.objs.size + 4, s1.heap.objs.size + 2, s1.heap.objs.size + 3, s1.heap.objs.size, s1.heap.objs.size + 1], _, _, H1, rfl, I1.kept (t' := s1.toks) hk, turn_zip l1 l2 _ _ _ _ _ ⟨?_, ?_, ?_, ?_, ?_, ?_, ?_, ?_, ?_, ?_, ?_, ?_, ?_, ?_, ?_, ?_, ?_, ?_⟩, ⟨hz, hTI, ⟨_, _, hTO⟩, h1, h2⟩, fun b hb => ?_, q⟩
      case refine_19 =>
        simp only [List.mem_cons, List.not_mem_nil, or_false] at hb
        have hb' : s1.heap.objs.size ≤ b := by
          rcases hb with rfl | rfl | rfl | rfl | rfl
          · exact Nat.le_add_right _ 4
          · exact Nat.le_add_right _ 2
          · exact Nat.le_add_right _ 3
          · exact Nat.le_refl _
          · exact Nat.le_add_right _ 1
        exact I1.fpOk hb' (I1.hok.fresh hb')
      all_goals first
        | exact Nat.ne_of_lt lt1
        | exact Nat.ne_of_lt lt2
        | exact Nat.ne_of_lt (Nat.lt_of_lt_of_le lt1 (Nat.le_add_right _ _))
        | exact Nat.ne_of_lt (Nat.lt_of_lt_of_le lt2 (Nat.le_add_right _ _))
        | (show (_ : Nat) ≠ _; omega)
theorem for_zip {K : PySem.W.Frag} {a b : Addr} {xs ys : List V} {g : TG} {tb : TS} {D : Ends} {σ : St} {H : Hp} (hlen : xs.length = ys.length) (Pv : Nat → St → Hp → Prop) (h0 : Pv 0 σ H) (hl : ∀ i σ H, i ≤ xs.length → Pv i σ H → SqL K H a xs ∧ SqL K H b ys)
    (hs : ∀ i x y T σ H, xs[i]? = some x → ys[i]? = some y → Pv i σ H → H T = none → g (.ref T) σ (upd H T (.tup [x, y])) fun σ2 H2 => tb { D with nx := Pv (i + 1), ct := Pv (i + 1), bk := D.nx } σ2 H2) (hd : ∀ σ H, Pv xs.length σ H → D.nx σ H) :
    ∃ W : Nat → Nat → St → Hp → Prop, (∃ m, W 0 m σ H) ∧ ∀ i m σ H, W i m σ H →
      ((Itz K a b).stop i H ∧ D.nx σ H) ∨ ((Itz K a b).go i H ∧ ∃ N : St → Hp → Prop, (∀ σ' H', N σ' H' → ∃ m', m' < m ∧ W (i + 1) m' σ' H') ∧ ∀ x H', (Itz K a b).yld i H x H' → g x σ H' fun σ2 H2 => tb { D with nx := N, ct := N, bk := D.nx } σ2 H2) := by
  refine ⟨fun i m σ H => m = xs.length - i ∧ i ≤ xs.length ∧ Pv i σ H, ⟨xs.length, by simp, Nat.zero_le _, h0⟩, ?_⟩
  rintro i m σ H ⟨rfl, hi, p⟩
  obtain ⟨q1, q2⟩ := hl i σ H hi p
  by_cases hlt : i < xs.length
  · refine .inr ⟨⟨xs, ys, xs[i], ys[i], q1, q2, List.getElem?_eq_getElem hlt, List.getElem?_eq_getElem (by omega)⟩, Pv (i + 1), fun σ' H' p' => ⟨xs.length - (i + 1), by omega, rfl, hlt, p'⟩, fun v H' yy => ?_⟩
    obtain ⟨x, y, T, hx, hy, hT, rfl, rfl⟩ := yy
    exact hs i x y T σ H (hx xs q1) (hy ys q2) p hT
  · have e : i = xs.length := by omega
    subst e
    exact .inl ⟨⟨xs, ys, q1, q2, .inl (Nat.le_refl _)⟩, hd σ H p⟩
theorem pe_alt {X : Cx} {e : Expr} {t u : TE} (h1 : PE X e t) (h2 : PE X e u) : PE X e (fun σ H Q => t σ H Q ∨ u σ H Q) := by
  intro pins s σ H Q I h
  exact h.elim (h1 pins s σ H Q I) (h2 pins s σ H Q I)
end L2

set_option Elab.async false
set_option linter.all false
set_option maxRecDepth 100000
set_option maxHeartbeats 4000000
namespace L2
open PySem PySem.Spec PyProof.Rows
def spIni (C : Addr) (fs : List Str) : Sp := fun as H Q _ => ∃ (x dx : Addr) (vs : List V), as = .ref x :: vs ∧ vs.length = fs.length ∧ H x = some (.ins C dx []) ∧ ∀ H', (∀ b o, H b = some o → b ≠ x → H' b = some o) → (∃ dx, H' x = some (.ins C dx (fs.zip vs))) → Q .non H'
mutual
theorem TrIs.over {K : PySem.W.Frag} {H H' : Hp} (e : Same H H') : ∀ {t : Tr} {x : V}, TrIs K H x t → TrIs K H' x t
  | .v _, _, .flat h => .flat h
  | .lst _, _, .lst h r => .lst (e.seq h) (TrsIs.over e r)
  | .tup _, _, .tup h r => .tup (e.seqT h) (TrsIs.over e r)
theorem TrsIs.over {K : PySem.W.Frag} {H H' : Hp} (e : Same H H') : ∀ {l : List Tr} {xs : List V}, TrsIs K H xs l → TrsIs K H' xs l
  | [], _, .nil => .nil
  | _ :: _, _, .cons h r => .cons (TrIs.over e h) (TrsIs.over e r)
end
theorem TrsIs.app {K : PySem.W.Frag} {H : Hp} : ∀ {l m : List Tr} {xs ys : List V}, TrsIs K H xs l → TrsIs K H ys m → TrsIs K H (xs ++ ys) (l ++ m)
  | [], _, _, _, .nil, h => h
  | _ :: _, _, _, _, .cons a r, h => .cons a (TrsIs.app r h)
theorem depTs_app : ∀ (l m : List Tr), depTs (l ++ m) = max (depTs l) (depTs m)
  | [], m => by rw [depTs]; simp
  | x :: l, m => by rw [List.cons_append, depTs, depTs, depTs_app l m, Nat.max_assoc]
mutual
def noL : Tr → Bool
  | .v _ => true
  | .lst _ => false
  | .tup l => noLs l
def noLs : List Tr → Bool
  | [] => true
  | x :: l => noL x && noLs l
end
theorem noLs_app : ∀ (l m : List Tr), noLs (l ++ m) = (noLs l && noLs m)
  | [], m => by rw [noLs]; rfl
  | x :: l, m => by rw [List.cons_append, noLs, noLs, noLs_app l m, Bool.and_assoc]
theorem SqT.wo {K : PySem.W.Frag} {H : Hp} {p l : Addr} {xs ys : List V} (h : SqT K H p xs) (hl : H l = some (.lst ys)) : SqT K (L2.wo H l) p xs := by
  rcases h with (h | ⟨o, h⟩) | h
  · refine .inl (.inl ?_)
    rw [wo_ne (fun e => by rw [e, hl] at h; cases h)]
    exact h
  · refine .inl (.inr ⟨o, ?_⟩)
    rw [wo_ne (fun e => by rw [e, hl] at h; cases h)]
    exact h
  · exact .inr h
mutual
theorem TrIs.wo {K : PySem.W.Frag} {H : Hp} {l : Addr} {ys : List V} (hl : H l = some (.lst ys)) : ∀ {t : Tr} {x : V}, TrIs K H x t → noL t = true → TrIs K (L2.wo H l) x t
  | .v _, _, .flat h, _ => .flat h
  | .lst _, _, .lst _ _, n => by simp [noL] at n
  | .tup _, _, .tup h r, n => .tup (SqT.wo h hl) (TrsIs.wo hl r (by rw [noL] at n; exact n))
theorem TrsIs.wo {K : PySem.W.Frag} {H : Hp} {l : Addr} {ys : List V} (hl : H l = some (.lst ys)) : ∀ {m : List Tr} {xs : List V}, TrsIs K H xs m → noLs m = true → TrsIs K (L2.wo H l) xs m
  | [], _, .nil, _ => .nil
  | _ :: _, _, .cons h r, n => by
    rw [noLs, Bool.and_eq_true] at n
    exact .cons (TrIs.wo hl h n.1) (TrsIs.wo hl r n.2)
end
structure Cs where
  n : Addr
  v : Addr
  c : Addr
  j : Addr
inductive Trm (K : PySem.W.Frag) (c : Cs) (H : Hp) : Nat → V → List Tr → Prop
  | num {x dx : Addr} (i : Int) : H x = some (.ins c.n dx [("n", .int i)]) → Trm K c H 1 (.ref x) []
  | val {x dx : Addr} (z : Str) : H x = some (.ins c.v dx [("name", .str z)]) → Trm K c H 1 (.ref x) []
  | cel {x dx p : Addr} (z : Str) (t : Tr) : H x = some (.ins c.c dx [("table", .str z), ("spots", .ref p)]) → TrIs K H (.ref p) t → depT t ≤ 5 → noL t = true → Trm K c H 1 (.ref x) [.tup [.v (.str z), t]]
  | joi {x dx : Addr} {l r : V} {m n : Nat} {ts us : List Tr} (z : Str) : H x = some (.ins c.j dx [("sign", .str z), ("left", l), ("right", r)]) → Trm K c H m l ts → Trm K c H n r us → Trm K c H (m + n) (.ref x) (ts ++ us)
theorem Trm.over {K : PySem.W.Frag} {c : Cs} {H H' : Hp} (e : Same H H') {n : Nat} {x : V} {ts : List Tr} (h : Trm K c H n x ts) : Trm K c H' n x ts := by
  induction h with
  | num i h => exact .num i (e _ _ h)
  | val z h => exact .val z (e _ _ h)
  | cel z t h ht hd hn => exact .cel z t (e _ _ h) (ht.over e) hd hn
  | joi z h _ _ a b => exact .joi z (e _ _ h) a b
theorem Trm.pos {K : PySem.W.Frag} {c : Cs} {H : Hp} {n : Nat} {x : V} {ts : List Tr} (h : Trm K c H n x ts) : 1 ≤ n ∧ ts.length ≤ n ∧ depTs ts ≤ 6 := by
  induction h with
  | num i h => exact ⟨Nat.le_refl _, Nat.zero_le _, Nat.zero_le _⟩
  | val z h => exact ⟨Nat.le_refl _, Nat.zero_le _, Nat.zero_le _⟩
  | cel z t h ht hd hn =>
    refine ⟨Nat.le_refl _, Nat.le_refl _, ?_⟩
    rw [depTs, depT, depTs, depTs, depTs, depT, depTs]
    omega
  | joi z h _ _ a b =>
    refine ⟨by omega, by rw [List.length_append]; omega, ?_⟩
    rw [depTs_app]
    omega
theorem ins_ne {H : Hp} {p l C dx : Addr} {fs : List (Str × V)} {ys : List V} (h1 : H p = some (.ins C dx fs)) (h2 : H l = some (.lst ys)) : p ≠ l := fun e => by
  rw [e, h2] at h1
  cases h1
theorem Trm.wo {K : PySem.W.Frag} {c : Cs} {H : Hp} {n : Nat} {x : V} {ts : List Tr} {l : Addr} {ys : List V} (hl : H l = some (.lst ys)) (h : Trm K c H n x ts) : Trm K c (L2.wo H l) n x ts := by
  induction h with
  | num i h => exact .num i (by rw [wo_ne (ins_ne h hl)]; exact h)
  | val z h => exact .val z (by rw [wo_ne (ins_ne h hl)]; exact h)
  | cel z t h ht hd hn => exact .cel z t (by rw [wo_ne (ins_ne h hl)]; exact h) (ht.wo hl hn) hd hn
  | joi z h _ _ a b => exact .joi z (by rw [wo_ne (ins_ne h hl)]; exact h) a b
def KindAt (c : Cs) (H : Hp) (v : V) (w : Nat) : Prop := ∃ (x dx C : Addr) (fs : List (Str × V)), v = .ref x ∧ [c.n, c.v, c.c, c.j][w]? = some C ∧ H x = some (.ins C dx fs)
def kindsV (w : Nat) : List V := [.bl (decide (w = 0)), .bl (decide (w = 1)), .bl (decide (w = 2)), .bl (decide (w = 3)), .bl true]
def kindsT (w : Nat) : List Tr := [.v (.bl (decide (w = 0))), .v (.bl (decide (w = 1))), .v (.bl (decide (w = 2))), .v (.bl (decide (w = 3))), .v (.bl true)]
theorem kinds_tr {K : PySem.W.Frag} {H : Hp} {r : Addr} {w : Nat} (h : H r = some (.lst (kindsV w))) : TrIs K H (.ref r) (.lst (kindsT w)) := .lst (SqL.of h) (.cons (.flat rfl) (.cons (.flat rfl) (.cons (.flat rfl) (.cons (.flat rfl) (.cons (.flat rfl) .nil)))))
theorem Trm.kind {K : PySem.W.Frag} {c : Cs} {H : Hp} {n : Nat} {x : V} {ts : List Tr} (h : Trm K c H n x ts) : ∃ w < 4, KindAt c H x w := by
  cases h with
  | num i h => exact ⟨0, by decide, _, _, _, _, rfl, rfl, h⟩
  | val z h => exact ⟨1, by decide, _, _, _, _, rfl, rfl, h⟩
  | cel z t h ht hd hn => exact ⟨2, by decide, _, _, _, _, rfl, rfl, h⟩
  | joi z h _ _ => exact ⟨3, by decide, _, _, _, _, rfl, rfl, h⟩
def spNone : Sp := fun vs H Q _ => ∃ x : V, vs = [x] ∧ ∀ (r : Addr) (H' : Hp), Same H H' → H' r = some (.lst []) → Q (.ref r) H'
def spReadC (C : Addr) : Sp := fun vs H Q _ => ∃ (x dx : Addr) (z : Str) (v : V), vs = [.ref x] ∧ H x = some (.ins C dx [("table", .str z), ("spots", v)]) ∧ ∀ (t r : Addr) (H' : Hp), Same H H' → H' t = some (.tup [.str z, v]) → H' r = some (.lst [.ref t]) → Q (.ref r) H'
def spReadJ (K : PySem.W.Frag) (c : Cs) (n : Nat) : Sp := fun vs H Q _ => ∃ (x dx : Addr) (z : Str) (l r : V) (m k : Nat) (ts us : List Tr), vs = [.ref x] ∧ H x = some (.ins c.j dx [("sign", .str z), ("left", l), ("right", r)]) ∧ Trm K c H m l ts ∧ Trm K c H k r us ∧ m + k ≤ n + 1 ∧ n ≤ 100 ∧ ∀ (p : Addr) (ys : List V) (H' : Hp), Same H H' → H' p = some (.lst ys) → TrsIs K H' ys (ts ++ us) → Q (.ref p) H'
def spKinds (c : Cs) : Sp := fun vs H Q _ => ∃ (v : V) (w : Nat), vs = [v] ∧ w < 4 ∧ KindAt c H v w ∧ ∀ (r : Addr) (H' : Hp), Same H H' → H' r = some (.lst (kindsV w)) → Q (.ref r) H'
def spWay : Sp := fun vs H Q _ => ∃ w : Nat, vs = [.int (w : Int)] ∧ w < 4 ∧ ∀ (r : Addr) (H' : Hp), Same H H' → H' r = some (.lst (kindsV w)) → Q (.ref r) H'
def spLike (K : PySem.W.Frag) (c : Cs) : Sp := fun vs H Q _ => ∃ (v : V) (n : Nat) (ts : List Tr), vs = [v, v] ∧ Trm K c H n v ts ∧ n ≤ 61 ∧ ∀ H', Same H H' → Q (.bl true) H'
def tReads (K : PySem.W.Frag) (c : Cs) (n : Nat) (ta : TE) : TE := fun σ H_1 Q => tMeth c.n (Str.ofString "reads") spNone [] E0 ta tNil σ H_1 Q ∨ tMeth c.v (Str.ofString "reads") spNone [] E0 ta tNil σ H_1 Q ∨ tMeth c.c (Str.ofString "reads") (spReadC c.c) [] E0 ta tNil σ H_1 Q ∨ tMeth c.j (Str.ofString "reads") (spReadJ K c n) [] E0 ta tNil σ H_1 Q
theorem reads_any {K : PySem.W.Frag} {c : Cs} {n : Nat} {ta : TE} {σ : St} {H H1 : Hp} {Q : VK} {v : V} {m : Nat} {ts : List Tr} (ha : ∀ R : VK, R v H1 → ta σ H R) (h : Trm K c H1 m v ts) (hm : m ≤ n + 1) (hn : n ≤ 100)
    (q : ∀ (p : Addr) (ys : List V) (H' : Hp), Same H1 H' → H' p = some (.lst ys) → TrsIs K H' ys ts → Q (.ref p) H') : tReads K c n ta σ H Q := by
  cases h with
  | @num x dx i h => exact .inl (ha _ ⟨x, dx, _, rfl, h, rfl, _, rfl, fun r H' e hr => q r _ H' e hr .nil⟩)
  | @val x dx z h => exact .inr (.inl (ha _ ⟨x, dx, _, rfl, h, rfl, _, rfl, fun r H' e hr => q r _ H' e hr .nil⟩))
  | @cel x dx p z t h ht hd hn' => exact .inr (.inr (.inl (ha _ ⟨x, dx, _, rfl, h, rfl, x, dx, z, _, rfl, h, fun t' r H' e ht' hr => q r _ H' e hr (.cons (.tup (SqT.of ht') (.cons (.flat rfl) (.cons (ht.over e) .nil))) .nil)⟩)))
  | @joi x dx l r m' k ts us z h a b => exact .inr (.inr (.inr (ha _ ⟨x, dx, _, rfl, h, rfl, x, dx, z, l, r, m', k, ts, us, rfl, h, a, b, hm, hn, q⟩)))
def PairAt (K : PySem.W.Frag) (c : Cs) (H : Hp) (v : V) (n : Nat) : Prop := ∃ (t : Addr) (x : V) (ts : List Tr), v = .ref t ∧ H t = some (.tup [x, .bl true]) ∧ Trm K c H n x ts
theorem PairAt.over {K : PySem.W.Frag} {c : Cs} {H H' : Hp} {v : V} {n : Nat} (e : Same H H') (h : PairAt K c H v n) : PairAt K c H' v n := by
  obtain ⟨t, x, ts, rfl, h1, h2⟩ := h
  exact ⟨t, x, ts, rfl, e _ _ h1, h2.over e⟩
theorem PairAt.wo {K : PySem.W.Frag} {c : Cs} {H : Hp} {v : V} {n : Nat} {l : Addr} {ys : List V} (hl : H l = some (.lst ys)) (h : PairAt K c H v n) : PairAt K c (L2.wo H l) v n := by
  obtain ⟨t, x, ts, rfl, h1, h2⟩ := h
  exact ⟨t, x, ts, rfl, by rw [wo_ne (tup_ne h1 hl)]; exact h1, h2.wo hl⟩
def spLeaf (K : PySem.W.Frag) (c : Cs) : Sp := fun vs H Q _ => ∃ (ce : Int) (nl : Addr) (names : List (List Nat)), vs = [.int ce, .ref nl] ∧ H nl = some (.lst (strsV names)) ∧ names.length = 4 ∧ ∀ (v : V) (H' : Hp), Same H H' → PairAt K c H' v 1 → Q v H'
def spBoth (K : PySem.W.Frag) (c : Cs) : Sp := fun vs H Q _ => ∃ (z : Str) (l r : V) (m n : Nat), vs = [.str z, l, r] ∧ PairAt K c H l m ∧ PairAt K c H r n ∧ m + n ≤ 61 ∧ ∀ (v : V) (H' : Hp), Same H H' → PairAt K c H' v (m + n) → Q v H'
inductive StackAt (K : PySem.W.Frag) (c : Cs) (H : Hp) : List V → Nat → Prop
  | nil : StackAt K c H [] 0
  | snoc {xs : List V} {x : V} {N n : Nat} : StackAt K c H xs N → PairAt K c H x n → StackAt K c H (xs ++ [x]) (N + n)
theorem StackAt.over {K : PySem.W.Frag} {c : Cs} {H H' : Hp} (e : Same H H') {xs : List V} {N : Nat} (h : StackAt K c H xs N) : StackAt K c H' xs N := by
  induction h with
  | nil => exact .nil
  | snoc _ p a => exact .snoc a (p.over e)
theorem StackAt.last {K : PySem.W.Frag} {c : Cs} {H : Hp} {xs : List V} {N : Nat} (h : StackAt K c H xs N) (hl : 0 < xs.length) : ∃ ys x M n, xs = ys ++ [x] ∧ StackAt K c H ys M ∧ PairAt K c H x n ∧ N = M + n := by
  cases h with
  | nil => cases hl
  | snoc a p => exact ⟨_, _, _, _, rfl, a, p, rfl⟩
theorem StackAt.all {K : PySem.W.Frag} {c : Cs} {H : Hp} {xs : List V} {N : Nat} (h : StackAt K c H xs N) : ∀ x ∈ xs, ∃ n, PairAt K c H x n := by
  induction h with
  | nil => intro x hx; cases hx
  | snoc _ p a =>
    intro x hx
    rcases List.mem_append.mp hx with h | h
    · exact a x h
    · rw [List.mem_singleton.mp h]; exact ⟨_, p⟩
theorem StackAt.len {K : PySem.W.Frag} {c : Cs} {H : Hp} {xs : List V} {N : Nat} (h : StackAt K c H xs N) : xs.length ≤ N := by
  induction h with
  | nil => exact Nat.le_refl _
  | snoc _ p a =>
    obtain ⟨_, _, _, _, _, h⟩ := p
    have := h.pos
    rw [List.length_append, List.length_singleton]
    omega
def spTerms (K : PySem.W.Frag) (c : Cs) : Sp := fun vs H Q _ => ∃ (cl nl : Addr) (ns : List Int) (seed : Int) (names : List (List Nat)), vs = [.ref cl, .int seed, .ref nl] ∧ SqL K H cl (ns.map V.int) ∧ ns.length ≤ 60 ∧ H nl = some (.lst (strsV names)) ∧ names.length = 4 ∧ ∀ (l : Addr) (xs : List V) (H' : Hp), Same H H' → H' l = some (.lst xs) → (∀ x ∈ xs, ∃ n, PairAt K c H' x n) → Q (.ref l) H'
def TreeAt (K : PySem.W.Frag) (H : Hp) (v : V) : Prop := ∃ (p : Addr) (t : Tr), v = .ref p ∧ TrIs K H (.ref p) t ∧ depT t ≤ 5 ∧ noL t = true
theorem TreeAt.wo {K : PySem.W.Frag} {H : Hp} {v : V} {l : Addr} {ys : List V} (hl : H l = some (.lst ys)) (h : TreeAt K H v) : TreeAt K (L2.wo H l) v := by
  obtain ⟨p, t, rfl, h1, h2, h3⟩ := h
  exact ⟨p, t, rfl, h1.wo hl h3, h2, h3⟩
theorem TreeAt.over {K : PySem.W.Frag} {H H' : Hp} {v : V} (e : Same H H') (h : TreeAt K H v) : TreeAt K H' v := by
  obtain ⟨p, t, rfl, h1, h2⟩ := h
  exact ⟨p, t, rfl, h1.over e, h2⟩
structure RowV (K : PySem.W.Frag) (c : Cs) (H : Hp) (v0 v1 v2 v4 v5 v6 : V) : Prop where
  t0 : TreeAt K H v0
  t1 : TreeAt K H v1
  t2 : TreeAt K H v2
  t4 : TreeAt K H v4
  t6 : TreeAt K H v6
  t5 : ∃ n ts, Trm K c H n v5 ts ∧ n ≤ 61
theorem RowV.over {K : PySem.W.Frag} {c : Cs} {H H' : Hp} {v0 v1 v2 v4 v5 v6 : V} (e : Same H H') (h : RowV K c H v0 v1 v2 v4 v5 v6) : RowV K c H' v0 v1 v2 v4 v5 v6 := by
  obtain ⟨n, ts, h5, hn⟩ := h.t5
  exact ⟨h.t0.over e, h.t1.over e, h.t2.over e, h.t4.over e, h.t6.over e, n, ts, h5.over e, hn⟩
def DRow (K : PySem.W.Frag) (c : Cs) (H : Hp) (v : V) : Prop := ∃ (t : Addr) (v0 v1 v2 v4 v5 v6 : V) (z : Str), v = .ref t ∧ H t = some (.tup [v0, v1, v2, .str z, v4, v5, v6]) ∧ RowV K c H v0 v1 v2 v4 v5 v6
theorem DRow.over {K : PySem.W.Frag} {c : Cs} {H H' : Hp} {v : V} (e : Same H H') (h : DRow K c H v) : DRow K c H' v := by
  obtain ⟨t, v0, v1, v2, v4, v5, v6, z, rfl, h1, h2⟩ := h
  exact ⟨t, v0, v1, v2, v4, v5, v6, z, rfl, e _ _ h1, h2.over e⟩
theorem DRow.wo {K : PySem.W.Frag} {c : Cs} {H : Hp} {v : V} {l : Addr} {ys : List V} (hl : H l = some (.lst ys)) (h : DRow K c H v) : DRow K c (L2.wo H l) v := by
  obtain ⟨t, v0, v1, v2, v4, v5, v6, z, rfl, h1, h2⟩ := h
  obtain ⟨n, ts, h5, hn⟩ := h2.t5
  exact ⟨t, v0, v1, v2, v4, v5, v6, z, rfl, by rw [wo_ne (tup_ne h1 hl)]; exact h1, h2.t0.wo hl, h2.t1.wo hl, h2.t2.wo hl, h2.t4.wo hl, h2.t6.wo hl, n, ts, h5.wo hl, hn⟩
theorem flat_trs {K : PySem.W.Frag} {H : Hp} : ∀ xs : List V, (∀ x ∈ xs, flatV x = true) → ∃ ts, TrsIs K H xs ts ∧ depTs ts ≤ 1 ∧ noLs ts = true
  | [], _ => ⟨[], .nil, Nat.zero_le _, rfl⟩
  | x :: xs, h => by
    obtain ⟨ts, h1, h2, h3⟩ := flat_trs (K := K) (H := H) xs fun y hy => h y (List.mem_cons_of_mem _ hy)
    refine ⟨.v x :: ts, .cons (.flat (h x List.mem_cons_self)) h1, ?_, ?_⟩
    · rw [depTs, depT]; omega
    · rw [noLs, noL, h3]; rfl
theorem tup_tree {K : PySem.W.Frag} {H : Hp} {p : Addr} {xs : List V} {ts : List Tr} (h : H p = some (.tup xs)) (h1 : TrsIs K H xs ts) (h2 : depTs ts ≤ 4) (h3 : noLs ts = true) : TreeAt K H (.ref p) := ⟨p, .tup ts, rfl, .tup (SqT.of h) h1, by rw [depT]; omega, by rw [noL]; exact h3⟩
def DD (K : PySem.W.Frag) (c : Cs) (C : Addr) (H : Hp) (d v : V) : Prop := ∃ (x dx t : Addr) (v0 v1 v2 v4 v5 v6 : V) (z : Str), d = .ref x ∧ v = .ref t ∧ H x = some (.ins C dx [("names", v0), ("lows", v1), ("highs", v2), ("table", .str z), ("spots", v4), ("term", v5), ("path", v6)]) ∧ H t = some (.tup [v0, v1, v2, .str z, v4, v5, v6]) ∧ RowV K c H v0 v1 v2 v4 v5 v6
theorem DD.over {K : PySem.W.Frag} {c : Cs} {C : Addr} {H H' : Hp} {d v : V} (e : Same H H') (h : DD K c C H d v) : DD K c C H' d v := by
  obtain ⟨x, dx, t, v0, v1, v2, v4, v5, v6, z, rfl, rfl, h0, h1, h2⟩ := h
  exact ⟨x, dx, t, v0, v1, v2, v4, v5, v6, z, rfl, rfl, e _ _ h0, e _ _ h1, h2.over e⟩
def spKept (K : PySem.W.Frag) (c : Cs) (C : Addr) : Sp := fun vs H Q _ => ∃ d v : V, vs = [d, v] ∧ DD K c C H d v ∧ ∀ H', Same H H' → Q (.bl true) H'
def spDeeds (K : PySem.W.Frag) (c : Cs) : Sp := fun vs H Q _ => ∃ (p nl : Addr) (ns : List Int) (names : List (List Nat)), vs = [.ref p, .ref nl] ∧ SqL K H p (ns.map V.int) ∧ H nl = some (.lst (strsV names)) ∧ names.length = 4 ∧ ∀ (l : Addr) (xs : List V) (H' : Hp), Same H H' → H' l = some (.lst xs) → xs.length ≤ 6 → (∀ x ∈ xs, DRow K c H' x) → Q (.ref l) H'
theorem SqL.updI {K : PySem.W.Frag} {H : Hp} {p x C dx : Addr} {fs : List (Str × V)} {ys : List V} {o : HO} (h : SqL K H p ys) (hx : H x = some (.ins C dx fs)) : SqL K (upd H x o) p ys := by
  rcases h with (h | ⟨ob, h⟩) | h
  · refine .inl (.inl ?_)
    rw [upd_ne (fun e => by rw [e, hx] at h; cases h)]
    exact h
  · refine .inl (.inr ⟨ob, ?_⟩)
    rw [upd_ne (fun e => by rw [e, hx] at h; cases h)]
    exact h
  · exact .inr h
def spPIni (K : PySem.W.Frag) (C : Addr) : Sp := fun vs H Q _ => ∃ (x dx : Addr) (sz : V) (p : Addr) (ys : List V), vs = [.ref x, sz, .ref p] ∧ H x = some (.ins C dx []) ∧ SqL K H p ys ∧ ∀ (l : Addr) (H' : Hp), H l = none → (∀ b o, H b = some o → b ≠ x → H' b = some o) → H' l = some (.lst ys) → (∃ dx, H' x = some (.ins C dx [("size", sz), ("deeds", .ref l)])) → Q .non H'
theorem DD.wo {K : PySem.W.Frag} {c : Cs} {C : Addr} {H : Hp} {d v : V} {l : Addr} {ys : List V} (h : DD K c C H d v) (hl : H l = some (.lst ys)) : DD K c C (L2.wo H l) d v := by
  obtain ⟨x, dx, t, v0, v1, v2, v4, v5, v6, z, rfl, rfl, h0, h1, h2⟩ := h
  obtain ⟨n, ts, h5, hn⟩ := h2.t5
  exact ⟨x, dx, t, v0, v1, v2, v4, v5, v6, z, rfl, rfl, by rw [wo_ne (ins_ne h0 hl)]; exact h0, by rw [wo_ne (tup_ne h1 hl)]; exact h1, h2.t0.wo hl, h2.t1.wo hl, h2.t2.wo hl, h2.t4.wo hl, h2.t6.wo hl, n, ts, h5.wo hl, hn⟩
theorem cutC_le5 (ns : List Int) : (cutC ns (some 5) (some 44)).length ≤ 39 := by
  unfold cutC
  rw [show (some (44 : Int)) = some ((44 : Nat) : Int) from rfl, show (some (5 : Int)) = some ((5 : Nat) : Int) from rfl, HT.sIx_nat, HT.sIx_nat, List.length_take, List.length_drop]
  omega
end L2

set_option Elab.async false
set_option linter.all false
set_option maxRecDepth 100000
set_option maxHeartbeats 4000000
namespace PySem
open Builtin
theorem noFill_tuple_mulF : fillsNumberSlot (.type "tuple") "mul" = pure false :=
  fillsNumberSlot_seq (id := "tuple.__mul__") (r := some (.builtin "tuple.__rmul__")) F.slot_tuple_mul.lookup (by decide +kernel) F.slot_tuple_rmul.lookup (by decide +kernel)
theorem repeat_tupleF : seqRepeat? (.type "tuple") = pure (some (.builtin "tuple.__mul__")) := by
  unfold seqRepeat?
  rw [seqSlot_of (T := "tuple") (name := "__mul__") (id := "tuple.__mul__") F.slot_tuple_mul.lookup (by decide +kernel), seqSlot_of (T := "tuple") (name := "__rmul__") (id := "tuple.__rmul__") F.slot_tuple_rmul.lookup (by decide +kernel)]
  rfl
theorem rmul_int_tuple (a : Int) (t : Tok) (l : Addr) (items : Array Value) (n : Nat) (dd : Option Addr) (sl : Array (Option Value)) :
    Meets (Builtin.«int.__rmul__» ⟨[.int a t, .ref l], []⟩) (fun _ R s => s.heap.get? l = some { cls := .type "tuple", dict := dd, data := .seq items n, slots := sl } ∧ R (.ok (.ret Value.notImplemented)) s) :=
  .of_wp fun prog w A R s h => by obtain ⟨hp, g, d, tk, os⟩ := s; obtain ⟨hl, h⟩ := h; wp_walk; exact ⟨_, rfl, h⟩
open AutoSeq1 (wpAny_loadPart')
theorem tuple_mul1 (l : Addr) (k : Tok) (items : Array Value) (n : Nat) (dd : Option Addr) (sl : Array (Option Value)) :
    Meets (Builtin.«tuple.__mul__» ⟨[.ref l, .int 1 k], []⟩) (fun _ R s => s.heap.get? l = some { cls := .type "tuple", dict := dd, data := .seq items n, slots := sl } ∧ R (.ok (.ret (Value.ref l))) { s with heap := s.heap, toks := s.toks }) :=
  .of_wp fun prog w A R s h => by obtain ⟨hp, g, d, tk, os⟩ := s; obtain ⟨hl, h⟩ := h; have f1 := AutoSeq1.idx_int; have f2 := AutoSeq1.sub_tuple_tuple; wp_walk using wpAny_loadPart' hl; exact ⟨_, rfl, h⟩
theorem tuple_mul0 (l : Addr) (k : Tok) (items : Array Value) (n : Nat) (dd : Option Addr) (sl : Array (Option Value)) (hc0 : ¬items.isEmpty = true) :
    Meets (Builtin.«tuple.__mul__» ⟨[.ref l, .int 0 k], []⟩) (fun _ R s => s.heap.get? l = some { cls := .type "tuple", dict := dd, data := .seq items n, slots := sl } ∧ R (.ok (.ret (Value.ref s.heap.objs.size))) { s with heap := s.heap.push { cls := Value.type "tuple", data := Data.seq #[] }, toks := s.toks }) :=
  .of_wp fun prog w A R s h => by obtain ⟨hp, g, d, tk, os⟩ := s; obtain ⟨hl, h⟩ := h; have f1 := AutoSeq1.idx_int; have f2 := AutoSeq1.sub_tuple_tuple; wp_walk using wpAny_loadPart' hl; exact ⟨_, rfl, h⟩
end PySem
namespace L2
open PySem PySem.Spec PyProof.Rows
section
variable {X : Cx}
def rRepT (K : PySem.W.Frag) : R2 := fun x y H Q => ∃ a k xs, x = .ref a ∧ y = .int k ∧ SqT K H a xs ∧ xs ≠ [] ∧ ((k = 1 ∧ Q (.ref a) H) ∨ (k = 0 ∧ ∀ p, H p = none → Q (.ref p) (upd H p (.tup []))))
theorem op_repT : OpR X (binaryOp .Mult) (rRepT X.K) := by
  intro pins s σ H x y v u Q I rx ry h
  obtain ⟨a, k, xs, rfl, rfl, ha, hne, h⟩ := h
  cases rx
  obtain ⟨t, rfl⟩ := ry
  obtain ⟨its, r1, p1, _⟩ := I.tuple ha
  have hi : ¬ its.toArray.isEmpty = true := by
    intro z
    refine hne (r1.nil_iff.mp ?_)
    simpa using z
  obtain ⟨⟨cls, dd, data, sl⟩, ho, hc, n, hd⟩ := id p1
  simp only at hc hd
  subst hc hd
  refine wpAny_binaryOp_repeat_ref (T := "tuple") (U := "int") (by decide) ⟨_, ho, rfl⟩ (fun s' => typeIs_int s' k t) noFill_tuple_mulF F.fills_int_mul F.slot_int_rmul repeat_tupleF F.slot_int_index.lookup ?_
  refine call_meets F.slot_int_rmul (typeIs_int _ _ _) F.entry_int_rmul (F.args_int_rmul_2 _ _) (rmul_int_tuple k t a its.toArray n dd sl) ⟨ho, rfl, ⟨_, ho, rfl⟩, ?_⟩
  rcases h with ⟨rfl, q⟩ | ⟨rfl, q⟩
  · exact call_meets F.slot_tuple_mul ⟨_, ho, rfl⟩ F.entry_tuple_mul (F.args_tuple_mul_2 _ _) (tuple_mul1 a t its.toArray n dd sl) ⟨ho, ⟨.ref a, H, I, rfl, q⟩⟩
  · refine call_meets F.slot_tuple_mul ⟨_, ho, rfl⟩ F.entry_tuple_mul (F.args_tuple_mul_2 _ _) (tuple_mul0 a t its.toArray n dd sl hi) ⟨ho, ?_⟩
    exact ⟨.ref s.heap.objs.size, _, I.laid (t' := s.toks) (o := .tup []) (fun b o e => Heap.get?_push_of_some _ e) (Nat.le_refl _) ⟨szl (by show 0 ≤ 1000000; decide), [], .nil, IsTupN.new _ _⟩, rfl, q _ (I.hok.fresh (Nat.le_refl _))⟩
end
theorem rep_rule {K : PySem.W.Frag} {H : Hp} {a : Addr} {k : Int} {xs : List V} {G : VK} (hk : k = 0 ∨ k = 1) (hx : H a = some (.tup xs)) (hne : xs ≠ []) (ht : TreeAt K H (.ref a)) (h : ∀ v H', Same H H' → TreeAt K H' v → G v H') : rRepT K (.ref a) (.int k) H G := by
  refine ⟨a, k, xs, rfl, rfl, SqT.of hx, hne, ?_⟩
  rcases hk with rfl | rfl
  · exact .inr ⟨rfl, fun p hp => h _ _ (same_new hp _) (tup_tree upd_same .nil (Nat.zero_le _) rfl)⟩
  · exact .inl ⟨rfl, h _ _ (Same.refl _) ht⟩
end L2

set_option Elab.async false
set_option linter.all false
set_option maxRecDepth 100000
set_option maxHeartbeats 4000000

namespace Fw
open PySem L2

def top (i : Nat) : Stmt := PySem.Challenge.pw_furrow_k18_what_is_kept.main.body.getD i (.Pass ⟨0, 0, 0, 0⟩)
abbrev s_Number_init : Stmt := inClass (top 3) 0
abbrev s_Value_init : Stmt := inClass (top 4) 0
abbrev s_Cell_init : Stmt := inClass (top 5) 0
abbrev s_Joined_init : Stmt := inClass (top 6) 0
abbrev s_Number_reads : Stmt := inClass (top 3) 2
abbrev s_Value_reads : Stmt := inClass (top 4) 2
abbrev s_Cell_reads : Stmt := inClass (top 5) 2
abbrev s_Joined_reads : Stmt := inClass (top 6) 2
abbrev s_Deed_init : Stmt := inClass (top 8) 0
abbrev s_Program_init : Stmt := inClass (top 9) 0
abbrev s_l_cell_at : Stmt := top 11
abbrev s_l_whole : Stmt := top 12
abbrev s_l_stream : Stmt := top 13
abbrev s_l_names : Stmt := top 14
abbrev s_l_kinds : Stmt := top 15
abbrev s_l_due : Stmt := top 16
abbrev s_l_like : Stmt := top 18
abbrev s_l_leaf : Stmt := top 17
abbrev s_l_both : Stmt := top 19
abbrev s_l_terms : Stmt := top 20
abbrev s_l_deeds : Stmt := top 21
abbrev s_l_kept : Stmt := top 22
abbrev s_law : Stmt := top 23
theorem sc_Number_init : FnScope ["self", "n"] ["self", "n"] (defScope s_Number_init) := ⟨rfl, rfl, rfl, by decide +kernel, rfl, by decide +kernel, by decide +kernel⟩
theorem sc_Value_init : FnScope ["self", "name"] ["self", "name"] (defScope s_Value_init) := ⟨rfl, rfl, rfl, by decide +kernel, rfl, by decide +kernel, by decide +kernel⟩
theorem sc_Cell_init : FnScope ["self", "table", "spots"] ["self", "table", "spots"] (defScope s_Cell_init) := ⟨rfl, rfl, rfl, by decide +kernel, rfl, by decide +kernel, by decide +kernel⟩
theorem sc_Joined_init : FnScope ["self", "sign", "left", "right"] ["self", "sign", "left", "right"] (defScope s_Joined_init) := ⟨rfl, rfl, rfl, by decide +kernel, rfl, by decide +kernel, by decide +kernel⟩
theorem sc_Number_reads : FnScope ["self"] ["self"] (defScope s_Number_reads) := ⟨rfl, rfl, rfl, by decide +kernel, rfl, by decide +kernel, by decide +kernel⟩
theorem sc_Value_reads : FnScope ["self"] ["self"] (defScope s_Value_reads) := ⟨rfl, rfl, rfl, by decide +kernel, rfl, by decide +kernel, by decide +kernel⟩
theorem sc_Cell_reads : FnScope ["self"] ["self"] (defScope s_Cell_reads) := ⟨rfl, rfl, rfl, by decide +kernel, rfl, by decide +kernel, by decide +kernel⟩
theorem sc_Joined_reads : FnScope ["self"] ["self"] (defScope s_Joined_reads) := ⟨rfl, rfl, rfl, by decide +kernel, rfl, by decide +kernel, by decide +kernel⟩
theorem sc_Deed_init : FnScope ["self", "names", "lows", "highs", "table", "spots", "term", "path"] ["self", "names", "lows", "highs", "table", "spots", "term", "path"] (defScope s_Deed_init) := ⟨rfl, rfl, rfl, by decide +kernel, rfl, by decide +kernel, by decide +kernel⟩
theorem sc_Program_init : FnScope ["self", "size", "deeds"] ["self", "size", "deeds"] (defScope s_Program_init) := ⟨rfl, rfl, rfl, by decide +kernel, rfl, by decide +kernel, by decide +kernel⟩
theorem sc_l_cell_at : FnScope ["_law_script", "_law_k"] ["_law_script", "_law_k"] (defScope s_l_cell_at) := ⟨rfl, rfl, rfl, by decide +kernel, rfl, by decide +kernel, by decide +kernel⟩
theorem sc_l_whole : FnScope ["_law_found"] ["_law_found"] (defScope s_l_whole) := ⟨rfl, rfl, rfl, by decide +kernel, rfl, by decide +kernel, by decide +kernel⟩
theorem sc_l_stream : FnScope ["_law_cell", "_law_many", "_law_found", "_law_number", "_law_k"] ["_law_cell", "_law_many"] (defScope s_l_stream) := ⟨rfl, rfl, rfl, by decide +kernel, rfl, by decide +kernel, by decide +kernel⟩
theorem sc_l_names : FnScope ["_law_cell", "_law_many", "_law_letters", "_law_xs", "_law_word", "_law_long", "_law_at", "_law_found", "_law_k", "_law_sign", "_law_name"] ["_law_cell", "_law_many"] (defScope s_l_names) := ⟨rfl, rfl, rfl, by decide +kernel, rfl, by decide +kernel, by decide +kernel⟩
theorem sc_l_kinds : FnScope ["_law_term", "_law_found"] ["_law_term"] (defScope s_l_kinds) := ⟨rfl, rfl, rfl, by decide +kernel, rfl, by decide +kernel, by decide +kernel⟩
theorem sc_l_due : FnScope ["_law_way"] ["_law_way"] (defScope s_l_due) := ⟨rfl, rfl, rfl, by decide +kernel, rfl, by decide +kernel, by decide +kernel⟩
theorem sc_l_like : FnScope ["_law_one", "_law_other"] ["_law_one", "_law_other"] (defScope s_l_like) := ⟨rfl, rfl, rfl, by decide +kernel, rfl, by decide +kernel, by decide +kernel⟩
theorem sc_l_leaf : FnScope ["_law_cell", "_law_names_here", "_law_xs", "_law_number", "_law_term", "_law_name", "_law_spots"] ["_law_cell", "_law_names_here"] (defScope s_l_leaf) := ⟨rfl, rfl, rfl, by decide +kernel, rfl, by decide +kernel, by decide +kernel⟩
theorem sc_l_both : FnScope ["_law_sign", "_law_left", "_law_right", "_law_term", "_law_good"] ["_law_sign", "_law_left", "_law_right"] (defScope s_l_both) := ⟨rfl, rfl, rfl, by decide +kernel, rfl, by decide +kernel, by decide +kernel⟩
theorem sc_l_terms : FnScope ["_law_cells", "_law_seed", "_law_names_here", "_law_stack", "_law_cell", "_law_right", "_law_left"] ["_law_cells", "_law_seed", "_law_names_here"] (defScope s_l_terms) := ⟨rfl, rfl, rfl, by decide +kernel, rfl, by decide +kernel, by decide +kernel⟩
theorem sc_l_deeds : FnScope ["_law_script", "_law_names_here", "_law_looped", "_law_found", "_law_k", "_law_spots", "_law_path", "_law_low", "_law_high", "_law_term"] ["_law_script", "_law_names_here"] (defScope s_l_deeds) := ⟨rfl, rfl, rfl, by decide +kernel, rfl, by decide +kernel, by decide +kernel⟩
theorem sc_l_kept : FnScope ["_law_deed", "_law_row"] ["_law_deed", "_law_row"] (defScope s_l_kept) := ⟨rfl, rfl, rfl, by decide +kernel, rfl, by decide +kernel, by decide +kernel⟩
theorem sc_law : FnScope ["_law_script", "_law_names_here", "_law_stack", "_law_one", "_law_rows", "_law_deeds_here", "_law_size", "_law_handed", "_law_program", "_law_deed", "_law_row"] ["_law_script"] (defScope s_law) := ⟨rfl, rfl, rfl, by decide +kernel, rfl, by decide +kernel, by decide +kernel⟩
theorem c_l_names_0 : compB (mkSc [(".0", .local), ("_law_x", .local), ("_law_letters", .free)]) (defScope s_l_names) ["_law_cell", "_law_many", "_law_letters", "_law_xs", "_law_word", "_law_long", "_law_at", "_law_found", "_law_k", "_law_sign", "_law_name"] ["_law_x", "_law_letters"] [none, some 2] = true := by decide +kernel
theorem c_l_names_0n : (["_law_x", "_law_letters"] : List Str).Nodup := by decide +kernel
theorem c_l_due_0 : compB (mkSc [(".0", .local), ("_law_k", .local), ("_law_way", .free)]) (defScope s_l_due) ["_law_way"] ["_law_k", "_law_way"] [none, some 0] = true := by decide +kernel
theorem c_l_due_0n : (["_law_k", "_law_way"] : List Str).Nodup := by decide +kernel
theorem c_l_leaf_0 : compB (mkSc [(".0", .local), ("_law_k", .local), ("_law_names_here", .free), ("_law_xs", .free)]) (defScope s_l_leaf) ["_law_cell", "_law_names_here", "_law_xs", "_law_number", "_law_term", "_law_name", "_law_spots"] ["_law_k", "_law_names_here", "_law_xs"] [none, some 1, some 2] = true := by decide +kernel
theorem c_l_leaf_0n : (["_law_k", "_law_names_here", "_law_xs"] : List Str).Nodup := by decide +kernel
theorem c_l_deeds_0 : compB (mkSc [(".0", .local), ("_law_j", .local), ("_law_k", .free), ("_law_looped", .free), ("_law_names_here", .free)]) (defScope s_l_deeds) ["_law_script", "_law_names_here", "_law_looped", "_law_found", "_law_k", "_law_spots", "_law_path", "_law_low", "_law_high", "_law_term"] ["_law_j", "_law_k", "_law_looped", "_law_names_here"] [none, some 4, some 2, some 1] = true := by decide +kernel
theorem c_l_deeds_0n : (["_law_j", "_law_k", "_law_looped", "_law_names_here"] : List Str).Nodup := by decide +kernel
theorem c_law_0 : compB (mkSc [(".0", .local), ("_law_row", .local), ("Deed", .globalImplicit)]) (defScope s_law) ["_law_script", "_law_names_here", "_law_stack", "_law_one", "_law_rows", "_law_deeds_here", "_law_size", "_law_handed", "_law_program", "_law_deed", "_law_row"] ["_law_row"] [none] = true := by decide +kernel
theorem c_law_0n : (["_law_row"] : List Str).Nodup := by decide +kernel
structure Ad where
  f_Number_init : Addr
  d_Number_init : FuncData
  f_Value_init : Addr
  d_Value_init : FuncData
  f_Cell_init : Addr
  d_Cell_init : FuncData
  f_Joined_init : Addr
  d_Joined_init : FuncData
  f_Number_reads : Addr
  d_Number_reads : FuncData
  f_Value_reads : Addr
  d_Value_reads : FuncData
  f_Cell_reads : Addr
  d_Cell_reads : FuncData
  f_Joined_reads : Addr
  d_Joined_reads : FuncData
  f_Deed_init : Addr
  d_Deed_init : FuncData
  f_Program_init : Addr
  d_Program_init : FuncData
  f_l_cell_at : Addr
  d_l_cell_at : FuncData
  f_l_whole : Addr
  d_l_whole : FuncData
  f_l_stream : Addr
  d_l_stream : FuncData
  f_l_names : Addr
  d_l_names : FuncData
  f_l_kinds : Addr
  d_l_kinds : FuncData
  f_l_due : Addr
  d_l_due : FuncData
  f_l_like : Addr
  d_l_like : FuncData
  f_l_leaf : Addr
  d_l_leaf : FuncData
  f_l_both : Addr
  d_l_both : FuncData
  f_l_terms : Addr
  d_l_terms : FuncData
  f_l_deeds : Addr
  d_l_deeds : FuncData
  f_l_kept : Addr
  d_l_kept : FuncData
  f_law : Addr
  d_law : FuncData
  c_Term : Addr
  c_Number : Addr
  c_Value : Addr
  c_Cell : Addr
  c_Joined : Addr
  c_Deed : Addr
  c_Program : Addr
structure Tx (K : PySem.W.Frag) (mg : Str → Option Value) (a : Ad) : Prop where
  F_Number_init : Fun K "__init__" "Number.__init__" s_Number_init a.f_Number_init a.d_Number_init
  b_Number_init : Binds K a.d_Number_init ["self", "n"] []
  F_Value_init : Fun K "__init__" "Value.__init__" s_Value_init a.f_Value_init a.d_Value_init
  b_Value_init : Binds K a.d_Value_init ["self", "name"] []
  F_Cell_init : Fun K "__init__" "Cell.__init__" s_Cell_init a.f_Cell_init a.d_Cell_init
  b_Cell_init : Binds K a.d_Cell_init ["self", "table", "spots"] []
  F_Joined_init : Fun K "__init__" "Joined.__init__" s_Joined_init a.f_Joined_init a.d_Joined_init
  b_Joined_init : Binds K a.d_Joined_init ["self", "sign", "left", "right"] []
  F_Number_reads : Fun K "reads" "Number.reads" s_Number_reads a.f_Number_reads a.d_Number_reads
  b_Number_reads : Binds K a.d_Number_reads ["self"] []
  F_Value_reads : Fun K "reads" "Value.reads" s_Value_reads a.f_Value_reads a.d_Value_reads
  b_Value_reads : Binds K a.d_Value_reads ["self"] []
  F_Cell_reads : Fun K "reads" "Cell.reads" s_Cell_reads a.f_Cell_reads a.d_Cell_reads
  b_Cell_reads : Binds K a.d_Cell_reads ["self"] []
  F_Joined_reads : Fun K "reads" "Joined.reads" s_Joined_reads a.f_Joined_reads a.d_Joined_reads
  b_Joined_reads : Binds K a.d_Joined_reads ["self"] []
  F_Deed_init : Fun K "__init__" "Deed.__init__" s_Deed_init a.f_Deed_init a.d_Deed_init
  b_Deed_init : Binds K a.d_Deed_init ["self", "names", "lows", "highs", "table", "spots", "term", "path"] []
  F_Program_init : Fun K "__init__" "Program.__init__" s_Program_init a.f_Program_init a.d_Program_init
  b_Program_init : Binds K a.d_Program_init ["self", "size", "deeds"] []
  F_l_cell_at : Fun K "_law_cell_at" "_law_cell_at" s_l_cell_at a.f_l_cell_at a.d_l_cell_at
  b_l_cell_at : Binds K a.d_l_cell_at ["_law_script", "_law_k"] []
  m_l_cell_at : mg "_law_cell_at" = some (.ref a.f_l_cell_at)
  F_l_whole : Fun K "_law_whole" "_law_whole" s_l_whole a.f_l_whole a.d_l_whole
  b_l_whole : Binds K a.d_l_whole ["_law_found"] []
  m_l_whole : mg "_law_whole" = some (.ref a.f_l_whole)
  F_l_stream : Fun K "_law_stream" "_law_stream" s_l_stream a.f_l_stream a.d_l_stream
  b_l_stream : Binds K a.d_l_stream ["_law_cell", "_law_many"] []
  m_l_stream : mg "_law_stream" = some (.ref a.f_l_stream)
  F_l_names : Fun K "_law_names" "_law_names" s_l_names a.f_l_names a.d_l_names
  b_l_names : Binds K a.d_l_names ["_law_cell", "_law_many"] []
  m_l_names : mg "_law_names" = some (.ref a.f_l_names)
  F_l_kinds : Fun K "_law_kinds" "_law_kinds" s_l_kinds a.f_l_kinds a.d_l_kinds
  b_l_kinds : Binds K a.d_l_kinds ["_law_term"] []
  m_l_kinds : mg "_law_kinds" = some (.ref a.f_l_kinds)
  F_l_due : Fun K "_law_due" "_law_due" s_l_due a.f_l_due a.d_l_due
  b_l_due : Binds K a.d_l_due ["_law_way"] []
  m_l_due : mg "_law_due" = some (.ref a.f_l_due)
  F_l_like : Fun K "_law_like" "_law_like" s_l_like a.f_l_like a.d_l_like
  b_l_like : Binds K a.d_l_like ["_law_one", "_law_other"] []
  m_l_like : mg "_law_like" = some (.ref a.f_l_like)
  F_l_leaf : Fun K "_law_leaf" "_law_leaf" s_l_leaf a.f_l_leaf a.d_l_leaf
  b_l_leaf : Binds K a.d_l_leaf ["_law_cell", "_law_names_here"] []
  m_l_leaf : mg "_law_leaf" = some (.ref a.f_l_leaf)
  F_l_both : Fun K "_law_both" "_law_both" s_l_both a.f_l_both a.d_l_both
  b_l_both : Binds K a.d_l_both ["_law_sign", "_law_left", "_law_right"] []
  m_l_both : mg "_law_both" = some (.ref a.f_l_both)
  F_l_terms : Fun K "_law_terms" "_law_terms" s_l_terms a.f_l_terms a.d_l_terms
  b_l_terms : Binds K a.d_l_terms ["_law_cells", "_law_seed", "_law_names_here"] []
  m_l_terms : mg "_law_terms" = some (.ref a.f_l_terms)
  F_l_deeds : Fun K "_law_deeds" "_law_deeds" s_l_deeds a.f_l_deeds a.d_l_deeds
  b_l_deeds : Binds K a.d_l_deeds ["_law_script", "_law_names_here"] []
  m_l_deeds : mg "_law_deeds" = some (.ref a.f_l_deeds)
  F_l_kept : Fun K "_law_kept" "_law_kept" s_l_kept a.f_l_kept a.d_l_kept
  b_l_kept : Binds K a.d_l_kept ["_law_deed", "_law_row"] []
  m_l_kept : mg "_law_kept" = some (.ref a.f_l_kept)
  F_law : Fun K "law" "law" s_law a.f_law a.d_law
  b_law : Binds K a.d_law ["_law_script"] []
  m_law : mg "law" = some (.ref a.f_law)
  cl_Term : Cls K a.c_Term
  mc_Term : mg "Term" = some (.ref a.c_Term)
  cl_Number : Cls K a.c_Number
  mc_Number : mg "Number" = some (.ref a.c_Number)
  mk_Number : Mk K a.c_Number a.f_Number_init
  me_Number_reads : Meth K a.c_Number "reads" a.f_Number_reads
  n_Number_n : NoAttr K a.c_Number "n"
  cl_Value : Cls K a.c_Value
  mc_Value : mg "Value" = some (.ref a.c_Value)
  mk_Value : Mk K a.c_Value a.f_Value_init
  me_Value_reads : Meth K a.c_Value "reads" a.f_Value_reads
  n_Value_name : NoAttr K a.c_Value "name"
  cl_Cell : Cls K a.c_Cell
  mc_Cell : mg "Cell" = some (.ref a.c_Cell)
  mk_Cell : Mk K a.c_Cell a.f_Cell_init
  me_Cell_reads : Meth K a.c_Cell "reads" a.f_Cell_reads
  n_Cell_table : NoAttr K a.c_Cell "table"
  n_Cell_spots : NoAttr K a.c_Cell "spots"
  cl_Joined : Cls K a.c_Joined
  mc_Joined : mg "Joined" = some (.ref a.c_Joined)
  mk_Joined : Mk K a.c_Joined a.f_Joined_init
  me_Joined_reads : Meth K a.c_Joined "reads" a.f_Joined_reads
  n_Joined_sign : NoAttr K a.c_Joined "sign"
  n_Joined_left : NoAttr K a.c_Joined "left"
  n_Joined_right : NoAttr K a.c_Joined "right"
  cl_Deed : Cls K a.c_Deed
  mc_Deed : mg "Deed" = some (.ref a.c_Deed)
  mk_Deed : Mk K a.c_Deed a.f_Deed_init
  n_Deed_names : NoAttr K a.c_Deed "names"
  n_Deed_lows : NoAttr K a.c_Deed "lows"
  n_Deed_highs : NoAttr K a.c_Deed "highs"
  n_Deed_table : NoAttr K a.c_Deed "table"
  n_Deed_spots : NoAttr K a.c_Deed "spots"
  n_Deed_term : NoAttr K a.c_Deed "term"
  n_Deed_path : NoAttr K a.c_Deed "path"
  cl_Program : Cls K a.c_Program
  mc_Program : mg "Program" = some (.ref a.c_Program)
  mk_Program : Mk K a.c_Program a.f_Program_init
  n_Program_size : NoAttr K a.c_Program "size"
  n_Program_deeds : NoAttr K a.c_Program "deeds"
  ty_Number : ∀ (H : Hp) (x dx : Addr) (fs : List (Str × V)), H x = some (.ins a.c_Number dx fs) → TyOf K H (.ref x) (.ref a.c_Number)
  is_Number_Term : PySem.W.kitOne K (.ref a.c_Number) (.ref a.c_Term) = some true
  is_Number_Number : PySem.W.kitOne K (.ref a.c_Number) (.ref a.c_Number) = some true
  is_Number_Value : PySem.W.kitOne K (.ref a.c_Number) (.ref a.c_Value) = some false
  is_Number_Cell : PySem.W.kitOne K (.ref a.c_Number) (.ref a.c_Cell) = some false
  is_Number_Joined : PySem.W.kitOne K (.ref a.c_Number) (.ref a.c_Joined) = some false
  is_Number_Deed : PySem.W.kitOne K (.ref a.c_Number) (.ref a.c_Deed) = some false
  is_Number_Program : PySem.W.kitOne K (.ref a.c_Number) (.ref a.c_Program) = some false
  ty_Value : ∀ (H : Hp) (x dx : Addr) (fs : List (Str × V)), H x = some (.ins a.c_Value dx fs) → TyOf K H (.ref x) (.ref a.c_Value)
  is_Value_Term : PySem.W.kitOne K (.ref a.c_Value) (.ref a.c_Term) = some true
  is_Value_Number : PySem.W.kitOne K (.ref a.c_Value) (.ref a.c_Number) = some false
  is_Value_Value : PySem.W.kitOne K (.ref a.c_Value) (.ref a.c_Value) = some true
  is_Value_Cell : PySem.W.kitOne K (.ref a.c_Value) (.ref a.c_Cell) = some false
  is_Value_Joined : PySem.W.kitOne K (.ref a.c_Value) (.ref a.c_Joined) = some false
  is_Value_Deed : PySem.W.kitOne K (.ref a.c_Value) (.ref a.c_Deed) = some false
  is_Value_Program : PySem.W.kitOne K (.ref a.c_Value) (.ref a.c_Program) = some false
  ty_Cell : ∀ (H : Hp) (x dx : Addr) (fs : List (Str × V)), H x = some (.ins a.c_Cell dx fs) → TyOf K H (.ref x) (.ref a.c_Cell)
  is_Cell_Term : PySem.W.kitOne K (.ref a.c_Cell) (.ref a.c_Term) = some true
  is_Cell_Number : PySem.W.kitOne K (.ref a.c_Cell) (.ref a.c_Number) = some false
  is_Cell_Value : PySem.W.kitOne K (.ref a.c_Cell) (.ref a.c_Value) = some false
  is_Cell_Cell : PySem.W.kitOne K (.ref a.c_Cell) (.ref a.c_Cell) = some true
  is_Cell_Joined : PySem.W.kitOne K (.ref a.c_Cell) (.ref a.c_Joined) = some false
  is_Cell_Deed : PySem.W.kitOne K (.ref a.c_Cell) (.ref a.c_Deed) = some false
  is_Cell_Program : PySem.W.kitOne K (.ref a.c_Cell) (.ref a.c_Program) = some false
  ty_Joined : ∀ (H : Hp) (x dx : Addr) (fs : List (Str × V)), H x = some (.ins a.c_Joined dx fs) → TyOf K H (.ref x) (.ref a.c_Joined)
  is_Joined_Term : PySem.W.kitOne K (.ref a.c_Joined) (.ref a.c_Term) = some true
  is_Joined_Number : PySem.W.kitOne K (.ref a.c_Joined) (.ref a.c_Number) = some false
  is_Joined_Value : PySem.W.kitOne K (.ref a.c_Joined) (.ref a.c_Value) = some false
  is_Joined_Cell : PySem.W.kitOne K (.ref a.c_Joined) (.ref a.c_Cell) = some false
  is_Joined_Joined : PySem.W.kitOne K (.ref a.c_Joined) (.ref a.c_Joined) = some true
  is_Joined_Deed : PySem.W.kitOne K (.ref a.c_Joined) (.ref a.c_Deed) = some false
  is_Joined_Program : PySem.W.kitOne K (.ref a.c_Joined) (.ref a.c_Program) = some false
  ty_Deed : ∀ (H : Hp) (x dx : Addr) (fs : List (Str × V)), H x = some (.ins a.c_Deed dx fs) → TyOf K H (.ref x) (.ref a.c_Deed)
  is_Deed_Term : PySem.W.kitOne K (.ref a.c_Deed) (.ref a.c_Term) = some false
  is_Deed_Number : PySem.W.kitOne K (.ref a.c_Deed) (.ref a.c_Number) = some false
  is_Deed_Value : PySem.W.kitOne K (.ref a.c_Deed) (.ref a.c_Value) = some false
  is_Deed_Cell : PySem.W.kitOne K (.ref a.c_Deed) (.ref a.c_Cell) = some false
  is_Deed_Joined : PySem.W.kitOne K (.ref a.c_Deed) (.ref a.c_Joined) = some false
  is_Deed_Deed : PySem.W.kitOne K (.ref a.c_Deed) (.ref a.c_Deed) = some true
  is_Deed_Program : PySem.W.kitOne K (.ref a.c_Deed) (.ref a.c_Program) = some false
  ty_Program : ∀ (H : Hp) (x dx : Addr) (fs : List (Str × V)), H x = some (.ins a.c_Program dx fs) → TyOf K H (.ref x) (.ref a.c_Program)
  is_Program_Term : PySem.W.kitOne K (.ref a.c_Program) (.ref a.c_Term) = some false
  is_Program_Number : PySem.W.kitOne K (.ref a.c_Program) (.ref a.c_Number) = some false
  is_Program_Value : PySem.W.kitOne K (.ref a.c_Program) (.ref a.c_Value) = some false
  is_Program_Cell : PySem.W.kitOne K (.ref a.c_Program) (.ref a.c_Cell) = some false
  is_Program_Joined : PySem.W.kitOne K (.ref a.c_Program) (.ref a.c_Joined) = some false
  is_Program_Deed : PySem.W.kitOne K (.ref a.c_Program) (.ref a.c_Deed) = some false
  is_Program_Program : PySem.W.kitOne K (.ref a.c_Program) (.ref a.c_Program) = some true
  z_bool : mg "bool" = none
  z_int : mg "int" = none
  z_isinstance : mg "isinstance" = none
  z_len : mg "len" = none
  z_list : mg "list" = none
  z_range : mg "range" = none
  z_tuple : mg "tuple" = none
  z_zip : mg "zip" = none
def csOf (a : Ad) : Cs := ⟨a.c_Number, a.c_Value, a.c_Cell, a.c_Joined⟩
section
variable {P : Program} {w : World} {K : PySem.W.Frag} {mg : Str → Option Value} {base : Heap} {a : Ad}
theorem ok_cell_at (T : Tx K mg a) : FnOk P w K mg base CX0 1 a.f_l_cell_at a.d_l_cell_at ["_law_script", "_law_k"] (spCell K) := by
  refine T.F_l_cell_at.ok sc_l_cell_at (fun vs H Q E h => ?_) (fun cdv A outer s H vs Q E hr h => ?_)
  · obtain ⟨_, _, _, rfl, _⟩ := h; rfl
  obtain ⟨p, ns, k, rfl, hS, h0, q⟩ := h
  refine ⟨_, (pss_cons (ps_if (pt_cmpR op_lt (pv 1) (pe_callB call_len_seq (by rfl) T.z_len bt_len (pa_cons (pv 0) pa_nil)) (nomark _))
    (pss_one (ps_ret (pe_ix ix_list (pv 0) (pv 1) (fun _ _ => rfl))))
    pss_nil)
    (pss_one (ps_ret pe_int))), ?_⟩
  have hl : (ns.map V.int).length = ns.length := List.length_map _
  refine ⟨_, rfl, _, rfl, p, _, rfl, .inl hS, _, _, rfl, rfl, _, rfl, ?_⟩
  refine ite2 (fun c => ?_) (fun c => ?_)
  · have c' := dT c
    rw [hl] at c'
    exact ⟨_, rfl, _, rfl, p, _, _, _, rfl, rfl, hS, cell_in h0 c', q⟩
  · have c' := dF c
    rw [hl] at c'
    rw [cell_out c'] at q
    exact q

theorem ok_whole (T : Tx K mg a) : FnOk P w K mg base CX0 1 a.f_l_whole a.d_l_whole ["_law_found"] spWhole := by
  refine T.F_l_whole.ok sc_l_whole (fun vs H Q E h => ?_) (fun cdv A outer s H vs Q E hr h => ?_)
  · obtain ⟨_, rfl, _⟩ := h; rfl
  obtain ⟨x, rfl, hx, q⟩ := h
  refine ⟨_, (pss_one (ps_ret (pe_and (pe_callB call_isi (by rfl) T.z_isinstance bt_isinstance (pa_cons (pv 0) (pa_cons (pe_bltn (v := .ty "int") (by rfl) T.z_int bt_int rfl) pa_nil))) (pe_one (pe_not (pe_callB call_isi (by rfl) T.z_isinstance bt_isinstance (pa_cons (pv 0) (pa_cons (pe_bltn (v := .ty "bool") (by rfl) T.z_bool bt_bool rfl) pa_nil)))))))), ?_⟩
  cases x with
  | int i => exact ⟨_, rfl, _, _, _, _, _, rfl, rfl, .int i, rfl, _, rfl, _, rfl, _, _, _, _, _, rfl, rfl, .int i, rfl, _, rfl, q⟩
  | bl b => exact ⟨_, rfl, _, _, _, _, _, rfl, rfl, .bl b, rfl, _, rfl, _, rfl, _, _, _, _, _, rfl, rfl, .bl b, rfl, _, rfl, q⟩
  | non => exact ⟨_, rfl, _, _, _, _, _, rfl, rfl, .non, rfl, _, rfl, q⟩
  | str z => exact ⟨_, rfl, _, _, _, _, _, rfl, rfl, .str z, rfl, _, rfl, q⟩
  | _ => cases hx

theorem ok_stream (T : Tx K mg a) : FnOk P w K mg base CX0 1 a.f_l_stream a.d_l_stream ["_law_cell", "_law_many"] spStream := by
  refine T.F_l_stream.ok sc_l_stream (fun vs H Q E h => ?_) (fun cdv A outer s H vs Q E hr h => ?_)
  · obtain ⟨_, _, rfl, _⟩ := h; rfl
  obtain ⟨c, n, rfl, h0, h1, q⟩ := h
  refine ⟨_, (pss_cons (ps_set (i := 2) sc_l_stream.nd rfl (Or.inl rfl) (pe_lst pa_nil))
    (pss_cons (ps_set (i := 3) sc_l_stream.nd rfl (Or.inl rfl) (pe_op op_add (pe_op op_mod (pv 0) pe_int) pe_int))
    (pss_cons (ps_for PassesOwn.never rfl (pi_range1 (by rfl) T.z_range (pa_cons (pe_op op_add (pv 1) pe_int) pa_nil)) (pg_name (i := 4) sc_l_stream.nd rfl (Or.inl rfl))
    (pss_cons (ps_set (i := 3) sc_l_stream.nd rfl (Or.inl rfl) (pe_op op_mod (pe_op op_add (pe_op op_add (pe_op op_mul (pv 3) (pv 3)) (pe_op op_mul pe_int (pv 3))) (pv 4)) pe_int))
    (pss_one (ps_expr (pe_bm PySem.F.plainAttrs_list PySem.F.slot_list_append PySem.F.type_list_append mt_append (pv 2) (pa_cons (pv 3) pa_nil))))))
    (pss_one (ps_ret (pe_slice sl_list (pv 2) (po_some pe_int) po_none)))))), ?_⟩
  refine ⟨szl (by show 0 ≤ 1000000; decide), fun l hl => ?_⟩
  refine ⟨_, rfl, _, _, rfl, rfl, (by show (0 : Int) < 2147483647; decide), _, _, rfl, rfl, ?_⟩
  refine ⟨_, rfl, _, _, rfl, rfl, n + 1, rfl, by omega, by omega, ?_⟩
  refine for_range (lo := 0) (n := (n + 1).toNat) (fun i σ' H' => (∃ o1, σ' = [some (.int c), some (.int n), some (.ref l), some (.int (lastS (seedS c) 0 i)), o1]) ∧ Same H H' ∧ H' l = some (.lst ((seqS (seedS c) 0 i).map V.int))) ?_ (fun i σ' H' hi p => ?_) (fun σ' H' p => ?_)
  · exact ⟨⟨_, rfl⟩, same_new hl _, upd_same⟩
  · obtain ⟨⟨o1, rfl⟩, hs, hH⟩ := p
    obtain ⟨b0, b1⟩ := last_bound c i
    have bb := step_bound b0 b1
    have e1 : (lastS (seedS c) 0 i * lastS (seedS c) 0 i + 48271 * lastS (seedS c) 0 i + (0 + (i : Int))) % 2147483647 = lastS (seedS c) 0 (i + 1) := by rw [lastS_succ]; rfl
    have hz : ((seqS (seedS c) 0 i).map V.int).length < sizeLine := by rw [List.length_map, seqS_len]; exact szlt (by omega)
    refine ⟨_, rfl, _, rfl, _, _, rfl, rfl, .inl bb, _, rfl, _, _, rfl, rfl, .inl ⟨by decide, by decide⟩, _, _, rfl, rfl, _, rfl, _, _, rfl, rfl, _, _, rfl, rfl, (by show (0 : Int) < 2147483647; decide), ?_⟩
    refine ⟨_, rfl, .inl ⟨rfl, _, SqL.of hH⟩, _, rfl, l, _, _, rfl, rfl, hH, hz, ⟨_, congrArg (fun v => [some (V.int c), some (V.int n), some (V.ref l), some (V.int v), some (V.int (0 + (i : Int)))]) e1⟩, ?_, ?_⟩
    · exact fun b o e => by rw [upd_ne (ne_of_none e hl)]; exact hs b o e
    · rw [upd_same, seqS_snoc, List.map_append]
      show some (HO.lst (_ ++ [V.int _])) = _
      rw [e1]; rfl
  · obtain ⟨⟨o1, rfl⟩, hs, hH⟩ := p
    refine ⟨_, rfl, _, rfl, l, _, rfl, SqL.of hH, fun r hr' => ?_⟩
    rw [cutV_1]
    refine q r _ (hs.trans (same_new hr' _)) ?_
    rw [upd_same]
    unfold strm
    rw [show (n + 1).toNat = n.toNat + 1 by omega]

theorem ok_names (T : Tx K mg a) : FnOk P w K mg base CX0 2 a.f_l_names a.d_l_names ["_law_cell", "_law_many"] spNames := by
  have G_l_stream := ok_stream (P := P) (w := w) (base := base) T
  refine T.F_l_names.ok sc_l_names (fun vs H Q E h => ?_) (fun cdv A outer s H vs Q E hr h => ?_)
  · obtain ⟨_, _, rfl, _⟩ := h; rfl
  obtain ⟨c, n, rfl, h0, h1, q⟩ := h
  refine ⟨_, (pss_cons (ps_set (i := 2) sc_l_names.nd rfl (Or.inr rfl) pe_str)
    (pss_cons (ps_set (i := 3) sc_l_names.nd rfl (Or.inl rfl) (pe_call G_l_stream (hr.mono (by decide)) (by rfl) T.m_l_stream T.F_l_stream.kp T.b_l_stream .nil pass0 (pa_cons (pv 0) (pa_cons pe_int pa_nil))))
    (pss_cons (ps_set (i := 4) sc_l_names.nd rfl (Or.inl rfl) (pe_bm PySem.F.plainAttrs_str PySem.F.slot_str_join PySem.F.type_str_join mt_join pe_str (pa_cons (pe_compB ["_law_x", "_law_letters"] [none, some 2] (by rfl) (pi_list (pe_slice sl_list (pv 3) (po_some pe_int) po_none)) c_l_names_0 (fun _ _ _ _ _ _ => ⟨(pg_name (i := 0) c_l_names_0n rfl (Or.inl rfl)), pts_nil, (pe_ix ix_str (pv 1) (pe_op op_mod (pv 0) pe_int) (fun _ _ => rfl))⟩)) pa_nil)))
    (pss_cons (ps_set (i := 5) sc_l_names.nd rfl (Or.inl rfl) (pe_op op_add pe_int (pe_op op_mod (pe_ix ix_list (pv 3) pe_int (fun _ _ => rfl)) pe_int)))
    (pss_cons (ps_set (i := 6) sc_l_names.nd rfl (Or.inl rfl) (pe_op op_mod (pe_op op_fdiv (pe_ix ix_list (pv 3) pe_int (fun _ _ => rfl)) pe_int) (pv 5)))
    (pss_cons (ps_set (i := 7) sc_l_names.nd rfl (Or.inl rfl) (pe_lst pa_nil))
    (pss_cons (ps_for PassesOwn.never rfl (pi_range1 (by rfl) T.z_range (pa_cons (pv 1) pa_nil)) (pg_name (i := 8) sc_l_names.nd rfl (Or.inl rfl))
    (pss_cons (ps_set (i := 9) sc_l_names.nd rfl (Or.inl rfl) (pe_ix ix_str (pv 2) (pe_op op_mod (pe_op op_add (pe_ix ix_list (pv 3) (pe_op op_add pe_int (pv 6)) (fun _ _ => rfl)) (pv 8)) pe_int) (fun _ _ => rfl)))
    (pss_cons (ps_set (i := 10) sc_l_names.nd rfl (Or.inl rfl) (pe_op op_add_str (pe_op op_add_str (pe_slice sl_str (pv 4) po_none (po_some (pv 6))) (pv 9)) (pe_slice sl_str (pv 4) (po_some (pe_op op_add (pv 6) pe_int)) (po_some (pv 5)))))
    (pss_cons (ps_if (pt_cmpR op_eq (pe_op op_mod (pe_ix ix_list (pv 3) pe_int (fun _ _ => rfl)) pe_int) pe_int (nomark _))
    (pss_one (ps_set (i := 10) sc_l_names.nd rfl (Or.inl rfl) (pe_slice sl_str (pv 4) po_none (po_some (pe_op op_add pe_int (pe_op op_mod (pe_op op_add (pv 5) (pe_op op_mul pe_int (pv 8))) pe_int))))))
    pss_nil)
    (pss_cons (ps_if (pt_cmpR op_in_seq (pv 10) (pe_tup (pa_cons pe_str (pa_cons pe_str (pa_cons pe_str pa_nil)))) (by with_unfolding_all rfl))
    (pss_one (ps_set (i := 10) sc_l_names.nd rfl (Or.inl rfl) (pe_op op_add_str pe_str (pv 10))))
    pss_nil)
    (pss_one (ps_expr (pe_bm PySem.F.plainAttrs_list PySem.F.slot_list_append PySem.F.type_list_append mt_append (pv 7) (pa_cons (pv 10) pa_nil)))))))))
    (pss_one (ps_ret (pv 7)))))))))), ?_⟩
  refine ⟨_, rfl, c, 10, rfl, by decide, by decide, fun rx H1 s1 hx => ?_⟩
  rw [show (10 : Int).toNat = 10 from rfl] at hx
  generalize hxs : strm c 10 = xs at hx
  have xl : xs.length = 10 := by rw [← hxs, strm_len]
  have xl' : (xs.map V.int).length = 10 := by rw [List.length_map, xl]
  have xm : ∀ y ∈ xs, 0 ≤ y ∧ y < 2147483647 := fun y hy => strm_mem (hxs ▸ hy)
  have atx : ∀ k : Nat, k < 10 → atI (xs.map V.int) ((k : Nat) : Int) = some (.int (xs.getD k 0)) := fun k hk => by
    have := cell_in (ns := xs) (k := ((k : Nat) : Int)) (by omega) (by omega)
    exact this
  -- the word
  refine ⟨rfl, _, rfl, _, rfl, rx, _, rfl, SqL.of hx, fun p2 hp2 => ?_⟩
  have hx2 : (upd H1 p2 (.lst (cutV (xs.map V.int) (some 2) none))) rx = some (.lst (xs.map V.int)) := by rw [upd_ne (ne_of_none hx hp2)]; exact hx
  have cut2 : cutV (xs.map V.int) (some 2) none = (xs.drop 2).map V.int := by
    have := cut_from (xs.map V.int) (i := 2) (by decide)
    rw [List.map_drop]
    exact this
  rw [cut2] at hx2 ⊢
  refine ⟨p2, rfl, ⟨_, SqL.of upd_same⟩, ?_⟩
  refine comp_list (xs := (xs.drop 2).map V.int) (fun i ys H' => H' = upd H1 p2 (.lst ((xs.drop 2).map V.int)) ∧ ys = ((xs.drop 2).take i).map fun x => V.str ⟨#[letC x]⟩) ⟨rfl, by simp⟩ (szl (by rw [List.length_map, List.length_drop]; omega)) (fun i ys H' hi p => ?_) (fun i x ys H' hc p => ?_) (fun ys H' p r hr' => ?_)
  · obtain ⟨rfl, rfl⟩ := p
    exact ⟨SqL.of upd_same, by rw [List.length_map, List.length_take]; omega⟩
  · obtain ⟨rfl, rfl⟩ := p
    rw [List.getElem?_map] at hc
    cases hy : (xs.drop 2)[i]? with
    | none => rw [hy] at hc; cases hc
    | some y =>
      rw [hy] at hc
      cases hc
      refine ⟨_, rfl, _, rfl, _, _, rfl, rfl, (by show (0 : Int) < 26; decide), _, _, _, rfl, rfl, abc_len, abc_at y, rfl, ?_⟩
      rw [take_snoc hy, List.map_append]
      rfl
  obtain ⟨rfl, rfl⟩ := p
  have full : ((xs.drop 2).take ((xs.drop 2).map V.int).length) = xs.drop 2 := by rw [List.length_map, List.take_length]
  rw [full]
  have e3 : Same H1 (upd (upd H1 p2 (.lst ((xs.drop 2).map V.int))) r (.lst ((xs.drop 2).map fun x => V.str ⟨#[letC x]⟩))) := (same_new hp2 _).trans (same_new hr' _)
  generalize hH3 : upd (upd H1 p2 (.lst ((xs.drop 2).map V.int))) r (.lst ((xs.drop 2).map fun x => V.str ⟨#[letC x]⟩)) = H3 at e3
  have hr3 : H3 r = some (.lst (((xs.drop 2).map fun x => (⟨#[letC x]⟩ : Str)).map V.str)) := by rw [← hH3, upd_same, List.map_map]; rfl
  have ew : Txt.join "" ((xs.drop 2).map fun x => (⟨#[letC x]⟩ : Str)) = sOf (nameW xs) := cds_ext (by
    rw [cds_join0, cds_sOf]
    unfold nameW
    generalize xs.drop 2 = l
    induction l with
    | nil => rfl
    | cons y l ih =>
      rw [List.map_cons, List.map_cons, List.flatten_cons, ih]
      rfl)
  refine ⟨_, r, _, rfl, rfl, .inl (SqL.of hr3), ?_, ?_⟩
  · have : ∀ l : List Int, ((l.map fun x => (⟨#[letC x]⟩ : Str)).map (·.length)).sum = l.length := fun l => by
      induction l with
      | nil => rfl
      | cons y l ih => rw [List.map_cons, List.map_cons, List.sum_cons, ih]; show 1 + l.length = l.length + 1; omega
    rw [this, List.length_map, List.length_drop, xl]
    show 10 - 2 + (10 - 2) * (Str.ofString "").length ≤ 16777216
    decide +kernel
  rw [ew]
  have hx3 := e3 _ _ hx
  have wl : (nameW xs).length = 8 := nameW_len xl
  obtain ⟨lb0, lb1⟩ := long_b xs
  obtain ⟨ab0, ab1⟩ := at_b xs
  refine ⟨_, rfl, rx, _, _, _, rfl, rfl, SqL.of hx3, atx 1 (by decide), _, _, rfl, rfl, (by show (0 : Int) < 8; decide), _, _, rfl, rfl, ?_⟩
  refine ⟨_, rfl, rx, _, _, _, rfl, rfl, SqL.of hx3, atx 1 (by decide), _, _, rfl, rfl, ⟨by decide, by decide⟩, _, rfl, _, _, rfl, rfl, (by show (0 : Int) < 1 + xs.getD 1 0 % 8; exact lb0), ?_⟩
  refine ⟨szl (by show 0 ≤ 1000000; decide), fun l hl => ?_⟩
  have hl1 : H1 l = none := e3.free hl
  refine ⟨_, rfl, n, rfl, by omega, by omega, ?_⟩
  refine for_range (lo := 0) (n := n.toNat) (fun i σ' H' => (∃ o1 o2 o3, σ' = [some (.int c), some (.int n), some (.str abc), some (.ref rx), some (.str (sOf (nameW xs))), some (.int (nameLong xs)), some (.int (nameAt xs)), some (.ref l), o1, o2, o3]) ∧ Same H1 H' ∧ H' l = some (.lst (strsV ((List.range i).map fun k : Nat => nameC xs (nameW xs) (k : Int))))) ?_ (fun i σ' H' hi p => ?_) (fun σ' H' p => ?_)
  · exact ⟨⟨_, _, _, rfl⟩, e3.trans (same_new hl _), upd_same⟩
  · obtain ⟨⟨o1, o2, o3, rfl⟩, hs, hH⟩ := p
    have hxx := hs _ _ hx
    -- the sign
    refine ⟨_, rfl, _, rfl, _, rfl, _, _, rfl, rfl, rx, _, _, (.int (xs.getD (2 + nameAt xs).toNat 0)), rfl, rfl, SqL.of hxx, cell_in (by omega) (by omega), _, rfl, _, _, rfl, rfl, _, _, rfl, rfl, (by show (0 : Int) < 26; decide), _, _, _, rfl, rfl, abc_len, abc_at _, ?_⟩
    -- the name
    have wz : (sOf (nameW xs)).length = 8 := by rw [len_sOf, wl]
    refine ⟨_, rfl, _, rfl, _, rfl, _, rfl, szl (by omega), _, rfl, _, _, rfl, rfl, ?_, ?_⟩
    · rw [len_sOf, cds_sOf, cut_to _ ab0]
      exact szl (by rw [List.length_take]; show _ + 1 ≤ 1000000; omega)
    refine ⟨_, rfl, _, rfl, _, _, rfl, rfl, _, rfl, _, rfl, _, rfl, _, rfl, szl (by omega), ?_⟩
    have e0 : (0 : Int) + (i : Int) = (i : Int) := by omega
    rw [cds_sOf, cut_to _ ab0, cut_mid _ (by omega) (by omega) (by omega) (by omega), e0]
    have eA : sOf ((nameW xs).take (nameAt xs).toNat) ++ (⟨#[letC (xs.getD (2 + nameAt xs).toNat 0 + (i : Int))]⟩ : Str) ++ sOf (((nameW xs).drop (nameAt xs + 1).toNat).take ((nameLong xs).toNat - (nameAt xs + 1).toNat)) = sOf (nameA xs (nameW xs) (i : Int)) :=
      cds_ext (by rw [cds_app, cds_app, cds_sOf, cds_sOf, cds_sOf]; rfl)
    refine ⟨_, _, rfl, rfl, ?_, ?_⟩
    · rw [len_app, len_sOf, len_sOf, List.length_take, List.length_take, List.length_drop]
      exact szl (by show _ + 1 + _ ≤ 1000000; omega)
    rw [eA]
    dsimp only [gName]
    refine seq_any (fun σ2 H2 => H2 = H' ∧ ∃ o1 o2, σ2 = nst c n rx xs l o1 o2 (sOf (nameRaw xs (nameW xs) (i : Int)))) (fun σ2 H2 m => ?_) (fun rest => ?_)
    · obtain ⟨rfl, o4, o5, rfl⟩ := m
      refine seq_any (fun σ3 H3' => Same H2 H3' ∧ ∃ o1 o2, σ3 = nst c n rx xs l o1 o2 (sOf (nameC xs (nameW xs) (i : Int)))) (fun σ3 H3' m => ?_) (fun rest => ?_)
      · obtain ⟨hs3, o6, o7, rfl⟩ := m
        have hl3 := hs3 _ _ hH
        refine ⟨_, rfl, .inl ⟨rfl, _, SqL.of hl3⟩, _, rfl, l, _, _, rfl, rfl, hl3, ?_, ⟨_, _, _, rfl⟩, ?_, ?_⟩
        · unfold strsV; rw [List.length_map, List.length_map, List.length_range]; exact szlt (by omega)
        · exact fun b o e => by rw [upd_ne (ne_of_none e hl1)]; exact hs3 _ _ (hs b o e)
        · rw [upd_same, List.range_succ, List.map_append]
          unfold strsV
          rw [List.map_append]
          rfl
      · refine ⟨_, rfl, szl (by show 3 ≤ 1000000; decide), fun tp htp => ?_⟩
        refine ⟨tp, [.str "for", .str "end", .str "size"], rfl, .inr (SqT.of upd_same), rfl, rfl, _, rfl, ?_⟩
        show if inV (V.str (sOf (nameRaw xs (nameW xs) (i : Int)))) [.str "for", .str "end", .str "size"] = true then _ else _
        rw [in_resv]
        have hlr : (nameRaw xs (nameW xs) (i : Int)).length ≤ 10 := by
          have := len_nameC wl (xs := xs) (i : Int)
          unfold nameC at this
          split at this
          · rw [List.length_append] at this; omega
          · exact this
        refine ite2 (fun cc => ?_) (fun cc => ?_)
        · refine ⟨_, rfl, _, _, rfl, rfl, ?_, ?_⟩
          · have hz2 : (Str.ofString "zz").length = 2 := by decide +kernel
            rw [len_sOf, hz2]
            exact szl (by omega)
          · have e : (Str.ofString "zz" ++ sOf (nameRaw xs (nameW xs) (i : Int))) = sOf (nameC xs (nameW xs) (i : Int)) := cds_ext (by
              rw [cds_app, cds_sOf, cds_sOf]
              unfold nameC
              rw [if_pos (dT cc)]
              congr 1)
            exact rest _ _ ⟨same_new htp _, _, _, congrArg (nst c n rx xs l _ _) e⟩
        · have e : sOf (nameRaw xs (nameW xs) (i : Int)) = sOf (nameC xs (nameW xs) (i : Int)) := by
            unfold nameC
            rw [if_neg (dF cc)]
          exact rest _ _ ⟨same_new htp _, _, _, congrArg (nst c n rx xs l _ _) e⟩
    · refine ⟨_, rfl, rx, _, _, _, rfl, rfl, SqL.of hxx, atx 0 (by decide), _, _, rfl, rfl, (by show (0 : Int) < 2; decide), rfl, _, rfl, ?_⟩
      have key : (V.int (xs.getD 0 0 % 2) = V.int 0) ↔ xs.getD 0 0 % 2 = 0 := ⟨fun e => V.int.inj e, fun e => by rw [e]⟩
      refine ite2 (fun cc => ?_) (fun cc => ?_)
      · have c2 := key.mp (dT cc)
        refine ⟨_, rfl, _, rfl, _, rfl, _, _, rfl, rfl, .inl ⟨by decide, by decide⟩, _, _, rfl, rfl, _, _, rfl, rfl, (by show (0 : Int) < 8; decide), _, _, rfl, rfl, _, rfl, _, rfl, szl (by omega), ?_⟩
        have b0 := Int.emod_nonneg (nameLong xs + 3 * (i : Int)) (show (8 : Int) ≠ 0 by decide)
        have e : sOf (cutC (cds (sOf (nameW xs))) none (some (1 + (nameLong xs + 3 * (i : Int)) % 8))) = sOf (nameRaw xs (nameW xs) (i : Int)) := by
          rw [cds_sOf, cut_to _ (by omega)]
          unfold nameRaw
          rw [if_pos c2]
          unfold nameB
          rfl
        exact rest _ _ ⟨rfl, _, _, congrArg (nst c n rx xs l _ _) e⟩
      · have c2 := fun z => dF cc (key.mpr z)
        have e : sOf (nameA xs (nameW xs) (i : Int)) = sOf (nameRaw xs (nameW xs) (i : Int)) := by
          unfold nameRaw
          rw [if_neg c2]
        exact rest _ _ ⟨rfl, _, _, congrArg (nst c n rx xs l _ _) e⟩
  · obtain ⟨⟨o1, o2, o3, rfl⟩, hs, hH⟩ := p
    refine ⟨_, rfl, q l H' (s1.trans hs) ?_⟩
    rw [hH]
    unfold namesF
    rw [hxs]

theorem ok_inin (T : Tx K mg a) : FnOk P w K mg base CX0 1 a.f_Number_init a.d_Number_init ["self", "n"] (spIni a.c_Number ["n"]) := by
  refine T.F_Number_init.ok sc_Number_init (fun vs H Q E h => ?_) (fun cdv A outer s H vs Q E hr h => ?_)
  · obtain ⟨_, _, vs, rfl, hl, _⟩ := h; rw [List.length_cons, hl]; rfl
  obtain ⟨x, dx, vs, rfl, hl, hx, q⟩ := h
  obtain ⟨n, rfl⟩ : ∃ n, vs = [n] := by match vs, hl with | [n], _ => exact ⟨n, rfl⟩
  refine ⟨_, (pss_one (ps_fld (pv 0) (pv 1) rfl)), ?_⟩
  exact ⟨_, rfl, _, rfl, x, _, dx, _, rfl, hx, T.cl_Number, T.n_Number_n, (by show 0 < 1000; decide), q _ (fun b o e hb => by rw [upd_ne hb]; exact e) ⟨dx, upd_same⟩⟩
theorem ok_iniv (T : Tx K mg a) : FnOk P w K mg base CX0 1 a.f_Value_init a.d_Value_init ["self", "name"] (spIni a.c_Value ["name"]) := by
  refine T.F_Value_init.ok sc_Value_init (fun vs H Q E h => ?_) (fun cdv A outer s H vs Q E hr h => ?_)
  · obtain ⟨_, _, vs, rfl, hl, _⟩ := h; rw [List.length_cons, hl]; rfl
  obtain ⟨x, dx, vs, rfl, hl, hx, q⟩ := h
  obtain ⟨n, rfl⟩ : ∃ n, vs = [n] := by match vs, hl with | [n], _ => exact ⟨n, rfl⟩
  refine ⟨_, (pss_one (ps_fld (pv 0) (pv 1) rfl)), ?_⟩
  exact ⟨_, rfl, _, rfl, x, _, dx, _, rfl, hx, T.cl_Value, T.n_Value_name, (by show 0 < 1000; decide), q _ (fun b o e hb => by rw [upd_ne hb]; exact e) ⟨dx, upd_same⟩⟩
theorem ok_inic (T : Tx K mg a) : FnOk P w K mg base CX0 1 a.f_Cell_init a.d_Cell_init ["self", "table", "spots"] (spIni a.c_Cell ["table", "spots"]) := by
  refine T.F_Cell_init.ok sc_Cell_init (fun vs H Q E h => ?_) (fun cdv A outer s H vs Q E hr h => ?_)
  · obtain ⟨_, _, vs, rfl, hl, _⟩ := h; rw [List.length_cons, hl]; rfl
  obtain ⟨x, dx, vs, rfl, hl, hx, q⟩ := h
  obtain ⟨n, m, rfl⟩ : ∃ n m, vs = [n, m] := by match vs, hl with | [n, m], _ => exact ⟨n, m, rfl⟩
  refine ⟨_, (pss_cons (ps_fld (pv 0) (pv 1) rfl)
    (pss_one (ps_fld (pv 0) (pv 2) rfl))), ?_⟩
  refine ⟨_, rfl, _, rfl, x, _, dx, _, rfl, hx, T.cl_Cell, T.n_Cell_table, (by show 0 < 1000; decide), ?_⟩
  refine ⟨_, rfl, _, rfl, x, _, dx, _, rfl, upd_same, T.cl_Cell, T.n_Cell_spots, (by show 1 < 1000; decide), ?_⟩
  exact q _ (fun b o e hb => by repeat rw [upd_ne hb]
                                exact e) ⟨dx, upd_same⟩
theorem ok_inij (T : Tx K mg a) : FnOk P w K mg base CX0 1 a.f_Joined_init a.d_Joined_init ["self", "sign", "left", "right"] (spIni a.c_Joined ["sign", "left", "right"]) := by
  refine T.F_Joined_init.ok sc_Joined_init (fun vs H Q E h => ?_) (fun cdv A outer s H vs Q E hr h => ?_)
  · obtain ⟨_, _, vs, rfl, hl, _⟩ := h; rw [List.length_cons, hl]; rfl
  obtain ⟨x, dx, vs, rfl, hl, hx, q⟩ := h
  obtain ⟨n, m, o, rfl⟩ : ∃ n m o, vs = [n, m, o] := by match vs, hl with | [n, m, o], _ => exact ⟨n, m, o, rfl⟩
  refine ⟨_, (pss_cons (ps_fld (pv 0) (pv 1) rfl)
    (pss_cons (ps_fld (pv 0) (pv 2) rfl)
    (pss_one (ps_fld (pv 0) (pv 3) rfl)))), ?_⟩
  refine ⟨_, rfl, _, rfl, x, _, dx, _, rfl, hx, T.cl_Joined, T.n_Joined_sign, (by show 0 < 1000; decide), ?_⟩
  refine ⟨_, rfl, _, rfl, x, _, dx, _, rfl, upd_same, T.cl_Joined, T.n_Joined_left, (by show 1 < 1000; decide), ?_⟩
  refine ⟨_, rfl, _, rfl, x, _, dx, _, rfl, upd_same, T.cl_Joined, T.n_Joined_right, (by show 2 < 1000; decide), ?_⟩
  exact q _ (fun b o e hb => by repeat rw [upd_ne hb]
                                exact e) ⟨dx, upd_same⟩
theorem ok_dinit (T : Tx K mg a) : FnOk P w K mg base CX0 1 a.f_Deed_init a.d_Deed_init ["self", "names", "lows", "highs", "table", "spots", "term", "path"] (spDInit a.c_Deed) := by
  refine T.F_Deed_init.ok sc_Deed_init (fun vs H Q E h => ?_) (fun cdv A outer s H vs Q E hr h => ?_)
  · obtain ⟨_, _, _, _, _, _, _, _, _, rfl, _⟩ := h; rfl
  obtain ⟨x, dx, v1, v2, v3, v4, v5, v6, v7, rfl, hx, q⟩ := h
  refine ⟨_, (pss_cons (ps_fld (pv 0) (pv 1) rfl)
    (pss_cons (ps_fld (pv 0) (pv 2) rfl)
    (pss_cons (ps_fld (pv 0) (pv 3) rfl)
    (pss_cons (ps_fld (pv 0) (pv 4) rfl)
    (pss_cons (ps_fld (pv 0) (pv 5) rfl)
    (pss_cons (ps_fld (pv 0) (pv 6) rfl)
    (pss_one (ps_fld (pv 0) (pv 7) rfl)))))))), ?_⟩
  refine ⟨_, rfl, _, rfl, x, _, dx, _, rfl, hx, T.cl_Deed, T.n_Deed_names, (by show 0 < 1000; decide), ?_⟩
  refine ⟨_, rfl, _, rfl, x, _, dx, _, rfl, upd_same, T.cl_Deed, T.n_Deed_lows, (by show 1 < 1000; decide), ?_⟩
  refine ⟨_, rfl, _, rfl, x, _, dx, _, rfl, upd_same, T.cl_Deed, T.n_Deed_highs, (by show 2 < 1000; decide), ?_⟩
  refine ⟨_, rfl, _, rfl, x, _, dx, _, rfl, upd_same, T.cl_Deed, T.n_Deed_table, (by show 3 < 1000; decide), ?_⟩
  refine ⟨_, rfl, _, rfl, x, _, dx, _, rfl, upd_same, T.cl_Deed, T.n_Deed_spots, (by show 4 < 1000; decide), ?_⟩
  refine ⟨_, rfl, _, rfl, x, _, dx, _, rfl, upd_same, T.cl_Deed, T.n_Deed_term, (by show 5 < 1000; decide), ?_⟩
  refine ⟨_, rfl, _, rfl, x, _, dx, _, rfl, upd_same, T.cl_Deed, T.n_Deed_path, (by show 6 < 1000; decide), ?_⟩
  exact q _ (fun b o e hb => by repeat rw [upd_ne hb]
                                exact e) ⟨dx, upd_same⟩

theorem ok_nreads (T : Tx K mg a) : FnOk P w K mg base CX0 1 a.f_Number_reads a.d_Number_reads ["self"] spNone := by
  refine T.F_Number_reads.ok sc_Number_reads (fun vs H Q E h => ?_) (fun cdv A outer s H vs Q E hr h => ?_)
  · obtain ⟨_, rfl, _⟩ := h; rfl
  obtain ⟨x, rfl, q⟩ := h
  refine ⟨_, (pss_one (ps_ret (pe_lst pa_nil))), ?_⟩
  exact ⟨szl (by show 0 ≤ 1000000; decide), fun r hr => q r _ (same_new hr _) upd_same⟩
theorem ok_vreads (T : Tx K mg a) : FnOk P w K mg base CX0 1 a.f_Value_reads a.d_Value_reads ["self"] spNone := by
  refine T.F_Value_reads.ok sc_Value_reads (fun vs H Q E h => ?_) (fun cdv A outer s H vs Q E hr h => ?_)
  · obtain ⟨_, rfl, _⟩ := h; rfl
  obtain ⟨x, rfl, q⟩ := h
  refine ⟨_, (pss_one (ps_ret (pe_lst pa_nil))), ?_⟩
  exact ⟨szl (by show 0 ≤ 1000000; decide), fun r hr => q r _ (same_new hr _) upd_same⟩
theorem ok_creads (T : Tx K mg a) : FnOk P w K mg base CX0 1 a.f_Cell_reads a.d_Cell_reads ["self"] (spReadC a.c_Cell) := by
  refine T.F_Cell_reads.ok sc_Cell_reads (fun vs H Q E h => ?_) (fun cdv A outer s H vs Q E hr h => ?_)
  · obtain ⟨_, _, _, _, rfl, _⟩ := h; rfl
  obtain ⟨x, dx, z, v, rfl, hx, q⟩ := h
  refine ⟨_, (pss_one (ps_ret (pe_lst (pa_cons (pe_tup (pa_cons (pe_fld (pv 0) rfl) (pa_cons (pe_fld (pv 0) rfl) pa_nil))) pa_nil)))), ?_⟩
  refine ⟨_, rfl, x, _, dx, _, _, rfl, hx, T.cl_Cell, T.n_Cell_table, rfl, _, rfl, x, _, dx, _, _, rfl, hx, T.cl_Cell, T.n_Cell_spots, rfl, szl (by show 2 ≤ 1000000; decide), fun t ht => ⟨szl (by show 1 ≤ 1000000; decide), fun r hr => ?_⟩⟩
  exact q t r _ ((same_new ht _).trans (same_new hr _)) (same_new hr _ _ _ upd_same) upd_same
theorem ok_jreads (T : Tx K mg a) : ∀ n : Nat, FnOk P w K mg base CX0 (n + 1) a.f_Joined_reads a.d_Joined_reads ["self"] (spReadJ K (csOf a) n)
  | 0 => by
    have no : ∀ vs H Q E, ¬ spReadJ K (csOf a) 0 vs H Q E := fun vs H Q E h => by
      obtain ⟨_, _, _, _, _, m, k, _, _, _, _, h1, h2, hn, _⟩ := h
      have := h1.pos; have := h2.pos
      omega
    exact ⟨fun vs H Q E h => absurd h (no vs H Q E), fun A outer s H args us vs Q E _ _ _ _ h => absurd h (no vs H Q E)⟩
  | n + 1 => by
    have G_Number_reads := ok_nreads (P := P) (w := w) (base := base) T
    have G_Value_reads := ok_vreads (P := P) (w := w) (base := base) T
    have G_Cell_reads := ok_creads (P := P) (w := w) (base := base) T
    have G_Joined_reads := ok_jreads T n
    refine T.F_Joined_reads.ok sc_Joined_reads (fun vs H Q E h => ?_) (fun cdv A outer s H vs Q E hr h => ?_)
    · obtain ⟨_, _, _, _, _, _, _, _, _, rfl, _⟩ := h; rfl
    obtain ⟨x, dx, z, l, r, m, k, ts, us, rfl, hx, h1, h2, hn, hb, q⟩ := h
    refine ⟨_, (pss_one (ps_ret (pe_op op_cat (pe_alt (pe_meth0 (pe_fld (pv 0) rfl) T.cl_Number T.me_Number_reads G_Number_reads (hr.mono (by omega)) T.b_Number_reads .nil pass0) (pe_alt (pe_meth0 (pe_fld (pv 0) rfl) T.cl_Value T.me_Value_reads G_Value_reads (hr.mono (by omega)) T.b_Value_reads .nil pass0) (pe_alt (pe_meth0 (pe_fld (pv 0) rfl) T.cl_Cell T.me_Cell_reads G_Cell_reads (hr.mono (by omega)) T.b_Cell_reads .nil pass0) (pe_meth0 (pe_fld (pv 0) rfl) T.cl_Joined T.me_Joined_reads G_Joined_reads (hr.mono (by omega)) T.b_Joined_reads .nil pass0)))) (pe_alt (pe_meth0 (pe_fld (pv 0) rfl) T.cl_Number T.me_Number_reads G_Number_reads (hr.mono (by omega)) T.b_Number_reads .nil pass0) (pe_alt (pe_meth0 (pe_fld (pv 0) rfl) T.cl_Value T.me_Value_reads G_Value_reads (hr.mono (by omega)) T.b_Value_reads .nil pass0) (pe_alt (pe_meth0 (pe_fld (pv 0) rfl) T.cl_Cell T.me_Cell_reads G_Cell_reads (hr.mono (by omega)) T.b_Cell_reads .nil pass0) (pe_meth0 (pe_fld (pv 0) rfl) T.cl_Joined T.me_Joined_reads G_Joined_reads (hr.mono (by omega)) T.b_Joined_reads .nil pass0))))))), ?_⟩
    have p1 := h1.pos
    have p2 := h2.pos
    refine reads_any (c := csOf a) (n := n) (v := l) (fun R hR => ⟨_, rfl, x, _, dx, _, _, rfl, hx, T.cl_Joined, T.n_Joined_left, rfl, hR⟩) h1 (by omega) (by omega) (fun a1 ys1 H1 e1 g1 t1 => ?_)
    refine reads_any (c := csOf a) (n := n) (v := r) (fun R hR => ⟨_, rfl, x, _, dx, _, _, rfl, e1 _ _ hx, T.cl_Joined, T.n_Joined_right, rfl, hR⟩) (h2.over e1) (by omega) (by omega) (fun a2 ys2 H2 e2 g2 t2 => ?_)
    have l1 := t1.length
    have l2 := t2.length
    refine ⟨a1, a2, ys1, ys2, rfl, rfl, e2 _ _ g1, g2, szl (by omega), fun p hp => ?_⟩
    exact q p _ _ ((e1.trans e2).trans (same_new hp _)) upd_same (((t1.over e2).app t2).over (same_new hp _))
theorem ok_kinds (T : Tx K mg a) : FnOk P w K mg base CX0 1 a.f_l_kinds a.d_l_kinds ["_law_term"] (spKinds (csOf a)) := by
  refine T.F_l_kinds.ok sc_l_kinds (fun vs H Q E h => ?_) (fun cdv A outer s H vs Q E hr h => ?_)
  · obtain ⟨_, _, rfl, _⟩ := h; rfl
  obtain ⟨v, wy, rfl, hw, ⟨x, dx, C, fs, rfl, hC, hx⟩, q⟩ := h
  refine ⟨_, (pss_cons (ps_set (i := 1) sc_l_kinds.nd rfl (Or.inl rfl) (pe_lst (pa_cons (pe_callB call_isi (by rfl) T.z_isinstance bt_isinstance (pa_cons (pv 0) (pa_cons (pe_glob (v := .ref a.c_Number) (by rfl) T.mc_Number rfl) pa_nil))) (pa_cons (pe_callB call_isi (by rfl) T.z_isinstance bt_isinstance (pa_cons (pv 0) (pa_cons (pe_glob (v := .ref a.c_Value) (by rfl) T.mc_Value rfl) pa_nil))) (pa_cons (pe_callB call_isi (by rfl) T.z_isinstance bt_isinstance (pa_cons (pv 0) (pa_cons (pe_glob (v := .ref a.c_Cell) (by rfl) T.mc_Cell rfl) pa_nil))) (pa_cons (pe_callB call_isi (by rfl) T.z_isinstance bt_isinstance (pa_cons (pv 0) (pa_cons (pe_glob (v := .ref a.c_Joined) (by rfl) T.mc_Joined rfl) pa_nil))) pa_nil))))))
    (pss_one (ps_ret (pe_op op_cat (pv 1) (pe_lst (pa_cons (pe_callB call_isi (by rfl) T.z_isinstance bt_isinstance (pa_cons (pv 0) (pa_cons (pe_glob (v := .ref a.c_Term) (by rfl) T.mc_Term rfl) pa_nil))) pa_nil)))))), ?_⟩
  match wy, hw, hC, q with
  | 0, _, hC, q => 
    have hC : a.c_Number = C := Option.some.inj hC
    subst hC
    exact ⟨_, rfl, _, _, _, _, _, rfl, rfl, T.ty_Number _ x dx fs hx, T.is_Number_Number, _, rfl, _, _, _, _, _, rfl, rfl, T.ty_Number _ x dx fs hx, T.is_Number_Value, _, rfl, _, _, _, _, _, rfl, rfl, T.ty_Number _ x dx fs hx, T.is_Number_Cell, _, rfl, _, _, _, _, _, rfl, rfl, T.ty_Number _ x dx fs hx, T.is_Number_Joined, szl (by show 4 ≤ 1000000; decide), fun r1 hr1 => ⟨_, rfl, _, rfl, _, _, _, _, _, rfl, rfl, T.ty_Number _ x dx fs (same_new hr1 _ _ _ hx), T.is_Number_Term, szl (by show 1 ≤ 1000000; decide), fun r2 hr2 => ⟨r1, r2, _, _, rfl, rfl, same_new hr2 _ _ _ upd_same, upd_same, szl (by show 5 ≤ 1000000; decide), fun r3 hr3 => q r3 _ (((same_new hr1 _).trans (same_new hr2 _)).trans (same_new hr3 _)) upd_same⟩⟩⟩
  | 1, _, hC, q => 
    have hC : a.c_Value = C := Option.some.inj hC
    subst hC
    exact ⟨_, rfl, _, _, _, _, _, rfl, rfl, T.ty_Value _ x dx fs hx, T.is_Value_Number, _, rfl, _, _, _, _, _, rfl, rfl, T.ty_Value _ x dx fs hx, T.is_Value_Value, _, rfl, _, _, _, _, _, rfl, rfl, T.ty_Value _ x dx fs hx, T.is_Value_Cell, _, rfl, _, _, _, _, _, rfl, rfl, T.ty_Value _ x dx fs hx, T.is_Value_Joined, szl (by show 4 ≤ 1000000; decide), fun r1 hr1 => ⟨_, rfl, _, rfl, _, _, _, _, _, rfl, rfl, T.ty_Value _ x dx fs (same_new hr1 _ _ _ hx), T.is_Value_Term, szl (by show 1 ≤ 1000000; decide), fun r2 hr2 => ⟨r1, r2, _, _, rfl, rfl, same_new hr2 _ _ _ upd_same, upd_same, szl (by show 5 ≤ 1000000; decide), fun r3 hr3 => q r3 _ (((same_new hr1 _).trans (same_new hr2 _)).trans (same_new hr3 _)) upd_same⟩⟩⟩
  | 2, _, hC, q => 
    have hC : a.c_Cell = C := Option.some.inj hC
    subst hC
    exact ⟨_, rfl, _, _, _, _, _, rfl, rfl, T.ty_Cell _ x dx fs hx, T.is_Cell_Number, _, rfl, _, _, _, _, _, rfl, rfl, T.ty_Cell _ x dx fs hx, T.is_Cell_Value, _, rfl, _, _, _, _, _, rfl, rfl, T.ty_Cell _ x dx fs hx, T.is_Cell_Cell, _, rfl, _, _, _, _, _, rfl, rfl, T.ty_Cell _ x dx fs hx, T.is_Cell_Joined, szl (by show 4 ≤ 1000000; decide), fun r1 hr1 => ⟨_, rfl, _, rfl, _, _, _, _, _, rfl, rfl, T.ty_Cell _ x dx fs (same_new hr1 _ _ _ hx), T.is_Cell_Term, szl (by show 1 ≤ 1000000; decide), fun r2 hr2 => ⟨r1, r2, _, _, rfl, rfl, same_new hr2 _ _ _ upd_same, upd_same, szl (by show 5 ≤ 1000000; decide), fun r3 hr3 => q r3 _ (((same_new hr1 _).trans (same_new hr2 _)).trans (same_new hr3 _)) upd_same⟩⟩⟩
  | 3, _, hC, q => 
    have hC : a.c_Joined = C := Option.some.inj hC
    subst hC
    exact ⟨_, rfl, _, _, _, _, _, rfl, rfl, T.ty_Joined _ x dx fs hx, T.is_Joined_Number, _, rfl, _, _, _, _, _, rfl, rfl, T.ty_Joined _ x dx fs hx, T.is_Joined_Value, _, rfl, _, _, _, _, _, rfl, rfl, T.ty_Joined _ x dx fs hx, T.is_Joined_Cell, _, rfl, _, _, _, _, _, rfl, rfl, T.ty_Joined _ x dx fs hx, T.is_Joined_Joined, szl (by show 4 ≤ 1000000; decide), fun r1 hr1 => ⟨_, rfl, _, rfl, _, _, _, _, _, rfl, rfl, T.ty_Joined _ x dx fs (same_new hr1 _ _ _ hx), T.is_Joined_Term, szl (by show 1 ≤ 1000000; decide), fun r2 hr2 => ⟨r1, r2, _, _, rfl, rfl, same_new hr2 _ _ _ upd_same, upd_same, szl (by show 5 ≤ 1000000; decide), fun r3 hr3 => q r3 _ (((same_new hr1 _).trans (same_new hr2 _)).trans (same_new hr3 _)) upd_same⟩⟩⟩
theorem ok_way (T : Tx K mg a) : FnOk P w K mg base CX0 1 a.f_l_due a.d_l_due ["_law_way"] spWay := by
  refine T.F_l_due.ok sc_l_due (fun vs H Q E h => ?_) (fun cdv A outer s H vs Q E hr h => ?_)
  · obtain ⟨_, rfl, _⟩ := h; rfl
  obtain ⟨wy, rfl, hw, q⟩ := h
  refine ⟨_, (pss_one (ps_ret (pe_op op_cat (pe_compB ["_law_k", "_law_way"] [none, some 0] (by rfl) (pi_range1 (by rfl) T.z_range (pa_cons pe_int pa_nil)) c_l_due_0 (fun _ _ _ _ _ _ => ⟨(pg_name (i := 0) c_l_due_0n rfl (Or.inl rfl)), pts_nil, (pe_cmpR op_eq (pv 0) (pv 1) (nomark _))⟩)) (pe_lst (pa_cons pe_bl pa_nil))))), ?_⟩
  refine ⟨4, rfl, by decide, by decide, ?_⟩
  refine comp_range (lo := 0) (n := 4) (fun i ys H' => H' = H ∧ ys = (List.range i).map fun k => V.bl (decide (wy = k))) ⟨rfl, rfl⟩ (szl (by decide)) (fun i ys H' hi p => ?_) (fun i ys H' hi p => ?_) (fun ys H' p r hr' => ?_)
  · obtain ⟨rfl, rfl⟩ := p
    rw [List.length_map, List.length_range]
    exact Nat.le_refl _
  · obtain ⟨rfl, rfl⟩ := p
    refine ⟨_, rfl, _, rfl, rfl, rfl, ?_⟩
    rw [List.range_succ, List.map_append]
    have e : decide (V.int (0 + (i : Int)) = V.int (wy : Int)) = decide (wy = i) := by
      rw [Bool.eq_iff_iff, decide_eq_true_eq, decide_eq_true_eq]
      exact ⟨fun h => by have := V.int.inj h; omega, fun h => by rw [h]; congr 1; omega⟩
    rw [e]
    rfl
  obtain ⟨rfl, rfl⟩ := p
  refine ⟨szl (by show 1 ≤ 1000000; decide), fun r2 hr2 => ?_⟩
  refine ⟨r, r2, _, _, rfl, rfl, same_new hr2 _ _ _ upd_same, upd_same, szl (by show 5 ≤ 1000000; decide), fun r3 hr3 => q r3 _ (((same_new hr' _).trans (same_new hr2 _)).trans (same_new hr3 _)) upd_same⟩
theorem ok_like (T : Tx K mg a) : FnOk P w K mg base CX0 62 a.f_l_like a.d_l_like ["_law_one", "_law_other"] (spLike K (csOf a)) := by
  have G_Number_reads := ok_nreads (P := P) (w := w) (base := base) T
  have G_Value_reads := ok_vreads (P := P) (w := w) (base := base) T
  have G_Cell_reads := ok_creads (P := P) (w := w) (base := base) T
  have G_Joined_reads := ok_jreads (P := P) (w := w) (base := base) T 60
  have G_l_kinds := ok_kinds (P := P) (w := w) (base := base) T
  refine T.F_l_like.ok sc_l_like (fun vs H Q E h => ?_) (fun cdv A outer s H vs Q E hr h => ?_)
  · obtain ⟨_, _, _, rfl, _⟩ := h; rfl
  obtain ⟨v, n, ts, rfl, hT, hn, q⟩ := h
  refine ⟨_, (pss_cons (ps_if ((pw_or (pt_cmpR (op_neS (hu64 hr)) (pe_call G_l_kinds (hr.mono (by decide)) (by rfl) T.m_l_kinds T.F_l_kinds.kp T.b_l_kinds .nil pass0 (pa_cons (pv 0) pa_nil)) (pe_call G_l_kinds (hr.mono (by decide)) (by rfl) T.m_l_kinds T.F_l_kinds.kp T.b_l_kinds .nil pass0 (pa_cons (pv 1) pa_nil)) (nomark _)) (pw_or1 (pt_cmpR (op_neS (hu64 hr)) (pe_alt (pe_meth0 (pv 0) T.cl_Number T.me_Number_reads G_Number_reads (hr.mono (by omega)) T.b_Number_reads .nil pass0) (pe_alt (pe_meth0 (pv 0) T.cl_Value T.me_Value_reads G_Value_reads (hr.mono (by omega)) T.b_Value_reads .nil pass0) (pe_alt (pe_meth0 (pv 0) T.cl_Cell T.me_Cell_reads G_Cell_reads (hr.mono (by omega)) T.b_Cell_reads .nil pass0) (pe_meth0 (pv 0) T.cl_Joined T.me_Joined_reads G_Joined_reads (hr.mono (by omega)) T.b_Joined_reads .nil pass0)))) (pe_alt (pe_meth0 (pv 1) T.cl_Number T.me_Number_reads G_Number_reads (hr.mono (by omega)) T.b_Number_reads .nil pass0) (pe_alt (pe_meth0 (pv 1) T.cl_Value T.me_Value_reads G_Value_reads (hr.mono (by omega)) T.b_Value_reads .nil pass0) (pe_alt (pe_meth0 (pv 1) T.cl_Cell T.me_Cell_reads G_Cell_reads (hr.mono (by omega)) T.b_Cell_reads .nil pass0) (pe_meth0 (pv 1) T.cl_Joined T.me_Joined_reads G_Joined_reads (hr.mono (by omega)) T.b_Joined_reads .nil pass0)))) (nomark _))))).pt
    (pss_one (ps_ret pe_bl))
    pss_nil)
    (pss_cons (ps_if (pt_val (pe_callB call_isi (by rfl) T.z_isinstance bt_isinstance (pa_cons (pv 1) (pa_cons (pe_glob (v := .ref a.c_Number) (by rfl) T.mc_Number rfl) pa_nil))))
    (pss_one (ps_ret (pe_cmpR op_eq (pe_fld (pv 0) rfl) (pe_fld (pv 1) rfl) (nomark _))))
    pss_nil)
    (pss_cons (ps_if (pt_val (pe_callB call_isi (by rfl) T.z_isinstance bt_isinstance (pa_cons (pv 1) (pa_cons (pe_glob (v := .ref a.c_Value) (by rfl) T.mc_Value rfl) pa_nil))))
    (pss_one (ps_ret (pe_cmpR op_eq (pe_fld (pv 0) rfl) (pe_fld (pv 1) rfl) (nomark _))))
    pss_nil)
    (pss_one (ps_ret (pe_or (pe_callB call_isi (by rfl) T.z_isinstance bt_isinstance (pa_cons (pv 1) (pa_cons (pe_glob (v := .ref a.c_Cell) (by rfl) T.mc_Cell rfl) pa_nil))) (pe_one (pe_cmpR op_eq (pe_fld (pv 0) rfl) (pe_fld (pv 1) rfl) (nomark _))))))))), ?_⟩
  obtain ⟨wy, hw, hk⟩ := hT.kind
  have hp := hT.pos
  have stp : ∀ H', Same H H' → KindAt (csOf a) H' v wy := fun H' e => by
    obtain ⟨x, dx, C, fs, e1, e2, e3⟩ := hk
    exact ⟨x, dx, C, fs, e1, e2, e _ _ e3⟩
  refine ⟨_, rfl, v, wy, rfl, hw, hk, fun k1 H1 e1 g1 => ?_⟩
  refine ⟨_, rfl, v, wy, rfl, hw, stp H1 e1, fun k2 H2 e2 g2 => ?_⟩
  refine ⟨_, _, kinds_tr (e2 _ _ g1), kinds_tr g2, ⟨_, rfl⟩, ⟨_, rfl⟩, simT_refl _, (by show 1 ≤ 60; decide), _, rfl, ?_⟩
  rw [eqT_refl _ (kinds_tr (K := K) g2).ok]
  refine iteF ?_
  have e12 := e1.trans e2
  refine reads_any (c := csOf a) (n := 60) (v := v) (fun R hR => ⟨_, rfl, hR⟩) (hT.over e12) (by omega) (by decide) (fun a1 ys1 H3 e3 g3 t3 => ?_)
  refine reads_any (c := csOf a) (n := 60) (v := v) (fun R hR => ⟨_, rfl, hR⟩) (hT.over (e12.trans e3)) (by omega) (by decide) (fun a2 ys2 H4 e4 g4 t4 => ?_)
  have tr1 : TrIs K H4 (.ref a1) (.lst ts) := .lst (SqL.of (e4 _ _ g3)) (t3.over e4)
  have tr2 : TrIs K H4 (.ref a2) (.lst ts) := .lst (SqL.of g4) t4
  refine ⟨_, _, tr1, tr2, ⟨_, rfl⟩, ⟨_, rfl⟩, simT_refl _, (by rw [depT]; omega), _, rfl, ?_⟩
  rw [eqT_refl _ tr2.ok]
  refine iteF ?_
  have e14 := (e12.trans e3).trans e4
  have hT4 := hT.over e14
  cases hT4 with
  | @num x dx i h =>
    refine ⟨_, rfl, _, _, _, _, _, rfl, rfl, T.ty_Number _ x dx _ h, T.is_Number_Number, _, rfl, iteT ?_⟩
    refine ⟨_, rfl, x, _, dx, _, _, rfl, h, T.cl_Number, T.n_Number_n, rfl, _, rfl, x, _, dx, _, _, rfl, h, T.cl_Number, T.n_Number_n, rfl, rfl, ?_⟩
    rw [decide_eq_true rfl]
    exact q _ e14
  | @val x dx z h =>
    refine ⟨_, rfl, _, _, _, _, _, rfl, rfl, T.ty_Value _ x dx _ h, T.is_Value_Number, _, rfl, iteF ?_⟩
    refine ⟨_, rfl, _, _, _, _, _, rfl, rfl, T.ty_Value _ x dx _ h, T.is_Value_Value, _, rfl, iteT ?_⟩
    refine ⟨_, rfl, x, _, dx, _, _, rfl, h, T.cl_Value, T.n_Value_name, rfl, _, rfl, x, _, dx, _, _, rfl, h, T.cl_Value, T.n_Value_name, rfl, rfl, ?_⟩
    rw [decide_eq_true rfl]
    exact q _ e14
  | @cel x dx p z t h ht hd hn' =>
    refine ⟨_, rfl, _, _, _, _, _, rfl, rfl, T.ty_Cell _ x dx _ h, T.is_Cell_Number, _, rfl, iteF ?_⟩
    refine ⟨_, rfl, _, _, _, _, _, rfl, rfl, T.ty_Cell _ x dx _ h, T.is_Cell_Value, _, rfl, iteF ?_⟩
    refine ⟨_, rfl, _, _, _, _, _, rfl, rfl, T.ty_Cell _ x dx _ h, T.is_Cell_Cell, _, rfl, iteT (q _ e14)⟩
  | @joi x dx l r m' k ts us z h _ _ =>
    refine ⟨_, rfl, _, _, _, _, _, rfl, rfl, T.ty_Joined _ x dx _ h, T.is_Joined_Number, _, rfl, iteF ?_⟩
    refine ⟨_, rfl, _, _, _, _, _, rfl, rfl, T.ty_Joined _ x dx _ h, T.is_Joined_Value, _, rfl, iteF ?_⟩
    refine ⟨_, rfl, _, _, _, _, _, rfl, rfl, T.ty_Joined _ x dx _ h, T.is_Joined_Cell, _, rfl, iteF ?_⟩
    refine ⟨_, rfl, x, _, dx, _, _, rfl, h, T.cl_Joined, T.n_Joined_sign, rfl, _, rfl, x, _, dx, _, _, rfl, h, T.cl_Joined, T.n_Joined_sign, rfl, rfl, ?_⟩
    rw [decide_eq_true rfl]
    exact q _ e14
theorem ok_leaf (T : Tx K mg a) : FnOk P w K mg base CX0 3 a.f_l_leaf a.d_l_leaf ["_law_cell", "_law_names_here"] (spLeaf K (csOf a)) := by
  have G_l_stream := ok_stream (P := P) (w := w) (base := base) T
  have G_l_whole := ok_whole (P := P) (w := w) (base := base) T
  have G_l_kinds := ok_kinds (P := P) (w := w) (base := base) T
  have G_l_due := ok_way (P := P) (w := w) (base := base) T
  have G_Number_init := ok_inin (P := P) (w := w) (base := base) T
  have G_Value_init := ok_iniv (P := P) (w := w) (base := base) T
  have G_Cell_init := ok_inic (P := P) (w := w) (base := base) T
  refine T.F_l_leaf.ok sc_l_leaf (fun vs H Q E h => ?_) (fun cdv A outer s H vs Q E hr h => ?_)
  · obtain ⟨_, _, _, rfl, _⟩ := h; rfl
  obtain ⟨c, nl, names, rfl, hN, hnl, q⟩ := h
  refine ⟨_, (pss_cons (ps_set (i := 2) sc_l_leaf.nd rfl (Or.inr rfl) (pe_call G_l_stream (hr.mono (by decide)) (by rfl) T.m_l_stream T.F_l_stream.kp T.b_l_stream .nil pass0 (pa_cons (pe_op op_fdiv (pv 0) pe_int) (pa_cons pe_int pa_nil))))
    (pss_cons (ps_if (pt_cmpR op_eq (pe_op op_mod (pv 0) pe_int) pe_int (nomark _))
    (pss_cons (ps_set (i := 3) sc_l_leaf.nd rfl (Or.inl rfl) (pe_op op_mod (pe_op op_mul (pe_ix ix_list (pv 2) pe_int (fun _ _ => rfl)) (pe_ix ix_list (pv 2) pe_int (fun _ _ => rfl))) (pe_op op_pow pe_int pe_int)))
    (pss_cons (ps_set (i := 4) sc_l_leaf.nd rfl (Or.inl rfl) (pe_make T.mk_Number G_Number_init (hr.mono (by decide)) (by rfl) T.mc_Number T.b_Number_init .nil pass0 (pa_cons (pv 3) pa_nil)))
    (pss_one (ps_ret (pe_tup (pa_cons (pv 4) (pa_cons (pe_and (pe_cmpR (op_eqS (hu64 hr)) (pe_call G_l_kinds (hr.mono (by decide)) (by rfl) T.m_l_kinds T.F_l_kinds.kp T.b_l_kinds .nil pass0 (pa_cons (pv 4) pa_nil)) (pe_call G_l_due (hr.mono (by decide)) (by rfl) T.m_l_due T.F_l_due.kp T.b_l_due .nil pass0 (pa_cons pe_int pa_nil)) (nomark _)) (pe_and (pe_call G_l_whole (hr.mono (by decide)) (by rfl) T.m_l_whole T.F_l_whole.kp T.b_l_whole .nil pass0 (pa_cons (pe_fld (pv 4) rfl) pa_nil)) (pe_one (pe_cmpR op_eq (pe_fld (pv 4) rfl) (pv 3) (nomark _))))) pa_nil)))))))
    pss_nil)
    (pss_cons (ps_set (i := 5) sc_l_leaf.nd rfl (Or.inl rfl) (pe_ix ix_list (pv 1) (pe_op op_add pe_int (pe_op op_mod (pe_ix ix_list (pv 2) pe_int (fun _ _ => rfl)) pe_int)) (fun _ _ => rfl)))
    (pss_cons (ps_if (pt_cmpR op_eq (pe_op op_mod (pv 0) pe_int) pe_int (nomark _))
    (pss_cons (ps_set (i := 4) sc_l_leaf.nd rfl (Or.inl rfl) (pe_make T.mk_Value G_Value_init (hr.mono (by decide)) (by rfl) T.mc_Value T.b_Value_init .nil pass0 (pa_cons (pv 5) pa_nil)))
    (pss_one (ps_ret (pe_tup (pa_cons (pv 4) (pa_cons (pe_and (pe_cmpR (op_eqS (hu64 hr)) (pe_call G_l_kinds (hr.mono (by decide)) (by rfl) T.m_l_kinds T.F_l_kinds.kp T.b_l_kinds .nil pass0 (pa_cons (pv 4) pa_nil)) (pe_call G_l_due (hr.mono (by decide)) (by rfl) T.m_l_due T.F_l_due.kp T.b_l_due .nil pass0 (pa_cons pe_int pa_nil)) (nomark _)) (pe_one (pe_cmpR op_eq (pe_fld (pv 4) rfl) (pv 5) (nomark _)))) pa_nil))))))
    pss_nil)
    (pss_cons (ps_set (i := 6) sc_l_leaf.nd rfl (Or.inl rfl) (pe_callTy call_tuple_of (by rfl) T.z_tuple bt_tuple (pa_cons (pe_compB ["_law_k", "_law_names_here", "_law_xs"] [none, some 1, some 2] (by rfl) (pi_range1 (by rfl) T.z_range (pa_cons (pe_op op_add pe_int (pe_op op_mod (pe_ix ix_list (pv 2) pe_int (fun _ _ => rfl)) pe_int)) pa_nil)) c_l_leaf_0 (fun _ _ _ _ _ _ => ⟨(pg_name (i := 0) c_l_leaf_0n rfl (Or.inl rfl)), pts_nil, (pe_tup (pa_cons (pe_ix (show IxR _ (rIxL K) from ix_list) (pe_lst (pa_cons pe_str (pa_cons (pe_ix (show IxR _ (rIxL K) from ix_list) (pv 1) pe_int (fun _ _ => rfl)) pa_nil))) (pe_op op_mod (pe_ix (show IxR _ (rIxL K) from ix_list) (pv 2) pe_int (fun _ _ => rfl)) pe_int) (fun _ _ => rfl)) (pa_cons (pe_op op_sub (pv 0) (pe_op op_mod (pe_op op_mul (pe_ix (show IxR _ (rIxL K) from ix_list) (pv 2) pe_int (fun _ _ => rfl)) (pe_ix (show IxR _ (rIxL K) from ix_list) (pv 2) pe_int (fun _ _ => rfl))) (pe_op op_pow pe_int pe_int))) pa_nil)))⟩)) pa_nil)))
    (pss_cons (ps_set (i := 4) sc_l_leaf.nd rfl (Or.inl rfl) (pe_make T.mk_Cell G_Cell_init (hr.mono (by decide)) (by rfl) T.mc_Cell T.b_Cell_init .nil pass0 (pa_cons (pv 5) (pa_cons (pv 6) pa_nil))))
    (pss_one (ps_ret (pe_tup (pa_cons (pv 4) (pa_cons (pe_and (pe_cmpR (op_eqS (hu64 hr)) (pe_call G_l_kinds (hr.mono (by decide)) (by rfl) T.m_l_kinds T.F_l_kinds.kp T.b_l_kinds .nil pass0 (pa_cons (pv 4) pa_nil)) (pe_call G_l_due (hr.mono (by decide)) (by rfl) T.m_l_due T.F_l_due.kp T.b_l_due .nil pass0 (pa_cons pe_int pa_nil)) (nomark _)) (pe_and (pe_cmpR op_eq (pe_fld (pv 4) rfl) (pv 5) (nomark _)) (pe_one (pe_cmpR (op_eqS (hu64 hr)) (pe_fld (pv 4) rfl) (pv 6) (nomark _))))) pa_nil))))))))))), ?_⟩
  refine ⟨_, rfl, _, _, rfl, rfl, ⟨by decide, by decide⟩, _, 4, rfl, by decide, by decide, fun rx H1 s1 hx => ?_⟩
  rw [show (4 : Int).toNat = 4 from rfl] at hx
  generalize hxs : strm _ 4 = xs at hx
  have xl : xs.length = 4 := by rw [← hxs, strm_len]
  have xm : ∀ y ∈ xs, 0 ≤ y ∧ y < 2147483647 := fun y hy => strm_mem (hxs ▸ hy)
  have atx : ∀ k : Nat, k < 4 → atI (xs.map V.int) ((k : Nat) : Int) = some (.int (xs.getD k 0)) := fun k hk => cell_in (ns := xs) (k := ((k : Nat) : Int)) (by omega) (by omega)
  have xb : ∀ k : Nat, k < 4 → -(2 ^ 64 : Int) < xs.getD k 0 ∧ xs.getD k 0 < 2 ^ 64 := fun k hk => by
    have hm : xs.getD k 0 ∈ xs := by rw [List.getD_eq_getElem?_getD, List.getElem?_eq_getElem (by omega)]; exact List.getElem_mem _
    obtain ⟨h0, h1⟩ := xm _ hm
    exact step_bound h0 (by omega)
  refine ⟨_, rfl, _, _, rfl, rfl, (by show (0 : Int) < 3; decide), rfl, _, rfl, ?_⟩
  refine ite2 (fun _ => ?_) (fun _ => ?_)
  · refine ⟨_, rfl, rx, _, _, _, rfl, rfl, SqL.of hx, atx 0 (by decide), _, rfl, rx, _, _, _, rfl, rfl, SqL.of hx, atx 1 (by decide), _, _, rfl, rfl, .inl (xb 0 (by decide)), _, _, rfl, rfl, ⟨by decide, by decide, by decide⟩, _, _, rfl, rfl, (by show (0 : Int) < 10 ^ (18 : Int).toNat; decide), ?_⟩
    refine ⟨_, rfl, fun x dx nx ndx ne => ⟨x, dx, [_], rfl, rfl, upd_same, fun H2 k2 hx2 => ⟨rfl, ?_⟩⟩⟩
    obtain ⟨dx2, hx2⟩ := hx2
    have e2 := made_same nx ndx k2
    refine ⟨_, rfl, _, rfl, _, 0, rfl, by decide, ⟨x, dx2, _, _, rfl, rfl, hx2⟩, fun k3 H3 e3 g3 => ?_⟩
    refine ⟨0, rfl, by decide, fun k4 H4 e4 g4 => ?_⟩
    refine ⟨_, _, kinds_tr (e4 _ _ g3), kinds_tr g4, ⟨_, rfl⟩, ⟨_, rfl⟩, simT_refl _, (by show 1 ≤ 60; decide), _, rfl, ?_⟩
    rw [eqT_refl _ (kinds_tr (K := K) g4).ok]
    refine iteT ?_
    have hx4 := e4 _ _ (e3 _ _ hx2)
    refine ⟨_, rfl, x, _, dx2, _, _, rfl, hx4, T.cl_Number, T.n_Number_n, rfl, _, rfl, rfl, _, rfl, iteT ?_⟩
    refine ⟨_, rfl, x, _, dx2, _, _, rfl, hx4, T.cl_Number, T.n_Number_n, rfl, _, rfl, rfl, szl (by show 2 ≤ 1000000; decide), fun r hr => ?_⟩
    have e5 := same_new hr
    refine q _ _ ((((s1.trans e2).trans e3).trans e4).trans (same_new hr _)) ⟨r, .ref x, [], rfl, by rw [upd_same, decide_eq_true rfl], .num _ (same_new hr _ _ _ hx4)⟩
  have m0 := Int.emod_nonneg (xs.getD 0 0) (show (3 : Int) ≠ 0 by decide)
  have m1 := Int.emod_lt_of_pos (xs.getD 0 0) (show (0 : Int) < 3 by decide)
  obtain ⟨nz, _, hnz, _⟩ := strs_at (zs := names) (k := 1 + xs.getD 0 0 % 3) (by omega) (by omega)
  have hN1 := s1 _ _ hN
  refine ⟨_, rfl, _, rfl, rx, _, _, _, rfl, rfl, SqL.of hx, atx 0 (by decide), _, _, rfl, rfl, (by show (0 : Int) < 3; decide), _, _, rfl, rfl, nl, _, _, _, rfl, rfl, SqL.of hN1, hnz, ?_⟩
  refine ⟨_, rfl, _, _, rfl, rfl, (by show (0 : Int) < 3; decide), rfl, _, rfl, ?_⟩
  refine ite2 (fun _ => ?_) (fun _ => ?_)
  · refine ⟨_, rfl, fun x dx nx ndx ne => ⟨x, dx, [_], rfl, rfl, upd_same, fun H2 k2 hx2 => ⟨rfl, ?_⟩⟩⟩
    obtain ⟨dx2, hx2⟩ := hx2
    have e2 := made_same nx ndx k2
    refine ⟨_, rfl, _, rfl, _, 1, rfl, by decide, ⟨x, dx2, _, _, rfl, rfl, hx2⟩, fun k3 H3 e3 g3 => ?_⟩
    refine ⟨1, rfl, by decide, fun k4 H4 e4 g4 => ?_⟩
    refine ⟨_, _, kinds_tr (e4 _ _ g3), kinds_tr g4, ⟨_, rfl⟩, ⟨_, rfl⟩, simT_refl _, (by show 1 ≤ 60; decide), _, rfl, ?_⟩
    rw [eqT_refl _ (kinds_tr (K := K) g4).ok]
    refine iteT ?_
    have hx4 := e4 _ _ (e3 _ _ hx2)
    refine ⟨_, rfl, x, _, dx2, _, _, rfl, hx4, T.cl_Value, T.n_Value_name, rfl, _, rfl, rfl, szl (by show 2 ≤ 1000000; decide), fun r hr => ?_⟩
    exact q _ _ ((((s1.trans e2).trans e3).trans e4).trans (same_new hr _)) ⟨r, .ref x, [], rfl, by rw [upd_same, decide_eq_true rfl], .val nz (same_new hr _ _ _ hx4)⟩
  obtain ⟨n0, _, hn0, _⟩ := strs_at (zs := names) (k := 0) (by omega) (by omega)
  refine ⟨_, rfl, rx, _, _, _, rfl, rfl, SqL.of hx, atx 0 (by decide), _, _, rfl, rfl, (by show (0 : Int) < 3; decide), _, _, rfl, rfl, _, rfl, by omega, by omega, ?_⟩
  refine comp_range (lo := 0) (n := (1 + xs.getD 0 0 % 3).toNat) (fun i ys H' => Same H1 H' ∧ ys.length = i ∧ ∃ ts, TrsIs K H' ys ts ∧ depTs ts ≤ 1 ∧ noLs ts = true) ⟨Same.refl _, rfl, [], .nil, Nat.zero_le _, rfl⟩ (szl (by omega)) (fun i ys H' hi p => by have := p.2.1; omega) (fun i ys H' hi p => ?_) (fun ys H2 p r2 hr2 => ?_)
  · obtain ⟨e2, yl, ts, tr, td, tn⟩ := p
    have hx' := e2 _ _ hx
    refine ⟨_, rfl, nl, _, _, _, rfl, rfl, SqL.of (e2 _ _ hN1), hn0, szl (by show 2 ≤ 1000000; decide), fun p1 hp1 => ?_⟩
    have f0 := Int.emod_nonneg (xs.getD 1 0) (show (2 : Int) ≠ 0 by decide)
    have f1 := Int.emod_lt_of_pos (xs.getD 1 0) (show (0 : Int) < 2 by decide)
    obtain ⟨zz, _, hzz, _⟩ := strs_at (zs := [[], cds n0]) (k := xs.getD 1 0 % 2) f0 f1
    have hzz : atI [V.str (Str.ofString ""), V.str n0] (xs.getD 1 0 % 2) = some (.str zz) := by
      have e : strsV [[], cds n0] = [V.str (Str.ofString ""), V.str n0] := by
        show [V.str (sOf []), V.str (sOf (cds n0))] = _
        rw [sOf_cds]
        rfl
      rw [← e]; exact hzz
    have hx2 := same_new hp1 (.lst [V.str (Str.ofString ""), V.str n0]) _ _ hx'
    refine ⟨_, rfl, rx, _, _, _, rfl, rfl, SqL.of hx2, atx 1 (by decide), _, _, rfl, rfl, (by show (0 : Int) < 2; decide), p1, _, _, _, rfl, rfl, SqL.of upd_same, hzz, ?_⟩
    refine ⟨_, rfl, _, rfl, rx, _, _, _, rfl, rfl, SqL.of hx2, atx 2 (by decide), _, rfl, rx, _, _, _, rfl, rfl, SqL.of hx2, atx 3 (by decide), _, _, rfl, rfl, .inl (xb 2 (by decide)), _, _, rfl, rfl, ⟨by decide, by decide, by decide⟩, _, _, rfl, rfl, (by show (0 : Int) < 10 ^ (18 : Int).toNat; decide), _, _, rfl, rfl, szl (by show 2 ≤ 1000000; decide), fun t1 ht1 => ?_⟩
    have e3 : ∀ v, Same H' (upd (upd H' p1 (.lst [V.str (Str.ofString ""), V.str n0])) t1 (.tup [V.str zz, v])) := fun v => (same_new hp1 _).trans (same_new ht1 _)
    refine ⟨e2.trans (e3 _), by rw [List.length_append, yl]; rfl, ts ++ [.tup [.v (.str zz), .v _]], (tr.over (e3 _)).app (.cons (.tup (SqT.of upd_same) (.cons (.flat rfl) (.cons (.flat rfl) .nil))) .nil), ?_, ?_⟩
    · rw [depTs_app]
      exact Nat.max_le.mpr ⟨td, Nat.le_refl _⟩
    · rw [noLs_app, tn]
      rfl
  obtain ⟨e2, yl, ts, tr, td, tn⟩ := p
  refine ⟨r2, _, rfl, .inl ⟨SqL.of upd_same, fun sp hsp => ?_⟩⟩
  have e3 := (same_new hr2 (.lst ys)).trans (same_new hsp (.tup ys))
  have trS : TrIs K (upd (upd H2 r2 (.lst ys)) sp (.tup ys)) (.ref sp) (.tup ts) := .tup (SqT.of upd_same) (tr.over e3)
  generalize upd (upd H2 r2 (.lst ys)) sp (.tup ys) = H3 at e3 trS
  refine ⟨_, rfl, _, rfl, fun x dx nx ndx ne => ⟨x, dx, [_, _], rfl, rfl, upd_same, fun H4 k4 hx4 => ⟨rfl, ?_⟩⟩⟩
  obtain ⟨dx4, hx4⟩ := hx4
  have e4 := made_same nx ndx k4
  refine ⟨_, rfl, _, rfl, _, 2, rfl, by decide, ⟨x, dx4, _, _, rfl, rfl, hx4⟩, fun k5 H5 e5 g5 => ?_⟩
  refine ⟨2, rfl, by decide, fun k6 H6 e6 g6 => ?_⟩
  refine ⟨_, _, kinds_tr (e6 _ _ g5), kinds_tr g6, ⟨_, rfl⟩, ⟨_, rfl⟩, simT_refl _, (by show 1 ≤ 60; decide), _, rfl, ?_⟩
  rw [eqT_refl _ (kinds_tr (K := K) g6).ok]
  refine iteT ?_
  have hx6 := e6 _ _ (e5 _ _ hx4)
  have e46 := (e4.trans e5).trans e6
  have tr6 := trS.over e46
  refine ⟨_, rfl, x, _, dx4, _, _, rfl, hx6, T.cl_Cell, T.n_Cell_table, rfl, _, rfl, rfl, _, rfl, ?_⟩
  rw [decide_eq_true rfl]
  refine iteT ?_
  refine ⟨_, rfl, x, _, dx4, _, _, rfl, hx6, T.cl_Cell, T.n_Cell_spots, rfl, _, rfl, _, _, tr6, tr6, ⟨_, rfl⟩, ⟨_, rfl⟩, simT_refl _, (by rw [depT]; omega), szl (by show 2 ≤ 1000000; decide), fun r hr => ?_⟩
  refine q _ _ ((((s1.trans e2).trans e3).trans e46).trans (same_new hr _)) ⟨r, .ref x, _, rfl, ?_, .cel nz (.tup ts) (same_new hr _ _ _ hx6) (tr6.over (same_new hr _)) (by rw [depT]; omega) (by rw [noL]; exact tn)⟩
  rw [upd_same, show (if false = true then !eqT (.tup ts) (.tup ts) else eqT (.tup ts) (.tup ts)) = true from eqT_refl _ tr6.ok]
theorem ok_both (T : Tx K mg a) : FnOk P w K mg base CX0 63 a.f_l_both a.d_l_both ["_law_sign", "_law_left", "_law_right"] (spBoth K (csOf a)) := by
  have G_l_kinds := ok_kinds (P := P) (w := w) (base := base) T
  have G_l_due := ok_way (P := P) (w := w) (base := base) T
  have G_l_like := ok_like (P := P) (w := w) (base := base) T
  have G_Joined_init := ok_inij (P := P) (w := w) (base := base) T
  refine T.F_l_both.ok sc_l_both (fun vs H Q E h => ?_) (fun cdv A outer s H vs Q E hr h => ?_)
  · obtain ⟨_, _, _, _, _, rfl, _⟩ := h; rfl
  obtain ⟨z, l, r, m, n, rfl, ⟨tl, xl, tsl, rfl, hl, hL⟩, ⟨tr, xr, tsr, rfl, hrr, hR⟩, hmn, q⟩ := h
  refine ⟨_, (pss_cons (ps_set (i := 3) sc_l_both.nd rfl (Or.inl rfl) (pe_make T.mk_Joined G_Joined_init (hr.mono (by decide)) (by rfl) T.mc_Joined T.b_Joined_init .nil pass0 (pa_cons (pv 0) (pa_cons (pe_ix ix_tup (pv 1) pe_int (fun _ _ => rfl)) (pa_cons (pe_ix ix_tup (pv 2) pe_int (fun _ _ => rfl)) pa_nil)))))
    (pss_cons (ps_set (i := 4) sc_l_both.nd rfl (Or.inl rfl) (pe_and (pe_cmpR (op_eqS (hu64 hr)) (pe_call G_l_kinds (hr.mono (by decide)) (by rfl) T.m_l_kinds T.F_l_kinds.kp T.b_l_kinds .nil pass0 (pa_cons (pv 3) pa_nil)) (pe_call G_l_due (hr.mono (by decide)) (by rfl) T.m_l_due T.F_l_due.kp T.b_l_due .nil pass0 (pa_cons pe_int pa_nil)) (nomark _)) (pe_one (pe_cmpR op_eq (pe_fld (pv 3) rfl) (pv 0) (nomark _)))))
    (pss_cons (ps_set (i := 4) sc_l_both.nd rfl (Or.inl rfl) (pe_and (pv 4) (pe_and (pe_call G_l_like (hr.mono (by decide)) (by rfl) T.m_l_like T.F_l_like.kp T.b_l_like .nil pass0 (pa_cons (pe_fld (pv 3) rfl) (pa_cons (pe_ix ix_tup (pv 1) pe_int (fun _ _ => rfl)) pa_nil))) (pe_one (pe_call G_l_like (hr.mono (by decide)) (by rfl) T.m_l_like T.F_l_like.kp T.b_l_like .nil pass0 (pa_cons (pe_fld (pv 3) rfl) (pa_cons (pe_ix ix_tup (pv 2) pe_int (fun _ _ => rfl)) pa_nil)))))))
    (pss_one (ps_ret (pe_tup (pa_cons (pv 3) (pa_cons (pe_and (pv 4) (pe_and (pe_ix ix_tup (pv 1) pe_int (fun _ _ => rfl)) (pe_one (pe_ix ix_tup (pv 2) pe_int (fun _ _ => rfl))))) pa_nil)))))))), ?_⟩
  refine ⟨_, rfl, _, rfl, tl, _, 0, _, rfl, rfl, SqT.of hl, rfl, _, rfl, tr, _, 0, _, rfl, rfl, SqT.of hrr, rfl, fun x dx nx ndx ne => ⟨x, dx, [_, _, _], rfl, rfl, upd_same, fun H2 k2 hx2 => ⟨rfl, ?_⟩⟩⟩
  obtain ⟨dx2, hx2⟩ := hx2
  have e2 := made_same nx ndx k2
  have pl := hL.pos
  have pr := hR.pos
  refine ⟨_, rfl, _, 3, rfl, by decide, ⟨x, dx2, _, _, rfl, rfl, hx2⟩, fun k3 H3 e3 g3 => ?_⟩
  refine ⟨3, rfl, by decide, fun k4 H4 e4 g4 => ?_⟩
  refine ⟨_, _, kinds_tr (e4 _ _ g3), kinds_tr g4, ⟨_, rfl⟩, ⟨_, rfl⟩, simT_refl _, (by show 1 ≤ 60; decide), _, rfl, ?_⟩
  rw [eqT_refl _ (kinds_tr (K := K) g4).ok]
  refine iteT ?_
  have hx4 := e4 _ _ (e3 _ _ hx2)
  have e24 := (e2.trans e3).trans e4
  refine ⟨_, rfl, x, _, dx2, _, _, rfl, hx4, T.cl_Joined, T.n_Joined_sign, rfl, _, rfl, rfl, ?_⟩
  rw [decide_eq_true rfl]
  dsimp only [gName]
  have hl4 := e24 _ _ hl
  have hr4 := e24 _ _ hrr
  have hL4 := hL.over e24
  have hR4 := hR.over e24
  refine ⟨_, rfl, _, rfl, iteT ?_⟩
  refine ⟨_, rfl, x, _, dx2, _, _, rfl, hx4, T.cl_Joined, T.n_Joined_left, rfl, _, rfl, tl, _, 0, _, rfl, rfl, SqT.of hl4, rfl, xl, m, tsl, rfl, hL4, by omega, fun H5 e5 => ⟨_, rfl, iteT ?_⟩⟩
  refine ⟨_, rfl, x, _, dx2, _, _, rfl, e5 _ _ hx4, T.cl_Joined, T.n_Joined_right, rfl, _, rfl, tr, _, 0, _, rfl, rfl, SqT.of (e5 _ _ hr4), rfl, xr, n, tsr, rfl, hR4.over e5, by omega, fun H6 e6 => ?_⟩
  have e56 := e5.trans e6
  refine ⟨_, rfl, _, rfl, _, rfl, iteT ⟨_, rfl, tl, _, 1, _, rfl, rfl, SqT.of (e56 _ _ hl4), rfl, _, rfl, iteT ⟨_, rfl, tr, _, 1, _, rfl, rfl, SqT.of (e56 _ _ hr4), rfl, szl (by show 2 ≤ 1000000; decide), fun r hr => ?_⟩⟩⟩
  have e7 := e56.trans (same_new hr (.tup [.ref x, .bl true]))
  exact q _ _ (e24.trans e7) ⟨r, .ref x, _, rfl, upd_same, .joi z (e7 _ _ hx4) (hL4.over e7) (hR4.over e7)⟩
theorem ok_terms (T : Tx K mg a) : FnOk P w K mg base CX0 64 a.f_l_terms a.d_l_terms ["_law_cells", "_law_seed", "_law_names_here"] (spTerms K (csOf a)) := by
  have G_l_leaf := ok_leaf (P := P) (w := w) (base := base) T
  have G_l_both := ok_both (P := P) (w := w) (base := base) T
  refine T.F_l_terms.ok sc_l_terms (fun vs H Q E h => ?_) (fun cdv A outer s H vs Q E hr h => ?_)
  · obtain ⟨_, _, _, _, _, rfl, _⟩ := h; rfl
  obtain ⟨cl, nl, ns, seed, names, rfl, hC, hcl, hN, hnl, q⟩ := h
  refine ⟨_, (pss_cons (ps_set (i := 3) sc_l_terms.nd rfl (Or.inl rfl) (pe_lst (pa_cons (pe_call G_l_leaf (hr.mono (by decide)) (by rfl) T.m_l_leaf T.F_l_leaf.kp T.b_l_leaf .nil pass0 (pa_cons (pv 1) (pa_cons (pv 2) pa_nil))) pa_nil)))
    (pss_cons (ps_for PassesOwn.never rfl (pi_list (pv 0)) (pg_name (i := 4) sc_l_terms.nd rfl (Or.inl rfl))
    (pss_one (ps_if ((pw_and (pt_cmpR op_lt (pe_op op_mod (pv 4) pe_int) pe_int (nomark _)) (pw_and1 (pt_cmpR op_gt (pe_callB call_len_seq (by rfl) T.z_len bt_len (pa_cons (pv 3) pa_nil)) pe_int (nomark _))))).pt
    (pss_cons (ps_set (i := 5) sc_l_terms.nd rfl (Or.inl rfl) (pe_bm0 PySem.F.plainAttrs_list PySem.F.slot_list_pop PySem.F.type_list_pop mt_pop (pv 3)))
    (pss_cons (ps_set (i := 6) sc_l_terms.nd rfl (Or.inl rfl) (pe_bm0 PySem.F.plainAttrs_list PySem.F.slot_list_pop PySem.F.type_list_pop mt_pop (pv 3)))
    (pss_one (ps_expr (pe_bm PySem.F.plainAttrs_list PySem.F.slot_list_append PySem.F.type_list_append mt_append (pv 3) (pa_cons (pe_call G_l_both (hr.mono (by decide)) (by rfl) T.m_l_both T.F_l_both.kp T.b_l_both .nil pass0 (pa_cons (pe_ix ix_str pe_str (pe_op op_mod (pe_op op_fdiv (pv 4) pe_int) pe_int) (fun _ _ => rfl)) (pa_cons (pv 6) (pa_cons (pv 5) pa_nil)))) pa_nil))))))
    (pss_one (ps_expr (pe_bm PySem.F.plainAttrs_list PySem.F.slot_list_append PySem.F.type_list_append mt_append (pv 3) (pa_cons (pe_call G_l_leaf (hr.mono (by decide)) (by rfl) T.m_l_leaf T.F_l_leaf.kp T.b_l_leaf .nil pass0 (pa_cons (pe_op op_fdiv (pv 4) pe_int) (pa_cons (pv 2) pa_nil))) pa_nil)))))))
    (pss_one (ps_ret (pv 3))))), ?_⟩
  refine ⟨_, rfl, _, rfl, seed, nl, names, rfl, hN, hnl, fun v H1 e1 p1 => ⟨szl (by show 1 ≤ 1000000; decide), fun l hl => ?_⟩⟩
  have hl0 : H l = none := e1.free hl
  have s1 := same_new hl (.lst [v])
  refine ⟨_, rfl, cl, rfl, ⟨_, (e1.trans s1).seq hC⟩, ?_⟩
  refine for_list (xs := ns.map V.int) (fun i σ' H' => Same H H' ∧ (∃ o4 o5 o6, σ' = [some (.ref cl), some (.int seed), some (.ref nl), some (.ref l), o4, o5, o6]) ∧ ∃ xs N, H' l = some (.lst xs) ∧ StackAt K (csOf a) (wo H' l) xs N ∧ N ≤ i + 1) ⟨e1.trans s1, ⟨_, _, _, rfl⟩, [v], 0 + 1, upd_same, StackAt.snoc (xs := []) .nil ((p1.over s1).wo upd_same), Nat.le_refl _⟩ (fun i σ' H' _ p => p.1.seq hC) (fun i x σ' H' hx p => ?_) (fun σ' H' p => ?_)
  · obtain ⟨e2, ⟨o4, o5, o6, rfl⟩, xs, N, hxs, hS, hNi⟩ := p
    obtain ⟨c, rfl⟩ : ∃ c, x = V.int c := by
      rw [List.getElem?_map] at hx
      cases e : ns[i]? with
      | none => rw [e] at hx; cases hx
      | some z => rw [e] at hx; exact ⟨z, (Option.some.inj hx).symm⟩
    have hi : i < ns.length := by have := (List.getElem?_eq_some_iff.mp hx).1; rwa [List.length_map] at this
    dsimp only [gName]
    refine if_any (fun H2 => H2 = H') (fun H2 e => ?_) (fun els => ?_)
    · subst e
      refine ⟨_, rfl, .inl ⟨rfl, _, SqL.of hxs⟩, _, rfl, _, _, rfl, rfl, ⟨by decide, by decide⟩, _, rfl, _, nl, names, rfl, e2 _ _ hN, hnl, fun v2 H3 e3 p3 => ?_⟩
      have hxs3 := e3 _ _ hxs
      have sl := hS.len
      refine ⟨l, _, _, rfl, rfl, hxs3, szlt (by omega), ?_⟩
      refine ⟨fun b ob eb => by rw [upd_ne (ne_of_none eb hl0)]; exact e3 _ _ (e2 _ _ eb), ⟨_, _, _, rfl⟩, xs ++ [v2], N + 1, upd_same, ?_, by omega⟩
      rw [wo_upd]
      exact .snoc (hS.over (wo_mono e3)) (p3.wo hxs3)
    · refine ⟨_, rfl, _, _, rfl, rfl, (by show (0 : Int) < 5; decide), _, _, rfl, rfl, _, rfl, ?_⟩
      refine ite2 (fun _ => ?_) (fun _ => iteF (els _ rfl))
      refine ⟨_, rfl, l, _, rfl, .inl (SqL.of hxs), _, _, rfl, rfl, _, rfl, ?_⟩
      refine ite2 (fun c2 => ?_) (fun _ => els _ rfl)
      have c2 := dT c2
      obtain ⟨ys, x, M, n, rfl, hS1, px, rfl⟩ := hS.last (by omega)
      rw [List.length_append, List.length_singleton] at c2
      obtain ⟨zs, y, M2, m, rfl, hS2, py, rfl⟩ := hS1.last (by omega)
      have sl := hS2.len
      refine ⟨_, rfl, .inl ⟨rfl, _, SqL.of hxs⟩, l, _, x, rfl, rfl, hxs, ?_, ?_⟩
      · rw [List.length_append, List.length_singleton, Nat.add_sub_cancel, List.getElem?_append_right (Nat.le_refl _), Nat.sub_self]
        rfl
      rw [List.dropLast_concat]
      refine ⟨_, rfl, .inl ⟨rfl, _, SqL.of upd_same⟩, l, _, y, rfl, rfl, upd_same, ?_, ?_⟩
      · rw [List.length_append, List.length_singleton, Nat.add_sub_cancel, List.getElem?_append_right (Nat.le_refl _), Nat.sub_self]
        rfl
      rw [List.dropLast_concat]
      have w2 : wo (upd (upd H' l (.lst (zs ++ [y]))) l (.lst zs)) l = wo H' l := by rw [wo_upd, wo_upd]
      have hz : (upd (upd H' l (.lst (zs ++ [y]))) l (.lst zs)) l = some (.lst zs) := upd_same
      have eH : Same H (upd (upd H' l (.lst (zs ++ [y]))) l (.lst zs)) := fun b ob eb => by
        rw [upd_ne (ne_of_none eb hl0), upd_ne (ne_of_none eb hl0)]
        exact e2 _ _ eb
      generalize upd (upd H' l (.lst (zs ++ [y]))) l (.lst zs) = H2 at w2 hz eH
      rw [← w2] at hS2 px py
      have f0 := Int.emod_nonneg (c / 5) (show (3 : Int) ≠ 0 by decide)
      have f1 := Int.emod_lt_of_pos (c / 5) (show (0 : Int) < 3 by decide)
      have hl3 : (cds (Str.ofString "+-*")).length = 3 := by decide +kernel
      obtain ⟨ch, hch, _⟩ := atI_some (l := cds (Str.ofString "+-*")) f0 (by omega)
      refine ⟨_, rfl, .inl ⟨rfl, _, SqL.of hz⟩, _, rfl, _, _, rfl, rfl, ⟨by decide, by decide⟩, _, _, rfl, rfl, (by show (0 : Int) < 3; decide), _, _, ch, rfl, rfl, (by decide +kernel), hch, _, rfl, _, rfl, _, y, x, m, n, rfl, py.over wo_same, px.over wo_same, by omega, fun v3 H3 e3 p3 => ?_⟩
      have hz3 := e3 _ _ hz
      refine ⟨l, _, _, rfl, rfl, hz3, szlt (by omega), ?_⟩
      refine ⟨fun b ob eb => by rw [upd_ne (ne_of_none eb hl0)]; exact e3 _ _ (eH _ _ eb), ⟨_, _, _, rfl⟩, zs ++ [v3], M2 + (m + n), upd_same, ?_, by omega⟩
      rw [wo_upd]
      exact .snoc (hS2.over (wo_mono e3)) (p3.wo hz3)
  · obtain ⟨e2, ⟨o4, o5, o6, rfl⟩, xs, N, hxs, hS, hNi⟩ := p
    exact ⟨_, rfl, q l xs H' e2 hxs (fun x hx => by obtain ⟨n, h⟩ := hS.all x hx; exact ⟨n, h.over wo_same⟩)⟩
theorem ok_pini (T : Tx K mg a) : FnOk P w K mg base CX0 1 a.f_Program_init a.d_Program_init ["self", "size", "deeds"] (spPIni K a.c_Program) := by
  refine T.F_Program_init.ok sc_Program_init (fun vs H Q E h => ?_) (fun cdv A outer s H vs Q E hr h => ?_)
  · obtain ⟨_, _, _, _, _, rfl, _⟩ := h; rfl
  obtain ⟨x, dx, sz, p, ys, rfl, hx, hp, q⟩ := h
  refine ⟨_, (pss_cons (ps_fld (pv 0) (pv 1) rfl)
    (pss_one (ps_fld (pv 0) (pe_callTy call_list_of (by rfl) T.z_list bt_list (pa_cons (pv 2) pa_nil)) rfl))), ?_⟩
  refine ⟨_, rfl, _, rfl, x, _, dx, _, rfl, hx, T.cl_Program, T.n_Program_size, (by show 0 < 1000; decide), ?_⟩
  refine ⟨_, rfl, p, ys, rfl, .inl (SqL.updI hp hx), fun l hl => ?_⟩
  have nxl : x ≠ l := fun e => by rw [e, upd_same] at hl; cases hl
  have hlH : H l = none := by rw [upd_ne (Ne.symm nxl)] at hl; exact hl
  refine ⟨_, rfl, x, _, dx, _, rfl, (by rw [upd_ne nxl]; exact upd_same), T.cl_Program, T.n_Program_deeds, (by show 1 < 1000; decide), ?_⟩
  refine q l _ hlH (fun b o e hb => ?_) ?_ ⟨dx, upd_same⟩
  · rw [upd_ne hb, upd_ne (ne_of_none e hlH), upd_ne hb]
    exact e
  · rw [upd_ne (Ne.symm nxl)]
    exact upd_same
theorem ok_kept (T : Tx K mg a) : FnOk P w K mg base CX0 63 a.f_l_kept a.d_l_kept ["_law_deed", "_law_row"] (spKept K (csOf a) a.c_Deed) := by
  have G_l_like := ok_like (P := P) (w := w) (base := base) T
  refine T.F_l_kept.ok sc_l_kept (fun vs H Q E h => ?_) (fun cdv A outer s H vs Q E hr h => ?_)
  · obtain ⟨_, _, rfl, _⟩ := h; rfl
  obtain ⟨_, _, rfl, ⟨x, dx, t, v0, v1, v2, v4, v5, v6, z, rfl, rfl, hx, ht, hR⟩, q⟩ := h
  refine ⟨_, (pss_cons (ps_if ((pw_or (pt_cmpR (op_neS (hu64 hr)) (pe_fld (pv 0) rfl) (pe_ix ix_tup (pv 1) pe_int (fun _ _ => rfl)) (nomark _)) (pw_or (pt_cmpR (op_neS (hu64 hr)) (pe_fld (pv 0) rfl) (pe_ix ix_tup (pv 1) pe_int (fun _ _ => rfl)) (nomark _)) (pw_or1 (pt_cmpR (op_neS (hu64 hr)) (pe_fld (pv 0) rfl) (pe_ix ix_tup (pv 1) pe_int (fun _ _ => rfl)) (nomark _)))))).pt
    (pss_one (ps_ret pe_bl))
    pss_nil)
    (pss_cons (ps_if ((pw_or (pt_cmpR op_ne (pe_fld (pv 0) rfl) (pe_ix ix_tup (pv 1) pe_int (fun _ _ => rfl)) (nomark _)) (pw_or (pt_cmpR (op_neS (hu64 hr)) (pe_fld (pv 0) rfl) (pe_ix ix_tup (pv 1) pe_int (fun _ _ => rfl)) (nomark _)) (pw_or1 (pt_cmpR (op_neS (hu64 hr)) (pe_fld (pv 0) rfl) (pe_ix ix_tup (pv 1) pe_int (fun _ _ => rfl)) (nomark _)))))).pt
    (pss_one (ps_ret pe_bl))
    pss_nil)
    (pss_one (ps_ret (pe_call G_l_like (hr.mono (by decide)) (by rfl) T.m_l_like T.F_l_like.kp T.b_l_like .nil pass0 (pa_cons (pe_fld (pv 0) rfl) (pa_cons (pe_ix ix_tup (pv 1) pe_int (fun _ _ => rfl)) pa_nil))))))), ?_⟩
  obtain ⟨p0, t0, rfl, i0, d0, _⟩ := hR.t0
  obtain ⟨p1, t1, rfl, i1, d1, _⟩ := hR.t1
  obtain ⟨p2, t2, rfl, i2, d2, _⟩ := hR.t2
  obtain ⟨p4, t4, rfl, i4, d4, _⟩ := hR.t4
  obtain ⟨p6, t6, rfl, i6, d6, _⟩ := hR.t6
  obtain ⟨n, ts, h5, hn⟩ := hR.t5
  refine ⟨_, rfl, x, _, dx, _, _, rfl, hx, T.cl_Deed, T.n_Deed_names, rfl, _, rfl, t, _, 0, _, rfl, rfl, SqT.of ht, rfl, _, _, i0, i0, ⟨_, rfl⟩, ⟨_, rfl⟩, simT_refl _, by omega, _, rfl, ?_⟩
  rw [eqT_refl _ i0.ok]
  refine iteF ?_
  refine ⟨_, rfl, x, _, dx, _, _, rfl, hx, T.cl_Deed, T.n_Deed_lows, rfl, _, rfl, t, _, 1, _, rfl, rfl, SqT.of ht, rfl, _, _, i1, i1, ⟨_, rfl⟩, ⟨_, rfl⟩, simT_refl _, by omega, _, rfl, ?_⟩
  rw [eqT_refl _ i1.ok]
  refine iteF ?_
  refine ⟨_, rfl, x, _, dx, _, _, rfl, hx, T.cl_Deed, T.n_Deed_highs, rfl, _, rfl, t, _, 2, _, rfl, rfl, SqT.of ht, rfl, _, _, i2, i2, ⟨_, rfl⟩, ⟨_, rfl⟩, simT_refl _, by omega, _, rfl, ?_⟩
  rw [eqT_refl _ i2.ok]
  refine iteF ?_
  refine ⟨_, rfl, x, _, dx, _, _, rfl, hx, T.cl_Deed, T.n_Deed_table, rfl, _, rfl, t, _, 3, _, rfl, rfl, SqT.of ht, rfl, rfl, _, rfl, ?_⟩
  refine iteE (ndF rfl) (iteF ?_)
  refine ⟨_, rfl, x, _, dx, _, _, rfl, hx, T.cl_Deed, T.n_Deed_spots, rfl, _, rfl, t, _, 4, _, rfl, rfl, SqT.of ht, rfl, _, _, i4, i4, ⟨_, rfl⟩, ⟨_, rfl⟩, simT_refl _, by omega, _, rfl, ?_⟩
  rw [eqT_refl _ i4.ok]
  refine iteF ?_
  refine ⟨_, rfl, x, _, dx, _, _, rfl, hx, T.cl_Deed, T.n_Deed_path, rfl, _, rfl, t, _, 6, _, rfl, rfl, SqT.of ht, rfl, _, _, i6, i6, ⟨_, rfl⟩, ⟨_, rfl⟩, simT_refl _, by omega, _, rfl, ?_⟩
  rw [eqT_refl _ i6.ok]
  refine iteF ?_
  exact ⟨_, rfl, x, _, dx, _, _, rfl, hx, T.cl_Deed, T.n_Deed_term, rfl, _, rfl, t, _, 5, _, rfl, rfl, SqT.of ht, rfl, v5, n, ts, rfl, h5, hn, fun H' e => q H' e⟩

theorem ok_deeds (T : Tx K mg a) : FnOk P w K mg base CX0 4 a.f_l_deeds a.d_l_deeds ["_law_script", "_law_names_here"] (spDeeds K (csOf a)) := by
  have G_l_cell_at := ok_cell_at (P := P) (w := w) (base := base) T
  have G_Number_init := ok_inin (P := P) (w := w) (base := base) T
  have G_Cell_init := ok_inic (P := P) (w := w) (base := base) T
  have G_Joined_init := ok_inij (P := P) (w := w) (base := base) T
  refine T.F_l_deeds.ok sc_l_deeds (fun vs H Q E h => ?_) (fun cdv A outer s H vs Q E hr h => ?_)
  · obtain ⟨_, _, _, _, rfl, _⟩ := h; rfl
  obtain ⟨p, nl, ns, names, rfl, hp, hN, hnl, q⟩ := h
  refine ⟨_, (pss_cons (ps_set (i := 2) sc_l_deeds.nd rfl (Or.inr rfl) (pe_op op_mod (pe_call G_l_cell_at (hr.mono (by decide)) (by rfl) T.m_l_cell_at T.F_l_cell_at.kp T.b_l_cell_at .nil pass0 (pa_cons (pv 0) (pa_cons pe_int pa_nil))) pe_int))
    (pss_cons (ps_set (i := 3) sc_l_deeds.nd rfl (Or.inl rfl) (pe_lst pa_nil))
    (pss_cons (ps_for PassesOwn.never rfl (pi_range1 (by rfl) T.z_range (pa_cons (pe_op op_add pe_int (pe_op op_mod (pe_op op_fdiv (pe_call G_l_cell_at (hr.mono (by decide)) (by rfl) T.m_l_cell_at T.F_l_cell_at.kp T.b_l_cell_at .nil pass0 (pa_cons (pv 0) (pa_cons pe_int pa_nil))) pe_int) pe_int)) pa_nil)) (pg_name (i := 4) sc_l_deeds.nd rfl (Or.inr rfl))
    (pss_cons (ps_set (i := 5) sc_l_deeds.nd rfl (Or.inl rfl) (pe_callTy call_tuple_of (by rfl) T.z_tuple bt_tuple (pa_cons (pe_compB ["_law_j", "_law_k", "_law_looped", "_law_names_here"] [none, some 4, some 2, some 1] (by rfl) (pi_range1 (by rfl) T.z_range (pa_cons (pe_op op_add pe_int (pe_op op_mod (pe_call G_l_cell_at (hr.mono (by decide)) (by rfl) T.m_l_cell_at T.F_l_cell_at.kp T.b_l_cell_at .nil pass0 (pa_cons (pv 0) (pa_cons pe_int pa_nil))) pe_int)) pa_nil)) c_l_deeds_0 (fun _ _ _ _ _ _ => ⟨(pg_name (i := 0) c_l_deeds_0n rfl (Or.inl rfl)), pts_nil, (pe_tup (pa_cons (pe_ix (show IxR _ (rIxL K) from ix_list) (pe_lst (pa_cons pe_str (pa_cons (pe_ix (show IxR _ (rIxL K) from ix_list) (pv 3) pe_int (fun _ _ => rfl)) pa_nil))) (pv 2) (fun _ _ => rfl)) (pa_cons (pe_op op_add (pv 1) (pv 0)) pa_nil)))⟩)) pa_nil)))
    (pss_cons (ps_set (i := 6) sc_l_deeds.nd rfl (Or.inl rfl) (pe_tup (pa_cons (pv 4) pa_nil)))
    (pss_cons (ps_if (pt_cmpR op_eq (pv 2) pe_int (nomark _))
    (pss_one (ps_set (i := 6) sc_l_deeds.nd rfl (Or.inl rfl) (pe_tup (pa_cons pe_int (pa_cons (pv 4) pa_nil)))))
    pss_nil)
    (pss_cons (ps_set (i := 7) sc_l_deeds.nd rfl (Or.inl rfl) (pe_op op_repT (pe_tup (pa_cons (pe_tup (pa_cons pe_str (pa_cons (pe_op op_mod (pe_call G_l_cell_at (hr.mono (by decide)) (by rfl) T.m_l_cell_at T.F_l_cell_at.kp T.b_l_cell_at .nil pass0 (pa_cons (pv 0) (pa_cons pe_int pa_nil))) (pe_op op_pow pe_int pe_int)) pa_nil))) pa_nil)) (pv 2)))
    (pss_cons (ps_set (i := 8) sc_l_deeds.nd rfl (Or.inl rfl) (pe_op op_repT (pe_tup (pa_cons (pe_tup (pa_cons pe_str (pa_cons (pe_op op_add (pe_op op_mod (pe_call G_l_cell_at (hr.mono (by decide)) (by rfl) T.m_l_cell_at T.F_l_cell_at.kp T.b_l_cell_at .nil pass0 (pa_cons (pv 0) (pa_cons pe_int pa_nil))) (pe_op op_pow pe_int pe_int)) pe_int) pa_nil))) pa_nil)) (pv 2)))
    (pss_cons (ps_set (i := 9) sc_l_deeds.nd rfl (Or.inl rfl) (pe_make T.mk_Joined G_Joined_init (hr.mono (by decide)) (by rfl) T.mc_Joined T.b_Joined_init .nil pass0 (pa_cons (pe_ix ix_str pe_str (pe_op op_mod (pv 4) pe_int) (fun _ _ => rfl)) (pa_cons (pe_make T.mk_Number G_Number_init (hr.mono (by decide)) (by rfl) T.mc_Number T.b_Number_init .nil pass0 (pa_cons (pv 4) pa_nil)) (pa_cons (pe_make T.mk_Cell G_Cell_init (hr.mono (by decide)) (by rfl) T.mc_Cell T.b_Cell_init .nil pass0 (pa_cons (pe_ix ix_list (pv 1) pe_int (fun _ _ => rfl)) (pa_cons (pv 5) pa_nil))) pa_nil)))))
    (pss_cons (ps_if (pt_cmpR op_eq (pe_op op_mod (pv 4) pe_int) pe_int (nomark _))
    (pss_one (ps_set (i := 9) sc_l_deeds.nd rfl (Or.inl rfl) (pe_make T.mk_Cell G_Cell_init (hr.mono (by decide)) (by rfl) T.mc_Cell T.b_Cell_init .nil pass0 (pa_cons (pe_ix ix_list (pv 1) pe_int (fun _ _ => rfl)) (pa_cons (pv 5) pa_nil)))))
    pss_nil)
    (pss_cons (ps_if (pt_cmpR op_eq (pe_op op_mod (pv 4) pe_int) pe_int (nomark _))
    (pss_one (ps_set (i := 9) sc_l_deeds.nd rfl (Or.inl rfl) (pe_make T.mk_Number G_Number_init (hr.mono (by decide)) (by rfl) T.mc_Number T.b_Number_init .nil pass0 (pa_cons (pv 4) pa_nil))))
    pss_nil)
    (pss_one (ps_expr (pe_bm PySem.F.plainAttrs_list PySem.F.slot_list_append PySem.F.type_list_append mt_append (pv 3) (pa_cons (pe_tup (pa_cons (pe_callTy call_tuple_of (by rfl) T.z_tuple bt_tuple (pa_cons (pe_slice sl_list (pv 1) po_none (po_some (pv 2))) pa_nil)) (pa_cons (pv 7) (pa_cons (pv 8) (pa_cons (pe_ix ix_list (pv 1) (pe_op op_add pe_int (pe_op op_mod (pv 4) pe_int)) (fun _ _ => rfl)) (pa_cons (pv 5) (pa_cons (pv 9) (pa_cons (pv 6) pa_nil)))))))) pa_nil)))))))))))))
    (pss_one (ps_ret (pv 3)))))), ?_⟩
  refine ⟨_, rfl, p, ns, 2, rfl, hp, by decide, _, _, rfl, rfl, (by show (0 : Int) < 2; decide), ?_⟩
  have lo0 := Int.emod_nonneg (ns.getD (2 : Int).toNat 0) (show (2 : Int) ≠ 0 by decide)
  have lo1 := Int.emod_lt_of_pos (ns.getD (2 : Int).toNat 0) (show (0 : Int) < 2 by decide)
  dsimp only [gName]
  generalize ns.getD (2 : Int).toNat 0 % 2 = lo at lo0 lo1 ⊢
  refine ⟨szl (by show 0 ≤ 1000000; decide), fun l hl => ?_⟩
  have s1 := same_new hl (.lst [])
  obtain ⟨n0, _, hn0, _⟩ := strs_at (zs := names) (k := 0) (by omega) (by omega)
  obtain ⟨n1, _, hn1, _⟩ := strs_at (zs := names) (k := 1) (by omega) (by omega)
  obtain ⟨n2, _, hn2, _⟩ := strs_at (zs := names) (k := 2) (by omega) (by omega)
  have f0 := Int.emod_nonneg (ns.getD (2 : Int).toNat 0 / 2) (show (6 : Int) ≠ 0 by decide)
  have f1 := Int.emod_lt_of_pos (ns.getD (2 : Int).toNat 0 / 2) (show (0 : Int) < 6 by decide)
  refine ⟨_, rfl, p, ns, 2, rfl, s1.seq hp, by decide, _, _, rfl, rfl, ⟨by decide, by decide⟩, _, _, rfl, rfl, (by show (0 : Int) < 6; decide), _, _, rfl, rfl, _, rfl, by omega, by omega, ?_⟩
  refine for_range (lo := 0) (n := (1 + ns.getD (2 : Int).toNat 0 / 2 % 6).toNat) (fun i σ' H' => Same H H' ∧ (∃ o4 o5 o6 o7 o8 o9, σ' = [some (.ref p), some (.ref nl), some (.int lo), some (.ref l), o4, o5, o6, o7, o8, o9]) ∧ ∃ xs, H' l = some (.lst xs) ∧ xs.length = i ∧ ∀ x ∈ xs, DRow K (csOf a) (wo H' l) x) ⟨s1, ⟨_, _, _, _, _, _, rfl⟩, [], upd_same, rfl, fun x hx => by cases hx⟩ (fun i σ' H' hi pp => ?_) (fun σ' H' pp => ?_)
  case refine_2 =>
    obtain ⟨e2, ⟨o4, o5, o6, o7, o8, o9, rfl⟩, xs, hxs, hxl, hxd⟩ := pp
    exact ⟨_, rfl, q l xs H' e2 hxs (by omega) fun x hx => (hxd x hx).over wo_same⟩
  obtain ⟨e2, ⟨o4, o5, o6, o7, o8, o9, rfl⟩, xs, hxs, hxl, hxd⟩ := pp
  dsimp only [gName]
  have g0 := Int.emod_nonneg (ns.getD (3 : Int).toNat 0) (show (3 : Int) ≠ 0 by decide)
  have g1 := Int.emod_lt_of_pos (ns.getD (3 : Int).toNat 0) (show (0 : Int) < 3 by decide)
  refine ⟨_, rfl, p, ns, 3, rfl, e2.seq hp, by decide, _, _, rfl, rfl, (by show (0 : Int) < 3; decide), _, _, rfl, rfl, _, rfl, by omega, by omega, ?_⟩
  refine comp_range (lo := 0) (n := (1 + ns.getD (3 : Int).toNat 0 % 3).toNat) (fun i ys H3 => Same H' H3 ∧ ys.length = i ∧ ∃ ts, TrsIs K H3 ys ts ∧ depTs ts ≤ 1 ∧ noLs ts = true) ⟨Same.refl _, rfl, [], .nil, Nat.zero_le _, rfl⟩ (szl (by omega)) (fun i ys H3 hi p => by have := p.2.1; omega) (fun j ys H3 hj pp => ?_) (fun ys H3 pp r2 hr2 => ?_)
  · obtain ⟨e3, yl, ts, tr, td, tn⟩ := pp
    refine ⟨_, rfl, nl, _, _, _, rfl, rfl, SqL.of (e3 _ _ (e2 _ _ hN)), hn0, szl (by show 2 ≤ 1000000; decide), fun p1 hp1 => ?_⟩
    obtain ⟨zz, _, hzz, _⟩ := strs_at (zs := [[], cds n0]) (k := lo) lo0 lo1
    have hzz : atI [V.str (Str.ofString ""), V.str n0] lo = some (.str zz) := by
      have e : strsV [[], cds n0] = [V.str (Str.ofString ""), V.str n0] := by
        show [V.str (sOf []), V.str (sOf (cds n0))] = _
        rw [sOf_cds]
        rfl
      rw [← e]; exact hzz
    refine ⟨_, rfl, p1, _, _, _, rfl, rfl, SqL.of upd_same, hzz, _, rfl, _, rfl, _, _, rfl, rfl, szl (by show 2 ≤ 1000000; decide), fun t1 ht1 => ?_⟩
    have e4 : ∀ v, Same H3 (upd (upd H3 p1 (.lst [V.str (Str.ofString ""), V.str n0])) t1 (.tup [V.str zz, v])) := fun v => (same_new hp1 _).trans (same_new ht1 _)
    refine ⟨e3.trans (e4 _), by rw [List.length_append, yl]; rfl, ts ++ [.tup [.v (.str zz), .v _]], (tr.over (e4 _)).app (.cons (.tup (SqT.of upd_same) (.cons (.flat rfl) (.cons (.flat rfl) .nil))) .nil), ?_, ?_⟩
    · rw [depTs_app]
      exact Nat.max_le.mpr ⟨td, Nat.le_refl _⟩
    · rw [noLs_app, tn]
      rfl
  obtain ⟨e3, yl, ts, tr, td, tn⟩ := pp
  refine ⟨r2, _, rfl, .inl ⟨SqL.of upd_same, fun sp hsp => ?_⟩⟩
  have e4 := e3.trans ((same_new hr2 (.lst ys)).trans (same_new hsp (.tup ys)))
  have spT : TrIs K (upd (upd H3 r2 (.lst ys)) sp (.tup ys)) (.ref sp) (.tup ts) := .tup (SqT.of upd_same) (tr.over ((same_new hr2 (.lst ys)).trans (same_new hsp (.tup ys))))
  generalize upd (upd H3 r2 (.lst ys)) sp (.tup ys) = H4 at e4 spT
  have spTr : ∀ H5, Same H4 H5 → TreeAt K H5 (.ref sp) := fun H5 e => ⟨sp, _, rfl, spT.over e, by rw [depT]; omega, by rw [noL]; exact tn⟩
  generalize hk : 0 + (i : Int) = k
  -- the path
  refine ⟨_, rfl, szl (by show 1 ≤ 1000000; decide), fun pa hpa => ?_⟩
  dsimp only [gName]
  refine seq_any (fun σ' H5 => Same H4 H5 ∧ ∃ pa, TreeAt K H5 (.ref pa) ∧ σ' = [some (.ref p), some (.ref nl), some (.int lo), some (.ref l), some (.int k), some (.ref sp), some (.ref pa), o7, o8, o9]) (fun σ' H5 mm => ?_) (fun rest => ?_)
  case refine_2 =>
    refine ⟨_, rfl, rfl, _, rfl, ?_⟩
    refine ite2 (fun _ => ?_) (fun _ => ?_)
    · refine ⟨_, rfl, szl (by show 2 ≤ 1000000; decide), fun pb hpb => ?_⟩
      exact rest _ _ ⟨(same_new hpa _).trans (same_new hpb _), pb, tup_tree (ts := [.v _, .v _]) upd_same (.cons (.flat rfl) (.cons (.flat rfl) .nil)) (by show 0 ≤ 4; decide) rfl, rfl⟩
    · exact rest _ _ ⟨same_new hpa _, pa, tup_tree (ts := [.v _]) upd_same (.cons (.flat rfl) .nil) (by show 0 ≤ 4; decide) rfl, rfl⟩
  obtain ⟨e5, pa, tpa, rfl⟩ := mm
  have hp5 := (e2.trans (e4.trans e5)).seq hp
  have hlo : lo = 0 ∨ lo = 1 := by omega
  -- the lows
  refine ⟨_, rfl, p, ns, 4, rfl, hp5, by decide, _, _, rfl, rfl, ⟨by decide, by decide, by decide⟩, _, _, rfl, rfl, (by show (0 : Int) < 10 ^ (17 : Int).toNat; decide), szl (by show 2 ≤ 1000000; decide), fun u1 hu1 => ⟨szl (by show 1 ≤ 1000000; decide), fun u2 hu2 => ⟨_, rfl, ?_⟩⟩⟩
  refine rep_rule (K := K) hlo upd_same (by simp) (tup_tree (ts := [.tup [.v (.str (Str.ofString "")), .v _]]) upd_same (.cons (.tup (SqT.of (same_new hu2 _ _ _ upd_same)) (.cons (.flat rfl) (.cons (.flat rfl) .nil))) .nil) (by show 1 ≤ 4; decide) rfl) (fun vl H6 e6 tl => ?_)
  have e56 : Same H5 H6 := ((same_new hu1 _).trans (same_new hu2 _)).trans e6
  clear e6
  -- the highs
  refine ⟨_, rfl, p, ns, 4, rfl, e56.seq hp5, by decide, _, _, rfl, rfl, ⟨by decide, by decide, by decide⟩, _, _, rfl, rfl, (by show (0 : Int) < 10 ^ (17 : Int).toNat; decide), _, _, rfl, rfl, szl (by show 2 ≤ 1000000; decide), fun u3 hu3 => ⟨szl (by show 1 ≤ 1000000; decide), fun u4 hu4 => ⟨_, rfl, ?_⟩⟩⟩
  refine rep_rule (K := K) hlo upd_same (by simp) (tup_tree (ts := [.tup [.v (.str (Str.ofString "")), .v _]]) upd_same (.cons (.tup (SqT.of (same_new hu4 _ _ _ upd_same)) (.cons (.flat rfl) (.cons (.flat rfl) .nil))) .nil) (by show 1 ≤ 4; decide) rfl) (fun vh H7 e7 th => ?_)
  have e67 : Same H6 H7 := ((same_new hu3 _).trans (same_new hu4 _)).trans e7
  clear e7
  have e47 := e5.trans (e56.trans e67)
  have hN7 := e47 _ _ (e4 _ _ (e2 _ _ hN))
  -- the term
  have c0 := Int.emod_nonneg k (show (3 : Int) ≠ 0 by decide)
  have c1 := Int.emod_lt_of_pos k (show (0 : Int) < 3 by decide)
  have hl3 : (cds (Str.ofString "+-*")).length = 3 := by decide +kernel
  obtain ⟨ch, hch, _⟩ := atI_some (l := cds (Str.ofString "+-*")) c0 (by omega)
  refine ⟨_, rfl, _, _, rfl, rfl, (by show (0 : Int) < 3; decide), _, _, ch, rfl, rfl, (by decide +kernel), hch, _, rfl, fun x1 dx1 nx1 ndx1 _ => ⟨x1, dx1, [_], rfl, rfl, upd_same, fun H8 k8 hx8 => ⟨rfl, ?_⟩⟩⟩
  have e8 := made_same nx1 ndx1 k8
  obtain ⟨dy8, hx8⟩ := hx8
  refine ⟨_, rfl, nl, _, _, _, rfl, rfl, SqL.of (e8 _ _ hN7), hn1, _, rfl, fun x2 dx2 nx2 ndx2 _ => ⟨x2, dx2, [_, _], rfl, rfl, upd_same, fun H9 k9 hx9 => ⟨rfl, ?_⟩⟩⟩
  have e9 := made_same nx2 ndx2 k9
  obtain ⟨dy9, hx9⟩ := hx9
  intro x3 dx3 nx3 ndx3 _
  refine ⟨x3, dx3, [_, _, _], rfl, rfl, upd_same, fun H10 k10 hx10 => ⟨rfl, ?_⟩⟩
  have e10 := made_same nx3 ndx3 k10
  obtain ⟨dy10, hx10⟩ := hx10
  have e710 := (e8.trans e9).trans e10
  have hTrm : Trm K (csOf a) H10 (1 + 1) (.ref x3) _ := .joi _ hx10 (.num _ (e10 _ _ (e9 _ _ hx8))) (.cel _ _ (e10 _ _ hx9) (spT.over (e47.trans e710)) (by rw [depT]; omega) (by rw [noL]; exact tn))
  dsimp only [gName]
  refine seq_any (fun σ' H11 => Same H7 H11 ∧ ∃ v n ts, Trm K (csOf a) H11 n v ts ∧ n ≤ 61 ∧ σ' = [some (.ref p), some (.ref nl), some (.int lo), some (.ref l), some (.int k), some (.ref sp), some (.ref pa), some vl, some vh, some v]) (fun σ' H11 mm => ?_) (fun rest => ?_)
  case refine_2 =>
    refine ⟨_, rfl, _, _, rfl, rfl, (by show (0 : Int) < 4; decide), rfl, _, rfl, ?_⟩
    refine ite2 (fun _ => ?_) (fun _ => ?_)
    · refine ⟨_, rfl, nl, _, _, _, rfl, rfl, SqL.of (e710 _ _ hN7), hn2, _, rfl, fun x4 dx4 nx4 ndx4 _ => ⟨x4, dx4, [_, _], rfl, rfl, upd_same, fun H12 k12 hx12 => ⟨rfl, ?_⟩⟩⟩
      have e12 := made_same nx4 ndx4 k12
      obtain ⟨dy12, hx12⟩ := hx12
      exact rest _ _ ⟨e710.trans e12, _, _, _, .cel _ _ hx12 (spT.over (e47.trans (e710.trans e12))) (by rw [depT]; omega) (by rw [noL]; exact tn), by decide, rfl⟩
    · exact rest _ _ ⟨e710, _, _, _, hTrm, by decide, rfl⟩
  obtain ⟨e11, v11, m11, ts11, hT11, hm11, rfl⟩ := mm
  refine seq_any (fun σ' H12 => Same H7 H12 ∧ ∃ v n ts, Trm K (csOf a) H12 n v ts ∧ n ≤ 61 ∧ σ' = [some (.ref p), some (.ref nl), some (.int lo), some (.ref l), some (.int k), some (.ref sp), some (.ref pa), some vl, some vh, some v]) (fun σ' H12 mm => ?_) (fun rest => ?_)
  case refine_2 =>
    refine ⟨_, rfl, _, _, rfl, rfl, (by show (0 : Int) < 4; decide), rfl, _, rfl, ?_⟩
    refine ite2 (fun _ => ?_) (fun _ => ?_)
    · refine ⟨_, rfl, fun x4 dx4 nx4 ndx4 _ => ⟨x4, dx4, [_], rfl, rfl, upd_same, fun H12 k12 hx12 => ⟨rfl, ?_⟩⟩⟩
      have e12 := made_same nx4 ndx4 k12
      obtain ⟨dy12, hx12⟩ := hx12
      exact rest _ _ ⟨e11.trans e12, _, _, _, .num _ hx12, by decide, rfl⟩
    · exact rest _ _ ⟨e11, _, _, _, hT11, hm11, rfl⟩
  obtain ⟨e12, v12, m12, ts12, hT12, hm12, rfl⟩ := mm
  have e412 := e47.trans e12
  have hN12 := e12 _ _ hN7
  have hxs12 := e412 _ _ (e4 _ _ hxs)
  obtain ⟨nt, _, hnt, _⟩ := strs_at (zs := names) (k := 1 + k % 3) (by omega) (by omega)
  refine ⟨_, rfl, .inl ⟨rfl, _, SqL.of hxs12⟩, _, rfl, _, rfl, _, rfl, nl, _, rfl, SqL.of hN12, fun p1 hp1 => ⟨p1, _, rfl, .inl ⟨SqL.of upd_same, fun t0 ht0 => ?_⟩⟩⟩
  have e13 := (same_new hp1 (.lst (cutV (strsV names) none (some lo)))).trans (same_new ht0 (.tup (cutV (strsV names) none (some lo))))
  obtain ⟨tsn, trn, tdn, tnn⟩ := flat_trs (K := K) (H := upd (upd H12 p1 (.lst (cutV (strsV names) none (some lo)))) t0 (.tup (cutV (strsV names) none (some lo)))) (cutV (strsV names) none (some lo)) fun x hx => List.all_eq_true.mp (flat_strs names) x (by unfold cutV at hx; exact List.mem_of_mem_drop (List.mem_of_mem_take hx))
  have tn0 := tup_tree (K := K) (H := upd (upd H12 p1 (.lst (cutV (strsV names) none (some lo)))) t0 (.tup (cutV (strsV names) none (some lo)))) upd_same trn (by omega) tnn
  generalize upd (upd H12 p1 (.lst (cutV (strsV names) none (some lo)))) t0 (.tup (cutV (strsV names) none (some lo))) = H13 at e13 tn0
  refine ⟨_, rfl, _, rfl, _, rfl, _, rfl, _, _, rfl, rfl, (by show (0 : Int) < 3; decide), _, _, rfl, rfl, nl, _, _, _, rfl, rfl, SqL.of (e13 _ _ hN12), hnt, _, rfl, _, rfl, _, rfl, szl (by show 7 ≤ 1000000; decide), fun tt htt => ?_⟩
  have e14 := e13.trans (same_new htt (.tup [.ref t0, vl, vh, .str nt, .ref sp, v12, .ref pa]))
  have hxs14 := e14 _ _ hxs12
  refine ⟨l, _, _, rfl, rfl, hxs14, szlt (by omega), ?_⟩
  have eH : Same H' (upd H13 tt (.tup [.ref t0, vl, vh, .str nt, .ref sp, v12, .ref pa])) := e4.trans (e412.trans e14)
  have hl0 : H l = none := hl
  refine ⟨fun b ob eb => by rw [upd_ne (ne_of_none eb hl0)]; exact eH _ _ (e2 _ _ eb), ⟨_, _, _, _, _, _, rfl⟩, _, upd_same, by rw [List.length_append, hxl]; rfl, fun x hx => ?_⟩
  rw [wo_upd]
  rcases List.mem_append.mp hx with h | h
  · exact (hxd x h).over (wo_mono eH)
  · rw [List.mem_singleton.mp h]
    refine DRow.wo hxs14 ⟨tt, _, _, _, _, _, _, _, rfl, upd_same, ?_, ?_, ?_, ?_, ?_, m12, ts12, hT12.over e14, hm12⟩
    · exact tn0.over (same_new htt _)
    · exact tl.over (e67.trans (e12.trans e14))
    · exact th.over (e12.trans e14)
    · exact spTr _ (e412.trans e14)
    · exact tpa.over ((e56.trans e67).trans (e12.trans e14))
theorem ok_law (T : Tx K mg a) : FnOk P w K mg base CX0 66 a.f_law a.d_law ["_law_script"] (spLaw K) := by
  have G_l_cell_at := ok_cell_at (P := P) (w := w) (base := base) T
  have G_l_names := ok_names (P := P) (w := w) (base := base) T
  have G_l_terms := ok_terms (P := P) (w := w) (base := base) T
  have G_l_deeds := ok_deeds (P := P) (w := w) (base := base) T
  have G_l_kept := ok_kept (P := P) (w := w) (base := base) T
  have G_Deed_init := ok_dinit (P := P) (w := w) (base := base) T
  have G_Program_init := ok_pini (P := P) (w := w) (base := base) T
  refine T.F_law.ok sc_law (fun vs H Q E h => ?_) (fun cdv A outer s H vs Q E hr h => ?_)
  · obtain ⟨_, _, rfl, _⟩ := h; rfl
  obtain ⟨p, ns, rfl, hp, h63, _, q⟩ := h
  refine ⟨_, (pss_cons (ps_set (i := 1) sc_law.nd rfl (Or.inl rfl) (pe_call G_l_names (hr.mono (by decide)) (by rfl) T.m_l_names T.F_l_names.kp T.b_l_names .nil pass0 (pa_cons (pe_call G_l_cell_at (hr.mono (by decide)) (by rfl) T.m_l_cell_at T.F_l_cell_at.kp T.b_l_cell_at .nil pass0 (pa_cons (pv 0) (pa_cons pe_int pa_nil))) (pa_cons pe_int pa_nil))))
    (pss_cons (ps_set (i := 2) sc_law.nd rfl (Or.inl rfl) (pe_call G_l_terms (hr.mono (by decide)) (by rfl) T.m_l_terms T.F_l_terms.kp T.b_l_terms .nil pass0 (pa_cons (pe_slice sl_list (pv 0) (po_some pe_int) (po_some pe_int)) (pa_cons (pe_call G_l_cell_at (hr.mono (by decide)) (by rfl) T.m_l_cell_at T.F_l_cell_at.kp T.b_l_cell_at .nil pass0 (pa_cons (pv 0) (pa_cons pe_int pa_nil))) (pa_cons (pv 1) pa_nil)))))
    (pss_cons (ps_for PassesOwn.never rfl (pi_list (pv 2)) (pg_name (i := 3) sc_law.nd rfl (Or.inl rfl))
    (pss_one (ps_if (pt_not (pt_val (pe_ix ix_tup (pv 3) pe_int (fun _ _ => rfl))))
    (pss_one (ps_ret pe_bl))
    pss_nil)))
    (pss_cons (ps_set (i := 4) sc_law.nd rfl (Or.inl rfl) (pe_call G_l_deeds (hr.mono (by decide)) (by rfl) T.m_l_deeds T.F_l_deeds.kp T.b_l_deeds .nil pass0 (pa_cons (pv 0) (pa_cons (pv 1) pa_nil))))
    (pss_cons (ps_setcompB (i := 5) ["_law_row"] [none] sc_law.nd rfl (Or.inl rfl) (by rfl) (pi_list (pv 4)) c_law_0 (fun _ _ _ _ _ _ => ⟨(pg_name (i := 0) c_law_0n rfl (Or.inl rfl)), pts_nil, (pe_make T.mk_Deed G_Deed_init (hr.mono (by decide)) (by rfl) T.mc_Deed T.b_Deed_init .nil pass0 (pa_cons (pe_ix (show IxR _ (rIxT K) from ix_tup) (pv 0) pe_int (fun _ _ => rfl)) (pa_cons (pe_ix (show IxR _ (rIxT K) from ix_tup) (pv 0) pe_int (fun _ _ => rfl)) (pa_cons (pe_ix (show IxR _ (rIxT K) from ix_tup) (pv 0) pe_int (fun _ _ => rfl)) (pa_cons (pe_ix (show IxR _ (rIxT K) from ix_tup) (pv 0) pe_int (fun _ _ => rfl)) (pa_cons (pe_ix (show IxR _ (rIxT K) from ix_tup) (pv 0) pe_int (fun _ _ => rfl)) (pa_cons (pe_ix (show IxR _ (rIxT K) from ix_tup) (pv 0) pe_int (fun _ _ => rfl)) (pa_cons (pe_ix (show IxR _ (rIxT K) from ix_tup) (pv 0) pe_int (fun _ _ => rfl)) pa_nil))))))))⟩))
    (pss_cons (ps_set (i := 6) sc_law.nd rfl (Or.inl rfl) (pe_op op_add pe_int (pe_op op_mod (pe_call G_l_cell_at (hr.mono (by decide)) (by rfl) T.m_l_cell_at T.F_l_cell_at.kp T.b_l_cell_at .nil pass0 (pa_cons (pv 0) (pa_cons pe_int pa_nil))) (pe_op op_sub (pe_op op_pow pe_int pe_int) pe_int))))
    (pss_cons (ps_set (i := 7) sc_law.nd rfl (Or.inl rfl) (pe_callTy call_list_of (by rfl) T.z_list bt_list (pa_cons (pv 5) pa_nil)))
    (pss_cons (ps_set (i := 8) sc_law.nd rfl (Or.inl rfl) (pe_make T.mk_Program G_Program_init (hr.mono (by decide)) (by rfl) T.mc_Program T.b_Program_init .nil pass0 (pa_cons (pv 6) (pa_cons (pv 7) pa_nil))))
    (pss_cons (ps_expr (pe_bm0 PySem.F.plainAttrs_list PySem.F.slot_list_clear PySem.F.type_list_clear mt_clear (pv 7)))
    (pss_cons (ps_if ((pw_or (pt_not (pt_val (pe_callB call_isi (by rfl) T.z_isinstance bt_isinstance (pa_cons (pe_fld (pv 8) rfl) (pa_cons (pe_bltn (v := .ty "list") (by rfl) T.z_list bt_list rfl) pa_nil))))) (pw_or (pt_cmpR op_ne (pe_callB call_len_seq (by rfl) T.z_len bt_len (pa_cons (pe_fld (pv 8) rfl) pa_nil)) (pe_callB call_len_seq (by rfl) T.z_len bt_len (pa_cons (pv 4) pa_nil)) (nomark _)) (pw_or1 (pt_cmpR op_ne (pe_fld (pv 8) rfl) (pv 6) (nomark _)))))).pt
    (pss_one (ps_ret pe_bl))
    pss_nil)
    (pss_cons (ps_for PassesOwn.never rfl (pi_zip2 (by rfl) T.z_zip (pa_cons (pe_fld (pv 8) rfl) (pa_cons (pv 4) pa_nil))) (pg_tup rfl (pgs_cons (pg_name (i := 9) sc_law.nd rfl (Or.inl rfl)) (pgs_cons (pg_name (i := 10) sc_law.nd rfl (Or.inl rfl)) pgs_nil)))
    (pss_one (ps_if (pt_not (pt_val (pe_call G_l_kept (hr.mono (by decide)) (by rfl) T.m_l_kept T.F_l_kept.kp T.b_l_kept .nil pass0 (pa_cons (pv 9) (pa_cons (pv 10) pa_nil)))))
    (pss_one (ps_ret pe_bl))
    pss_nil)))
    (pss_one (ps_ret pe_bl))))))))))))), ?_⟩
  refine ⟨_, rfl, p, ns, 0, rfl, hp, by decide, _, 4, rfl, by decide, by decide, fun r H1 e1 hr1 => ?_⟩
  refine ⟨_, rfl, _, rfl, _, rfl, p, _, rfl, e1.seq hp, fun p1 hp1 => ?_⟩
  rw [cutV_map]
  have s2 := same_new hp1 (.lst ((cutC ns (some 5) (some 44)).map V.int))
  refine ⟨_, rfl, p, ns, 5, rfl, (e1.trans s2).seq hp, by decide, _, rfl, p1, r, cutC ns (some 5) (some 44), _, _, rfl, SqL.of upd_same, Nat.le_trans (cutC_le5 _) (by omega), s2 _ _ hr1, names_len _ _, fun st xs H2 e2 h2 hall => ?_⟩
  have e02 := (e1.trans s2).trans e2
  have hN2 := e2 _ _ (s2 _ _ hr1)
  refine ⟨_, rfl, st, rfl, ⟨_, SqL.of h2⟩, ?_⟩
  refine for_list (xs := xs) (fun i σ' H' => H' = H2 ∧ ∃ o3, σ' = [some (.ref p), some (.ref r), some (.ref st), o3, none, none, none, none, none, none, none]) ⟨rfl, _, rfl⟩ (fun i σ' H' _ pp => by rw [pp.1]; exact SqL.of h2) (fun i x σ' H' hx pp => ?_) (fun σ' H' pp => ?_)
  · obtain ⟨rfl, o3, rfl⟩ := pp
    obtain ⟨n, t, v, ts, rfl, ht, _⟩ := hall x (List.mem_of_getElem? hx)
    exact ⟨_, rfl, t, _, 1, _, rfl, rfl, SqT.of ht, rfl, _, rfl, iteF ⟨rfl, _, rfl⟩⟩
  obtain ⟨rfl, o3, rfl⟩ := pp
  refine ⟨_, rfl, _, rfl, p, r, ns, _, rfl, e02.seq hp, hN2, names_len _ _, fun l xs H3 e3 h3 h6 hD => ?_⟩
  refine ⟨_, rfl, l, rfl, ⟨_, SqL.of h3⟩, ?_⟩
  refine comp_list (xs := xs) (fun i ys H4 => Same H3 H4 ∧ ys.length = i ∧ ∀ (j : Nat) (d x : V), ys[j]? = some d → xs[j]? = some x → DD K (csOf a) a.c_Deed H4 d x) ⟨Same.refl _, rfl, fun j d x z => by simp at z⟩ (szl (by omega)) (fun i ys H4 hi pp => ⟨SqL.of (pp.1 _ _ h3), by have := pp.2.1; omega⟩) (fun i x ys H4 hc pp => ?_) (fun ys H4 pp dl hdl => ?_)
  · obtain ⟨s4, yl, yd⟩ := pp
    obtain ⟨t, v0, v1, v2, v4, v5, v6, z, rfl, ht, hR⟩ := (hD x (List.mem_of_getElem? hc)).over s4
    refine ⟨_, rfl, t, _, 0, _, rfl, rfl, SqT.of ht, rfl, _, rfl, t, _, 1, _, rfl, rfl, SqT.of ht, rfl, _, rfl, t, _, 2, _, rfl, rfl, SqT.of ht, rfl, _, rfl, t, _, 3, _, rfl, rfl, SqT.of ht, rfl, _, rfl, t, _, 4, _, rfl, rfl, SqT.of ht, rfl, _, rfl, t, _, 5, _, rfl, rfl, SqT.of ht, rfl, _, rfl, t, _, 6, _, rfl, rfl, SqT.of ht, rfl, fun d dd nd ndd _ => ⟨d, dd, _, _, _, _, _, _, _, rfl, upd_same, fun H5 k5 hd5 => ⟨rfl, ?_⟩⟩⟩
    have e5 := made_same nd ndd k5
    obtain ⟨dy, hd5⟩ := hd5
    refine ⟨s4.trans e5, by rw [List.length_append, yl]; rfl, fun j d' x' aa bb => ?_⟩
    by_cases c : j < ys.length
    · rw [List.getElem?_append_left c] at aa
      exact (yd j d' x' aa bb).over e5
    · have hj : j = ys.length := by
        have := (List.getElem?_eq_some_iff.mp aa).1
        rw [List.length_append, List.length_singleton] at this
        omega
      subst hj
      rw [List.getElem?_append_right (Nat.le_refl _), Nat.sub_self] at aa
      rw [yl, hc] at bb
      cases aa; cases bb
      exact ⟨d, dy, t, v0, v1, v2, v4, v5, v6, z, rfl, rfl, hd5, e5 _ _ ht, hR.over e5⟩
  obtain ⟨s4, yl, yd⟩ := pp
  have s5 := same_new hdl (.lst ys)
  have hdl5 : (upd H4 dl (HO.lst ys)) dl = some (.lst ys) := upd_same
  generalize upd H4 dl (HO.lst ys) = H5 at s5 hdl5
  have e05 := ((e02.trans e3).trans s4).trans s5
  refine ⟨_, rfl, p, ns, 1, rfl, e05.seq hp, by decide, _, _, rfl, rfl, ⟨by decide, by decide, by decide⟩, _, _, rfl, rfl, _, _, rfl, rfl, (by show (0 : Int) < 10 ^ (18 : Int).toNat - 2; decide), _, _, rfl, rfl, ?_⟩
  refine ⟨_, rfl, dl, ys, rfl, .inl (SqL.of hdl5), fun ha hha => ?_⟩
  have s6 := same_new hha (.lst ys)
  have hha6 : (upd H5 ha (HO.lst ys)) ha = some (.lst ys) := upd_same
  have nl5 : l ≠ ha := ne_of_none (s5 _ _ (s4 _ _ h3)) hha
  generalize upd H5 ha (HO.lst ys) = H6 at s6 hha6
  refine ⟨_, rfl, _, rfl, fun x dx nx ndx _ => ⟨x, dx, _, ha, ys, rfl, upd_same, (made_same nx ndx (H2 := upd (upd H6 dx (.own x)) x (.ins a.c_Program dx [])) (fun b o e _ => e)).seq (SqL.of hha6), fun pl H7 hpl k7 hpl7 hx7 => ⟨rfl, ?_⟩⟩⟩
  have e7 := made_same nx ndx k7
  obtain ⟨dy, hx7⟩ := hx7
  have npl : pl ≠ ha := fun e => by
    rw [e] at hpl
    have := (made_same nx ndx (H2 := upd (upd H6 dx (.own x)) x (.ins a.c_Program dx [])) (fun b o e _ => e)) _ _ hha6
    rw [this] at hpl
    cases hpl
  have hha7 := e7 _ _ hha6
  refine ⟨_, rfl, .inl ⟨rfl, _, SqL.of hha7⟩, ha, _, rfl, rfl, hha7, ?_⟩
  have hx8 : (upd H7 ha (.lst [])) x = _ := (upd_ne (ins_ne hx7 hha7)).trans hx7
  have hpl8 : (upd H7 ha (.lst [])) pl = some (.lst ys) := by rw [upd_ne npl]; exact hpl7
  have hl8 : (upd H7 ha (.lst [])) l = some (.lst xs) := by rw [upd_ne nl5]; exact e7 _ _ (s6 _ _ (s5 _ _ (s4 _ _ h3)))
  have yd8 : ∀ (j : Nat) (d x : V), ys[j]? = some d → xs[j]? = some x → DD K (csOf a) a.c_Deed (upd H7 ha (.lst [])) d x := fun j d x aa bb => by
    have := ((yd j d x aa bb).over ((s5.trans s6).trans e7)).wo hha7
    rw [← wo_upd (o := .lst [])] at this
    exact this.over wo_same
  generalize upd H7 ha (.lst []) = H8 at hx8 hpl8 hl8 yd8
  refine ⟨_, rfl, x, _, dy, _, _, rfl, hx8, T.cl_Program, T.n_Program_deeds, rfl, _, _, _, _, _, rfl, rfl, .lst hpl8, rfl, _, rfl, iteF ?_⟩
  refine ⟨_, rfl, x, _, dy, _, _, rfl, hx8, T.cl_Program, T.n_Program_deeds, rfl, pl, ys, rfl, .inl (SqL.of hpl8), _, rfl, l, xs, rfl, .inl (SqL.of hl8), rfl, _, rfl, iteE (ndF (congrArg (fun n : Nat => V.int (n : Int)) yl)) (iteF ?_)⟩
  refine ⟨_, rfl, x, _, dy, _, _, rfl, hx8, T.cl_Program, T.n_Program_size, rfl, _, rfl, rfl, _, rfl, iteE (ndF rfl) (iteF ?_)⟩
  refine ⟨_, rfl, x, _, dy, _, _, rfl, hx8, T.cl_Program, T.n_Program_deeds, rfl, _, rfl, pl, l, rfl, ⟨_, SqL.of hpl8⟩, ⟨_, SqL.of hl8⟩, ?_⟩
  refine for_zip (xs := ys) (ys := xs) yl (fun i σ' H' => Same H8 H' ∧ ∃ o3 o9 o10 v5 v6, σ' = [some (.ref p), some (.ref r), some (.ref st), o3, some (.ref l), v5, v6, some (.ref ha), some (.ref x), o9, o10]) ⟨Same.refl _, _, _, _, _, _, rfl⟩ (fun i σ' H' _ pp => ⟨SqL.of (pp.1 _ _ hpl8), SqL.of (pp.1 _ _ hl8)⟩) (fun i d v Tt σ' H' hd hv pp hT => ?_) (fun σ' H' pp => ?_)
  · obtain ⟨t1, o3', o9, o10, w5, w6, rfl⟩ := pp
    refine ⟨Tt, _, rfl, SqT.of upd_same, rfl, _, _, rfl, _, _, rfl, rfl, ?_⟩
    refine ⟨_, rfl, _, rfl, d, v, rfl, (yd8 i d v hd hv).over (t1.trans (same_new hT _)), fun H9 e9 => ⟨_, rfl, iteF ?_⟩⟩
    exact ⟨(t1.trans (same_new hT _)).trans e9, _, _, _, _, _, rfl⟩
  · exact q _
end
theorem txt_mk {K : PySem.W.Frag} {h : Heap} {mg : Str → Option Value} {fa : Addr} (X : K.In h) (G : h.Ns mainGlobals mg) (hfa : mg "law" = some (.ref fa))
    {C_Term : Addr} {C_Number : Addr} {C_Value : Addr} {C_Cell : Addr} {C_Joined : Addr} {C_Deed : Addr} {C_Program : Addr} {f1 : Addr} {od1 an1 : Option Addr} {sl1 : Array (Option Value)} {oc1 kV1 dc1 pm1 cd1 ct1 : Value} {f2 : Addr} {od2 an2 : Option Addr} {sl2 : Array (Option Value)} {oc2 kV2 dc2 pm2 cd2 ct2 : Value} {f3 : Addr} {od3 an3 : Option Addr} {sl3 : Array (Option Value)} {oc3 kV3 dc3 pm3 cd3 ct3 : Value} {f4 : Addr} {od4 an4 : Option Addr} {sl4 : Array (Option Value)} {oc4 kV4 dc4 pm4 cd4 ct4 : Value} {f5 : Addr} {od5 an5 : Option Addr} {sl5 : Array (Option Value)} {oc5 kV5 dc5 pm5 cd5 ct5 : Value} {f6 : Addr} {od6 an6 : Option Addr} {sl6 : Array (Option Value)} {oc6 kV6 dc6 pm6 cd6 ct6 : Value} {f7 : Addr} {od7 an7 : Option Addr} {sl7 : Array (Option Value)} {oc7 kV7 dc7 pm7 cd7 ct7 : Value} {f8 : Addr} {od8 an8 : Option Addr} {sl8 : Array (Option Value)} {oc8 kV8 dc8 pm8 cd8 ct8 : Value} {f9 : Addr} {od9 an9 : Option Addr} {sl9 : Array (Option Value)} {oc9 kV9 dc9 pm9 cd9 ct9 : Value} {f10 : Addr} {od10 an10 : Option Addr} {sl10 : Array (Option Value)} {oc10 kV10 dc10 pm10 cd10 ct10 : Value} {f11 : Addr} {od11 an11 : Option Addr} {sl11 : Array (Option Value)} {oc11 kV11 dc11 pm11 cd11 ct11 : Value} {f12 : Addr} {od12 an12 : Option Addr} {sl12 : Array (Option Value)} {oc12 kV12 dc12 pm12 cd12 ct12 : Value} {f13 : Addr} {od13 an13 : Option Addr} {sl13 : Array (Option Value)} {oc13 kV13 dc13 pm13 cd13 ct13 : Value} {f14 : Addr} {od14 an14 : Option Addr} {sl14 : Array (Option Value)} {oc14 kV14 dc14 pm14 cd14 ct14 : Value} {f15 : Addr} {od15 an15 : Option Addr} {sl15 : Array (Option Value)} {oc15 kV15 dc15 pm15 cd15 ct15 : Value} {f16 : Addr} {od16 an16 : Option Addr} {sl16 : Array (Option Value)} {oc16 kV16 dc16 pm16 cd16 ct16 : Value} {f17 : Addr} {od17 an17 : Option Addr} {sl17 : Array (Option Value)} {oc17 kV17 dc17 pm17 cd17 ct17 : Value} {f18 : Addr} {od18 an18 : Option Addr} {sl18 : Array (Option Value)} {oc18 kV18 dc18 pm18 cd18 ct18 : Value} {f19 : Addr} {od19 an19 : Option Addr} {sl19 : Array (Option Value)} {oc19 kV19 dc19 pm19 cd19 ct19 : Value} {f20 : Addr} {od20 an20 : Option Addr} {sl20 : Array (Option Value)} {oc20 kV20 dc20 pm20 cd20 ct20 : Value} {f21 : Addr} {od21 an21 : Option Addr} {sl21 : Array (Option Value)} {oc21 kV21 dc21 pm21 cd21 ct21 : Value} {f22 : Addr} {od22 an22 : Option Addr} {sl22 : Array (Option Value)} {oc22 kV22 dc22 pm22 cd22 ct22 : Value} {f23 : Addr} {od23 an23 : Option Addr} {sl23 : Array (Option Value)} {oc23 kV23 dc23 pm23 cd23 ct23 : Value}
    (a_Term : PySem.W.nsIn K mainGlobals "Term" = some (some (.ref C_Term)))
    (a_Number : PySem.W.nsIn K mainGlobals "Number" = some (some (.ref C_Number)))
    (a_Value : PySem.W.nsIn K mainGlobals "Value" = some (some (.ref C_Value)))
    (a_Cell : PySem.W.nsIn K mainGlobals "Cell" = some (some (.ref C_Cell)))
    (a_Joined : PySem.W.nsIn K mainGlobals "Joined" = some (some (.ref C_Joined)))
    (a_Deed : PySem.W.nsIn K mainGlobals "Deed" = some (some (.ref C_Deed)))
    (a_Program : PySem.W.nsIn K mainGlobals "Program" = some (some (.ref C_Program)))
    (a1 : PySem.W.findIn K (.ref C_Number) "__init__" = some (some (.ref f1))) (i1 : PySem.W.isFn K (.ref f1) = true)
    (l1 : K.lookup f1 = some ⟨oc1, od1, .func (PySem.W.fnOf "__init__" "Number.__init__" (defArgs s_Number_init) (defBody s_Number_init) (defScope s_Number_init) .none kV1 dc1 pm1 an1 cd1 ct1), sl1⟩) (c1 : PySem.W.codeIn K cd1 "Number.__init__" = true) (k1 : PySem.W.keepIn K (.ref f1) = true)
    (a2 : PySem.W.findIn K (.ref C_Value) "__init__" = some (some (.ref f2))) (i2 : PySem.W.isFn K (.ref f2) = true)
    (l2 : K.lookup f2 = some ⟨oc2, od2, .func (PySem.W.fnOf "__init__" "Value.__init__" (defArgs s_Value_init) (defBody s_Value_init) (defScope s_Value_init) .none kV2 dc2 pm2 an2 cd2 ct2), sl2⟩) (c2 : PySem.W.codeIn K cd2 "Value.__init__" = true) (k2 : PySem.W.keepIn K (.ref f2) = true)
    (a3 : PySem.W.findIn K (.ref C_Cell) "__init__" = some (some (.ref f3))) (i3 : PySem.W.isFn K (.ref f3) = true)
    (l3 : K.lookup f3 = some ⟨oc3, od3, .func (PySem.W.fnOf "__init__" "Cell.__init__" (defArgs s_Cell_init) (defBody s_Cell_init) (defScope s_Cell_init) .none kV3 dc3 pm3 an3 cd3 ct3), sl3⟩) (c3 : PySem.W.codeIn K cd3 "Cell.__init__" = true) (k3 : PySem.W.keepIn K (.ref f3) = true)
    (a4 : PySem.W.findIn K (.ref C_Joined) "__init__" = some (some (.ref f4))) (i4 : PySem.W.isFn K (.ref f4) = true)
    (l4 : K.lookup f4 = some ⟨oc4, od4, .func (PySem.W.fnOf "__init__" "Joined.__init__" (defArgs s_Joined_init) (defBody s_Joined_init) (defScope s_Joined_init) .none kV4 dc4 pm4 an4 cd4 ct4), sl4⟩) (c4 : PySem.W.codeIn K cd4 "Joined.__init__" = true) (k4 : PySem.W.keepIn K (.ref f4) = true)
    (a5 : PySem.W.findIn K (.ref C_Number) "reads" = some (some (.ref f5))) (i5 : PySem.W.isFn K (.ref f5) = true)
    (l5 : K.lookup f5 = some ⟨oc5, od5, .func (PySem.W.fnOf "reads" "Number.reads" (defArgs s_Number_reads) (defBody s_Number_reads) (defScope s_Number_reads) .none kV5 dc5 pm5 an5 cd5 ct5), sl5⟩) (c5 : PySem.W.codeIn K cd5 "Number.reads" = true) (k5 : PySem.W.keepIn K (.ref f5) = true)
    (a6 : PySem.W.findIn K (.ref C_Value) "reads" = some (some (.ref f6))) (i6 : PySem.W.isFn K (.ref f6) = true)
    (l6 : K.lookup f6 = some ⟨oc6, od6, .func (PySem.W.fnOf "reads" "Value.reads" (defArgs s_Value_reads) (defBody s_Value_reads) (defScope s_Value_reads) .none kV6 dc6 pm6 an6 cd6 ct6), sl6⟩) (c6 : PySem.W.codeIn K cd6 "Value.reads" = true) (k6 : PySem.W.keepIn K (.ref f6) = true)
    (a7 : PySem.W.findIn K (.ref C_Cell) "reads" = some (some (.ref f7))) (i7 : PySem.W.isFn K (.ref f7) = true)
    (l7 : K.lookup f7 = some ⟨oc7, od7, .func (PySem.W.fnOf "reads" "Cell.reads" (defArgs s_Cell_reads) (defBody s_Cell_reads) (defScope s_Cell_reads) .none kV7 dc7 pm7 an7 cd7 ct7), sl7⟩) (c7 : PySem.W.codeIn K cd7 "Cell.reads" = true) (k7 : PySem.W.keepIn K (.ref f7) = true)
    (a8 : PySem.W.findIn K (.ref C_Joined) "reads" = some (some (.ref f8))) (i8 : PySem.W.isFn K (.ref f8) = true)
    (l8 : K.lookup f8 = some ⟨oc8, od8, .func (PySem.W.fnOf "reads" "Joined.reads" (defArgs s_Joined_reads) (defBody s_Joined_reads) (defScope s_Joined_reads) .none kV8 dc8 pm8 an8 cd8 ct8), sl8⟩) (c8 : PySem.W.codeIn K cd8 "Joined.reads" = true) (k8 : PySem.W.keepIn K (.ref f8) = true)
    (a9 : PySem.W.findIn K (.ref C_Deed) "__init__" = some (some (.ref f9))) (i9 : PySem.W.isFn K (.ref f9) = true)
    (l9 : K.lookup f9 = some ⟨oc9, od9, .func (PySem.W.fnOf "__init__" "Deed.__init__" (defArgs s_Deed_init) (defBody s_Deed_init) (defScope s_Deed_init) .none kV9 dc9 pm9 an9 cd9 ct9), sl9⟩) (c9 : PySem.W.codeIn K cd9 "Deed.__init__" = true) (k9 : PySem.W.keepIn K (.ref f9) = true)
    (a10 : PySem.W.findIn K (.ref C_Program) "__init__" = some (some (.ref f10))) (i10 : PySem.W.isFn K (.ref f10) = true)
    (l10 : K.lookup f10 = some ⟨oc10, od10, .func (PySem.W.fnOf "__init__" "Program.__init__" (defArgs s_Program_init) (defBody s_Program_init) (defScope s_Program_init) .none kV10 dc10 pm10 an10 cd10 ct10), sl10⟩) (c10 : PySem.W.codeIn K cd10 "Program.__init__" = true) (k10 : PySem.W.keepIn K (.ref f10) = true)
    (a11 : PySem.W.nsIn K mainGlobals "_law_cell_at" = some (some (.ref f11)))
    (l11 : K.lookup f11 = some ⟨oc11, od11, .func (PySem.W.fnOf "_law_cell_at" "_law_cell_at" (defArgs s_l_cell_at) (defBody s_l_cell_at) (defScope s_l_cell_at) .none kV11 dc11 pm11 an11 cd11 ct11), sl11⟩) (c11 : PySem.W.codeIn K cd11 "_law_cell_at" = true) (k11 : PySem.W.keepIn K (.ref f11) = true)
    (a12 : PySem.W.nsIn K mainGlobals "_law_whole" = some (some (.ref f12)))
    (l12 : K.lookup f12 = some ⟨oc12, od12, .func (PySem.W.fnOf "_law_whole" "_law_whole" (defArgs s_l_whole) (defBody s_l_whole) (defScope s_l_whole) .none kV12 dc12 pm12 an12 cd12 ct12), sl12⟩) (c12 : PySem.W.codeIn K cd12 "_law_whole" = true) (k12 : PySem.W.keepIn K (.ref f12) = true)
    (a13 : PySem.W.nsIn K mainGlobals "_law_stream" = some (some (.ref f13)))
    (l13 : K.lookup f13 = some ⟨oc13, od13, .func (PySem.W.fnOf "_law_stream" "_law_stream" (defArgs s_l_stream) (defBody s_l_stream) (defScope s_l_stream) .none kV13 dc13 pm13 an13 cd13 ct13), sl13⟩) (c13 : PySem.W.codeIn K cd13 "_law_stream" = true) (k13 : PySem.W.keepIn K (.ref f13) = true)
    (a14 : PySem.W.nsIn K mainGlobals "_law_names" = some (some (.ref f14)))
    (l14 : K.lookup f14 = some ⟨oc14, od14, .func (PySem.W.fnOf "_law_names" "_law_names" (defArgs s_l_names) (defBody s_l_names) (defScope s_l_names) .none kV14 dc14 pm14 an14 cd14 ct14), sl14⟩) (c14 : PySem.W.codeIn K cd14 "_law_names" = true) (k14 : PySem.W.keepIn K (.ref f14) = true)
    (a15 : PySem.W.nsIn K mainGlobals "_law_kinds" = some (some (.ref f15)))
    (l15 : K.lookup f15 = some ⟨oc15, od15, .func (PySem.W.fnOf "_law_kinds" "_law_kinds" (defArgs s_l_kinds) (defBody s_l_kinds) (defScope s_l_kinds) .none kV15 dc15 pm15 an15 cd15 ct15), sl15⟩) (c15 : PySem.W.codeIn K cd15 "_law_kinds" = true) (k15 : PySem.W.keepIn K (.ref f15) = true)
    (a16 : PySem.W.nsIn K mainGlobals "_law_due" = some (some (.ref f16)))
    (l16 : K.lookup f16 = some ⟨oc16, od16, .func (PySem.W.fnOf "_law_due" "_law_due" (defArgs s_l_due) (defBody s_l_due) (defScope s_l_due) .none kV16 dc16 pm16 an16 cd16 ct16), sl16⟩) (c16 : PySem.W.codeIn K cd16 "_law_due" = true) (k16 : PySem.W.keepIn K (.ref f16) = true)
    (a17 : PySem.W.nsIn K mainGlobals "_law_like" = some (some (.ref f17)))
    (l17 : K.lookup f17 = some ⟨oc17, od17, .func (PySem.W.fnOf "_law_like" "_law_like" (defArgs s_l_like) (defBody s_l_like) (defScope s_l_like) .none kV17 dc17 pm17 an17 cd17 ct17), sl17⟩) (c17 : PySem.W.codeIn K cd17 "_law_like" = true) (k17 : PySem.W.keepIn K (.ref f17) = true)
    (a18 : PySem.W.nsIn K mainGlobals "_law_leaf" = some (some (.ref f18)))
    (l18 : K.lookup f18 = some ⟨oc18, od18, .func (PySem.W.fnOf "_law_leaf" "_law_leaf" (defArgs s_l_leaf) (defBody s_l_leaf) (defScope s_l_leaf) .none kV18 dc18 pm18 an18 cd18 ct18), sl18⟩) (c18 : PySem.W.codeIn K cd18 "_law_leaf" = true) (k18 : PySem.W.keepIn K (.ref f18) = true)
    (a19 : PySem.W.nsIn K mainGlobals "_law_both" = some (some (.ref f19)))
    (l19 : K.lookup f19 = some ⟨oc19, od19, .func (PySem.W.fnOf "_law_both" "_law_both" (defArgs s_l_both) (defBody s_l_both) (defScope s_l_both) .none kV19 dc19 pm19 an19 cd19 ct19), sl19⟩) (c19 : PySem.W.codeIn K cd19 "_law_both" = true) (k19 : PySem.W.keepIn K (.ref f19) = true)
    (a20 : PySem.W.nsIn K mainGlobals "_law_terms" = some (some (.ref f20)))
    (l20 : K.lookup f20 = some ⟨oc20, od20, .func (PySem.W.fnOf "_law_terms" "_law_terms" (defArgs s_l_terms) (defBody s_l_terms) (defScope s_l_terms) .none kV20 dc20 pm20 an20 cd20 ct20), sl20⟩) (c20 : PySem.W.codeIn K cd20 "_law_terms" = true) (k20 : PySem.W.keepIn K (.ref f20) = true)
    (a21 : PySem.W.nsIn K mainGlobals "_law_deeds" = some (some (.ref f21)))
    (l21 : K.lookup f21 = some ⟨oc21, od21, .func (PySem.W.fnOf "_law_deeds" "_law_deeds" (defArgs s_l_deeds) (defBody s_l_deeds) (defScope s_l_deeds) .none kV21 dc21 pm21 an21 cd21 ct21), sl21⟩) (c21 : PySem.W.codeIn K cd21 "_law_deeds" = true) (k21 : PySem.W.keepIn K (.ref f21) = true)
    (a22 : PySem.W.nsIn K mainGlobals "_law_kept" = some (some (.ref f22)))
    (l22 : K.lookup f22 = some ⟨oc22, od22, .func (PySem.W.fnOf "_law_kept" "_law_kept" (defArgs s_l_kept) (defBody s_l_kept) (defScope s_l_kept) .none kV22 dc22 pm22 an22 cd22 ct22), sl22⟩) (c22 : PySem.W.codeIn K cd22 "_law_kept" = true) (k22 : PySem.W.keepIn K (.ref f22) = true)
    (a23 : PySem.W.nsIn K mainGlobals "law" = some (some (.ref f23)))
    (l23 : K.lookup f23 = some ⟨oc23, od23, .func (PySem.W.fnOf "law" "law" (defArgs s_law) (defBody s_law) (defScope s_law) .none kV23 dc23 pm23 an23 cd23 ct23), sl23⟩) (c23 : PySem.W.codeIn K cd23 "law" = true) (k23 : PySem.W.keepIn K (.ref f23) = true)
    (pg_Term : PySem.W.plainGet K C_Term Str.empty = true) (hd_Term : PySem.W.hasDictIn K C_Term = true) (po_Term : PySem.W.plainOver K C_Term = true) (sa_Term : PySem.W.findIn K (.ref C_Term) "__setattr__" = some (some (.builtin "object.__setattr__"))) (mk_Term : PySem.W.makesIn K C_Term = true) (kc_Term : PySem.W.keepIn K (.ref C_Term) = true)
    (pg_Number : PySem.W.plainGet K C_Number Str.empty = true) (hd_Number : PySem.W.hasDictIn K C_Number = true) (po_Number : PySem.W.plainOver K C_Number = true) (sa_Number : PySem.W.findIn K (.ref C_Number) "__setattr__" = some (some (.builtin "object.__setattr__"))) (mk_Number : PySem.W.makesIn K C_Number = true) (kc_Number : PySem.W.keepIn K (.ref C_Number) = true)
    (n_Number_n : PySem.W.findIn K (.ref C_Number) "n" = some none)
    (pg_Value : PySem.W.plainGet K C_Value Str.empty = true) (hd_Value : PySem.W.hasDictIn K C_Value = true) (po_Value : PySem.W.plainOver K C_Value = true) (sa_Value : PySem.W.findIn K (.ref C_Value) "__setattr__" = some (some (.builtin "object.__setattr__"))) (mk_Value : PySem.W.makesIn K C_Value = true) (kc_Value : PySem.W.keepIn K (.ref C_Value) = true)
    (n_Value_name : PySem.W.findIn K (.ref C_Value) "name" = some none)
    (pg_Cell : PySem.W.plainGet K C_Cell Str.empty = true) (hd_Cell : PySem.W.hasDictIn K C_Cell = true) (po_Cell : PySem.W.plainOver K C_Cell = true) (sa_Cell : PySem.W.findIn K (.ref C_Cell) "__setattr__" = some (some (.builtin "object.__setattr__"))) (mk_Cell : PySem.W.makesIn K C_Cell = true) (kc_Cell : PySem.W.keepIn K (.ref C_Cell) = true)
    (n_Cell_table : PySem.W.findIn K (.ref C_Cell) "table" = some none)
    (n_Cell_spots : PySem.W.findIn K (.ref C_Cell) "spots" = some none)
    (pg_Joined : PySem.W.plainGet K C_Joined Str.empty = true) (hd_Joined : PySem.W.hasDictIn K C_Joined = true) (po_Joined : PySem.W.plainOver K C_Joined = true) (sa_Joined : PySem.W.findIn K (.ref C_Joined) "__setattr__" = some (some (.builtin "object.__setattr__"))) (mk_Joined : PySem.W.makesIn K C_Joined = true) (kc_Joined : PySem.W.keepIn K (.ref C_Joined) = true)
    (n_Joined_sign : PySem.W.findIn K (.ref C_Joined) "sign" = some none)
    (n_Joined_left : PySem.W.findIn K (.ref C_Joined) "left" = some none)
    (n_Joined_right : PySem.W.findIn K (.ref C_Joined) "right" = some none)
    (pg_Deed : PySem.W.plainGet K C_Deed Str.empty = true) (hd_Deed : PySem.W.hasDictIn K C_Deed = true) (po_Deed : PySem.W.plainOver K C_Deed = true) (sa_Deed : PySem.W.findIn K (.ref C_Deed) "__setattr__" = some (some (.builtin "object.__setattr__"))) (mk_Deed : PySem.W.makesIn K C_Deed = true) (kc_Deed : PySem.W.keepIn K (.ref C_Deed) = true)
    (n_Deed_names : PySem.W.findIn K (.ref C_Deed) "names" = some none)
    (n_Deed_lows : PySem.W.findIn K (.ref C_Deed) "lows" = some none)
    (n_Deed_highs : PySem.W.findIn K (.ref C_Deed) "highs" = some none)
    (n_Deed_table : PySem.W.findIn K (.ref C_Deed) "table" = some none)
    (n_Deed_spots : PySem.W.findIn K (.ref C_Deed) "spots" = some none)
    (n_Deed_term : PySem.W.findIn K (.ref C_Deed) "term" = some none)
    (n_Deed_path : PySem.W.findIn K (.ref C_Deed) "path" = some none)
    (pg_Program : PySem.W.plainGet K C_Program Str.empty = true) (hd_Program : PySem.W.hasDictIn K C_Program = true) (po_Program : PySem.W.plainOver K C_Program = true) (sa_Program : PySem.W.findIn K (.ref C_Program) "__setattr__" = some (some (.builtin "object.__setattr__"))) (mk_Program : PySem.W.makesIn K C_Program = true) (kc_Program : PySem.W.keepIn K (.ref C_Program) = true)
    (n_Program_size : PySem.W.findIn K (.ref C_Program) "size" = some none)
    (n_Program_deeds : PySem.W.findIn K (.ref C_Program) "deeds" = some none)
    (hn0 : PySem.W.specialIn K (.builtin "object.__class__") "__get__" = some (some (.builtin "getset_descriptor.__get__"))) (ht0 : PySem.W.takesIn K (.builtin "object.__class__") = some true)
    (ha_Number : PySem.W.findIn K (.ref C_Number) "__class__" = some (some (.builtin "object.__class__"))) (hm_Number : PySem.W.mroIn K C_Number (.type "object") = some true)
    (is_Number_Term : PySem.W.kitOne K (.ref C_Number) (.ref C_Term) = some true)
    (is_Number_Number : PySem.W.kitOne K (.ref C_Number) (.ref C_Number) = some true)
    (is_Number_Value : PySem.W.kitOne K (.ref C_Number) (.ref C_Value) = some false)
    (is_Number_Cell : PySem.W.kitOne K (.ref C_Number) (.ref C_Cell) = some false)
    (is_Number_Joined : PySem.W.kitOne K (.ref C_Number) (.ref C_Joined) = some false)
    (is_Number_Deed : PySem.W.kitOne K (.ref C_Number) (.ref C_Deed) = some false)
    (is_Number_Program : PySem.W.kitOne K (.ref C_Number) (.ref C_Program) = some false)
    (ha_Value : PySem.W.findIn K (.ref C_Value) "__class__" = some (some (.builtin "object.__class__"))) (hm_Value : PySem.W.mroIn K C_Value (.type "object") = some true)
    (is_Value_Term : PySem.W.kitOne K (.ref C_Value) (.ref C_Term) = some true)
    (is_Value_Number : PySem.W.kitOne K (.ref C_Value) (.ref C_Number) = some false)
    (is_Value_Value : PySem.W.kitOne K (.ref C_Value) (.ref C_Value) = some true)
    (is_Value_Cell : PySem.W.kitOne K (.ref C_Value) (.ref C_Cell) = some false)
    (is_Value_Joined : PySem.W.kitOne K (.ref C_Value) (.ref C_Joined) = some false)
    (is_Value_Deed : PySem.W.kitOne K (.ref C_Value) (.ref C_Deed) = some false)
    (is_Value_Program : PySem.W.kitOne K (.ref C_Value) (.ref C_Program) = some false)
    (ha_Cell : PySem.W.findIn K (.ref C_Cell) "__class__" = some (some (.builtin "object.__class__"))) (hm_Cell : PySem.W.mroIn K C_Cell (.type "object") = some true)
    (is_Cell_Term : PySem.W.kitOne K (.ref C_Cell) (.ref C_Term) = some true)
    (is_Cell_Number : PySem.W.kitOne K (.ref C_Cell) (.ref C_Number) = some false)
    (is_Cell_Value : PySem.W.kitOne K (.ref C_Cell) (.ref C_Value) = some false)
    (is_Cell_Cell : PySem.W.kitOne K (.ref C_Cell) (.ref C_Cell) = some true)
    (is_Cell_Joined : PySem.W.kitOne K (.ref C_Cell) (.ref C_Joined) = some false)
    (is_Cell_Deed : PySem.W.kitOne K (.ref C_Cell) (.ref C_Deed) = some false)
    (is_Cell_Program : PySem.W.kitOne K (.ref C_Cell) (.ref C_Program) = some false)
    (ha_Joined : PySem.W.findIn K (.ref C_Joined) "__class__" = some (some (.builtin "object.__class__"))) (hm_Joined : PySem.W.mroIn K C_Joined (.type "object") = some true)
    (is_Joined_Term : PySem.W.kitOne K (.ref C_Joined) (.ref C_Term) = some true)
    (is_Joined_Number : PySem.W.kitOne K (.ref C_Joined) (.ref C_Number) = some false)
    (is_Joined_Value : PySem.W.kitOne K (.ref C_Joined) (.ref C_Value) = some false)
    (is_Joined_Cell : PySem.W.kitOne K (.ref C_Joined) (.ref C_Cell) = some false)
    (is_Joined_Joined : PySem.W.kitOne K (.ref C_Joined) (.ref C_Joined) = some true)
    (is_Joined_Deed : PySem.W.kitOne K (.ref C_Joined) (.ref C_Deed) = some false)
    (is_Joined_Program : PySem.W.kitOne K (.ref C_Joined) (.ref C_Program) = some false)
    (ha_Deed : PySem.W.findIn K (.ref C_Deed) "__class__" = some (some (.builtin "object.__class__"))) (hm_Deed : PySem.W.mroIn K C_Deed (.type "object") = some true)
    (is_Deed_Term : PySem.W.kitOne K (.ref C_Deed) (.ref C_Term) = some false)
    (is_Deed_Number : PySem.W.kitOne K (.ref C_Deed) (.ref C_Number) = some false)
    (is_Deed_Value : PySem.W.kitOne K (.ref C_Deed) (.ref C_Value) = some false)
    (is_Deed_Cell : PySem.W.kitOne K (.ref C_Deed) (.ref C_Cell) = some false)
    (is_Deed_Joined : PySem.W.kitOne K (.ref C_Deed) (.ref C_Joined) = some false)
    (is_Deed_Deed : PySem.W.kitOne K (.ref C_Deed) (.ref C_Deed) = some true)
    (is_Deed_Program : PySem.W.kitOne K (.ref C_Deed) (.ref C_Program) = some false)
    (ha_Program : PySem.W.findIn K (.ref C_Program) "__class__" = some (some (.builtin "object.__class__"))) (hm_Program : PySem.W.mroIn K C_Program (.type "object") = some true)
    (is_Program_Term : PySem.W.kitOne K (.ref C_Program) (.ref C_Term) = some false)
    (is_Program_Number : PySem.W.kitOne K (.ref C_Program) (.ref C_Number) = some false)
    (is_Program_Value : PySem.W.kitOne K (.ref C_Program) (.ref C_Value) = some false)
    (is_Program_Cell : PySem.W.kitOne K (.ref C_Program) (.ref C_Cell) = some false)
    (is_Program_Joined : PySem.W.kitOne K (.ref C_Program) (.ref C_Joined) = some false)
    (is_Program_Deed : PySem.W.kitOne K (.ref C_Program) (.ref C_Deed) = some false)
    (is_Program_Program : PySem.W.kitOne K (.ref C_Program) (.ref C_Program) = some true)
    (z_bool : PySem.W.nsIn K mainGlobals "bool" = some none)
    (z_int : PySem.W.nsIn K mainGlobals "int" = some none)
    (z_isinstance : PySem.W.nsIn K mainGlobals "isinstance" = some none)
    (z_len : PySem.W.nsIn K mainGlobals "len" = some none)
    (z_list : PySem.W.nsIn K mainGlobals "list" = some none)
    (z_range : PySem.W.nsIn K mainGlobals "range" = some none)
    (z_tuple : PySem.W.nsIn K mainGlobals "tuple" = some none)
    (z_zip : PySem.W.nsIn K mainGlobals "zip" = some none) :
    ∃ a : Ad, Tx K mg a ∧ fa = a.f_law ∧ (∀ (s : Shared) (v : Value), BindsTo s a.d_law ⟨[v], []⟩ [("_law_script", v)]) := by
  have e := hfa.symm.trans (PySem.W.mg_of X G a23)
  cases e
  exact ⟨⟨f1, PySem.W.fnOf "__init__" "Number.__init__" (defArgs s_Number_init) (defBody s_Number_init) (defScope s_Number_init) .none kV1 dc1 pm1 an1 cd1 ct1, f2, PySem.W.fnOf "__init__" "Value.__init__" (defArgs s_Value_init) (defBody s_Value_init) (defScope s_Value_init) .none kV2 dc2 pm2 an2 cd2 ct2, f3, PySem.W.fnOf "__init__" "Cell.__init__" (defArgs s_Cell_init) (defBody s_Cell_init) (defScope s_Cell_init) .none kV3 dc3 pm3 an3 cd3 ct3, f4, PySem.W.fnOf "__init__" "Joined.__init__" (defArgs s_Joined_init) (defBody s_Joined_init) (defScope s_Joined_init) .none kV4 dc4 pm4 an4 cd4 ct4, f5, PySem.W.fnOf "reads" "Number.reads" (defArgs s_Number_reads) (defBody s_Number_reads) (defScope s_Number_reads) .none kV5 dc5 pm5 an5 cd5 ct5, f6, PySem.W.fnOf "reads" "Value.reads" (defArgs s_Value_reads) (defBody s_Value_reads) (defScope s_Value_reads) .none kV6 dc6 pm6 an6 cd6 ct6, f7, PySem.W.fnOf "reads" "Cell.reads" (defArgs s_Cell_reads) (defBody s_Cell_reads) (defScope s_Cell_reads) .none kV7 dc7 pm7 an7 cd7 ct7, f8, PySem.W.fnOf "reads" "Joined.reads" (defArgs s_Joined_reads) (defBody s_Joined_reads) (defScope s_Joined_reads) .none kV8 dc8 pm8 an8 cd8 ct8, f9, PySem.W.fnOf "__init__" "Deed.__init__" (defArgs s_Deed_init) (defBody s_Deed_init) (defScope s_Deed_init) .none kV9 dc9 pm9 an9 cd9 ct9, f10, PySem.W.fnOf "__init__" "Program.__init__" (defArgs s_Program_init) (defBody s_Program_init) (defScope s_Program_init) .none kV10 dc10 pm10 an10 cd10 ct10, f11, PySem.W.fnOf "_law_cell_at" "_law_cell_at" (defArgs s_l_cell_at) (defBody s_l_cell_at) (defScope s_l_cell_at) .none kV11 dc11 pm11 an11 cd11 ct11, f12, PySem.W.fnOf "_law_whole" "_law_whole" (defArgs s_l_whole) (defBody s_l_whole) (defScope s_l_whole) .none kV12 dc12 pm12 an12 cd12 ct12, f13, PySem.W.fnOf "_law_stream" "_law_stream" (defArgs s_l_stream) (defBody s_l_stream) (defScope s_l_stream) .none kV13 dc13 pm13 an13 cd13 ct13, f14, PySem.W.fnOf "_law_names" "_law_names" (defArgs s_l_names) (defBody s_l_names) (defScope s_l_names) .none kV14 dc14 pm14 an14 cd14 ct14, f15, PySem.W.fnOf "_law_kinds" "_law_kinds" (defArgs s_l_kinds) (defBody s_l_kinds) (defScope s_l_kinds) .none kV15 dc15 pm15 an15 cd15 ct15, f16, PySem.W.fnOf "_law_due" "_law_due" (defArgs s_l_due) (defBody s_l_due) (defScope s_l_due) .none kV16 dc16 pm16 an16 cd16 ct16, f17, PySem.W.fnOf "_law_like" "_law_like" (defArgs s_l_like) (defBody s_l_like) (defScope s_l_like) .none kV17 dc17 pm17 an17 cd17 ct17, f18, PySem.W.fnOf "_law_leaf" "_law_leaf" (defArgs s_l_leaf) (defBody s_l_leaf) (defScope s_l_leaf) .none kV18 dc18 pm18 an18 cd18 ct18, f19, PySem.W.fnOf "_law_both" "_law_both" (defArgs s_l_both) (defBody s_l_both) (defScope s_l_both) .none kV19 dc19 pm19 an19 cd19 ct19, f20, PySem.W.fnOf "_law_terms" "_law_terms" (defArgs s_l_terms) (defBody s_l_terms) (defScope s_l_terms) .none kV20 dc20 pm20 an20 cd20 ct20, f21, PySem.W.fnOf "_law_deeds" "_law_deeds" (defArgs s_l_deeds) (defBody s_l_deeds) (defScope s_l_deeds) .none kV21 dc21 pm21 an21 cd21 ct21, f22, PySem.W.fnOf "_law_kept" "_law_kept" (defArgs s_l_kept) (defBody s_l_kept) (defScope s_l_kept) .none kV22 dc22 pm22 an22 cd22 ct22, fa, PySem.W.fnOf "law" "law" (defArgs s_law) (defBody s_law) (defScope s_law) .none kV23 dc23 pm23 an23 cd23 ct23, C_Term, C_Number, C_Value, C_Cell, C_Joined, C_Deed, C_Program⟩, ⟨fun_mk (st := s_Number_init) l1 c1 k1, 
    (fun_mk (st := s_Number_init) l1 c1 k1).binds (ps := ["self", "n"]) (fun _ _ _ _ _ _ us hl => match us, hl with | [_, _], _ => rfl), 
    fun_mk (st := s_Value_init) l2 c2 k2, 
    (fun_mk (st := s_Value_init) l2 c2 k2).binds (ps := ["self", "name"]) (fun _ _ _ _ _ _ us hl => match us, hl with | [_, _], _ => rfl), 
    fun_mk (st := s_Cell_init) l3 c3 k3, 
    (fun_mk (st := s_Cell_init) l3 c3 k3).binds (ps := ["self", "table", "spots"]) (fun _ _ _ _ _ _ us hl => match us, hl with | [_, _, _], _ => rfl), 
    fun_mk (st := s_Joined_init) l4 c4 k4, 
    (fun_mk (st := s_Joined_init) l4 c4 k4).binds (ps := ["self", "sign", "left", "right"]) (fun _ _ _ _ _ _ us hl => match us, hl with | [_, _, _, _], _ => rfl), 
    fun_mk (st := s_Number_reads) l5 c5 k5, 
    (fun_mk (st := s_Number_reads) l5 c5 k5).binds (ps := ["self"]) (fun _ _ _ _ _ _ us hl => match us, hl with | [_], _ => rfl), 
    fun_mk (st := s_Value_reads) l6 c6 k6, 
    (fun_mk (st := s_Value_reads) l6 c6 k6).binds (ps := ["self"]) (fun _ _ _ _ _ _ us hl => match us, hl with | [_], _ => rfl), 
    fun_mk (st := s_Cell_reads) l7 c7 k7, 
    (fun_mk (st := s_Cell_reads) l7 c7 k7).binds (ps := ["self"]) (fun _ _ _ _ _ _ us hl => match us, hl with | [_], _ => rfl), 
    fun_mk (st := s_Joined_reads) l8 c8 k8, 
    (fun_mk (st := s_Joined_reads) l8 c8 k8).binds (ps := ["self"]) (fun _ _ _ _ _ _ us hl => match us, hl with | [_], _ => rfl), 
    fun_mk (st := s_Deed_init) l9 c9 k9, 
    (fun_mk (st := s_Deed_init) l9 c9 k9).binds (ps := ["self", "names", "lows", "highs", "table", "spots", "term", "path"]) (fun _ _ _ _ _ _ us hl => match us, hl with | [_, _, _, _, _, _, _, _], _ => rfl), 
    fun_mk (st := s_Program_init) l10 c10 k10, 
    (fun_mk (st := s_Program_init) l10 c10 k10).binds (ps := ["self", "size", "deeds"]) (fun _ _ _ _ _ _ us hl => match us, hl with | [_, _, _], _ => rfl), 
    fun_mk (st := s_l_cell_at) l11 c11 k11, 
    (fun_mk (st := s_l_cell_at) l11 c11 k11).binds (ps := ["_law_script", "_law_k"]) (fun _ _ _ _ _ _ us hl => match us, hl with | [_, _], _ => rfl), 
    PySem.W.mg_of X G a11, 
    fun_mk (st := s_l_whole) l12 c12 k12, 
    (fun_mk (st := s_l_whole) l12 c12 k12).binds (ps := ["_law_found"]) (fun _ _ _ _ _ _ us hl => match us, hl with | [_], _ => rfl), 
    PySem.W.mg_of X G a12, 
    fun_mk (st := s_l_stream) l13 c13 k13, 
    (fun_mk (st := s_l_stream) l13 c13 k13).binds (ps := ["_law_cell", "_law_many"]) (fun _ _ _ _ _ _ us hl => match us, hl with | [_, _], _ => rfl), 
    PySem.W.mg_of X G a13, 
    fun_mk (st := s_l_names) l14 c14 k14, 
    (fun_mk (st := s_l_names) l14 c14 k14).binds (ps := ["_law_cell", "_law_many"]) (fun _ _ _ _ _ _ us hl => match us, hl with | [_, _], _ => rfl), 
    PySem.W.mg_of X G a14, 
    fun_mk (st := s_l_kinds) l15 c15 k15, 
    (fun_mk (st := s_l_kinds) l15 c15 k15).binds (ps := ["_law_term"]) (fun _ _ _ _ _ _ us hl => match us, hl with | [_], _ => rfl), 
    PySem.W.mg_of X G a15, 
    fun_mk (st := s_l_due) l16 c16 k16, 
    (fun_mk (st := s_l_due) l16 c16 k16).binds (ps := ["_law_way"]) (fun _ _ _ _ _ _ us hl => match us, hl with | [_], _ => rfl), 
    PySem.W.mg_of X G a16, 
    fun_mk (st := s_l_like) l17 c17 k17, 
    (fun_mk (st := s_l_like) l17 c17 k17).binds (ps := ["_law_one", "_law_other"]) (fun _ _ _ _ _ _ us hl => match us, hl with | [_, _], _ => rfl), 
    PySem.W.mg_of X G a17, 
    fun_mk (st := s_l_leaf) l18 c18 k18, 
    (fun_mk (st := s_l_leaf) l18 c18 k18).binds (ps := ["_law_cell", "_law_names_here"]) (fun _ _ _ _ _ _ us hl => match us, hl with | [_, _], _ => rfl), 
    PySem.W.mg_of X G a18, 
    fun_mk (st := s_l_both) l19 c19 k19, 
    (fun_mk (st := s_l_both) l19 c19 k19).binds (ps := ["_law_sign", "_law_left", "_law_right"]) (fun _ _ _ _ _ _ us hl => match us, hl with | [_, _, _], _ => rfl), 
    PySem.W.mg_of X G a19, 
    fun_mk (st := s_l_terms) l20 c20 k20, 
    (fun_mk (st := s_l_terms) l20 c20 k20).binds (ps := ["_law_cells", "_law_seed", "_law_names_here"]) (fun _ _ _ _ _ _ us hl => match us, hl with | [_, _, _], _ => rfl), 
    PySem.W.mg_of X G a20, 
    fun_mk (st := s_l_deeds) l21 c21 k21, 
    (fun_mk (st := s_l_deeds) l21 c21 k21).binds (ps := ["_law_script", "_law_names_here"]) (fun _ _ _ _ _ _ us hl => match us, hl with | [_, _], _ => rfl), 
    PySem.W.mg_of X G a21, 
    fun_mk (st := s_l_kept) l22 c22 k22, 
    (fun_mk (st := s_l_kept) l22 c22 k22).binds (ps := ["_law_deed", "_law_row"]) (fun _ _ _ _ _ _ us hl => match us, hl with | [_, _], _ => rfl), 
    PySem.W.mg_of X G a22, 
    fun_mk (st := s_law) l23 c23 k23, 
    (fun_mk (st := s_law) l23 c23 k23).binds (ps := ["_law_script"]) (fun _ _ _ _ _ _ us hl => match us, hl with | [_], _ => rfl), 
    PySem.W.mg_of X G a23, 
    ⟨pg_Term, hd_Term, po_Term, sa_Term⟩, 
    PySem.W.mg_of X G a_Term, 
    ⟨pg_Number, hd_Number, po_Number, sa_Number⟩, 
    PySem.W.mg_of X G a_Number, 
    ⟨mk_Number, a1, i1, kc_Number⟩, 
    ⟨a5, i5, k5⟩, 
    n_Number_n, 
    ⟨pg_Value, hd_Value, po_Value, sa_Value⟩, 
    PySem.W.mg_of X G a_Value, 
    ⟨mk_Value, a2, i2, kc_Value⟩, 
    ⟨a6, i6, k6⟩, 
    n_Value_name, 
    ⟨pg_Cell, hd_Cell, po_Cell, sa_Cell⟩, 
    PySem.W.mg_of X G a_Cell, 
    ⟨mk_Cell, a3, i3, kc_Cell⟩, 
    ⟨a7, i7, k7⟩, 
    n_Cell_table, 
    n_Cell_spots, 
    ⟨pg_Joined, hd_Joined, po_Joined, sa_Joined⟩, 
    PySem.W.mg_of X G a_Joined, 
    ⟨mk_Joined, a4, i4, kc_Joined⟩, 
    ⟨a8, i8, k8⟩, 
    n_Joined_sign, 
    n_Joined_left, 
    n_Joined_right, 
    ⟨pg_Deed, hd_Deed, po_Deed, sa_Deed⟩, 
    PySem.W.mg_of X G a_Deed, 
    ⟨mk_Deed, a9, i9, kc_Deed⟩, 
    n_Deed_names, 
    n_Deed_lows, 
    n_Deed_highs, 
    n_Deed_table, 
    n_Deed_spots, 
    n_Deed_term, 
    n_Deed_path, 
    ⟨pg_Program, hd_Program, po_Program, sa_Program⟩, 
    PySem.W.mg_of X G a_Program, 
    ⟨mk_Program, a10, i10, kc_Program⟩, 
    n_Program_size, 
    n_Program_deeds, 
    fun H x dx fs e => .ins e ⟨pg_Number, hd_Number, po_Number, sa_Number⟩ ha_Number hn0 ht0 hm_Number, 
    is_Number_Term, 
    is_Number_Number, 
    is_Number_Value, 
    is_Number_Cell, 
    is_Number_Joined, 
    is_Number_Deed, 
    is_Number_Program, 
    fun H x dx fs e => .ins e ⟨pg_Value, hd_Value, po_Value, sa_Value⟩ ha_Value hn0 ht0 hm_Value, 
    is_Value_Term, 
    is_Value_Number, 
    is_Value_Value, 
    is_Value_Cell, 
    is_Value_Joined, 
    is_Value_Deed, 
    is_Value_Program, 
    fun H x dx fs e => .ins e ⟨pg_Cell, hd_Cell, po_Cell, sa_Cell⟩ ha_Cell hn0 ht0 hm_Cell, 
    is_Cell_Term, 
    is_Cell_Number, 
    is_Cell_Value, 
    is_Cell_Cell, 
    is_Cell_Joined, 
    is_Cell_Deed, 
    is_Cell_Program, 
    fun H x dx fs e => .ins e ⟨pg_Joined, hd_Joined, po_Joined, sa_Joined⟩ ha_Joined hn0 ht0 hm_Joined, 
    is_Joined_Term, 
    is_Joined_Number, 
    is_Joined_Value, 
    is_Joined_Cell, 
    is_Joined_Joined, 
    is_Joined_Deed, 
    is_Joined_Program, 
    fun H x dx fs e => .ins e ⟨pg_Deed, hd_Deed, po_Deed, sa_Deed⟩ ha_Deed hn0 ht0 hm_Deed, 
    is_Deed_Term, 
    is_Deed_Number, 
    is_Deed_Value, 
    is_Deed_Cell, 
    is_Deed_Joined, 
    is_Deed_Deed, 
    is_Deed_Program, 
    fun H x dx fs e => .ins e ⟨pg_Program, hd_Program, po_Program, sa_Program⟩ ha_Program hn0 ht0 hm_Program, 
    is_Program_Term, 
    is_Program_Number, 
    is_Program_Value, 
    is_Program_Cell, 
    is_Program_Joined, 
    is_Program_Deed, 
    is_Program_Program, 
    PySem.W.mg_none_of X G z_bool, 
    PySem.W.mg_none_of X G z_int, 
    PySem.W.mg_none_of X G z_isinstance, 
    PySem.W.mg_none_of X G z_len, 
    PySem.W.mg_none_of X G z_list, 
    PySem.W.mg_none_of X G z_range, 
    PySem.W.mg_none_of X G z_tuple, 
    PySem.W.mg_none_of X G z_zip⟩, rfl, fun s v => .of_eq rfl⟩
end Fw
open PySem PySem.W PyProof.Rows
set_option maxRecDepth 100000 in
set_option maxHeartbeats 0 in
theorem PySem.Challenge.cw_furrow_k18_what_is_kept_holds : PySem.Challenge.rw_furrow_k18_what_is_kept.Holds := by
  w_on; o_law; k_head; (case hw => w_witness2)
  k_fill
  refine L2.law_walk (l := PySem.Challenge.rw_furrow_k18_what_is_kept) (x := "_law_script") 66 (by decide) rfl rfl (fun w h Y => PySem.W.kIn_of Y) ?F
  case F =>
    intro w mg fa h KX G hmg
    suffices hh : ∃ a : Fw.Ad, Fw.Tx _ mg a ∧ fa = a.f_law ∧ (∀ (s : Shared) (v : Value), BindsTo s a.d_law ⟨[v], []⟩ [("_law_script", v)]) by
      obtain ⟨a, T, e, b⟩ := hh
      subst e
      exact ⟨a.d_law, b, fun base _ _ => Fw.ok_law T⟩
    refine' Fw.txt_mk KX G hmg ?a_Term ?a_Number ?a_Value ?a_Cell ?a_Joined ?a_Deed ?a_Program ?a1 ?i1 ?l1 ?c1 ?k1 ?a2 ?i2 ?l2 ?c2 ?k2 ?a3 ?i3 ?l3 ?c3 ?k3 ?a4 ?i4 ?l4 ?c4 ?k4 ?a5 ?i5 ?l5 ?c5 ?k5 ?a6 ?i6 ?l6 ?c6 ?k6 ?a7 ?i7 ?l7 ?c7 ?k7 ?a8 ?i8 ?l8 ?c8 ?k8 ?a9 ?i9 ?l9 ?c9 ?k9 ?a10 ?i10 ?l10 ?c10 ?k10 ?a11 ?l11 ?c11 ?k11 ?a12 ?l12 ?c12 ?k12 ?a13 ?l13 ?c13 ?k13 ?a14 ?l14 ?c14 ?k14 ?a15 ?l15 ?c15 ?k15 ?a16 ?l16 ?c16 ?k16 ?a17 ?l17 ?c17 ?k17 ?a18 ?l18 ?c18 ?k18 ?a19 ?l19 ?c19 ?k19 ?a20 ?l20 ?c20 ?k20 ?a21 ?l21 ?c21 ?k21 ?a22 ?l22 ?c22 ?k22 ?a23 ?l23 ?c23 ?k23 ?pg_Term ?hd_Term ?po_Term ?sa_Term ?mk_Term ?kc_Term ?pg_Number ?hd_Number ?po_Number ?sa_Number ?mk_Number ?kc_Number ?n_Number_n ?pg_Value ?hd_Value ?po_Value ?sa_Value ?mk_Value ?kc_Value ?n_Value_name ?pg_Cell ?hd_Cell ?po_Cell ?sa_Cell ?mk_Cell ?kc_Cell ?n_Cell_table ?n_Cell_spots ?pg_Joined ?hd_Joined ?po_Joined ?sa_Joined ?mk_Joined ?kc_Joined ?n_Joined_sign ?n_Joined_left ?n_Joined_right ?pg_Deed ?hd_Deed ?po_Deed ?sa_Deed ?mk_Deed ?kc_Deed ?n_Deed_names ?n_Deed_lows ?n_Deed_highs ?n_Deed_table ?n_Deed_spots ?n_Deed_term ?n_Deed_path ?pg_Program ?hd_Program ?po_Program ?sa_Program ?mk_Program ?kc_Program ?n_Program_size ?n_Program_deeds ?hn0 ?ht0 ?ha_Number ?hm_Number ?is_Number_Term ?is_Number_Number ?is_Number_Value ?is_Number_Cell ?is_Number_Joined ?is_Number_Deed ?is_Number_Program ?ha_Value ?hm_Value ?is_Value_Term ?is_Value_Number ?is_Value_Value ?is_Value_Cell ?is_Value_Joined ?is_Value_Deed ?is_Value_Program ?ha_Cell ?hm_Cell ?is_Cell_Term ?is_Cell_Number ?is_Cell_Value ?is_Cell_Cell ?is_Cell_Joined ?is_Cell_Deed ?is_Cell_Program ?ha_Joined ?hm_Joined ?is_Joined_Term ?is_Joined_Number ?is_Joined_Value ?is_Joined_Cell ?is_Joined_Joined ?is_Joined_Deed ?is_Joined_Program ?ha_Deed ?hm_Deed ?is_Deed_Term ?is_Deed_Number ?is_Deed_Value ?is_Deed_Cell ?is_Deed_Joined ?is_Deed_Deed ?is_Deed_Program ?ha_Program ?hm_Program ?is_Program_Term ?is_Program_Number ?is_Program_Value ?is_Program_Cell ?is_Program_Joined ?is_Program_Deed ?is_Program_Program ?z_bool ?z_int ?z_isinstance ?z_len ?z_list ?z_range ?z_tuple ?z_zip
    (case a_Term => k_is)
    (case a_Number => k_is)
    (case a_Value => k_is)
    (case a_Cell => k_is)
    (case a_Joined => k_is)
    (case a_Deed => k_is)
    (case a_Program => k_is)
    (case a1 => k_is)
    (case i1 => k_is)
    (case l1 => k_is)
    (case c1 => k_is)
    (case k1 => k_is)
    (case a2 => k_is)
    (case i2 => k_is)
    (case l2 => k_is)
    (case c2 => k_is)
    (case k2 => k_is)
    (case a3 => k_is)
    (case i3 => k_is)
    (case l3 => k_is)
    (case c3 => k_is)
    (case k3 => k_is)
    (case a4 => k_is)
    (case i4 => k_is)
    (case l4 => k_is)
    (case c4 => k_is)
    (case k4 => k_is)
    (case a5 => k_is)
    (case i5 => k_is)
    (case l5 => k_is)
    (case c5 => k_is)
    (case k5 => k_is)
    (case a6 => k_is)
    (case i6 => k_is)
    (case l6 => k_is)
    (case c6 => k_is)
    (case k6 => k_is)
    (case a7 => k_is)
    (case i7 => k_is)
    (case l7 => k_is)
    (case c7 => k_is)
    (case k7 => k_is)
    (case a8 => k_is)
    (case i8 => k_is)
    (case l8 => k_is)
    (case c8 => k_is)
    (case k8 => k_is)
    (case a9 => k_is)
    (case i9 => k_is)
    (case l9 => k_is)
    (case c9 => k_is)
    (case k9 => k_is)
    (case a10 => k_is)
    (case i10 => k_is)
    (case l10 => k_is)
    (case c10 => k_is)
    (case k10 => k_is)
    (case a11 => k_is)
    (case l11 => k_is)
    (case c11 => k_is)
    (case k11 => k_is)
    (case a12 => k_is)
    (case l12 => k_is)
    (case c12 => k_is)
    (case k12 => k_is)
    (case a13 => k_is)
    (case l13 => k_is)
    (case c13 => k_is)
    (case k13 => k_is)
    (case a14 => k_is)
    (case l14 => k_is)
    (case c14 => k_is)
    (case k14 => k_is)
    (case a15 => k_is)
    (case l15 => k_is)
    (case c15 => k_is)
    (case k15 => k_is)
    (case a16 => k_is)
    (case l16 => k_is)
    (case c16 => k_is)
    (case k16 => k_is)
    (case a17 => k_is)
    (case l17 => k_is)
    (case c17 => k_is)
    (case k17 => k_is)
    (case a18 => k_is)
    (case l18 => k_is)
    (case c18 => k_is)
    (case k18 => k_is)
    (case a19 => k_is)
    (case l19 => k_is)
    (case c19 => k_is)
    (case k19 => k_is)
    (case a20 => k_is)
    (case l20 => k_is)
    (case c20 => k_is)
    (case k20 => k_is)
    (case a21 => k_is)
    (case l21 => k_is)
    (case c21 => k_is)
    (case k21 => k_is)
    (case a22 => k_is)
    (case l22 => k_is)
    (case c22 => k_is)
    (case k22 => k_is)
    (case a23 => k_is)
    (case l23 => k_is)
    (case c23 => k_is)
    (case k23 => k_is)
    (case pg_Term => k_is)
    (case hd_Term => k_is)
    (case po_Term => k_is)
    (case sa_Term => k_is)
    (case mk_Term => k_is)
    (case kc_Term => k_is)
    (case pg_Number => k_is)
    (case hd_Number => k_is)
    (case po_Number => k_is)
    (case sa_Number => k_is)
    (case mk_Number => k_is)
    (case kc_Number => k_is)
    (case n_Number_n => k_is)
    (case pg_Value => k_is)
    (case hd_Value => k_is)
    (case po_Value => k_is)
    (case sa_Value => k_is)
    (case mk_Value => k_is)
    (case kc_Value => k_is)
    (case n_Value_name => k_is)
    (case pg_Cell => k_is)
    (case hd_Cell => k_is)
    (case po_Cell => k_is)
    (case sa_Cell => k_is)
    (case mk_Cell => k_is)
    (case kc_Cell => k_is)
    (case n_Cell_table => k_is)
    (case n_Cell_spots => k_is)
    (case pg_Joined => k_is)
    (case hd_Joined => k_is)
    (case po_Joined => k_is)
    (case sa_Joined => k_is)
    (case mk_Joined => k_is)
    (case kc_Joined => k_is)
    (case n_Joined_sign => k_is)
    (case n_Joined_left => k_is)
    (case n_Joined_right => k_is)
    (case pg_Deed => k_is)
    (case hd_Deed => k_is)
    (case po_Deed => k_is)
    (case sa_Deed => k_is)
    (case mk_Deed => k_is)
    (case kc_Deed => k_is)
    (case n_Deed_names => k_is)
    (case n_Deed_lows => k_is)
    (case n_Deed_highs => k_is)
    (case n_Deed_table => k_is)
    (case n_Deed_spots => k_is)
    (case n_Deed_term => k_is)
    (case n_Deed_path => k_is)
    (case pg_Program => k_is)
    (case hd_Program => k_is)
    (case po_Program => k_is)
    (case sa_Program => k_is)
    (case mk_Program => k_is)
    (case kc_Program => k_is)
    (case n_Program_size => k_is)
    (case n_Program_deeds => k_is)
    (case hn0 => k_is)
    (case ht0 => k_is)
    (case ha_Number => k_is)
    (case hm_Number => k_is)
    (case is_Number_Term => kit_is)
    (case is_Number_Number => kit_is)
    (case is_Number_Value => kit_is)
    (case is_Number_Cell => kit_is)
    (case is_Number_Joined => kit_is)
    (case is_Number_Deed => kit_is)
    (case is_Number_Program => kit_is)
    (case ha_Value => k_is)
    (case hm_Value => k_is)
    (case is_Value_Term => kit_is)
    (case is_Value_Number => kit_is)
    (case is_Value_Value => kit_is)
    (case is_Value_Cell => kit_is)
    (case is_Value_Joined => kit_is)
    (case is_Value_Deed => kit_is)
    (case is_Value_Program => kit_is)
    (case ha_Cell => k_is)
    (case hm_Cell => k_is)
    (case is_Cell_Term => kit_is)
    (case is_Cell_Number => kit_is)
    (case is_Cell_Value => kit_is)
    (case is_Cell_Cell => kit_is)
    (case is_Cell_Joined => kit_is)
    (case is_Cell_Deed => kit_is)
    (case is_Cell_Program => kit_is)
    (case ha_Joined => k_is)
    (case hm_Joined => k_is)
    (case is_Joined_Term => kit_is)
    (case is_Joined_Number => kit_is)
    (case is_Joined_Value => kit_is)
    (case is_Joined_Cell => kit_is)
    (case is_Joined_Joined => kit_is)
    (case is_Joined_Deed => kit_is)
    (case is_Joined_Program => kit_is)
    (case ha_Deed => k_is)
    (case hm_Deed => k_is)
    (case is_Deed_Term => kit_is)
    (case is_Deed_Number => kit_is)
    (case is_Deed_Value => kit_is)
    (case is_Deed_Cell => kit_is)
    (case is_Deed_Joined => kit_is)
    (case is_Deed_Deed => kit_is)
    (case is_Deed_Program => kit_is)
    (case ha_Program => k_is)
    (case hm_Program => k_is)
    (case is_Program_Term => kit_is)
    (case is_Program_Number => kit_is)
    (case is_Program_Value => kit_is)
    (case is_Program_Cell => kit_is)
    (case is_Program_Joined => kit_is)
    (case is_Program_Deed => kit_is)
    (case is_Program_Program => kit_is)
    (case z_bool => k_is)
    (case z_int => k_is)
    (case z_isinstance => k_is)
    (case z_len => k_is)
    (case z_list => k_is)
    (case z_range => k_is)
    (case z_tuple => k_is)
    (case z_zip => k_is)
#print axioms PySem.Challenge.cw_furrow_k18_what_is_kept_holds
