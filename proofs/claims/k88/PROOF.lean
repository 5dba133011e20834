import PyProof.Rows.All
import Wide.All
import OpenK.AllK
import Wide.FinOn
import Lean
import PyProof.EqAt
import PyProof.EqKinds
import PyProof.TupleCall
import PyProof.ListMulRoad
import KE.KNest
import KE.KLam
import KE.KSortKey
import PyProof.ListRange
import PyProof.TupleOfSeq
import PySem.Challenge.RW_furrow_k88_turned_and_moved
set_option Elab.async false
set_option linter.all false
set_option maxRecDepth 100000
set_option maxHeartbeats 4000000
namespace EX
open PySem PySem.Spec PyProof.Rows

noncomputable def ExcAt (h : Heap) (e : Addr) (C : Value) (d : Option Addr) (tb : Value) : Prop := ∃ oe vs, h.get? e = some oe ∧ oe.cls = C ∧ oe.dict = d ∧ oe.data = .fields vs ∧ vs[1]? = some tb
noncomputable def TbAt (h : Heap) (T : Addr) (fl : Value) : Prop := ∃ oT ts, h.get? T = some oT ∧ oT.data = .fields ts ∧ ts[3]? = some fl
noncomputable def But (fs ch : List Addr) (h h' : Heap) : Prop := ∀ b o, h.get? b = some o → b ∉ ch → (b ∉ fs → h'.get? b = some o) ∧ ∃ sl, h'.get? b = some { o with slots := sl }
theorem But.mono {fs fs' ch ch' : List Addr} {h h1 : Heap} (a : But fs ch h h1) (f : ∀ b ∈ fs, b ∈ fs') (c : ∀ b ∈ ch, b ∈ ch') : But fs' ch' h h1 := fun x o e hc =>
  let ⟨p, q⟩ := a x o e fun z => hc (c x z)
  ⟨fun hf => p fun z => hf (f x z), q⟩
section
variable {M : Model} {A : Around} {E : Value → Shared → Prop} {s : Shared}

theorem rec_not_frame {base h : Heap} {l : List Env} {b : Addr} {o : Obj} {vs : Array Value} (hl : h.FunFrames base l) (ho : h.get? b = some o) (hd : o.data = .fields vs) : b ∉ l.filterMap (·.frame) := fun hm => by
  obtain ⟨_, o', ho', hn⟩ := hl.mem hm
  rw [ho] at ho'
  cases ho'
  exact hn vs hd

theorem entry_new {base : Heap} {env : Env} {outer : List Env} {L e : Addr} {C : Value} {d : Option Addr} {head tb : Value} {hadNext : Bool} {Q : Unit → Shared → Prop}
    (hfr : A.frames = some (env :: outer)) (hl : s.heap.FunFrames base (env :: outer)) (hf : env.frame = some L) (hx : ExcAt s.heap e C d tb)
    (h : ∀ h' T, s.heap.objs.size ≤ T → But ((env :: outer).filterMap (·.frame)) [e] s.heap h' → ExcAt h' e C d (.ref T) → TbAt h' T (rawInt L) → T ≠ e → Q () { s with heap := h' }) :
    wpAny M A (do let a ← frameOf env; let pl ← entryPlaceOf L hadNext; let b ← EntryCells.newEntry head a .none (rawInt L) .none pl; setField (.ref e) 1 b) Q E s := by
  obtain ⟨oe, vs, he, hc, hdc, hd, h1⟩ := hx
  have hsz : 1 < vs.size := (Array.getElem?_eq_some_iff.mp h1).1
  have hne := rec_not_frame hl he hd
  refine wpAny_bind (wpAny_frameOf_fun hfr hl hf fun h₁ hs₁ => ?_)
  refine wpAny_bind (wpAny_entryPlaceOf fun pl hpl => ?_)
  unfold EntryCells.newEntry newFields
  refine wpAny_bind (wpAny_newObj_type ?_ (hpl.sizeOk5 _ _ _ _ _))
  have he₁ : h₁.get? e = some oe := (hs₁.2.1 e hne).trans he
  generalize hob : ({ cls := .type "traceback", dict := none, data := .fields ([head, .ref L, .none, rawInt L, .none] ++ (if pl.isEmpty then List.replicate 6 Value.none else pl)).toArray } : Obj) = ob
  have hobd : ob.data = .fields ([head, .ref L, .none, rawInt L, .none] ++ (if pl.isEmpty then List.replicate 6 Value.none else pl)).toArray := by rw [← hob]
  have he₂ := Heap.get?_push_of_some (h := h₁) ob he₁
  have nf : ob.isFreed = false := Obj.isFreed_of_fields hobd
  refine wpAny_setField he₂ hd hsz ?_
  have hTe : h₁.objs.size ≠ e := Nat.ne_of_gt (Heap.lt_size he₁)
  have hd₃ := Obj.data_mapFields hd (·.setIfInBounds 1 (Value.ref h₁.objs.size))
  refine h _ h₁.objs.size (by rw [hs₁.1]; exact Nat.le_refl _) (fun b o hb hc => ?_) ?_ ?_ hTe
  · have hbe : b ≠ e := fun z => hc (by rw [z]; exact List.mem_singleton.mpr rfl)
    rw [Heap.get?_update_other _ _ (Ne.symm hbe)]
    refine ⟨fun hn => Heap.get?_push_of_some _ ((hs₁.2.1 b hn).trans hb), ?_⟩
    obtain ⟨sl, q⟩ := hs₁.2.2 b o hb
    exact ⟨sl, Heap.get?_push_of_some _ q⟩
  · exact ⟨_, _, Heap.get?_update_self _ he₂ (Obj.isFreed_of_fields hd₃), by rw [Obj.cls_mapFields]; exact hc, by obtain ⟨c0, d0, dt, sl⟩ := oe; cases dt <;> exact hdc, hd₃, by simp [hsz]⟩
  · refine ⟨ob, _, ?_, hobd, by simp⟩
    rw [Heap.get?_update_other _ _ (Ne.symm hTe)]
    exact Heap.get?_push_size h₁ nf

theorem note_first {base : Heap} {env : Env} {outer : List Env} {L e : Addr} {C : Value} {d : Option Addr} {Q : Unit → Shared → Prop}
    (hfr : A.frames = some (env :: outer)) (hl : s.heap.FunFrames base (env :: outer)) (hf : env.frame = some L) (hx : ExcAt s.heap e C d .none)
    (h : ∀ h' T, s.heap.objs.size ≤ T → But ((env :: outer).filterMap (·.frame)) [e] s.heap h' → ExcAt h' e C d (.ref T) → TbAt h' T (rawInt L) → T ≠ e → Q () { s with heap := h' }) :
    wpAny M A (noteFrame (.ref e) env) Q E s := by
  obtain ⟨oe, vs, he, hc, hdc, hd, h1⟩ := id hx
  unfold noteFrame
  simp only [hf]
  refine wpAny_bind (wpAny_field he hd h1 ?_)
  rw [if_neg (by decide)]
  exact entry_new hfr hl hf hx h

theorem note_next {base : Heap} {env : Env} {outer : List Env} {L e T0 : Addr} {C : Value} {d : Option Addr} {Q : Unit → Shared → Prop}
    (hfr : A.frames = some (env :: outer)) (hl : s.heap.FunFrames base (env :: outer)) (hf : env.frame = some L) (hx : ExcAt s.heap e C d (.ref T0)) (ht : TbAt s.heap T0 .none) (hne : T0 ≠ e)
    (h : ∀ h' T, s.heap.objs.size ≤ T → But ((env :: outer).filterMap (·.frame)) [e, T0] s.heap h' → ExcAt h' e C d (.ref T) → TbAt h' T (rawInt L) → T ≠ e → Q () { s with heap := h' }) :
    wpAny M A (noteFrame (.ref e) env) Q E s := by
  obtain ⟨oe, vs, he, hc, hdc, hd, h1⟩ := id hx
  obtain ⟨oT, ts, hT, hdT, h3⟩ := ht
  unfold noteFrame
  simp only [hf]
  refine wpAny_bind (wpAny_field he hd h1 ?_)
  rw [if_pos (show (Value.ref T0 != Value.none) = true from by simp)]
  refine wpAny_bind (wpAny_field hT hdT h3 ?_)
  rw [if_neg (show ¬ ((Value.none == rawInt L) = true) from by simp [rawInt])]
  refine wpAny_bind (wpAny_setField hT hdT (Array.getElem?_eq_some_iff.mp h3).1 ?_)
  have other : ∀ b, b ≠ T0 → (s.heap.update T0 (Obj.mapFields (·.setIfInBounds 3 Value.none))).get? b = s.heap.get? b := fun b hb => Heap.get?_update_other _ _ (Ne.symm hb)
  have hTf := rec_not_frame hl hT hdT
  refine entry_new (s := { s with heap := s.heap.update T0 (Obj.mapFields (·.setIfInBounds 3 Value.none)) }) hfr (hl.of_keeps fun b o hb hnf => ⟨o, (other b fun q => by rw [q, hT] at hb; cases hb; exact hnf ts hdT).trans hb, rfl⟩) hf ⟨oe, vs, (other e (Ne.symm hne)).trans he, hc, hdc, hd, h1⟩ fun h' T hT0 hb hx' ht' hTe => ?_
  have hTn : s.heap.objs.size ≤ T := by simpa [Heap.size_update] using hT0
  refine h h' T hTn (fun b o q hc => ?_) hx' ht' hTe
  have hbe : b ∉ [e] := fun z => hc (List.mem_cons.mpr (.inl (List.mem_singleton.mp z)))
  have hbT : b ≠ T0 := fun z => hc (by rw [z]; exact List.mem_cons_of_mem _ List.mem_cons_self)
  exact hb b o ((other b hbT).trans q) hbe

theorem flight_none {e T : Addr} {C : Value} {d : Option Addr} {fl : Value} {Q : Unit → Shared → Prop} (hx : ExcAt s.heap e C d (.ref T)) (ht : TbAt s.heap T fl) (hne : T ≠ e)
    (h : ∀ h', But [] [T] s.heap h' → ExcAt h' e C d (.ref T) → TbAt h' T .none → Q () { s with heap := h' }) : wpAny M A (setFlight (.ref e) none) Q E s := by
  obtain ⟨oe, vs, he, hc, hdc, hd, h1⟩ := id hx
  obtain ⟨oT, ts, hT, hdT, h3⟩ := ht
  have hsz : 3 < ts.size := (Array.getElem?_eq_some_iff.mp h3).1
  have other : ∀ b, b ≠ T → (s.heap.update T (Obj.mapFields (·.setIfInBounds 3 Value.none))).get? b = s.heap.get? b := fun b hb => Heap.get?_update_other _ _ (Ne.symm hb)
  refine wpAny_setFlight_none he hd h1 hT hdT hsz (h _ (fun b o q hc => ?_) ⟨oe, vs, (other e (Ne.symm hne)).trans he, hc, hdc, hd, h1⟩ ⟨_, _, Heap.get?_update_self _ hT (Obj.isFreed_of_fields (Obj.data_mapFields hdT _)), Obj.data_mapFields hdT _, by simp [hsz]⟩)
  have hbT : b ≠ T := fun z => hc (by rw [z]; exact List.mem_cons_self)
  exact ⟨fun _ => (other b hbT).trans q, o.slots, (other b hbT).trans q⟩
theorem flight_new {e : Addr} {C : Value} {d : Option Addr} {Q : Unit → Shared → Prop} (hx : ExcAt s.heap e C d .none) (h : Q () s) : wpAny M A (setFlight (.ref e) none) Q E s := by
  obtain ⟨oe, vs, he, hc, hdc, hd, h1⟩ := id hx
  unfold setFlight
  refine wpAny_bind (wpAny_field he hd h1 ?_)
  rw [if_neg (by decide)]
  exact wpAny_pure h
end
end EX

set_option Elab.async false
set_option linter.all false
set_option maxRecDepth 100000
set_option maxHeartbeats 4000000
namespace EX
open PySem PySem.Spec PyProof.Rows

noncomputable def ClsAt (h : Heap) (C : Addr) (bm : List Value) : Prop := ∃ nm q N bs hdct sn sub ab col dd k0 k1 k2 k3 k5 newId, h.get? C = some (excClassObj nm q C N bs bm hdct sn sub ab col dd k0 k1 k2 k3 k5 newId)
section
variable {M : Model} {A : Around} {E : Value → Shared → Prop} {s : Shared} {env : Env}

theorem raiseStmt_inst {x : Sem Value} {Q : Flow → Shared → Prop} (hh : A.handled = none)
    (h : wpAny M A x (fun v s₁ => ∃ e d C bm, v = .ref e ∧ ClsAt s₁.heap C bm ∧ bm.contains (.type "BaseException") = true ∧ ExcAt s₁.heap e (.ref C) d .none ∧ E (.ref e) s₁) E s) :
    wpAny M A (raiseStmt env (some x) none) Q E s := by
  unfold raiseStmt
  refine wpAny_bind (wpAny_mono h (fun v s₁ h₁ => ?_) fun _ _ x => x)
  obtain ⟨e, d, C, bm, rfl, ⟨nm, q, N, bs, hdct, sn, sub, ab, col, dd, k0, k1, k2, k3, k5, newId, hC⟩, hbase, hx, hE⟩ := h₁
  have hcB : (Value.ref C :: bm).contains (.type "BaseException") = true := by rw [List.contains_cons, hbase, Bool.or_true]
  obtain ⟨⟨c0, d0, dt, sl⟩, vs, he, hc, hdc, hd, h1⟩ := id hx
  obtain rfl : c0 = .ref C := hc
  obtain rfl : dt = .fields vs := hd
  obtain ⟨hp, g, dr, tk, os⟩ := s₁
  repeat (first | with_reducible refine wpAny_loadPart_at he ?_ | with_reducible refine wpAny_loadPart_at hC ?_ | (with_reducible refine wpAny_isSubtype_exc hC ?_; rw [hcB]) | (refine wpAny_bind (flight_new hx ?_)) | wp_step)
  exact wpAny_raiseNew_none hh hE
theorem exec_raise {e : Expr} {pos : Pos} {Q : Flow → Shared → Prop} (hh : A.handled = none)
    (h : wpAny M A (eval e env) (fun v s₁ => ∃ a d C bm, v = .ref a ∧ ClsAt s₁.heap C bm ∧ bm.contains (.type "BaseException") = true ∧ ExcAt s₁.heap a (.ref C) d .none ∧ E (.ref a) s₁) E s) :
    wpAny M A (exec (.Raise (some e) none pos) env) Q E s := by
  rw [arm_exec_Raise]
  simp only [evalOpt, Option.map]
  refine wpAny_bind (wpAny_standAt (raiseStmt_inst hh (wpAny_bind (wpAny_mono h (fun v s₁ h₁ => wpAny_bind (wpAny_standAt (wpAny_pure h₁))) fun _ _ x => x))))

theorem matches_own {h : Heap} {g : Array GenState} {dr : Drawn} {t : Nat} {os : OsState} {e C D : Addr} {bm bd : List Value} {d : Option Addr} {tb : Value} {Q : Bool → Shared → Prop}
    (kC : ClsAt h C bm) (kD : ClsAt h D bd) (hD : bd.contains (.type "BaseException") = true) (hx : ExcAt h e (.ref C) d tb)
    (hq : Q ((Value.ref C :: bm).contains (.ref D)) ⟨h, g, dr, t, os⟩) : wpAny M A (excMatches (.ref e) (.ref D)) Q E ⟨h, g, dr, t, os⟩ := by
  obtain ⟨nm, q, N, bs, hdct, sn, sub, ab, col, dd, k0, k1, k2, k3, k5, newId, hC⟩ := kC
  obtain ⟨nm', q', N', bs', hdct', sn', sub', ab', col', dd', k0', k1', k2', k3', k5', newId', hDc⟩ := kD
  obtain ⟨oe, vs, he, hcls, hdc, hd, h1⟩ := hx
  have hcB : (Value.ref D :: bd).contains (.type "BaseException") = true := by rw [List.contains_cons, hD, Bool.or_true]
  have f := tc_notTuple
  unfold excMatches
  generalize hb : (Value.ref C :: bm).contains (.ref D) = b at hq
  repeat (any_goals (first | assumption | (with_reducible refine wpAny_loadPart_at he ?_; rw [hcls]) | with_reducible refine wpAny_loadPart_at hDc ?_ | (with_reducible refine wpAny_isSubtype_exc hDc ?_; rw [hcB]) | (with_reducible refine wpAny_isSubtype_exc hC ?_; rw [hb]) | wp_step))
  cases b <;> (wp_walk; exact hq)
end
end EX

set_option Elab.async false
set_option linter.all false
set_option maxRecDepth 100000
set_option maxHeartbeats 4000000
namespace EX
open PySem PySem.Spec PySem.Calls PyProof.Rows

noncomputable abbrev excObj (C t : Addr) : Obj := { cls := .ref C, data := .fields #[.ref t, .none, .none, .none, .bool false, .none] }
noncomputable abbrev tupObj (vs : List Value) : Obj := { cls := .type "tuple", data := .seq vs.toArray }

section
variable {prog : Program} {w : World} {A : Around} {h : Heap} {g : Array GenState} {d : Drawn} {t : Nat} {os : OsState} {R : Result → Shared → Prop}
variable {nm q : Str} {C N : Addr} {bs bm bmB : List Value} {hdct : Bool} {sn : List Str} {sub : List Value} {ab : Bool} {col : Option Bool} {dd : Option Addr} {k0 k1 k2 k3 k5 : Option Value} {B newId initId : String}

end
end EX

set_option Elab.async false
set_option linter.all false
set_option maxRecDepth 100000
set_option maxHeartbeats 4000000
namespace EX
open PySem PySem.Spec PySem.Calls PyProof.Rows PySem.W PySem.Builtin PySem.Builtin.ObjectAttr

section
variable {prog : Program} {w : World} {A : Around} {E : Value → Shared → Prop} {s : Shared} {K : Frag} {x C : Addr} {ox : Obj} {od : Option Obj} {name : Str} {expr : Bool}

noncomputable abbrev bmVE : List Value := [.type "ValueError", .type "Exception", .type "BaseException", .type "object"]
noncomputable def dropRefs : List Value → List Value
  | .ref _ :: r => dropRefs r
  | l => l
noncomputable def mroTail (K : Frag) (C : Addr) : Bool := (clsIn K C).any fun cd => dropRefs cd.mro == bmVE
noncomputable def ClsT (h : Heap) (C N : Addr) (bm : List Value) : Prop := ∃ nm q bs hdct sn sub ab col dd k0 k1 k2 k3 k5, h.get? C = some (excClassObj nm q C N bs bm hdct sn sub ab col dd k0 k1 k2 k3 k5 "ValueError.__new__") ∧ OwnTail h bmVE bm
theorem ClsT.at {h : Heap} {C N : Addr} {bm : List Value} (x : ClsT h C N bm) : ClsAt h C bm := by
  obtain ⟨nm, q, bs, hdct, sn, sub, ab, col, dd, k0, k1, k2, k3, k5, e, _⟩ := x
  exact ⟨nm, q, N, bs, hdct, sn, sub, ab, col, dd, k0, k1, k2, k3, k5, _, e⟩
structure XC (K : Frag) (C : Addr) : Prop where
  ga : findIn K (.ref C) "__getattribute__" = some (some (.builtin "BaseException.__getattribute__"))
  gh : findIn K (.ref C) "__getattr__" = some none
  be : mroIn K C (.type "BaseException") = some true
  sa : findIn K (.ref C) "__setattr__" = some (some (.builtin "object.__setattr__"))
  hd : hasDictIn K C = true
  mt : mroTail K C = true
  ob : mroIn K C (.type "object") = some true
  ct : ∃ N bm, ∀ h, K.In h → ClsT h C N bm

end
end EX

set_option Elab.async false
set_option linter.all false
set_option maxRecDepth 100000
set_option maxHeartbeats 4000000
namespace EX
open PySem PySem.Spec PySem.Calls PyProof.Rows PySem.W PySem.Builtin PySem.Builtin.ObjectAttr

section
variable {prog : Program} {w : World} {A : Around} {E : Value → Shared → Prop} {s : Shared} {K : Frag} {x C : Addr} {ox : Obj} {od : Option Obj}

end
end EX

set_option Elab.async false
set_option linter.all false
set_option maxRecDepth 100000
namespace L2
open PySem PySem.Spec PyProof.Rows

noncomputable abbrev Key := Sum Int Str
noncomputable def keyIs : Key → Value → Bool
  | .inl k, v => Value.isInt k v
  | .inr x, v => Value.isStrOf x v
noncomputable def keyH (w : World) : Key → Int
  | .inl k => hashInt k
  | .inr x => hashStr w x
theorem keyIs_shape : ∀ {k : Key} {v : Value}, keyIs k v = true → (∃ i t, k = Sum.inl i ∧ v = Value.int i t) ∨ (∃ x t, k = Sum.inr x ∧ v = Value.str x t)
  | .inl i, v, h => by
    obtain ⟨t, e⟩ := Value.isInt_shape (k := i) (v := v) h
    exact .inl ⟨i, t, rfl, e⟩
  | .inr x, v, h => by
    obtain ⟨t, e⟩ := Value.isStrOf_shape (x := x) (v := v) h
    exact .inr ⟨x, t, rfl, e⟩
theorem keyIs_int (i : Int) (t : Tok) : keyIs (.inl i) (.int i t) = true := by simp [keyIs, Value.isInt]
theorem keyIs_str (x : Str) (t : Tok) : keyIs (.inr x) (.str x t) = true := by simp [keyIs, Value.isStrOf]
theorem key_ll (a b : Int) : decide ((Sum.inl a : Key) = Sum.inl b) = (a == b) := by
  by_cases e : a = b
  · subst e; simp
  · have h : ¬ (Sum.inl a : Key) = Sum.inl b := fun q => e (Sum.inl.inj q)
    rw [decide_eq_false h]
    exact (beq_eq_false_iff_ne.mpr e).symm
theorem key_rr (a b : Str) : decide ((Sum.inr a : Key) = Sum.inr b) = decide (a = b) := by
  by_cases e : a = b
  · subst e; simp
  · have h : ¬ (Sum.inr a : Key) = Sum.inr b := fun q => e (Sum.inr.inj q)
    rw [decide_eq_false h, decide_eq_false e]
theorem key_lr (a : Int) (b : Str) : decide ((Sum.inl a : Key) = Sum.inr b) = false := decide_eq_false (fun q => nomatch q)
theorem key_rl (a : Str) (b : Int) : decide ((Sum.inr a : Key) = Sum.inl b) = false := decide_eq_false (fun q => nomatch q)

noncomputable def mixKind (prog : Program) (w : World) : PySem.KeyKind prog w Key where
  is := keyIs
  hash := keyH w
  inj := fun v a b ha hb => by
    rcases keyIs_shape ha with ⟨i, t, rfl, rfl⟩ | ⟨x, t, rfl, rfl⟩
    · rcases keyIs_shape hb with ⟨j, u, rfl, e⟩ | ⟨y, u, rfl, e⟩
      · injection e with e1 _; rw [e1]
      · exact nomatch e
    · rcases keyIs_shape hb with ⟨j, u, rfl, e⟩ | ⟨y, u, rfl, e⟩
      · exact nomatch e
      · injection e with e1 _; rw [e1]
  byValue := fun k v h => by
    rcases keyIs_shape h with ⟨i, t, rfl, rfl⟩ | ⟨x, t, rfl, rfl⟩ <;> rfl
  pyHash := fun hv h => by
    rcases keyIs_shape hv with ⟨i, t, rfl, rfl⟩ | ⟨x, t, rfl, rfl⟩
    · exact wpAny_pyHash_int h
    · exact wpAny_pyHash_str h
  eqBool := fun hu hv h => by
    rcases keyIs_shape hu with ⟨i, t, rfl, rfl⟩ | ⟨x, t, rfl, rfl⟩
    · rcases keyIs_shape hv with ⟨j, u, rfl, rfl⟩ | ⟨y, u, rfl, rfl⟩
      · rw [key_ll] at h; exact wpAny_eqBool_int h
      · rw [key_lr] at h; exact SeqAt.EqAt.int_str i t y u _ _ _ _ h
    · rcases keyIs_shape hv with ⟨j, u, rfl, rfl⟩ | ⟨y, u, rfl, rfl⟩
      · rw [key_rl] at h; exact SeqAt.EqAt.str_int x t j u _ _ _ _ h
      · rw [key_rr] at h; exact wpAny_eqBool_str h
  «strs» := fun k x t v h => by
    rcases keyIs_shape h with ⟨i, u, rfl, e⟩ | ⟨y, u, rfl, e⟩
    · exact nomatch e
    · injection e with e1 _
      subst e1
      cases v <;> rfl

theorem mixKind_int (prog : Program) (w : World) (i : Int) (t : Tok) : (mixKind prog w).is (.inl i) (.int i t) = true := keyIs_int i t
theorem mixKind_str (prog : Program) (w : World) (x : Str) (t : Tok) : (mixKind prog w).is (.inr x) (.str x t) = true := keyIs_str x t
end L2

namespace L2
open PySem PySem.Spec PyProof.Rows

inductive V where
  | non | bl (b : Bool) | int (i : Int) | str (x : Str) | byt (b : Array UInt8) | flt (b : UInt64) | ref (a : Addr) | ty (n : String)
  deriving DecidableEq

noncomputable def RelV : V → Value → Prop
  | .non, u => u = Value.none
  | .bl b, u => u = Value.bool b
  | .int i, u => ∃ t, u = Value.int i t
  | .str x, u => ∃ t, u = Value.str x t
  | .byt b, u => ∃ t, u = Value.bytes b t
  | .flt b, u => ∃ t, u = Value.float b t
  | .ref a, u => u = Value.ref a
  | .ty n, u => u = Value.type n

noncomputable abbrev Vals : List V → List Value → Prop := Paired RelV
theorem Vals.length {xs : List V} {us : List Value} (r : Vals xs us) : xs.length = us.length := Paired.length r
theorem Vals.get : ∀ {xs : List V} {us : List Value} {i : Nat} {x : V}, Vals xs us → xs[i]? = some x → ∃ u, us[i]? = some u ∧ RelV x u
  | _, _, _, _, .nil, e => by simp at e
  | _, _, 0, _, .cons r _, e => by simp at e; subst e; exact ⟨_, rfl, r⟩
  | _, _, i + 1, x, .cons _ t, e => by
    obtain ⟨u, h1, h2⟩ := Vals.get (i := i) (x := x) t (by simpa using e)
    exact ⟨u, by simpa using h1, h2⟩
theorem Vals.set {x : V} {u : Value} (r : RelV x u) : ∀ {xs : List V} {us : List Value} (i : Nat), Vals xs us → Vals (xs.set i x) (us.set i u)
  | _, _, _, .nil => .nil
  | _, _, 0, .cons _ t => .cons r t
  | _, _, i + 1, .cons q t => .cons q (Vals.set r i t)
theorem Vals.append : ∀ {xs ys : List V} {us ws : List Value}, Vals xs us → Vals ys ws → Vals (xs ++ ys) (us ++ ws)
  | _, _, _, _, .nil, s => s
  | _, _, _, _, .cons r t, s => .cons r (Vals.append t s)
theorem Vals.take : ∀ {xs : List V} {us : List Value} (n : Nat), Vals xs us → Vals (xs.take n) (us.take n)
  | _, _, 0, _ => .nil
  | _, _, _ + 1, .nil => .nil
  | _, _, n + 1, .cons r t => .cons r (Vals.take n t)
theorem Vals.drop : ∀ {xs : List V} {us : List Value} (n : Nat), Vals xs us → Vals (xs.drop n) (us.drop n)
  | _, _, 0, r => r
  | _, _, _ + 1, .nil => .nil
  | _, _, n + 1, .cons _ t => Vals.drop n t
noncomputable def RelO : Option V → Option Value → Prop
  | some v, some u => RelV v u
  | none, none => True
  | _, _ => False
noncomputable def KV {κ : Type} : List (κ × V) → List (κ × Value) → Prop := Paired fun (p : κ × V) (q : κ × Value) => p.1 = q.1 ∧ RelV p.2 q.2

noncomputable def kV : Key → V
  | .inl i => .int i
  | .inr x => .str x

inductive HO where
  /-- a list -/
  | lst (xs : List V)
  /-- a tuple (never changes) -/
  | tup (xs : List V)
  /-- a dict whose keys are ints and texts; one whose keys are tuples of ints and texts (the empty one is both) -/
  | dK (kvs : List (Key × V)) | dT (kvs : List (List Key × V))
  /-- a set of ints: its members, its size -/
  | set (S : Int → Bool) (n : Nat)
  /-- an instance of the class at C, its dict at dx, its attributes -/
  | ins (C dx : Addr) (fs : List (Str × V))
  /-- the dict of the instance at x -/
  | own (x : Addr)
  /-- the dict of an exception -/
  | xd (fs : List (Str × V))
  /-- a bound method, f of x -/
  | met (f x : Addr)
  /-- a range object lo, lo + 1, .. below hi -/
  | rng (lo hi : Int)
  /-- a thing that is known to the object (the script; a dict while a loop walks it): read, never written while it is so -/
  | frz (o : Obj) (u : HO)
  /-- a code object's table -/
  | tbl (ps : Array Value)
  /-- any other thing, by what is true of its one object (a def of one's own: SetO a S n := HO.ext fun h => ..) -/
  | ext (φ : Heap → Prop)

noncomputable abbrev Hp := Addr → Option HO
noncomputable def upd (H : Hp) (a : Addr) (o : HO) : Hp := fun b => if b = a then some o else H b
theorem upd_same {H : Hp} {a : Addr} {o : HO} : upd H a o a = some o := by unfold upd; rw [if_pos rfl]
theorem upd_ne {H : Hp} {a b : Addr} {o : HO} (h : b ≠ a) : upd H a o b = H b := by unfold upd; rw [if_neg h]
theorem upd_upd {H : Hp} {a : Addr} {o u : HO} : upd (upd H a o) a u = upd H a u := by
  funext b; unfold upd; split <;> rfl
theorem ne_of {H : Hp} {a b : Addr} {o u : HO} (h : H a = some o) (h' : H b = some u) (d : o ≠ u) : a ≠ b := by
  intro e; subst e; rw [h] at h'; exact d (Option.some.inj h')
theorem ne_of_none {H : Hp} {a b : Addr} {o : HO} (h : H a = some o) (h' : H b = none) : a ≠ b := by
  intro e; subst e; rw [h] at h'; cases h'

section
variable (P : Program) (w : World)
noncomputable def IsTupN (h : Heap) (a : Addr) (its : Array Value) : Prop := ∃ o, h.get? a = some o ∧ o.cls = .type "tuple" ∧ (∃ n, o.data = .seq its n) ∧ o.dict = none
theorem IsTupN.tup {h : Heap} {a : Addr} {its : Array Value} (x : IsTupN h a its) : IsTup h a its := let ⟨o, e, c, d, _⟩ := x; ⟨o, e, c, d⟩
theorem IsTupN.new (h : Heap) (its : Array Value) : IsTupN (h.push { cls := .type "tuple", data := .seq its }) h.objs.size its := ⟨_, Heap.get?_push_size _ rfl, rfl, ⟨_, rfl⟩, rfl⟩
noncomputable def ObjOk (H : Hp) (h : Heap) (a : Addr) : HO → Prop
  | .lst xs => xs.length ≤ sizeLine ∧ ∃ (its : List Value) (n : Nat), Vals xs its ∧ h.get? a = some { cls := .type "list", data := .seq its.toArray n }
  | .tup xs => xs.length ≤ sizeLine ∧ ∃ its : List Value, Vals xs its ∧ IsTupN h a its.toArray
  | .dK kvs => kvs.length ≤ sizeLine ∧ (a == sysModules) = false ∧ ∃ vs, KV kvs vs ∧ h.DictOf (mixKind P w) a vs
  | .dT kvs => kvs.length ≤ sizeLine ∧ (a == sysModules) = false ∧ ∃ xs : List (List Key × Addr × Value),
      Paired (fun (p : List Key × V) (q : List Key × Addr × Value) => p.1 = q.1 ∧ H q.2.1 = some (.tup (p.1.map kV)) ∧ RelV p.2 q.2.2) kvs xs ∧
      ∃ o es ep, h.get? a = some o ∧ o.ExactDict ∧ o.data = .dict es ep ∧ es.toList = xs.map (entryOfKey (tupleKind (mixKind P w))) ∧ (xs.map (·.1)).Nodup
  | .set S n => h.SetOf (intKind P w) a S n
  | .ins C dx fs => H dx = some (.own a) ∧ fs.length ≤ 1000 ∧ dx ≠ a ∧ h.get? a = some (PySem.W.instObj C dx) ∧
      ∃ mA, h.Ns1 dx mA ∧ (∀ f, RelO (fs.lookup f) (mA f)) ∧ PySem.Within mA (fs.map (·.1))
  | .own _ => ∃ o, h.get? a = some o
  | .xd fs => ∃ mA, h.Ns1 a mA ∧ ∀ f, RelO (fs.lookup f) (mA f)
  | .rng lo hi => ∃ t u v, h.get? a = some { cls := .type "range", data := .fields #[.int lo t, .int hi u, .int 1 v] }
  | .frz o u => h.get? a = some o ∧ ObjOk H h a u
  | .tbl ps => h.get? a = some { cls := .none, data := .fields ps }
  | .met f x => h.get? a = some (PySem.W.methodObj (.ref f) (.ref x))
  | .ext φ => φ h ∧ (∃ o, h.get? a = some o) ∧ ∀ h1 h2 : Heap, φ h1 → (∀ o, h1.get? a = some o → h2.get? a = some o) → φ h2
noncomputable def HOk (H : Hp) (h : Heap) : Prop := ∀ a o, H a = some o → ObjOk P w H h a o
end

section
variable {P : Program} {w : World} {H H' : Hp} {h h' : Heap} {a : Addr} {o : HO}
theorem ObjOk.lt (x : ObjOk P w H h a o) : a < h.objs.size := by
  cases o with
  | lst xs => obtain ⟨_, _, _, _, e⟩ := x; exact Heap.lt_size e
  | tup xs => obtain ⟨_, _, _, p⟩ := x; exact p.tup.lt
  | dK kvs => obtain ⟨_, _, _, _, o, _, _, e, _⟩ := x; exact Heap.lt_size e
  | dT kvs => obtain ⟨_, _, _, _, o, _, _, e, _⟩ := x; exact Heap.lt_size e
  | set S n => obtain ⟨o, _, _, _, e, _⟩ := x; exact Heap.lt_size e
  | ins C dx fs => obtain ⟨_, _, _, e, _⟩ := x; exact Heap.lt_size e
  | own y => obtain ⟨_, e⟩ := x; exact Heap.lt_size e
  | xd fs => obtain ⟨_, ⟨_, _, _, e, _⟩, _⟩ := x; exact Heap.lt_size e
  | rng lo hi => obtain ⟨_, _, _, e⟩ := x; exact Heap.lt_size e
  | frz ob u => obtain ⟨e, _⟩ := x; exact Heap.lt_size e
  | tbl ps => exact Heap.lt_size (show h.get? a = some _ from x)
  | met f y => exact Heap.lt_size (show h.get? a = some _ from x)
  | ext φ => obtain ⟨_, ⟨_, e⟩, _⟩ := x; exact Heap.lt_size e
theorem Paired.mapP {α β : Type} {F G : α → β → Prop} : ∀ {l₁ : List α} {l₂ : List β}, Paired F l₁ l₂ → (∀ a b, F a b → G a b) → Paired G l₁ l₂
  | _, _, .nil, _ => .nil
  | _, _, .cons r t, f => .cons (f _ _ r) (Paired.mapP t f)
theorem ObjOk.stay (x : ObjOk P w H h a o) (k : ∀ b u, (b = a ∨ H b = some (.own a)) → h.get? b = some u → h'.get? b = some u)
    (ho : ∀ b, H b = some (.own a) → H' b = some (.own a)) (ht : ∀ b xs, H b = some (.tup xs) → H' b = some (.tup xs)) : ObjOk P w H' h' a o := by
  induction o with
  | lst xs => obtain ⟨z, its, n, r, e⟩ := x; exact ⟨z, its, n, r, k _ _ (.inl rfl) e⟩
  | tup xs => obtain ⟨z, its, r, ob, e, c⟩ := x; exact ⟨z, its, r, ob, k _ _ (.inl rfl) e, c⟩
  | dK kvs => obtain ⟨z, y, vs, r, ob, es, ep, e, c⟩ := x; exact ⟨z, y, vs, r, ob, es, ep, k _ _ (.inl rfl) e, c⟩
  | dT kvs =>
    obtain ⟨z, y, xs, r, ob, es, ep, e, c⟩ := x
    exact ⟨z, y, xs, Paired.mapP r fun p q z => ⟨z.1, ht _ _ z.2.1, z.2.2⟩, ob, es, ep, k _ _ (.inl rfl) e, c⟩
  | set S n => obtain ⟨ob, es, ep, t, e, c⟩ := x; exact ⟨ob, es, ep, t, k _ _ (.inl rfl) e, c⟩
  | ins C dx fs =>
    obtain ⟨d, z, ne, e, mA, ⟨od, es, ep, e2, c⟩, r⟩ := x
    exact ⟨ho _ d, z, ne, k _ _ (.inl rfl) e, mA, ⟨od, es, ep, k _ _ (.inr d) e2, c⟩, r⟩
  | own y => obtain ⟨ob, e⟩ := x; exact ⟨ob, k _ _ (.inl rfl) e⟩
  | xd fs => obtain ⟨mA, ⟨od, es, ep, e, c⟩, r⟩ := x; exact ⟨mA, ⟨od, es, ep, k _ _ (.inl rfl) e, c⟩, r⟩
  | rng lo hi => obtain ⟨t, u, v, e⟩ := x; exact ⟨t, u, v, k _ _ (.inl rfl) e⟩
  | frz ob u ih => obtain ⟨e, q⟩ := x; exact ⟨k _ _ (.inl rfl) e, ih q⟩
  | tbl ps =>
    have e : h.get? a = some { cls := .none, data := .fields ps } := x
    show h'.get? a = some { cls := .none, data := .fields ps }
    exact k a _ (.inl rfl) e
  | met f y =>
    have e : h.get? a = some (PySem.W.methodObj (.ref f) (.ref y)) := x
    show h'.get? a = some (PySem.W.methodObj (.ref f) (.ref y))
    exact k a _ (.inl rfl) e
  | ext φ => obtain ⟨p, ⟨o, e⟩, st⟩ := x; exact ⟨st _ _ p fun o q => k _ _ (.inl rfl) q, ⟨o, k _ _ (.inl rfl) e⟩, st⟩
theorem HOk.lt (x : HOk P w H h) (e : H a = some o) : a < h.objs.size := (x a o e).lt
theorem HOk.fresh (x : HOk P w H h) (e : h.objs.size ≤ a) : H a = none := by
  cases q : H a with
  | none => rfl
  | some u => exact absurd (Nat.lt_of_lt_of_le (x.lt q) e) (Nat.lt_irrefl _)
theorem HOk.kept (x : HOk P w H h) (k : ∀ b u, h.get? b = some u → h'.get? b = some u) : HOk P w H h' := fun a o e =>
  (x a o e).stay (fun b u _ q => k b u q) (fun _ q => q) fun _ _ q => q
theorem HOk.laid (x : HOk P w H h) (k : ∀ b u, h.get? b = some u → h'.get? b = some u) (hp : h.objs.size ≤ a) (new : ObjOk P w (upd H a o) h' a o) : HOk P w (upd H a o) h' := fun b u e => by
  have hn := x.fresh hp
  by_cases hb : b = a
  · subst hb; rw [upd_same] at e; cases e; exact new
  · rw [upd_ne hb] at e
    exact (x b u e).stay (fun c v _ q => k c v q) (fun c q => by rw [upd_ne (ne_of_none q hn)]; exact q) fun c xs q => by rw [upd_ne (ne_of_none q hn)]; exact q
end

noncomputable def Rd (H : Hp) (a : Addr) (u : HO) : Prop := H a = some u ∨ ∃ o, H a = some (.frz o u)
theorem Rd.ok {P : Program} {w : World} {H : Hp} {h : Heap} {a : Addr} {u : HO} (r : Rd H a u) (x : HOk P w H h) : ObjOk P w H h a u := by
  rcases r with r | ⟨o, r⟩
  · exact x a u r
  · obtain ⟨_, q⟩ := x a _ r
    exact q
noncomputable def Mut : Option HO → Prop
  | some (.lst _) => True
  | some (.dK _) => True
  | some (.dT _) => True
  | some (.set _ _) => True
  | some (.ins _ _ _) => True
  | some (.ext _) => True
  | _ => False
section
variable {P : Program} {w : World} {H : Hp} {h h' : Heap} {x e : Addr} {o' : HO}
theorem HOk.write (ok : HOk P w H h) (mu : Mut (H x)) (he : e = x ∨ H e = some (.own x)) (k : ∀ b u, b ≠ e → h.get? b = some u → h'.get? b = some u) (heo : ∃ u, h'.get? e = some u)
    (new : ObjOk P w (upd H x o') h' x o') : HOk P w (upd H x o') h' := fun b u q => by
  have nown : ∀ c y, H c = some (.own y) → c ≠ x := fun c y r z => by subst z; rw [r] at mu; exact mu
  have ntup : ∀ c xs, H c = some (.tup xs) → c ≠ x := fun c xs r z => by subst z; rw [r] at mu; exact mu
  by_cases hb : b = x
  · subst hb; rw [upd_same] at q; cases q; exact new
  · rw [upd_ne hb] at q
    by_cases hbe : b = e
    · have q' : H b = some (.own x) := by
        rcases he with z | z
        · exact absurd (hbe.trans z) hb
        · rw [hbe]; exact z
      rw [q] at q'; cases q'
      obtain ⟨v, hv⟩ := heo
      exact ⟨v, by rw [hbe]; exact hv⟩
    · refine (ok b u q).stay (fun c v hc r => k c v ?_ r) (fun c r => by rw [upd_ne (nown c b r)]; exact r) fun c xs r => by rw [upd_ne (ntup c xs r)]; exact r
      rcases hc with rfl | hc
      · exact hbe
      · rintro rfl
        rcases he with z | z
        · exact nown c b hc z
        · rw [hc] at z; cases z; exact hb rfl
end

structure Un (fs ex : List Addr) (H H' : Hp) (h h' : Heap) : Prop where
  keep : ∀ b o, h.get? b = some o → H b = none → b ∉ fs → b ∉ ex → h'.get? b = some o
  slot : ∀ b o, h.get? b = some o → H b = none → b ∈ fs → b ∉ ex → ∃ sl, h'.get? b = some { o with slots := sl }
  free : ∀ b o, h.get? b = some o → H b = none → b ∉ ex → H' b = none
  there : ∀ b o, h.get? b = some o → b ∉ ex → ∃ o', h'.get? b = some o'
  tups : ∀ b xs, H b = some (.tup xs) → H' b = some (.tup xs)
  frzs : ∀ b o u, H b = some (.frz o u) → H' b = some (.frz o u)
  tbls : ∀ b ps, H b = some (.tbl ps) → ∃ more, H' b = some (.tbl (ps ++ more))
section
variable {fs fs' ex ex' : List Addr} {H H1 H2 : Hp} {h h1 h2 h' : Heap} {a x e : Addr} {o : HO}
theorem Un.any (u : Un fs ex H H1 h h1) {b : Addr} {ob : Obj} (q : h.get? b = some ob) (n : H b = none) (hx : b ∉ ex) : ∃ sl, h1.get? b = some { ob with slots := sl } := by
  by_cases hb : b ∈ fs
  · exact u.slot b ob q n hb hx
  · exact ⟨ob.slots, u.keep b ob q n hb hx⟩
theorem Un.kept (k : ∀ b u, h.get? b = some u → h'.get? b = some u) : Un fs ex H H h h' :=
  ⟨fun b ob q _ _ _ => k b ob q, fun b ob q _ _ _ => ⟨ob.slots, k b ob q⟩, fun _ _ _ n _ => n, fun b ob q _ => ⟨ob, k b ob q⟩, fun _ _ q => q, fun _ _ _ q => q, fun _ ps q => ⟨#[], by rw [q]; simp⟩⟩
theorem Un.refl : Un fs ex H H h h := Un.kept fun _ _ q => q
theorem Un.laid (k : ∀ b u, h.get? b = some u → h'.get? b = some u) (hp : h.objs.size ≤ a) (hn : H a = none) : Un fs ex H (upd H a o) h h' where
  keep := fun b u q _ _ _ => k b u q
  slot := fun b u q _ _ _ => ⟨u.slots, k b u q⟩
  free := fun b u q n _ => by rw [upd_ne (Nat.ne_of_lt (Nat.lt_of_lt_of_le (Heap.lt_size q) hp))]; exact n
  there := fun b u q _ => ⟨u, k b u q⟩
  tups := fun b xs q => by rw [upd_ne (ne_of_none q hn)]; exact q
  frzs := fun b u xs q => by rw [upd_ne (ne_of_none q hn)]; exact q
  tbls := fun b ps q => ⟨#[], by rw [upd_ne (ne_of_none q hn), q]; simp⟩
theorem Un.write (mu : Mut (H x)) (he : e = x ∨ H e = some (.own x)) (k : ∀ b u, b ≠ e → h.get? b = some u → h'.get? b = some u) (heo : ∃ u, h'.get? e = some u) : Un fs ex H (upd H x o) h h' := by
  have hx : ∀ b, H b = none → b ≠ x := fun b n z => by subst z; rw [n] at mu; exact mu
  have hb : ∀ b, H b = none → b ≠ e := fun b n z => by
    subst z
    rcases he with r | r
    · exact hx b n r
    · rw [n] at r; cases r
  have hm : ∀ b u, H b = some u → ¬ Mut (some u) → b ≠ x := fun b u q nm z => by subst z; rw [q] at mu; exact nm mu
  refine ⟨fun b u q n _ _ => k b u (hb b n) q, fun b u q n _ _ => ⟨u.slots, k b u (hb b n) q⟩, fun b u q n _ => by rw [upd_ne (hx b n)]; exact n, fun b u q _ => ?_,
    fun b xs q => by rw [upd_ne (hm b _ q fun z => z)]; exact q, fun b u xs q => by rw [upd_ne (hm b _ q fun z => z)]; exact q, fun b ps q => ⟨#[], by rw [upd_ne (hm b _ q fun z => z), q]; simp⟩⟩
  by_cases hbe : b = e
  · subst hbe; exact heo
  · exact ⟨u, k b u hbe q⟩
end

noncomputable def trk (h : Heap) (H : Hp) : List Addr := (List.range h.objs.size).filter fun a => (H a).isSome
noncomputable def hidT (h : Heap) (H : Hp) : Heap := PySem.W.hideAll h (trk h H)
theorem hidT_size (h : Heap) (H : Hp) : (hidT h H).objs.size = h.objs.size := PySem.W.hideAll_size _ _
theorem hidT_get {h : Heap} {H : Hp} {b : Addr} {o : Obj} (e : h.get? b = some o) (n : H b = none) : (hidT h H).get? b = some o :=
  PySem.W.hideAll_get _ e fun hm => by
    have q : (H b).isSome = true := (List.mem_filter.mp hm).2
    rw [n] at q; simp at q
theorem of_hidT {h : Heap} {H : Hp} {b : Addr} {o : Obj} (e : (hidT h H).get? b = some o) : h.get? b = some o ∧ H b = none := by
  have e' : h.get? b = some o := PySem.W.of_hideAll (trk h H) e
  refine ⟨e', ?_⟩
  cases q : H b with
  | none => rfl
  | some x =>
    have hm : b ∈ trk h H := List.mem_filter.mpr ⟨List.mem_range.mpr (Heap.lt_size e'), by simp [q]⟩
    have z : (hidT h H).get? b = none := PySem.W.hideAll_none (trk h H) hm
    rw [z] at e; cases e

end L2

namespace L2
open PySem PySem.Spec PyProof.Rows

structure Mod (K : PySem.W.Frag) (mg : Str → Option Value) (base : Heap) : Prop where
  kin : K.In base
  glob : base.Ns mainGlobals mg
  blt : ∃ mb, base.Ns builtinsNs mb ∧ ∀ x : Str, x ≠ "__name__" → mb x = bootBuiltins x
  nolimit : base.NoLimit

structure Cx where
  prog : Program
  w : World
  K : PySem.W.Frag
  mg : Str → Option Value
  base : Heap
  A : Around
  N : List Str
  s₀ : Shared
  H₀ : Hp
  env : Env
  outer : List Env
  stack : List Env
  ex : List Addr
  fn : Str → Bool
  calm : Bool
  pn : List (Addr × Obj)
  xe : Value → Shared → Prop
noncomputable def frs (l : List Env) : List Addr := l.filterMap (·.frame)
noncomputable abbrev Cx.fs (X : Cx) : List Addr := frs X.outer

noncomputable def Vis (sc : Scope) (x : Str) : Prop := sc.names.lookup x = some .local ∨ sc.names.lookup x = some .cell ∨ sc.names.lookup x = some .free
noncomputable def Loc (sc : Scope) (x : Str) : Prop := sc.names.lookup x = some .local ∨ sc.names.lookup x = some .cell
noncomputable def Look (env : Env) (h : Heap) (m : Str → Option Value) (x : Str) (u : Value) : Prop :=
  (env.kindOf x = some .local ∧ m x = some u) ∨ ((env.kindOf x = some .cell ∨ env.kindOf x = some .free) ∧ ∃ c, env.cells.lookup x = some c ∧ h.IsCell c (some u))

structure Cx.Ok (X : Cx) : Prop where
  mod : Mod X.K X.mg X.base
  kind : X.env.scope.kind = .function
  glob : X.env.globals = mainGlobals
  blt : X.env.builtins = builtinsNs
  above : X.s₀.heap.objs.size ≤ X.env.locals
  inj : ∀ x y c, X.env.cells.lookup x = some c → X.env.cells.lookup y = some c → x = y
  has : ∀ x, (X.env.kindOf x = some .cell ∨ X.env.kindOf x = some .free) → ∃ c, X.env.cells.lookup x = some c
  cab : ∀ x c, X.fn x = true → X.env.cells.lookup x = some c → X.s₀.heap.objs.size ≤ c
  hd : X.calm = true → X.A.handled = none
  frames : X.A.frames = some X.stack
  stk : X.stack = X.outer ∨ (X.stack = X.env :: X.outer ∧ X.env.frame = some X.env.locals)
  exf : ∀ b ∈ X.ex, b ≠ X.env.locals ∧ ∀ x c, X.env.cells.lookup x = some c → c ≠ b
  bs : ∀ b o, X.base.get? b = some o → X.s₀.heap.get? b = some o ∧ X.H₀ b = none
  bsz : X.base.objs.size ≤ X.s₀.heap.objs.size
  noex : ∀ b o, X.base.get? b = some o → b ∉ X.ex
  exfs : ∀ b ∈ X.ex, b ∉ X.fs
  funs : X.s₀.heap.FunFrames X.base X.outer
  frf : ∀ b ∈ X.fs, X.H₀ b = none

structure Inv (X : Cx) (pins : List (Addr × Obj)) (σ : List (Option V)) (H : Hp) (s : Shared) : Prop where
  ok : X.Ok
  os : s.os = X.s₀.os
  bare : AllBare s.gens
  base : Un X.fs X.ex X.H₀ H X.s₀.heap s.heap
  loc : ∃ m, s.heap.Ns X.env.locals m ∧ ∀ (i : Nat) (x : Str) (v : V), X.N[i]? = some x → σ[i]? = some (some v) → Vis X.env.scope x → ∃ u, RelV v u ∧ Look X.env s.heap m x u
  cell : ∀ x c, X.env.cells.lookup x = some c → ∃ v, s.heap.IsCell c v
  free : H X.env.locals = none
  freeC : ∀ x c, X.env.cells.lookup x = some c → H c = none
  pin : ∀ p ∈ X.pn ++ pins, s.heap.get? p.1 = some p.2 ∧ H p.1 = none ∧ p.1 ≠ X.env.locals ∧ p.1 ∉ X.fs ∧ ∀ v, p.2.data ≠ .cell v
  hok : HOk X.prog X.w H s.heap
  len : σ.length = X.N.length

section
variable {X : Cx} {pins : List (Addr × Obj)} {σ : List (Option V)} {H H' : Hp} {s : Shared} {h' : Heap}

theorem Cx.Ok.nofr (ok : X.Ok) {b : Addr} {o : Obj} (e : X.base.get? b = some o) : b ∉ X.fs := fun hb => by
  have := (ok.funs.mem hb).1
  rw [e] at this; cases this
theorem Inv.bs (I : Inv X pins σ H s) : ∀ b o, X.base.get? b = some o → s.heap.get? b = some o ∧ H b = none := fun b o e =>
  ⟨I.base.keep b o (I.ok.bs b o e).1 (I.ok.bs b o e).2 (I.ok.nofr e) (I.ok.noex b o e), I.base.free b o (I.ok.bs b o e).1 (I.ok.bs b o e).2 (I.ok.noex b o e)⟩
theorem Inv.bk (I : Inv X pins σ H s) : ∀ b o, X.base.get? b = some o → s.heap.get? b = some o := fun b o e => (I.bs b o e).1
theorem Inv.mod (I : Inv X pins σ H s) : Mod X.K X.mg X.base := I.ok.mod
theorem Inv.kIn (I : Inv X pins σ H s) : X.K.In s.heap := I.ok.mod.kin.keeps I.bk
theorem Inv.lt (I : Inv X pins σ H s) : X.env.locals < s.heap.objs.size := let ⟨_, hn, _⟩ := I.loc; hn.lt
theorem Inv.sz (I : Inv X pins σ H s) : X.s₀.heap.objs.size ≤ s.heap.objs.size := Nat.le_trans I.ok.above (Nat.le_of_lt I.lt)
theorem Inv.nofs (I : Inv X pins σ H s) {a : Addr} (h : s.heap.objs.size ≤ a) : a ∉ X.fs := fun hb => by
  obtain ⟨_, o, ho, _⟩ := I.ok.funs.mem hb
  exact absurd (Nat.lt_of_lt_of_le (Heap.lt_size ho) (Nat.le_trans I.sz h)) (Nat.lt_irrefl _)
theorem Inv.cne (I : Inv X pins σ H s) : ∀ x c, X.env.cells.lookup x = some c → c ≠ X.env.locals := fun x c e z => by
  obtain ⟨v, o, ho, hd⟩ := I.cell x c e
  obtain ⟨m, ⟨o', es, ep, ho', hd', _⟩, _⟩ := I.loc
  rw [z, ho'] at ho; cases ho; rw [hd'] at hd; cases hd
theorem Inv.funs (I : Inv X pins σ H s) : s.heap.FunFrames X.base X.outer := by
  have all : ∀ (l : List Env), (∀ b ∈ frs l, b ∈ X.fs) → X.s₀.heap.FunFrames X.base l → s.heap.FunFrames X.base l := by
    intro l
    induction l with
    | nil => intro _ _; trivial
    | cons env r ih =>
      intro hs hl
      obtain ⟨hk, ⟨L, o, hf, hn, ho, hd⟩, hr⟩ := hl
      have hL : L ∈ X.fs := hs L (by unfold frs; rw [List.filterMap_cons, hf]; exact List.mem_cons_self)
      obtain ⟨sl, e⟩ := I.base.slot L o ho (I.ok.frf L hL) hL fun z => I.ok.exfs L z hL
      exact ⟨hk, ⟨L, _, hf, hn, e, hd⟩, ih (fun b hb => hs b (by unfold frs; rw [List.filterMap_cons, hf]; exact List.mem_cons_of_mem _ hb)) hr⟩
  exact all X.outer (fun _ hb => hb) I.ok.funs

theorem Inv.stack (I : Inv X pins σ H s) : s.heap.FunFrames X.base X.stack := by
  rcases I.ok.stk with e | ⟨e, hf⟩
  · rw [e]; exact I.funs
  · rw [e]
    obtain ⟨m, hn, _⟩ := I.loc
    refine .cons (by rw [I.ok.kind]; decide) hf hn ?_ I.funs
    exact Heap.get?_none_of_le (Nat.le_trans I.ok.bsz I.ok.above)
theorem Inv.stkSub (I : Inv X pins σ H s) : ∀ b ∈ frs X.stack, b ∈ X.env.locals :: X.fs := fun b hb => by
  rcases I.ok.stk with e | ⟨e, hf⟩
  · rw [e] at hb; exact List.mem_cons_of_mem _ hb
  · rw [e] at hb
    unfold frs at hb
    rw [List.filterMap_cons, hf] at hb
    exact hb
theorem Inv.stkFree (I : Inv X pins σ H s) : ∀ b ∈ frs X.stack, H b = none := fun b hb => by
  rcases List.mem_cons.mp (I.stkSub b hb) with e | hb
  · rw [e]; exact I.free
  · obtain ⟨_, o, ho, _⟩ := I.ok.funs.mem hb
    exact I.base.free b o ho (I.ok.frf b hb) fun z => I.ok.exfs b z hb

theorem Inv.step {g' : Array GenState} {t' : Nat} {d' : Drawn} {ch : List Addr} (I : Inv X pins σ H s)
    (hch : ∀ b ∈ ch, (b ∈ X.ex ∨ X.s₀.heap.objs.size ≤ b) ∧ b ≠ X.env.locals ∧ (∀ x c, X.env.cells.lookup x = some c → c ≠ b) ∧ ∀ p ∈ X.pn ++ pins, p.1 ≠ b)
    (keep : ∀ b o, b ≠ X.env.locals → b ∉ X.fs → b ∉ ch → s.heap.get? b = some o → H b = none → h'.get? b = some o)
    (slot : ∀ b o, b ≠ X.env.locals → b ∈ X.fs → b ∉ ch → s.heap.get? b = some o → H b = none → ∃ sl, h'.get? b = some { o with slots := sl }) (free : ∀ b o, b ∉ ch → s.heap.get? b = some o → H b = none → H' b = none)
    (there : ∀ b o, b ∉ ch → s.heap.get? b = some o → ∃ o', h'.get? b = some o')
    (tups : ∀ b xs, H b = some (.tup xs) → H' b = some (.tup xs)) (frzs : ∀ b o u, H b = some (.frz o u) → H' b = some (.frz o u)) (tbls : ∀ b ps, H b = some (.tbl ps) → ∃ more, H' b = some (.tbl (ps ++ more)))
    (ns : ∀ m, s.heap.Ns X.env.locals m → h'.Ns X.env.locals m) (hok : HOk X.prog X.w H' h') (hg : AllBare g') :
    Inv X pins σ H' { s with heap := h', gens := g', drawn := d', toks := t' } := by
  have neL : ∀ b o, X.s₀.heap.get? b = some o → b ≠ X.env.locals := fun b o e => Nat.ne_of_lt (Nat.lt_of_lt_of_le (Heap.lt_size e) I.ok.above)
  have neC : ∀ b o, X.s₀.heap.get? b = some o → b ∉ X.ex → b ∉ ch := fun b o e hx hb => by
    rcases (hch b hb).1 with z | z
    · exact hx z
    · exact absurd (Nat.lt_of_lt_of_le (Heap.lt_size e) z) (Nat.lt_irrefl _)
  have cellK : ∀ x c, X.env.cells.lookup x = some c → ∀ v, s.heap.IsCell c v → h'.IsCell c v := fun x c e v ⟨o, ho, hd⟩ => by
    have nch : c ∉ ch := fun z => (hch c z).2.2.1 x c e rfl
    by_cases hc : c ∈ X.fs
    · obtain ⟨sl, q⟩ := slot c o (I.cne x c e) hc nch ho (I.freeC x c e)
      exact ⟨_, q, hd⟩
    · exact ⟨o, keep c o (I.cne x c e) hc nch ho (I.freeC x c e), hd⟩
  refine ⟨I.ok, I.os, hg, ⟨fun b o e n hb hx => ?_, fun b o e n hb hx => ?_, fun b o e n hx => ?_, fun b o e hx => ?_, fun b xs e => tups b xs (I.base.tups b xs e), fun b o xs e => frzs b o xs (I.base.frzs b o xs e), fun b ps e => ?_⟩, ?_, fun x c e => ?_, ?_, fun x c e => ?_, fun p hp => ?_, hok, I.len⟩
  · exact keep b o (neL b o e) hb (neC b o e hx) (I.base.keep b o e n hb hx) (I.base.free b o e n hx)
  · obtain ⟨sl, e1⟩ := I.base.slot b o e n hb hx
    obtain ⟨sl', e2⟩ := slot b _ (neL b o e) hb (neC b o e hx) e1 (I.base.free b o e n hx)
    exact ⟨sl', e2⟩
  · obtain ⟨o', e1⟩ := I.base.there b o e hx
    exact free b o' (neC b o e hx) e1 (I.base.free b o e n hx)
  · obtain ⟨o', e1⟩ := I.base.there b o e hx
    exact there b o' (neC b o e hx) e1
  · obtain ⟨m1, e1⟩ := I.base.tbls b ps e
    obtain ⟨m2, e2⟩ := tbls b _ e1
    exact ⟨m1 ++ m2, by rw [e2, Array.append_assoc]⟩
  · obtain ⟨m, hn, hl⟩ := I.loc
    refine ⟨m, ns m hn, fun i x v e1 e2 e3 => ?_⟩
    obtain ⟨u, r, l⟩ := hl i x v e1 e2 e3
    refine ⟨u, r, ?_⟩
    rcases l with l | ⟨k, c, e, z⟩
    · exact .inl l
    · exact .inr ⟨k, c, e, cellK x c e _ z⟩
  · obtain ⟨v, z⟩ := I.cell x c e
    exact ⟨v, cellK x c e v z⟩
  · obtain ⟨m, ⟨o, _, _, ho, _⟩, _⟩ := I.loc
    exact free _ o (fun z => (hch _ z).2.1 rfl) ho I.free
  · obtain ⟨v, o, ho, hd⟩ := I.cell x c e
    exact free c o (fun z => (hch c z).2.2.1 x c e rfl) ho (I.freeC x c e)
  · obtain ⟨e, n, ne, nf, d⟩ := I.pin p hp
    have nch : p.1 ∉ ch := fun z => (hch p.1 z).2.2.2 p hp rfl
    exact ⟨keep p.1 p.2 ne nf nch e n, free p.1 p.2 nch e n, ne, nf, d⟩
theorem Inv.un {t' : Nat} (I : Inv X pins σ H s) (u : Un X.fs [] H H' s.heap h') (hok : HOk X.prog X.w H' h') : Inv X pins σ H' { s with heap := h', toks := t' } := by
  obtain ⟨m, ⟨o, es, ep, ho, r⟩, _⟩ := id I.loc
  obtain ⟨sl, hL⟩ := u.any ho I.free (by simp)
  exact I.step (g' := s.gens) (d' := s.drawn) (ch := []) (fun _ z => nomatch z) (fun b o _ hb _ e n => u.keep b o e n hb (by simp)) (fun b o _ hb _ e n => u.slot b o e n hb (by simp)) (fun b o _ e n => u.free b o e n (by simp)) (fun b o _ e => u.there b o e (by simp)) u.tups u.frzs u.tbls (fun m' hm => by
    obtain ⟨o', es', ep', ho', r'⟩ := hm
    rw [ho] at ho'; cases ho'
    exact ⟨_, es', ep', hL, r'⟩) hok I.bare
theorem Inv.call {g' : Array GenState} {t' : Nat} {d' : Drawn} {ch : List Addr} (I : Inv X pins σ H s) (u : Un (frs X.stack) ch H H' s.heap h') (hok : HOk X.prog X.w H' h') (hg : AllBare g')
    (hch : ∀ b ∈ ch, (b ∈ X.ex ∨ X.s₀.heap.objs.size ≤ b) ∧ b ≠ X.env.locals ∧ (∀ x c, X.env.cells.lookup x = some c → c ≠ b) ∧ ∀ p ∈ X.pn ++ pins, p.1 ≠ b) :
    Inv X pins σ H' { s with heap := h', gens := g', drawn := d', toks := t' } := by
  obtain ⟨m, ⟨o, es, ep, ho, r⟩, _⟩ := id I.loc
  obtain ⟨sl, hL⟩ := u.any ho I.free fun z => (hch _ z).2.1 rfl
  exact I.step (ch := ch) hch (fun b o hL hb hc e n => u.keep b o e n (fun z => (List.mem_cons.mp (I.stkSub b z)).elim hL hb) hc) (fun b o _ _ hc e n => u.any e n hc) (fun b o hc e n => u.free b o e n hc) (fun b o hc e => u.there b o e hc) u.tups u.frzs u.tbls (fun m' hm => by
    obtain ⟨o', es', ep', ho', r'⟩ := hm
    rw [ho] at ho'; cases ho'
    exact ⟨_, es', ep', hL, r'⟩) hok hg
theorem Inv.turned {t' : Nat} {it : Addr} (I : Inv X pins σ H s) (k : ∀ b o, b ≠ it → s.heap.get? b = some o → h'.get? b = some o) (hn : H it = none) (hL : it ≠ X.env.locals)
    (h1 : it ∈ X.ex ∨ X.s₀.heap.objs.size ≤ it) (h2 : ∀ x c, X.env.cells.lookup x = some c → c ≠ it) (h3 : ∀ p ∈ X.pn ++ pins, p.1 ≠ it) : Inv X pins σ H { s with heap := h', toks := t' } := by
  have nit : ∀ b u, H b = some u → b ≠ it := fun b u e z => by rw [z, hn] at e; cases e
  refine I.step (g' := s.gens) (d' := s.drawn) (ch := [it]) (fun b hb => ?_) (fun b o _ _ hc e _ => k b o (fun z => hc (by simp [z])) e) (fun b o _ _ hc e _ => ⟨o.slots, k b o (fun z => hc (by simp [z])) e⟩) (fun _ _ _ _ n => n)
    (fun b o hc e => ⟨o, k b o (fun z => hc (by simp [z])) e⟩) (fun _ _ e => e) (fun _ _ _ e => e) (fun b ps e => ⟨#[], by rw [e]; simp⟩) (fun m hm => ?_) (fun b u e => ?_) I.bare
  · have e : b = it := by simpa using hb
    subst e
    exact ⟨h1, hL, h2, h3⟩
  · obtain ⟨o, es, ep, ho, r⟩ := hm
    exact ⟨o, es, ep, k _ o (Ne.symm hL) ho, r⟩
  · refine (I.hok b u e).stay (fun c v hc q => k c v ?_ q) (fun _ q => q) fun _ _ q => q
    rcases hc with z | z
    · rw [z]; exact nit b u e
    · exact nit c _ z
theorem Inv.tok (I : Inv X pins σ H s) (t : Nat) : Inv X pins σ H { s with toks := t } := I.un (h' := s.heap) (t' := t) Un.refl I.hok
theorem Inv.kept {t' : Nat} (I : Inv X pins σ H s) (k : ∀ b u, s.heap.get? b = some u → h'.get? b = some u) : Inv X pins σ H { s with heap := h', toks := t' } := I.un (Un.kept k) (I.hok.kept k)
theorem Inv.laid {a : Addr} {o : HO} {t' : Nat} (I : Inv X pins σ H s) (k : ∀ b u, s.heap.get? b = some u → h'.get? b = some u) (hp : s.heap.objs.size ≤ a) (new : ObjOk X.prog X.w (upd H a o) h' a o) :
    Inv X pins σ (upd H a o) { s with heap := h', toks := t' } := I.un (Un.laid k hp (I.hok.fresh hp)) (I.hok.laid k hp new)
theorem Inv.write {x e : Addr} {o : HO} {t' : Nat} (I : Inv X pins σ H s) (mu : Mut (H x)) (he : e = x ∨ H e = some (.own x)) (k : ∀ b u, b ≠ e → s.heap.get? b = some u → h'.get? b = some u) (heo : ∃ u, h'.get? e = some u)
    (new : ObjOk X.prog X.w (upd H x o) h' x o) : Inv X pins σ (upd H x o) { s with heap := h', toks := t' } := I.un (Un.write mu he k heo) (I.hok.write mu he k heo new)
theorem Inv.weak {σ' : List (Option V)} (I : Inv X pins σ H s) (hl : σ'.length = σ.length) (w : ∀ (i : Nat) v, σ'[i]? = some (some v) → σ[i]? = some (some v)) : Inv X pins σ' H s :=
  ⟨I.ok, I.os, I.bare, I.base, let ⟨m, hn, hl'⟩ := I.loc; ⟨m, hn, fun i x v e1 e2 e3 => hl' i x v e1 (w i v e2) e3⟩, I.cell, I.free, I.freeC, I.pin, I.hok, hl.trans I.len⟩
theorem Inv.pins_of {pins' : List (Addr × Obj)} (I : Inv X pins σ H s) (h : ∀ p ∈ pins', s.heap.get? p.1 = some p.2 ∧ H p.1 = none ∧ p.1 ≠ X.env.locals ∧ p.1 ∉ X.fs ∧ ∀ v, p.2.data ≠ .cell v) : Inv X pins' σ H s :=
  ⟨I.ok, I.os, I.bare, I.base, I.loc, I.cell, I.free, I.freeC, fun p hp => (List.mem_append.mp hp).elim (fun z => I.pin p (List.mem_append_left _ z)) (h p), I.hok, I.len⟩

theorem nodup_ix {N : List Str} (hN : N.Nodup) {i j : Nat} {x : Str} (a : N[i]? = some x) (b : N[j]? = some x) : i = j := by
  obtain ⟨h1, e1⟩ := List.getElem?_eq_some_iff.mp a
  obtain ⟨h2, e2⟩ := List.getElem?_eq_some_iff.mp b
  exact (List.getElem_inj hN).mp (e1.trans e2.symm)

theorem store_ok2 {M : Model} {A : Around} {E : Value → Shared → Prop} {i : Nat} {x : Str} {v : V} {u : Value} {Q : Unit → Shared → Prop} (I : Inv X pins σ H s) (hN : X.N.Nodup) (hi : X.N[i]? = some x) (hx : Loc X.env.scope x) (r : RelV v u)
    (h : ∀ s', Inv X pins (σ.set i (some v)) H s' → (∃ a, Heap.SameBut a s.heap s'.heap ∧ (a = X.env.locals ∨ X.env.cells.lookup x = some a)) → Q () s') (hf : X.fn x = true ∨ X.env.scope.names.lookup x = some .local := by first | exact .inl rfl | exact .inr rfl | assumption) : wpAny M A (storeName X.env x u) Q E s := by
  obtain ⟨m, hn, hl⟩ := id I.loc
  have hcls : (X.env.scope.kind == .class || (X.env.scope.kind == .module && X.env.locals != X.env.globals)) = false := by rw [I.ok.kind]; rfl
  have hiσ : i < σ.length := by rw [I.len]; exact (List.getElem?_eq_some_iff.mp hi).1
  have cne := I.cne
  have tracked : ∀ {a : Addr} {h' : Heap}, (∃ o, s.heap.get? a = some o ∧ H a = none) → Heap.SameBut a s.heap h' → HOk X.prog X.w H h' := fun {a h'} ha hs b ob e => by
    obtain ⟨_, _, hfree⟩ := ha
    refine (I.hok b ob e).stay (fun c w' hc q => (hs.2 c ?_).trans q) (fun _ q => q) fun _ _ q => q
    rintro rfl
    rcases hc with rfl | hc
    · rw [hfree] at e; cases e
    · rw [hfree] at hc; cases hc
  rcases hx with hk | hk
  · refine wpAny_storeName_local hk hn (fun h' hn' hs => ?_) hcls
    obtain ⟨oL, _, _, hoL, _⟩ := id hn
    refine h _ ⟨I.ok, I.os, I.bare, ⟨fun b o e n hb hx => ?_, fun b o e n hb hx => ?_, I.base.free, fun b o e hx => ?_, I.base.tups, I.base.frzs, I.base.tbls⟩, ⟨_, hn', fun j y v' e1 e2 e3 => ?_⟩, fun y c e => ?_, I.free, I.freeC, fun p hp => ?_, tracked ⟨oL, hoL, I.free⟩ hs, by simpa using I.len⟩ ⟨_, hs, .inl rfl⟩
    · exact (hs.2 b (Nat.ne_of_lt (Nat.lt_of_lt_of_le (Heap.lt_size e) I.ok.above))).trans (I.base.keep b o e n hb hx)
    · obtain ⟨sl, e1⟩ := I.base.slot b o e n hb hx
      exact ⟨sl, (hs.2 b (Nat.ne_of_lt (Nat.lt_of_lt_of_le (Heap.lt_size e) I.ok.above))).trans e1⟩
    · obtain ⟨o', e1⟩ := I.base.there b o e hx
      exact ⟨o', (hs.2 b (Nat.ne_of_lt (Nat.lt_of_lt_of_le (Heap.lt_size e) I.ok.above))).trans e1⟩
    · by_cases hj : j = i
      · subst hj
        rw [hi] at e1; cases e1
        rw [List.getElem?_set_self hiσ] at e2
        cases e2
        exact ⟨u, r, .inl ⟨hk, by simp⟩⟩
      · rw [List.getElem?_set_ne (Ne.symm hj)] at e2
        obtain ⟨u', r', q⟩ := hl j y v' e1 e2 e3
        refine ⟨u', r', ?_⟩
        rcases q with ⟨k, e⟩ | ⟨k, c, e, z⟩
        · refine .inl ⟨k, ?_⟩
          have : y ≠ x := fun e => hj (nodup_ix hN e1 (e ▸ hi))
          simp [this, e]
        · exact .inr ⟨k, c, e, z.sameBut hs (cne y c e)⟩
    · obtain ⟨w', z⟩ := I.cell y c e
      exact ⟨w', z.sameBut hs (cne y c e)⟩
    · obtain ⟨e, n, ne, nf, d⟩ := I.pin p hp
      exact ⟨(hs.2 p.1 ne).trans e, n, ne, nf, d⟩
  · have hfn : X.fn x = true := by
      rcases hf with z | z
      · exact z
      · rw [z] at hk; cases hk
    obtain ⟨c, hc⟩ := I.ok.has x (.inl hk)
    obtain ⟨w', z⟩ := I.cell x c hc
    refine wpAny_storeName_cell I.ok.kind hk hc z (fun h' hc' hs => ?_)
    obtain ⟨oc, hoc, hocd⟩ := id z
    refine h { s with heap := h' } ⟨I.ok, I.os, I.bare, ⟨fun b o e n hb hx => ?_, fun b o e n hb hx => ?_, I.base.free, fun b o e hx => ?_, I.base.tups, I.base.frzs, I.base.tbls⟩, ⟨m, hn.sameBut hs (Ne.symm (cne x c hc)), fun j y v' e1 e2 e3 => ?_⟩, fun y c' e => ?_, I.free, I.freeC, fun p hp => ?_, tracked ⟨oc, hoc, I.freeC x c hc⟩ hs, by simpa using I.len⟩ ⟨c, hs, .inr hc⟩
    · exact (hs.2 b (Nat.ne_of_lt (Nat.lt_of_lt_of_le (Heap.lt_size e) (I.ok.cab x c hfn hc)))).trans (I.base.keep b o e n hb hx)
    · obtain ⟨sl, e1⟩ := I.base.slot b o e n hb hx
      exact ⟨sl, (hs.2 b (Nat.ne_of_lt (Nat.lt_of_lt_of_le (Heap.lt_size e) (I.ok.cab x c hfn hc)))).trans e1⟩
    · obtain ⟨o', e1⟩ := I.base.there b o e hx
      exact ⟨o', (hs.2 b (Nat.ne_of_lt (Nat.lt_of_lt_of_le (Heap.lt_size e) (I.ok.cab x c hfn hc)))).trans e1⟩
    · by_cases hj : j = i
      · subst hj
        rw [hi] at e1; cases e1
        rw [List.getElem?_set_self hiσ] at e2
        cases e2
        exact ⟨u, r, .inr ⟨.inl hk, c, hc, hc'⟩⟩
      · rw [List.getElem?_set_ne (Ne.symm hj)] at e2
        obtain ⟨u', r', q⟩ := hl j y v' e1 e2 e3
        refine ⟨u', r', ?_⟩
        rcases q with q | ⟨k, c', e, z'⟩
        · exact .inl q
        · refine .inr ⟨k, c', e, z'.sameBut hs ?_⟩
          rintro rfl
          exact hj (nodup_ix hN e1 (I.ok.inj _ _ _ e hc ▸ hi))
    · by_cases hcc : c' = c
      · subst hcc; exact ⟨_, hc'⟩
      · obtain ⟨w2, z2⟩ := I.cell y c' e
        exact ⟨w2, z2.sameBut hs hcc⟩
    · obtain ⟨e, n, ne, nf, d⟩ := I.pin p hp
      refine ⟨(hs.2 p.1 ?_).trans e, n, ne, nf, d⟩
      intro q
      rw [q, hoc] at e
      have q' : oc = p.2 := Option.some.inj e
      exact d w' (by rw [← q']; exact hocd)
theorem store_ok {M : Model} {A : Around} {E : Value → Shared → Prop} {i : Nat} {x : Str} {v : V} {u : Value} {Q : Unit → Shared → Prop} (I : Inv X pins σ H s) (hN : X.N.Nodup) (hi : X.N[i]? = some x) (hx : Loc X.env.scope x) (r : RelV v u)
    (h : ∀ s', Inv X pins (σ.set i (some v)) H s' → Q () s') (hf : X.fn x = true ∨ X.env.scope.names.lookup x = some .local := by first | exact .inl rfl | exact .inr rfl | assumption) : wpAny M A (storeName X.env x u) Q E s :=
  store_ok2 I hN hi hx r (fun s' I' _ => h s' I') hf
theorem Inv.call' {s' : Shared} {ch : List Addr} (I : Inv X pins σ H s) (ho : s'.os = s.os) (u : Un (frs X.stack) ch H H' s.heap s'.heap) (hok : HOk X.prog X.w H' s'.heap) (hg : AllBare s'.gens)
    (hch : ∀ b ∈ ch, (b ∈ X.ex ∨ X.s₀.heap.objs.size ≤ b) ∧ b ≠ X.env.locals ∧ (∀ x c, X.env.cells.lookup x = some c → c ≠ b) ∧ ∀ p ∈ X.pn ++ pins, p.1 ≠ b) : Inv X pins σ H' s' := by
  obtain ⟨h', g', d', t', o'⟩ := s'
  have e : o' = s.os := ho
  subst e
  exact I.call (g' := g') (t' := t') (d' := d') u hok hg hch
end

noncomputable abbrev XK := Value → Option Addr → Hp → Prop
noncomputable abbrev St := List (Option V)
noncomputable abbrev VK := V → Hp → Prop
noncomputable abbrev TE := St → Hp → VK → Prop
noncomputable abbrev TT := St → Hp → (Bool → Hp → Prop) → Prop
noncomputable abbrev TA := St → Hp → (List V → Hp → Prop) → Prop
structure Ends where
  nx : St → Hp → Prop
  rt : VK
  bk : St → Hp → Prop := fun _ _ => False
  ct : St → Hp → Prop := fun _ _ => False
noncomputable abbrev TS := Ends → St → Hp → Prop

noncomputable def EP (X : Cx) (pins : List (Addr × Obj)) (σ : St) (Q : VK) (u : Value) (s' : Shared) : Prop := ∃ v H', Inv X pins σ H' s' ∧ RelV v u ∧ Q v H'
noncomputable def TP (X : Cx) (pins : List (Addr × Obj)) (σ : St) (Q : Bool → Hp → Prop) (b : Bool) (s' : Shared) : Prop := ∃ H', Inv X pins σ H' s' ∧ Q b H'
noncomputable def AP (X : Cx) (pins : List (Addr × Obj)) (σ : St) (Q : List V → Hp → Prop) (us : List Value) (s' : Shared) : Prop := ∃ vs H', Inv X pins σ H' s' ∧ Vals vs us ∧ Q vs H'
noncomputable def SP (X : Cx) (pins : List (Addr × Obj)) (D : Ends) (f : Flow) (s' : Shared) : Prop :=
  match f with
  | .next => ∃ σ' H', Inv X pins σ' H' s' ∧ D.nx σ' H'
  | .brk => ∃ σ' H', Inv X pins σ' H' s' ∧ D.bk σ' H'
  | .cont => ∃ σ' H', Inv X pins σ' H' s' ∧ D.ct σ' H'
  | .ret u => ∃ v σ' H', Inv X pins σ' H' s' ∧ RelV v u ∧ D.rt v H'

noncomputable def PE (X : Cx) (e : Expr) (t : TE) : Prop :=
  ∀ (pins : List (Addr × Obj)) (s : Shared) (σ : St) (H : Hp) (Q : VK), Inv X pins σ H s → t σ H Q → wpAny (model X.prog X.w) X.A (eval e X.env) (EP X pins σ Q) X.xe s
noncomputable def PT (X : Cx) (e : Expr) (t : TT) : Prop :=
  ∀ (pins : List (Addr × Obj)) (s : Shared) (σ : St) (H : Hp) (Q : Bool → Hp → Prop), Inv X pins σ H s → t σ H Q → wpAny (model X.prog X.w) X.A (isTrue e X.env (eval e X.env)) (TP X pins σ Q) X.xe s
noncomputable def PW (X : Cx) (e : Expr) (t : TT) : Prop :=
  ∀ (whole : Sem Value) (pins : List (Addr × Obj)) (s : Shared) (σ : St) (H : Hp) (Q : Bool → Hp → Prop), Inv X pins σ H s → t σ H Q → wpAny (model X.prog X.w) X.A (isTrue e X.env whole) (TP X pins σ Q) X.xe s
theorem PW.pt {X : Cx} {e : Expr} {t : TT} (h : PW X e t) : PT X e t := h _
noncomputable def PA (X : Cx) (es : List Expr) (t : TA) : Prop :=
  ∀ (pos : Pos) (pins : List (Addr × Obj)) (s : Shared) (σ : St) (H : Hp) (Q : List V → Hp → Prop), Inv X pins σ H s → t σ H Q → wpAny (model X.prog X.w) X.A (spliced (backTo pos (starEach es X.env))) (AP X pins σ Q) X.xe s
noncomputable def PS (X : Cx) (st : Stmt) (t : TS) : Prop :=
  ∀ (pins : List (Addr × Obj)) (s : Shared) (σ : St) (H : Hp) (D : Ends), Inv X pins σ H s → t D σ H → wpAny (model X.prog X.w) X.A (exec st X.env) (SP X pins D) X.xe s
noncomputable def PSs (X : Cx) (st : List Stmt) (t : TS) : Prop :=
  ∀ (pins : List (Addr × Obj)) (s : Shared) (σ : St) (H : Hp) (D : Ends), Inv X pins σ H s → t D σ H → wpAny (model X.prog X.w) X.A (execs st X.env) (SP X pins D) X.xe s
theorem thn {α : Type} {t : Sem α} {Q Q' : α → Shared → Prop} {M : Model} {A : Around} {E : Value → Shared → Prop} {s : Shared} (h : wpAny M A t Q E s) (hQ : ∀ a s, Q a s → Q' a s) : wpAny M A t Q' E s := wpAny_mono h hQ fun _ _ x => x
end L2

namespace L2
open PySem PySem.Spec PyProof.Rows
section
variable {X : Cx}

noncomputable def tVar (i : Nat) : TE := fun σ H Q => ∃ v, σ[i]? = some (some v) ∧ Q v H
noncomputable def tC (v : V) : TE := fun _ H Q => Q v H
theorem pe_var {i : Nat} {x : Str} {pos : Pos} (hN : X.N[i]? = some x) (hv : Vis X.env.scope x) (hd : (x == ("__debug__" : Str)) = false := by decide) (hcd : (x == ("__classdict__" : Str)) = false := by decide) : PE X (.Name x pos) (tVar i) := by
  intro pins s σ H Q I h
  obtain ⟨v, e, h⟩ := h
  obtain ⟨m, hn, hl⟩ := I.loc
  obtain ⟨u, r, l⟩ := hl i x v hN e hv
  have fin : EP X pins σ Q u s := ⟨v, H, I, r, h⟩
  rcases l with ⟨hk, hm⟩ | ⟨hk, c, hc, hcell⟩
  · exact wpAny_Name (wpAny_loadName_local I.ok.kind hk hn hm fin) hd
  · rcases hk with hk | hk
    · exact wpAny_Name (wpAny_loadName_cell I.ok.kind hk hc hcell fin) hd
    · exact wpAny_Name (wpAny_loadName_free I.ok.kind hk hc hcell fin hcd) hd
theorem pe_int {i j pos} : PE X (.Constant (.int i) j pos) (tC (.int i)) := fun _ _ _ H _ I h => wpAny_Constant_int ⟨.int i, H, I.tok _, ⟨_, rfl⟩, h⟩
theorem pe_bl {b j pos} : PE X (.Constant (.bool b) j pos) (tC (.bl b)) := fun _ _ _ H _ I h => Constant_bool ⟨.bl b, H, I, rfl, h⟩
theorem pe_non {j pos} : PE X (.Constant .none j pos) (tC .non) := fun _ _ _ H _ I h => Constant_none ⟨.non, H, I, rfl, h⟩
theorem pe_str {x j pos} : PE X (.Constant (.str x) j pos) (tC (.str x)) := fun _ _ _ H _ I h => Calls.Constant_str ⟨.str x, H, I.tok _, ⟨_, rfl⟩, h⟩

noncomputable def Gl (X : Cx) (x : Str) : Prop := X.env.kindOf x = some .globalImplicit
theorem ld_glob {E : Value → Shared → Prop} {pins : List (Addr × Obj)} {s : Shared} {σ : St} {H : Hp} {x : Str} {u : Value} {pos : Pos} {Q : Value → Shared → Prop} (I : Inv X pins σ H s) (hg : Gl X x) (hm : X.mg x = some u) (h : Q u s)
    (hd : (x == ("__debug__" : Str)) = false := by decide) : wpAny (model X.prog X.w) X.A (eval (.Name x pos) X.env) Q E s :=
  Calls.Name_function_global I.ok.kind hg (Calls.loadGlobal_global (by rw [I.ok.glob]; exact I.mod.glob.keeps I.bk) hm h) hd
theorem ld_blt {E : Value → Shared → Prop} {pins : List (Addr × Obj)} {s : Shared} {σ : St} {H : Hp} {x : Str} {u : Value} {pos : Pos} {Q : Value → Shared → Prop} (I : Inv X pins σ H s) (hg : Gl X x) (hm : X.mg x = none) (hv : bootBuiltins x = some u) (h : Q u s)
    (hn : x ≠ "__name__" := by decide) (hd : (x == ("__debug__" : Str)) = false := by decide) : wpAny (model X.prog X.w) X.A (eval (.Name x pos) X.env) Q E s := by
  obtain ⟨mb, h1, h2⟩ := I.mod.blt
  exact Calls.Name_function_global I.ok.kind hg (Calls.loadGlobal_builtin (by rw [I.ok.glob]; exact I.mod.glob.keeps I.bk) hm (by rw [I.ok.blt]; exact h1.keeps I.bk) ((h2 x hn).trans hv) h) hd
theorem pe_glob {x : Str} {v : V} {u : Value} {pos : Pos} (hg : Gl X x) (hm : X.mg x = some u) (r : RelV v u) (hd : (x == ("__debug__" : Str)) = false := by decide) : PE X (.Name x pos) (tC v) :=
  fun _ _ _ H _ I h => ld_glob I hg hm ⟨v, H, I, r, h⟩ hd
theorem pe_bltn {x : Str} {v : V} {u : Value} {pos : Pos} (hg : Gl X x) (hm : X.mg x = none) (hv : bootBuiltins x = some u) (r : RelV v u) (hn : x ≠ "__name__" := by decide) (hd : (x == ("__debug__" : Str)) = false := by decide) : PE X (.Name x pos) (tC v) :=
  fun _ _ _ H _ I h => ld_blt I hg hm hv ⟨v, H, I, r, h⟩ hn hd

variable {a b : Expr} {ta tb : TE} {pos : Pos}
noncomputable def PC (X : Cx) (op : CmpOp) (a b : Expr) (t : TE) : Prop :=
  ∀ (pins : List (Addr × Obj)) (s : Shared) (σ : St) (H : Hp) (Q : VK), Inv X pins σ H s → t σ H Q →
    wpAny (model X.prog X.w) X.A (eval a X.env) (fun v s₁ => wpAny (model X.prog X.w) X.A (eval b X.env) (fun u s₂ => wpAny (model X.prog X.w) X.A (compareOp op v u) (EP X pins σ Q) X.xe s₂) X.xe s₁) X.xe s
noncomputable def tB (t : TE) : TT := fun σ H Q => t σ H fun x H1 => ∃ c, x = .bl c ∧ Q c H1
theorem pt_cmp {op : CmpOp} {t : TE} (h : PC X op a b t) (h1 : behindInMarks op b = false := by first | exact nobehind _ (by decide) (by decide) | rfl) : PT X (.Compare a [op] [b] pos) (tB t) := by
  intro pins s σ H Q I hw
  refine wpAny_isTrue_Compare1 (thn (h pins s σ H _ I hw) fun v s1 h1 => thn h1 fun u s2 h2 => thn h2 fun c s3 ⟨x, H1, I1, r1, q1⟩ => ?_) h1
  obtain ⟨d, rfl, q⟩ := q1
  cases r1
  exact wpAny_truthy_bool ⟨H1, I1, q⟩
theorem pt_val {e : Expr} {t : TE} (h : PE X e t) (he : ∀ whole, isTrue e X.env whole = (do let v ← whole; standAt e.pos; holding [v] (truthy v)) := by intro _; rfl) : PT X e (tB t) := by
  intro pins s σ H Q I hw
  refine isTrue_plain (thn (h pins s σ H _ I hw) fun v s1 ⟨x, H1, I1, r1, q1⟩ => ?_) (he _)
  obtain ⟨d, rfl, q⟩ := q1
  cases r1
  exact wpAny_truthy_bool ⟨H1, I1, q⟩

variable {tA tB' : TT} {rest : List Expr}
noncomputable def tAnd (t u : TT) : TT := fun σ H Q => t σ H fun c H1 => if c = true then u σ H1 Q else Q false H1
noncomputable def tOr (t u : TT) : TT := fun σ H Q => t σ H fun c H1 => if c = true then Q true H1 else u σ H1 Q
noncomputable def tNot (t : TT) : TT := fun σ H Q => t σ H fun c H1 => Q (!c) H1
theorem pw_and1 (ha : PT X a tA) : PW X (.BoolOp .And [a] pos) tA := by
  intro wh pins s σ H Q I h
  refine isTrue_and (thn (ha pins s σ H Q I h) fun c s1 e => ?_)
  cases c with
  | true => exact isTrue_and_nil e
  | false => exact e
theorem pw_or1 (ha : PT X a tA) : PW X (.BoolOp .Or [a] pos) tA := by
  intro wh pins s σ H Q I h
  refine isTrue_or (thn (ha pins s σ H Q I h) fun c s1 e => ?_)
  cases c with
  | false => exact isTrue_or_nil e
  | true => exact e
theorem pw_and (ha : PT X a tA) (hb : PW X (.BoolOp .And (b :: rest) pos) tB') : PW X (.BoolOp .And (a :: b :: rest) pos) (tAnd tA tB') := by
  intro wh pins s σ H Q I h
  refine isTrue_and (thn (ha pins s σ H _ I h) fun c s1 ⟨H1, I1, q1⟩ => ?_)
  cases c with
  | true => exact hb wh pins s1 σ H1 Q I1 q1
  | false => exact ⟨H1, I1, q1⟩
theorem pw_or (ha : PT X a tA) (hb : PW X (.BoolOp .Or (b :: rest) pos) tB') : PW X (.BoolOp .Or (a :: b :: rest) pos) (tOr tA tB') := by
  intro wh pins s σ H Q I h
  refine isTrue_or (thn (ha pins s σ H _ I h) fun c s1 ⟨H1, I1, q1⟩ => ?_)
  cases c with
  | true => exact ⟨H1, I1, q1⟩
  | false => exact hb wh pins s1 σ H1 Q I1 q1
theorem pt_not (ha : PT X a tA) : PT X (.UnaryOp .Not a pos) (tNot tA) := by
  intro pins s σ H Q I h
  exact isTrue_not (ha pins s σ H (fun c H1 => Q (!c) H1) I h)
noncomputable def tAndV (ta tb : TE) : TE := fun σ H Q => ta σ H fun x H1 => ∃ c, x = .bl c ∧ if c = true then tb σ H1 Q else Q (.bl false) H1
noncomputable def tOrV (ta tb : TE) : TE := fun σ H Q => ta σ H fun x H1 => ∃ c, x = .bl c ∧ if c = true then Q (.bl true) H1 else tb σ H1 Q
noncomputable def tNotV (ta : TE) : TE := fun σ H Q => ta σ H fun x H1 => ∃ c, x = .bl c ∧ Q (.bl (!c)) H1
theorem pe_one {op} {t : TE} (h : PE X a t) : PE X (.BoolOp op [a] pos) t := fun pins s σ H Q I hw => BoolOp_one (h pins s σ H Q I hw)
theorem pe_and (ha : PE X a ta) (hb : PE X (.BoolOp .And (b :: rest) pos) tb) : PE X (.BoolOp .And (a :: b :: rest) pos) (tAndV ta tb) := by
  intro pins s σ H Q I h
  refine BoolOp_and (thn (ha pins s σ H _ I h) fun v s1 ⟨x, H1, I1, r1, q1⟩ => ?_)
  obtain ⟨c, rfl, q1⟩ := q1
  cases r1
  refine wpAny_truthy_bool ?_
  cases c with
  | true => exact hb pins s1 σ H1 Q I1 q1
  | false => exact ⟨.bl false, H1, I1, rfl, q1⟩
theorem pe_or (ha : PE X a ta) (hb : PE X (.BoolOp .Or (b :: rest) pos) tb) : PE X (.BoolOp .Or (a :: b :: rest) pos) (tOrV ta tb) := by
  intro pins s σ H Q I h
  refine BoolOp_or (thn (ha pins s σ H _ I h) fun v s1 ⟨x, H1, I1, r1, q1⟩ => ?_)
  obtain ⟨c, rfl, q1⟩ := q1
  cases r1
  refine wpAny_truthy_bool ?_
  cases c with
  | false => exact hb pins s1 σ H1 Q I1 q1
  | true => exact ⟨.bl true, H1, I1, rfl, q1⟩
theorem pe_not (ha : PE X a ta) : PE X (.UnaryOp .Not a pos) (tNotV ta) := by
  intro pins s σ H Q I h
  refine UnaryOp_ (thn (ha pins s σ H _ I h) fun v s1 ⟨x, H1, I1, r1, q1⟩ => ?_)
  obtain ⟨c, rfl, q1⟩ := q1
  cases r1
  exact not_of (wpAny_truthy_bool ⟨.bl (!c), H1, I1, rfl, q1⟩)
noncomputable def tIf (t : TT) (ta tb : TE) : TE := fun σ H Q => t σ H fun c H1 => if c = true then ta σ H1 Q else tb σ H1 Q
theorem pe_ifExp {c : Expr} (hc : PT X c tA) (ha : PE X a ta) (hb : PE X b tb) : PE X (.IfExp c a b pos) (tIf tA ta tb) := by
  intro pins s σ H Q I h
  refine wpAny_IfExp (thn (hc pins s σ H _ I h) fun d s1 ⟨H1, I1, q1⟩ => ?_)
  cases d with
  | true => exact ha pins s1 σ H1 Q I1 q1
  | false => exact hb pins s1 σ H1 Q I1 q1
end
end L2

namespace L2
open PySem PySem.Spec PyProof.Rows

noncomputable def SqL (K : PySem.W.Frag) (H : Hp) (a : Addr) (xs : List V) : Prop :=
  Rd H a (.lst xs) ∨
    ∃ (o : Obj) (its : Array Value) (n : Nat), K.lookup a = some o ∧ o.cls = .type "list" ∧ o.dict = none ∧ o.data = .seq its n ∧ its.size ≤ sizeLine ∧ Vals xs its.toList
noncomputable def SqT (K : PySem.W.Frag) (H : Hp) (a : Addr) (xs : List V) : Prop :=
  Rd H a (.tup xs) ∨
    ∃ (o : Obj) (its : Array Value) (n : Nat), K.lookup a = some o ∧ o.cls = .type "tuple" ∧ o.data = .seq its n ∧ its.size ≤ sizeLine ∧ Vals xs its.toList
noncomputable def absV : Value → Option V
  | .none => some .non
  | .bool b => some (.bl b)
  | .int i _ => some (.int i)
  | .str x _ => some (.str x)
  | .bytes b _ => some (.byt b)
  | .float b _ => some (.flt b)
  | .ref a => some (.ref a)
  | .type n => some (.ty n)
  | _ => none
theorem RelV.abs {x : V} {u : Value} (r : RelV x u) : absV u = some x := by
  cases x with
  | non => cases r; rfl
  | bl _ => cases r; rfl
  | int _ => obtain ⟨t, rfl⟩ := r; rfl
  | str _ => obtain ⟨t, rfl⟩ := r; rfl
  | byt _ => obtain ⟨t, rfl⟩ := r; rfl
  | flt _ => obtain ⟨t, rfl⟩ := r; rfl
  | ref _ => cases r; rfl
  | ty _ => cases r; rfl
theorem RelV.inj {x y : V} {u : Value} (r : RelV x u) (q : RelV y u) : x = y := Option.some.inj (r.abs.symm.trans q.abs)
theorem Vals.inj : ∀ {xs ys : List V} {us : List Value}, Vals xs us → Vals ys us → xs = ys
  | _, _, _, .nil, .nil => rfl
  | _, _, _, .cons r t, .cons r' t' => by rw [r.inj r', Vals.inj t t']
section
variable {X : Cx} {pins : List (Addr × Obj)} {σ : St} {H : Hp} {s : Shared} {a : Addr} {xs ys : List V}
theorem SqL.of {K : PySem.W.Frag} (h : H a = some (.lst xs)) : SqL K H a xs := .inl (.inl h)
theorem SqT.of {K : PySem.W.Frag} (h : H a = some (.tup xs)) : SqT K H a xs := .inl (.inl h)
theorem Inv.list (I : Inv X pins σ H s) (h : SqL X.K H a xs) : ∃ its : List Value, Vals xs its ∧ PlainL s.heap a its.toArray ∧ xs.length ≤ sizeLine := by
  rcases h with h | ⟨o, its, n, hk, hc, hd, hs, hz, r⟩
  · obtain ⟨z, its, n, r, e⟩ := h.ok I.hok
    exact ⟨its, r, ⟨_, n, e, rfl, rfl, rfl⟩, z⟩
  · refine ⟨its.toList, r, ⟨o, n, I.kIn a o hk, hc, hd, by simpa using hs⟩, ?_⟩
    have e := r.length
    simp only [Array.length_toList] at e
    omega
theorem Inv.tuple (I : Inv X pins σ H s) (h : SqT X.K H a xs) : ∃ its : List Value, Vals xs its ∧ IsTup s.heap a its.toArray ∧ xs.length ≤ sizeLine := by
  rcases h with h | ⟨o, its, n, hk, hc, hs, hz, r⟩
  · obtain ⟨z, its, r, p⟩ := h.ok I.hok
    exact ⟨its, r, p.tup, z⟩
  · refine ⟨its.toList, r, ⟨o, I.kIn a o hk, hc, n, by simpa using hs⟩, ?_⟩
    have e := r.length
    simp only [Array.length_toList] at e
    omega
theorem Inv.list_inj (I : Inv X pins σ H s) (h : SqL X.K H a xs) (h' : SqL X.K H a ys) : xs = ys := by
  obtain ⟨its, r, ⟨o, n, e, _, _, d⟩, _⟩ := I.list h
  obtain ⟨its', r', ⟨o', n', e', _, _, d'⟩, _⟩ := I.list h'
  rw [e] at e'; cases e'
  rw [d] at d'
  injection d' with d1 _
  have : its = its' := by simpa using congrArg Array.toList d1
  subst this
  exact r.inj r'
theorem Inv.tuple_inj (I : Inv X pins σ H s) (h : SqT X.K H a xs) (h' : SqT X.K H a ys) : xs = ys := by
  obtain ⟨its, r, ⟨o, e, _, n, d⟩, _⟩ := I.tuple h
  obtain ⟨its', r', ⟨o', e', _, n', d'⟩, _⟩ := I.tuple h'
  rw [e] at e'; cases e'
  rw [d] at d'
  injection d' with d1 _
  have : its = its' := by simpa using congrArg Array.toList d1
  subst this
  exact r.inj r'
end

noncomputable abbrev Cx.wish (X : Cx) (E : Value → Shared → Prop) : Cx := { X with xe := E }
noncomputable abbrev Cx.nox (X : Cx) : Cx := X.wish fun _ _ => False
theorem Cx.Ok.wish {X : Cx} (ok : X.Ok) (E : Value → Shared → Prop) : (X.wish E).Ok :=
  ⟨ok.mod, ok.kind, ok.glob, ok.blt, ok.above, ok.inj, ok.has, ok.cab, ok.hd, ok.frames, ok.stk, ok.exf, ok.bs, ok.bsz, ok.noex, ok.exfs, ok.funs, ok.frf⟩
theorem Cx.Ok.unwish {X : Cx} {E : Value → Shared → Prop} (ok : (X.wish E).Ok) : X.Ok :=
  ⟨ok.mod, ok.kind, ok.glob, ok.blt, ok.above, ok.inj, ok.has, ok.cab, ok.hd, ok.frames, ok.stk, ok.exf, ok.bs, ok.bsz, ok.noex, ok.exfs, ok.funs, ok.frf⟩
section
variable {X : Cx} {pins : List (Addr × Obj)} {σ : St} {H : Hp} {s : Shared} {E : Value → Shared → Prop}
theorem Inv.wish (I : Inv X pins σ H s) (E : Value → Shared → Prop) : Inv (X.wish E) pins σ H s := ⟨I.ok.wish E, I.os, I.bare, I.base, I.loc, I.cell, I.free, I.freeC, I.pin, I.hok, I.len⟩
theorem Inv.unwish (I : Inv (X.wish E) pins σ H s) : Inv X pins σ H s := ⟨I.ok.unwish, I.os, I.bare, I.base, I.loc, I.cell, I.free, I.freeC, I.pin, I.hok, I.len⟩
theorem SP.unwish {D : Ends} {f : Flow} {s' : Shared} (h : SP (X.wish E) pins D f s') : SP X pins D f s' := by
  cases f with
  | next => obtain ⟨σ', H', I, q⟩ := h; exact ⟨σ', H', I.unwish, q⟩
  | brk => obtain ⟨σ', H', I, q⟩ := h; exact ⟨σ', H', I.unwish, q⟩
  | cont => obtain ⟨σ', H', I, q⟩ := h; exact ⟨σ', H', I.unwish, q⟩
  | ret u => obtain ⟨v, σ', H', I, r, q⟩ := h; exact ⟨v, σ', H', I.unwish, r, q⟩
theorem PSs.nox {st : List Stmt} {t : TS} (h : PSs X.nox st t) : PSs X st t := fun pins s σ H D I hw =>
  wpAny_mono (h pins s σ H D (I.wish _) hw) (fun _ _ q => q.unwish) fun _ _ z => False.elim z
end

section
variable {X : Cx} {st : Stmt} {rest : List Stmt} {t u : TS} {e : Expr} {te : TE} {pos : Pos}
noncomputable def tNext : TS := fun D σ H => D.nx σ H
noncomputable def tSeq (t u : TS) : TS := fun D σ H => t { D with nx := u D } σ H
theorem pss_nil : PSs X [] tNext := fun _ _ σ H _ I h => wpAny_execs_nil ⟨σ, H, I, h⟩
theorem pss_cons (h1 : PS X st t) (h2 : PSs X rest u) : PSs X (st :: rest) (tSeq t u) := by
  intro pins s σ H D I h
  refine wpAny_execs_cons (thn (h1 pins s σ H { D with nx := u D } I h) fun f s1 q => ?_)
  cases f with
  | next =>
    obtain ⟨σ', H', I', q⟩ := q
    exact h2 pins s1 σ' H' D I' q
  | ret v => exact q
  | brk => exact q
  | cont => exact q
theorem pss_one (h1 : PS X st t) : PSs X [st] t := by
  intro pins s σ H D I h
  refine wpAny_execs_cons (thn (h1 pins s σ H D I h) fun f s1 q => ?_)
  cases f with
  | next => exact wpAny_execs_nil q
  | ret v => exact q
  | brk => exact q
  | cont => exact q
noncomputable def tBreak : TS := fun D σ H => D.bk σ H
theorem ps_break : PS X (.Break pos) tBreak := fun _ _ σ H _ I h => wpAny_Break ⟨σ, H, I, h⟩
theorem Inv.quiet {pins : List (Addr × Obj)} {σ : St} {H : Hp} {s : Shared} (I : Inv X pins σ H s) : interactive X.env = false := by simp [interactive, I.ok.kind]
noncomputable def tDrop (te : TE) : TS := fun D σ H => te σ H fun _ H1 => D.nx σ H1
theorem ps_expr (he : PE X e te) (hs : swapsWith e none pos.line X.env = pure false := by rfl) : PS X (.Expr e pos) (tDrop te) := by
  intro pins s σ H D I h
  exact wpAny_Expr_any (thn (he pins s σ H _ I h) fun v s1 ⟨x, H1, I1, r1, q1⟩ => ⟨σ, H1, I1, q1⟩) I.quiet hs
noncomputable def tRet (te : TE) : TS := fun D σ H => te σ H D.rt
theorem ps_ret (he : PE X e te) : PS X (.Return (some e) pos) (tRet te) := by
  intro pins s σ H D I h
  exact wpAny_Return_some (thn (he pins s σ H _ I h) fun v s1 ⟨x, H1, I1, r1, q1⟩ => ⟨x, σ, H1, I1, r1, q1⟩)
noncomputable def tIfS (c : TT) (t u : TS) : TS := fun D σ H => c σ H fun b H1 => if b = true then t D σ H1 else u D σ H1
theorem ps_if {c : Expr} {a b : List Stmt} {tc : TT} (hc : PT X c tc) (ha : PSs X a t) (hb : PSs X b u) : PS X (.If c a b pos) (tIfS tc t u) := by
  intro pins s σ H D I h
  refine wpAny_If (thn (hc pins s σ H _ I h) fun d s1 ⟨H1, I1, q1⟩ => ?_)
  cases d with
  | true => exact ha pins s1 σ H1 D I1 q1
  | false => exact hb pins s1 σ H1 D I1 q1
end

noncomputable abbrev TG := V → St → Hp → (St → Hp → Prop) → Prop
noncomputable abbrev TGs := List V → St → Hp → (St → Hp → Prop) → Prop
noncomputable def PG (X : Cx) (target : Expr) (t : TG) : Prop :=
  ∀ (pins : List (Addr × Obj)) (s : Shared) (σ : St) (H : Hp) (v : V) (u : Value) (Q : St → Hp → Prop), Inv X pins σ H s → RelV v u → t v σ H Q →
    wpAny (model X.prog X.w) X.A (assign target X.env u) (fun _ s' => ∃ σ' H', Inv X pins σ' H' s' ∧ Q σ' H') X.xe s
noncomputable def PGs (X : Cx) (ts : List Expr) (t : TGs) : Prop :=
  ∀ (pins : List (Addr × Obj)) (s : Shared) (σ : St) (H : Hp) (vs : List V) (us : List Value) (Q : St → Hp → Prop), Inv X pins σ H s → Vals vs us → t vs σ H Q →
    wpAny (model X.prog X.w) X.A (assignInOrder ((assignEach ts X.env).map (·.2)) us) (fun _ s' => ∃ σ' H', Inv X pins σ' H' s' ∧ Q σ' H') X.xe s
noncomputable abbrev TSet := V → V → V → Hp → (Hp → Prop) → Prop
noncomputable def PSet (X : Cx) (t : TSet) : Prop :=
  ∀ (pins : List (Addr × Obj)) (s : Shared) (σ : St) (H : Hp) (o i v : V) (ov iv u : Value) (Q : Hp → Prop), Inv X pins σ H s → RelV o ov → RelV i iv → RelV v u → t o i v H Q →
    wpAny (model X.prog X.w) X.A (setItem ov iv u) (fun _ s' => ∃ H', Inv X pins σ H' s' ∧ Q H') X.xe s
section
variable {X : Cx} {pos : Pos}
noncomputable def gName (i : Nat) : TG := fun v σ H Q => Q (σ.set i (some v)) H
theorem pg_name {i : Nat} {x : Str} (hN : X.N.Nodup) (hi : X.N[i]? = some x) (hx : Loc X.env.scope x) (hf : X.fn x = true ∨ X.env.scope.names.lookup x = some .local := by first | exact .inl rfl | exact .inr rfl | assumption) : PG X (.Name x pos) (gName i) := by
  intro pins s σ H v u Q I r h
  exact wpAny_assign_Name (store_ok I hN hi hx r (fun s' I' => ⟨_, H, I', h⟩) hf)
noncomputable def gNil : TGs := fun vs σ H Q => vs = [] ∧ Q σ H
noncomputable def gCons (t : TG) (u : TGs) : TGs := fun vs σ H Q => ∃ v r, vs = v :: r ∧ t v σ H fun σ' H' => u r σ' H' Q
theorem pgs_nil : PGs X [] gNil := by
  intro pins s σ H vs us Q I r h
  obtain ⟨e, h⟩ := h
  subst e
  cases r
  exact assignInOrder_nil ⟨σ, H, I, h⟩
theorem pgs_cons {e : Expr} {es : List Expr} {t : TG} {u : TGs} (h1 : PG X e t) (h2 : PGs X es u)
    (hs : (assignEach (e :: es) X.env).map (·.2) = assign e X.env :: (assignEach es X.env).map (·.2) := by rfl) : PGs X (e :: es) (gCons t u) := by
  intro pins s σ H vs us Q I r h
  obtain ⟨v, vr, e1, h⟩ := h
  subst e1
  cases r with
  | cons r rr =>
    rw [hs]
    refine assignInOrder_cons (thn (h1 pins s σ H _ _ _ I r h) fun _ s1 ⟨σ1, H1, I1, q1⟩ => ?_)
    exact h2 pins s1 σ1 H1 _ _ Q I1 rr q1
noncomputable def gTup (K : PySem.W.Frag) (n : Nat) (t : TGs) : TG := fun v σ H Q => ∃ a xs, v = .ref a ∧ SqT K H a xs ∧ xs.length = n ∧ t xs σ H Q
theorem pg_tup {es : List Expr} {k : Nat} {t : TGs} {n : Nat} (hc : X.calm = true) (h : PGs X es t)
    (hn : (assignEach es X.env).length = n := by rfl) (hst : (assignEach es X.env).findIdx? (·.1) = none := by rfl) : PG X (.Tuple es k pos) (gTup X.K n t) := by
  intro pins s σ H v u Q I r hw
  obtain ⟨a, xs, e1, hq, hl, hw⟩ := hw
  subst e1
  cases r
  obtain ⟨its, rv, ht, hz⟩ := I.tuple hq
  refine assign_Tuple_tuple (I.ok.hd hc) ht (by simp [hn, ← hl, rv.length]) hst fun h' hx => ?_
  have I1 : Inv X pins σ H { s with heap := h' } := I.kept (t' := s.toks) fun b o e => hx b o (Nat.ne_of_lt (Heap.lt_size e)) e
  exact h pins _ σ H xs _ Q I1 (by simpa using rv) hw
noncomputable def gSub (to ti : TE) (t : TSet) : TG := fun v σ H Q => to σ H fun o H1 => ti σ H1 fun i H2 => t o i v H2 fun H3 => Q σ H3
theorem pg_sub {o i : Expr} {to ti : TE} {t : TSet} (ho : PE X o to) (hi : PE X i ti) (hs : PSet X t)
    (ha : ∀ v, assign (.Subscript o i pos) X.env v = (do
      let ov ← holding [v] (eval o X.env)
      let iv ← holding [v, ov] (eval i X.env)
      standAt pos
      holding [v, ov, iv] (setItem ov iv v)
      release [v, ov, iv] []) := by intro _; rfl) : PG X (.Subscript o i pos) (gSub to ti t) := by
  intro pins s σ H v u Q I r h
  rw [ha]
  refine wpAny_bind (wpAny_holding (thn (ho pins s σ H _ I h) fun ov s1 ⟨x, H1, I1, r1, q1⟩ => ?_))
  refine wpAny_bind (wpAny_holding (thn (hi pins s1 σ H1 _ I1 q1) fun iv s2 ⟨y, H2, I2, r2, q2⟩ => ?_))
  refine wpAny_bind (wpAny_standAt (wpAny_bind (wpAny_holding (thn (hs pins s2 σ H2 x y v ov iv u _ I2 r1 r2 r q2) fun _ s3 ⟨H3, I3, q3⟩ => ?_))))
  exact wpAny_release ⟨σ, H3, I3, q3⟩
noncomputable def tAsg (te : TE) (g : TG) : TS := fun D σ H => te σ H fun x H1 => g x σ H1 D.nx
theorem ps_asg {tg e : Expr} {te : TE} {g : TG} (he : PE X e te) (hg : PG X tg g) (hs : swapsWithSole [tg] e pos.line X.env = pure false := by rfl) (hw : swappedStores [tg] e X.env = pure none := by rfl)
    (h1 : (assignEach [tg] X.env).map (·.2) = [assign tg X.env] := by rfl) : PS X (.Assign [tg] e pos) (tAsg te g) := by
  intro pins s σ H D I h
  refine wpAny_Assign_stores (thn (he pins s σ H _ I h) fun v s1 ⟨x, H1, I1, r1, q1⟩ => ?_) hs hw
  rw [h1]
  exact thn (hg pins s1 σ H1 x v _ I1 r1 q1) fun _ s2 q => q
theorem ps_set {i : Nat} {x : Str} {e : Expr} {te : TE} {pos' : Pos} (hN : X.N.Nodup) (hi : X.N[i]? = some x) (hx : Loc X.env.scope x) (he : PE X e te) (hs : swapsWith e (some (.Name x pos')) pos.line X.env = pure false := by rfl) (hf : X.fn x = true ∨ X.env.scope.names.lookup x = some .local := by first | exact .inl rfl | exact .inr rfl | assumption) :
    PS X (.Assign [.Name x pos'] e pos) (tAsg te (gName i)) := by
  intro pins s σ H D I h
  refine wpAny_Assign_Name (thn (he pins s σ H _ I h) fun v s1 ⟨y, H1, I1, r1, q1⟩ => ?_) hs
  exact store_ok I1 hN hi hx r1 (fun s2 I2 => ⟨_, H1, I2, q1⟩) hf
end

section
variable {X : Cx} {pos : Pos}
noncomputable def tWhile (c : TT) (tb : TS) : TS := fun D σ H => ∃ W : Nat → St → Hp → Prop, (∃ m, W m σ H) ∧ ∀ m σ H, W m σ H →
  c σ H fun b H1 => if b = true then ∃ N : St → Hp → Prop, (∀ σ' H', N σ' H' → ∃ m', m' < m ∧ W m' σ' H') ∧ tb { D with nx := N, ct := N, bk := D.nx } σ H1 else D.nx σ H1
theorem ps_while {c : Expr} {body : List Stmt} {tc : TT} {tb : TS} (hp : PassesOwn (model X.prog X.w) X.A X.env X.xe) (hc : PT X c tc) (hb : PSs X body tb) : PS X (.While c body [] pos) (tWhile tc tb) := by
  intro pins s σ H D I h
  obtain ⟨W, ⟨m0, w0⟩, turn⟩ := h
  refine wpAny_While (codeAny_whileLoop (fun n s' => ∃ σ' H', Inv X pins σ' H' s' ∧ W n σ' H') ?_ m0 ⟨σ, H, I, w0⟩)
  rintro n s1 ⟨σ1, H1, I1, w1⟩
  refine wpAny_passesOwn hp (thn (hc pins s1 σ1 H1 _ I1 (turn n σ1 H1 w1)) fun b s2 ⟨H2, I2, q2⟩ => ?_)
  cases b with
  | true =>
    obtain ⟨N, hN, q2⟩ := q2
    rw [if_pos rfl]
    refine wpAny_passesOwn hp (thn (hb pins s2 σ1 H2 _ I2 q2) fun f s3 q3 => ?_)
    cases f with
    | next =>
      obtain ⟨σ3, H3, I3, n3⟩ := q3
      obtain ⟨m', hm, w3⟩ := hN σ3 H3 n3
      exact ⟨m', hm, σ3, H3, I3, w3⟩
    | cont =>
      obtain ⟨σ3, H3, I3, n3⟩ := q3
      obtain ⟨m', hm, w3⟩ := hN σ3 H3 n3
      exact ⟨m', hm, σ3, H3, I3, w3⟩
    | brk => exact q3
    | ret v => exact q3
  | false =>
    rw [if_neg Bool.false_ne_true]
    exact wpAny_execs_nil ⟨σ1, H2, I2, q2⟩
end

structure It where
  go : Nat → Hp → Prop
  yld : Nat → Hp → V → Hp → Prop
  stop : Nat → Hp → Prop
noncomputable def FpOk (X : Cx) (pins : List (Addr × Obj)) (H : Hp) (b : Addr) : Prop :=
  H b = none ∧ b ≠ X.env.locals ∧ b ∉ X.fs ∧ (b ∈ X.ex ∨ X.s₀.heap.objs.size ≤ b) ∧ (∀ x c, X.env.cells.lookup x = some c → c ≠ b) ∧ ∀ p ∈ X.pn ++ pins, p.1 ≠ b
theorem Inv.fpOk {X : Cx} {pins : List (Addr × Obj)} {σ : St} {H H' : Hp} {s : Shared} {b : Addr} (I : Inv X pins σ H s) (hb : s.heap.objs.size ≤ b) (hn : H' b = none) : FpOk X pins H' b := by
  refine ⟨hn, Nat.ne_of_gt (Nat.lt_of_lt_of_le I.lt hb), I.nofs hb, .inr (Nat.le_trans I.sz hb), fun x c e z => ?_, fun p hp z => ?_⟩
  · obtain ⟨v, q⟩ := I.cell x c e
    exact absurd (Nat.lt_of_lt_of_le q.lt (by rw [z]; exact hb)) (Nat.lt_irrefl _)
  · exact absurd (Nat.lt_of_lt_of_le (Heap.lt_size (I.pin p hp).1) (by rw [z]; exact hb)) (Nat.lt_irrefl _)
structure Turn (P : Program) (w : World) (K : PySem.W.Frag) (tg : Expr) (J : It) (fp : List Addr) (it : Addr) (tn : Nat → Heap → Prop) : Prop where
  mem : it ∈ fp
  obj : ∀ i h, tn i h → ∀ b ∈ fp, ∃ o, h.get? b = some o ∧ ∀ v, o.data ≠ .cell v
  keep : ∀ i h h', tn i h → (∀ b ∈ fp, ∀ o, h.get? b = some o → h'.get? b = some o) → tn i h'
  item : ∀ (X : Cx), X.prog = P → X.w = w → X.K = K → X.calm = true → ∀ (i : Nat) (pins : List (Addr × Obj)) (s : Shared) (σ : St) (H : Hp) (E : Value → Shared → Prop), Inv X pins σ H s → (∀ b ∈ fp, FpOk X pins H b) → tn i s.heap → J.go i H →
    wpAny (model P w) X.A (pyNext (.ref it)) (fun r s1 => ∃ u, r = some u ∧
      wpAny (model P w) X.A (letOwnedTupleGo tg (.ref it) u) (fun _ s2 => ∃ x H', Inv X pins σ H' s2 ∧ RelV x u ∧ J.yld i H x H' ∧ tn (i + 1) s2.heap ∧ ∀ b ∈ fp, H' b = none) E s1) E s
  done : ∀ (X : Cx), X.prog = P → X.w = w → X.K = K → X.calm = true → ∀ (i : Nat) (pins : List (Addr × Obj)) (s : Shared) (σ : St) (H : Hp) (E : Value → Shared → Prop), Inv X pins σ H s → (∀ b ∈ fp, FpOk X pins H b) → tn i s.heap → J.stop i H →
    wpAny (model P w) X.A (pyNext (.ref it)) (fun r s1 => r = none ∧ Inv X pins σ H s1) E s
  self : ∀ (A : Around) (i : Nat) (s : Shared) (Q : Value → Shared → Prop) (E : Value → Shared → Prop), tn i s.heap → Q (.ref it) s → wpAny (model P w) A (pyIter (.ref it)) Q E s
noncomputable abbrev TI := St → Hp → (It → Hp → Prop) → Prop
noncomputable def PIE (X : Cx) (pins : List (Addr × Obj)) (σ : St) (tg : Expr) (R : It → Hp → Prop) (itv : Value) (s2 : Shared) : Prop :=
  ∃ (it : Addr) (fp : List Addr) (tn : Nat → Heap → Prop) (J : It) (H' : Hp), itv = .ref it ∧ Inv X pins σ H' s2 ∧ Turn X.prog X.w X.K tg J fp it tn ∧ tn 0 s2.heap ∧ (∀ b ∈ fp, FpOk X pins H' b) ∧ R J H'
noncomputable def PI (X : Cx) (tg iter : Expr) (wi : TI) : Prop :=
  ∀ (pins : List (Addr × Obj)) (s : Shared) (σ : St) (H : Hp) (R : It → Hp → Prop), Inv X pins σ H s → wi σ H R →
    wpAny (model X.prog X.w) X.A (eval iter X.env) (fun v s1 => wpAny (model X.prog X.w) X.A (pyIter v) (PIE X pins σ tg R) X.xe s1) X.xe s

theorem go_of {M : Model} {A : Around} {E : Value → Shared → Prop} {s : Shared} {tg : Expr} {it : Addr} {u : Value} {o : Obj} {n : String} {vs : Array Value} {Q : Unit → Shared → Prop} (ho : s.heap.get? it = some o) (hc : o.cls = .type n) (hd : o.data = .fields vs)
    (hn : ["enumerate", "zip", "dict_itemiterator", "dict_reverseitemiterator", "odict_iterator", "itertools.zip_longest", "itertools.pairwise"].contains n = false) (hQ : Q () s) : wpAny M A (letOwnedTupleGo tg (.ref it) u) Q E s := by
  unfold letOwnedTupleGo
  cases tg <;> first
    | exact wpAny_pure hQ
    | (cases u <;> first
        | exact wpAny_pure hQ
        | (refine wpAny_bind (wpAny_load ho ?_)
           rw [hc, hd]
           show wpAny M A (if (["enumerate", "zip", "dict_itemiterator", "dict_reverseitemiterator", "odict_iterator", "itertools.zip_longest", "itertools.pairwise"].contains n && vs[0]? == some (rawInt _)) = true then _ else _) Q E s
           rw [if_neg (by intro h; rw [hn, Bool.false_and] at h; cases h)]
           exact wpAny_pure hQ))

noncomputable def Itl (K : PySem.W.Frag) (a : Addr) : It :=
  ⟨fun i H => ∃ xs x, SqL K H a xs ∧ xs[i]? = some x, fun i H x H' => H' = H ∧ ∀ xs, SqL K H a xs → xs[i]? = some x, fun i H => ∃ xs, SqL K H a xs ∧ xs.length ≤ i⟩
noncomputable def Itt (K : PySem.W.Frag) (a : Addr) : It :=
  ⟨fun i H => ∃ xs x, SqT K H a xs ∧ xs[i]? = some x, fun i H x H' => H' = H ∧ ∀ xs, SqT K H a xs → xs[i]? = some x, fun i H => ∃ xs, SqT K H a xs ∧ xs.length ≤ i⟩
noncomputable def Itr (lo : Int) (n : Nat) : It := ⟨fun i _ => i < n, fun i H x H' => H' = H ∧ x = .int (lo + i), fun i _ => n ≤ i⟩
theorem turn_list {P : Program} {w : World} {K : PySem.W.Frag} {tg : Expr} (a it : Addr) : Turn P w K tg (Itl K a) [it] it (fun i h => h.IsListIter it a i) where
  mem := by simp
  obj := fun i h st b hb => by
    have e : b = it := by simpa using hb
    subst e
    obtain ⟨o, e, c, d⟩ := st
    exact ⟨o, e, fun v z => by rw [d] at z; cases z⟩
  keep := fun i h h' st k => st.at fun o e => k it (by simp) o e
  item := by
    intro X hP hw hK hc i pins s σ H E I hf st hg
    subst hP hw hK
    obtain ⟨xs, x, hq, hx⟩ := hg
    obtain ⟨its, rv, p, hz⟩ := I.list hq
    obtain ⟨u, hu, ru⟩ := rv.get hx
    obtain ⟨f0, f1, f2, f3, f4, f5⟩ := hf it (by simp)
    refine wpAny_pyNext_list_item st p.isList (x := u) (by simpa using hu) fun h' st' sb => ?_
    have I1 : Inv X pins σ H { s with heap := h' } := I.turned (t' := s.toks) (fun b o hb e => (sb.2 b hb).trans e) f0 f1 f3 f4 f5
    obtain ⟨o, e, c, d⟩ := id st'
    exact ⟨u, rfl, go_of (s := { s with heap := h' }) e c d (by decide) ⟨x, H, I1, ru, ⟨rfl, fun ys hy => by rw [I.list_inj hy hq]; exact hx⟩, st', fun b hb => (hf b hb).1⟩⟩
  done := by
    intro X hP hw hK hc i pins s σ H E I hf st hg
    subst hP hw hK
    obtain ⟨xs, hq, hx⟩ := hg
    obtain ⟨its, rv, p, hz⟩ := I.list hq
    obtain ⟨f0, f1, f2, f3, f4, f5⟩ := hf it (by simp)
    have hl := rv.length
    exact wpAny_pyNext_list_end (I.ok.hd hc) st p.isList (by simp; omega) fun h' eb => ⟨rfl, I.turned (t' := s.toks) (fun b o hb e => eb b o hb e) f0 f1 f3 f4 f5⟩
  self := fun _ _ _ _ _ st h => wpAny_pyIter_listiter st h
theorem turn_tuple {P : Program} {w : World} {K : PySem.W.Frag} {tg : Expr} (a it : Addr) : Turn P w K tg (Itt K a) [it] it (fun i h => h.IsTupleIter it a i) where
  mem := by simp
  obj := fun i h st b hb => by
    have e : b = it := by simpa using hb
    subst e
    obtain ⟨o, e, c, d⟩ := st
    exact ⟨o, e, fun v z => by rw [d] at z; cases z⟩
  keep := fun i h h' st k => st.at fun o e => k it (by simp) o e
  item := by
    intro X hP hw hK hc i pins s σ H E I hf st hg
    subst hP hw hK
    obtain ⟨xs, x, hq, hx⟩ := hg
    obtain ⟨its, rv, p, hz⟩ := I.tuple hq
    obtain ⟨u, hu, ru⟩ := rv.get hx
    obtain ⟨f0, f1, f2, f3, f4, f5⟩ := hf it (by simp)
    refine wpAny_pyNext_tuple_item st (show s.heap.IsTuple a its.toArray from p) (x := u) (by simpa using hu) fun h' st' sb => ?_
    have I1 : Inv X pins σ H { s with heap := h' } := I.turned (t' := s.toks) (fun b o hb e => (sb.2 b hb).trans e) f0 f1 f3 f4 f5
    obtain ⟨o, e, c, d⟩ := id st'
    exact ⟨u, rfl, go_of (s := { s with heap := h' }) e c d (by decide) ⟨x, H, I1, ru, ⟨rfl, fun ys hy => by rw [I.tuple_inj hy hq]; exact hx⟩, st', fun b hb => (hf b hb).1⟩⟩
  done := by
    intro X hP hw hK hc i pins s σ H E I hf st hg
    subst hP hw hK
    obtain ⟨xs, hq, hx⟩ := hg
    obtain ⟨its, rv, p, hz⟩ := I.tuple hq
    obtain ⟨f0, f1, f2, f3, f4, f5⟩ := hf it (by simp)
    have hl := rv.length
    exact wpAny_pyNext_tuple_end (I.ok.hd hc) st (show s.heap.IsTuple a its.toArray from p) (by simp; omega) fun h' eb => ⟨rfl, I.turned (t' := s.toks) (fun b o hb e => eb b o hb e) f0 f1 f3 f4 f5⟩
  self := fun _ _ _ _ _ st h => wpAny_pyIter_tupleiter st h
theorem turn_range {P : Program} {w : World} {K : PySem.W.Frag} {tg : Expr} (it : Addr) (lo : Int) (n : Nat) : Turn P w K tg (Itr lo n) [it] it (fun i h => IsRangeIter h it (lo + (i : Nat) * 1) ((n : Int) - (i : Nat)) 1) where
  mem := by simp
  obj := fun i h st b hb => by
    have e : b = it := by simpa using hb
    subst e
    exact ⟨_, st, fun v z => by
      have z' : Data.fields _ = Data.cell v := z
      cases z'⟩
  keep := fun i h h' st k => k it (by simp) _ st
  item := by
    intro X hP hw hK hc i pins s σ H E I hf st hg
    subst hP hw hK
    obtain ⟨f0, f1, f2, f3, f4, f5⟩ := hf it (by simp)
    have W := Walks.range (prog := X.prog) (w := X.w) (I.ok.hd hc) it lo 1 n
    refine W.item i s _ _ hg st fun v h' tk hv st' kk => ?_
    obtain ⟨t, rfl⟩ := hv
    have I1 : Inv X pins σ H { s with heap := h', toks := tk } := I.turned (fun b o hb e => kk b o (by simpa using hb) e) f0 f1 f3 f4 f5
    refine ⟨_, rfl, go_of (s := { s with heap := h', toks := tk }) (n := "range_iterator") st' rfl rfl (by decide) ⟨.int (lo + i), H, I1, ⟨t, ?_⟩, ⟨rfl, rfl⟩, st', fun b hb => (hf b hb).1⟩⟩
    rw [Int.mul_one]
  done := by
    intro X hP hw hK hc i pins s σ H E I hf st hg
    subst hP hw hK
    obtain ⟨f0, f1, f2, f3, f4, f5⟩ := hf it (by simp)
    exact wpAny_pyNext_range_end (I.ok.hd hc) st (by have : n ≤ i := hg; omega) fun h' eb => ⟨rfl, I.turned (t' := s.toks) (fun b o hb e => eb b o hb e) f0 f1 f3 f4 f5⟩
  self := fun _ _ _ _ _ st h => wpAny_pyIter_rangeiter st h
end L2

namespace L2
open PySem PySem.Spec PyProof.Rows
section
variable {X : Cx} {tg : Expr}
noncomputable def iList (K : PySem.W.Frag) (tl : TE) : TI := fun σ H R => tl σ H fun x H1 => ∃ a, x = .ref a ∧ (∃ xs, SqL K H1 a xs) ∧ R (Itl K a) H1
noncomputable def iTup (K : PySem.W.Frag) (tl : TE) : TI := fun σ H R => tl σ H fun x H1 => ∃ a, x = .ref a ∧ (∃ xs, SqT K H1 a xs) ∧ R (Itt K a) H1
theorem pi_list {l : Expr} {tl : TE} (hl : PE X l tl) : PI X tg l (iList X.K tl) := by
  intro pins s σ H R I h
  refine thn (hl pins s σ H _ I h) fun v s1 ⟨x, H1, I1, r1, q1⟩ => ?_
  obtain ⟨a, e, ⟨xs, hq⟩, q⟩ := q1
  subst e
  cases r1
  obtain ⟨its, rv, p, hz⟩ := I1.list hq
  refine wpAny_pyIter_list p.isList ?_
  refine ⟨s1.heap.objs.size, [s1.heap.objs.size], _, _, H1, rfl, I1.kept (t' := s1.toks) fun b o e => Heap.get?_push_of_some _ e, turn_list a _, ⟨_, Heap.get?_push_size _ rfl, rfl, rfl⟩, fun b hb => ?_, q⟩
  have e : b = s1.heap.objs.size := by simpa using hb
  subst e
  exact I1.fpOk (Nat.le_refl _) (I1.hok.fresh (Nat.le_refl _))
theorem pi_tup {l : Expr} {tl : TE} (hl : PE X l tl) : PI X tg l (iTup X.K tl) := by
  intro pins s σ H R I h
  refine thn (hl pins s σ H _ I h) fun v s1 ⟨x, H1, I1, r1, q1⟩ => ?_
  obtain ⟨a, e, ⟨xs, hq⟩, q⟩ := q1
  subst e
  cases r1
  obtain ⟨its, rv, p, hz⟩ := I1.tuple hq
  refine wpAny_pyIter_tuple (show s1.heap.IsTuple a its.toArray from p) ?_
  refine ⟨s1.heap.objs.size, [s1.heap.objs.size], _, _, H1, rfl, I1.kept (t' := s1.toks) fun b o e => Heap.get?_push_of_some _ e, turn_tuple a _, ⟨_, Heap.get?_push_size _ rfl, rfl, rfl⟩, fun b hb => ?_, q⟩
  have e : b = s1.heap.objs.size := by simpa using hb
  subst e
  exact I1.fpOk (Nat.le_refl _) (I1.hok.fresh (Nat.le_refl _))
theorem range_it {pins : List (Addr × Obj)} {σ : St} {H : Hp} {s : Shared} {R : It → Hp → Prop} {E : Value → Shared → Prop} {lo hi : Int} {t u v : Tok} {tk : Nat} (I : Inv X pins σ H s) (h1 : -(2 ^ 62) ≤ lo) (h2 : lo < 2 ^ 62) (h3 : -(2 ^ 62) ≤ hi) (h4 : hi < 2 ^ 62)
    (q : R (Itr lo (hi - lo).toNat) H) : wpAny (model X.prog X.w) X.A (pyIter (.ref s.heap.objs.size)) (PIE X pins σ tg R) E { s with heap := s.heap.push { cls := .type "range", data := .fields #[.int lo t, .int hi u, .int 1 v] }, toks := tk } := by
  refine wpAny_pyIter_range (IsRange.new ..) (small_one h1 h2 h3 h4) ?_
  have I1 : Inv X pins σ H { s with heap := s.heap.push { cls := .type "range", data := .fields #[.int lo t, .int hi u, .int 1 v] }, toks := tk } := I.kept fun b o e => Heap.get?_push_of_some _ e
  refine ⟨(s.heap.push { cls := .type "range", data := .fields #[.int lo t, .int hi u, .int 1 v] }).objs.size, [(s.heap.push { cls := .type "range", data := .fields #[.int lo t, .int hi u, .int 1 v] }).objs.size], _, _, H, rfl,
    I1.kept (t' := tk) fun b o e => Heap.get?_push_of_some _ e, turn_range _ lo (hi - lo).toNat, ?_, fun b hb => ?_, q⟩
  · have e1 : lo + ((0 : Nat) : Int) * 1 = lo := by simp
    have e2 : (((hi - lo).toNat : Nat) : Int) - ((0 : Nat) : Int) = Builtin.Range.rangeSize lo hi 1 := by rw [rangeSize_one]; split <;> omega
    show IsRangeIter _ _ (lo + ((0 : Nat) : Int) * 1) ((((hi - lo).toNat : Nat) : Int) - ((0 : Nat) : Int)) 1
    rw [e1, e2]
    exact Heap.get?_push_size _ rfl
  · have e : b = (s.heap.push { cls := .type "range", data := .fields #[.int lo t, .int hi u, .int 1 v] }).objs.size := by simpa using hb
    subst e
    exact I1.fpOk (Nat.le_refl _) (I1.hok.fresh (Nat.le_refl _))
noncomputable def iRng1 (ta : TA) : TI := fun σ H R => ta σ H fun vs H1 => ∃ j : Int, vs = [.int j] ∧ -(2 ^ 62) ≤ j ∧ j < 2 ^ 62 ∧ R (Itr 0 j.toNat) H1
noncomputable def iRng2 (ta : TA) : TI := fun σ H R => ta σ H fun vs H1 => ∃ i j : Int, vs = [.int i, .int j] ∧ (-(2 ^ 62) ≤ i ∧ i < 2 ^ 62 ∧ -(2 ^ 62) ≤ j ∧ j < 2 ^ 62) ∧ R (Itr i (j - i).toNat) H1
theorem pi_range1 {a : Expr} {ta : TA} {p pos : Pos} (hg : Gl X "range") (hm : X.mg "range" = none) (ha : PA X [a] ta) (hs : starEach [a] X.env = [(false, eval a X.env)] := by rfl) : PI X tg (.Call (.Name "range" p) [a] [] pos) (iRng1 ta) := by
  intro pins s σ H R I h
  refine Call_ (ld_blt I hg hm boot_range (PyProof.Rows.callWith_type1 (thn (ha pos pins s σ H _ I h) fun us s1 ⟨vs, H1, I1, r1, q1⟩ => ?_) hs rfl))
  obtain ⟨j, e, q1, q2, q⟩ := q1
  subst e
  cases r1 with
  | cons r rr =>
    cases rr
    obtain ⟨t, rfl⟩ := r
    exact call_range_1 (range_it I1 (by omega) (by omega) q1 q2 (by simpa using q))
theorem pi_range2 {a b : Expr} {ta : TA} {p pos : Pos} (hg : Gl X "range") (hm : X.mg "range" = none) (ha : PA X [a, b] ta) (hs : starEach [a, b] X.env = [(false, eval a X.env), (false, eval b X.env)] := by rfl) (hs2 : starEach [b] X.env = [(false, eval b X.env)] := by rfl) :
    PI X tg (.Call (.Name "range" p) [a, b] [] pos) (iRng2 ta) := by
  intro pins s σ H R I h
  refine Call_ (ld_blt I hg hm boot_range (PyProof.Rows.callWith_type1 (thn (ha pos pins s σ H _ I h) fun us s1 ⟨vs, H1, I1, r1, q1⟩ => ?_) (by rw [hs, hs2]) (by rw [hs2]; rfl)))
  obtain ⟨i, j, e, ⟨q1, q2, q3, q4⟩, q⟩ := q1
  subst e
  cases r1 with
  | cons r rr =>
    cases rr with
    | cons r' rr =>
      cases rr
      obtain ⟨t, rfl⟩ := r
      obtain ⟨t', rfl⟩ := r'
      exact call_range_2 (range_it I1 q1 q2 q3 q4 q)

noncomputable def tFor (wi : TI) (g : TG) (tb : TS) : TS := fun D σ H => wi σ H fun J H1 => ∃ W : Nat → Nat → St → Hp → Prop, (∃ m, W 0 m σ H1) ∧ ∀ i m σ H, W i m σ H →
  (J.stop i H ∧ D.nx σ H) ∨ (J.go i H ∧ ∃ N : St → Hp → Prop, (∀ σ' H', N σ' H' → ∃ m', m' < m ∧ W (i + 1) m' σ' H') ∧ ∀ x H', J.yld i H x H' → g x σ H' fun σ2 H2 => tb { D with nx := N, ct := N, bk := D.nx } σ2 H2)
noncomputable def pinsAt (fp : List Addr) (h : Heap) : List (Addr × Obj) := fp.filterMap fun b => (h.get? b).map fun o => (b, o)
theorem mem_pinsAt {fp : List Addr} {h : Heap} {b : Addr} {o : Obj} (hb : b ∈ fp) (e : h.get? b = some o) : (b, o) ∈ pinsAt fp h := List.mem_filterMap.mpr ⟨b, hb, by rw [e]; rfl⟩
theorem of_pinsAt {fp : List Addr} {h : Heap} {p : Addr × Obj} (hp : p ∈ pinsAt fp h) : p.1 ∈ fp ∧ h.get? p.1 = some p.2 := by
  obtain ⟨b, hb, e⟩ := List.mem_filterMap.mp hp
  cases q : h.get? b with
  | none => rw [q] at e; cases e
  | some o =>
    rw [q] at e
    have e' : (b, o) = p := Option.some.inj e
    subst e'
    exact ⟨hb, q⟩
theorem Inv.pinned {pins : List (Addr × Obj)} {σ : St} {H : Hp} {s : Shared} {fp : List Addr} (I : Inv X pins σ H s) (hf : ∀ b ∈ fp, FpOk X pins H b) (ho : ∀ b ∈ fp, ∃ o, s.heap.get? b = some o ∧ ∀ v, o.data ≠ .cell v) : Inv X (pins ++ pinsAt fp s.heap) σ H s :=
  I.pins_of fun p hp => (List.mem_append.mp hp).elim (fun z => I.pin p (List.mem_append_right _ z)) fun z => by
    obtain ⟨hb, e⟩ := of_pinsAt z
    obtain ⟨f0, f1, f2, _⟩ := hf p.1 hb
    obtain ⟨o, e', d⟩ := ho p.1 hb
    rw [e] at e'; cases e'
    exact ⟨e, f0, f1, f2, d⟩
theorem Inv.unpinned {pins pl : List (Addr × Obj)} {σ : St} {H : Hp} {s : Shared} (I : Inv X (pins ++ pl) σ H s) : Inv X pins σ H s := I.pins_of fun p hp => I.pin p (List.mem_append_right _ (List.mem_append_left _ hp))
theorem ps_for {iter : Expr} {body : List Stmt} {wi : TI} {g : TG} {tb : TS} {pos : Pos} (hp : PassesOwn (model X.prog X.w) X.A X.env X.xe) (hc : X.calm = true) (hi : PI X tg iter wi) (hg : PG X tg g) (hb : PSs X body tb)
    (hs : ∀ x, foldedSetIterable iter X.env x = pure x := by intro _; rfl) : PS X (.For tg iter body [] pos) (tFor wi g tb) := by
  intro pins s σ H D I h
  refine wpAny_For (thn (hi pins s σ H _ I h) fun v s1 h1 => thn h1 fun itv s2 h2 => ?_) hs
  obtain ⟨it, fp, tn, J, H2, e, I2, T, st2, f2, W, ⟨m0, w0⟩, turn⟩ := h2
  subst e
  -- what stays true of the iterator's objects through the loop
  have stat : ∀ {H' : Hp}, (∀ b ∈ fp, H' b = none) → ∀ b ∈ fp, FpOk X pins H' b := fun hn b hb => ⟨hn b hb, (f2 b hb).2⟩
  refine codeAny_forLoop_any (fun n s' => ∃ i σ' H', Inv X pins σ' H' s' ∧ tn i s'.heap ∧ (∀ b ∈ fp, H' b = none) ∧ W i n σ' H') ?_ m0 ⟨0, σ, H2, I2, st2, fun b hb => (f2 b hb).1, w0⟩
  rintro n s3 ⟨i, σ3, H3, I3, st3, fr3, w3⟩
  rcases turn i n σ3 H3 w3 with ⟨stop, qn⟩ | ⟨go, N, hN, step⟩
  · refine wpAny_passesOwn hp (thn (T.done X rfl rfl rfl hc i pins s3 σ3 H3 X.xe I3 (stat fr3) st3 stop) fun r s4 ⟨hr, I4⟩ => ?_)
    subst hr
    exact wpAny_execs_nil ⟨σ3, H3, I4, qn⟩
  · refine wpAny_passesOwn hp (thn (T.item X rfl rfl rfl hc i pins s3 σ3 H3 X.xe I3 (stat fr3) st3 go) fun r s4 ⟨u, hr, h4⟩ => ?_)
    subst hr
    refine wpAny_passesOwn hp (thn h4 fun _ s5 ⟨x, H5, I5, r5, y5, st5, fr5⟩ => ?_)
    have I5' := I5.pinned (stat fr5) (T.obj _ _ st5)
    refine wpAny_passesOwn hp (thn (hg _ s5 σ3 H5 x u _ I5' r5 (step x H5 y5)) fun _ s6 ⟨σ6, H6, I6, q6⟩ => ?_)
    refine wpAny_passesOwn hp (thn (hb _ s6 σ6 H6 _ I6 q6) fun f s7 q7 => ?_)
    have again : ∀ {σ7 : St} {H7 : Hp}, Inv X (pins ++ pinsAt fp s5.heap) σ7 H7 s7 → N σ7 H7 → ∃ m, m < n ∧ ∃ i σ' H', Inv X pins σ' H' s7 ∧ tn i s7.heap ∧ (∀ b ∈ fp, H' b = none) ∧ W i m σ' H' := fun {σ7 H7} I7 n7 => by
      obtain ⟨m', hm, w7⟩ := hN σ7 H7 n7
      refine ⟨m', hm, i + 1, σ7, H7, I7.unpinned, T.keep _ _ _ st5 fun b hb o e => (I7.pin (b, o) (List.mem_append_right _ (List.mem_append_right _ (mem_pinsAt hb e)))).1, fun b hb => ?_, w7⟩
      obtain ⟨o, e, d⟩ := T.obj _ _ st5 b hb
      exact (I7.pin (b, o) (List.mem_append_right _ (List.mem_append_right _ (mem_pinsAt hb e)))).2.1
    cases f with
    | next => obtain ⟨σ7, H7, I7, n7⟩ := q7; exact again I7 n7
    | cont => obtain ⟨σ7, H7, I7, n7⟩ := q7; exact again I7 n7
    | brk => obtain ⟨σ7, H7, I7, q7⟩ := q7; exact ⟨σ7, H7, I7.unpinned, q7⟩
    | ret v => obtain ⟨x7, σ7, H7, I7, r7, q7⟩ := q7; exact ⟨x7, σ7, H7, I7.unpinned, r7, q7⟩
end

theorem for_list {K : PySem.W.Frag} {a : Addr} {xs : List V} {g : TG} {tb : TS} {D : Ends} {σ : St} {H : Hp} (Pv : Nat → St → Hp → Prop) (h0 : Pv 0 σ H) (hl : ∀ i σ H, i ≤ xs.length → Pv i σ H → SqL K H a xs)
    (hs : ∀ i x σ H, xs[i]? = some x → Pv i σ H → g x σ H fun σ2 H2 => tb { D with nx := Pv (i + 1), ct := Pv (i + 1), bk := D.nx } σ2 H2) (hd : ∀ σ H, Pv xs.length σ H → D.nx σ H) :
    ∃ W : Nat → Nat → St → Hp → Prop, (∃ m, W 0 m σ H) ∧ ∀ i m σ H, W i m σ H →
      ((Itl K a).stop i H ∧ D.nx σ H) ∨ ((Itl K a).go i H ∧ ∃ N : St → Hp → Prop, (∀ σ' H', N σ' H' → ∃ m', m' < m ∧ W (i + 1) m' σ' H') ∧ ∀ x H', (Itl K a).yld i H x H' → g x σ H' fun σ2 H2 => tb { D with nx := N, ct := N, bk := D.nx } σ2 H2) := by
  refine ⟨fun i m σ H => m = xs.length - i ∧ i ≤ xs.length ∧ Pv i σ H, ⟨xs.length, by simp, Nat.zero_le _, h0⟩, ?_⟩
  rintro i m σ H ⟨rfl, hi, p⟩
  have q := hl i σ H hi p
  by_cases hlt : i < xs.length
  · refine .inr ⟨⟨xs, xs[i], q, by simp [hlt]⟩, Pv (i + 1), fun σ' H' p' => ⟨xs.length - (i + 1), by omega, rfl, hlt, p'⟩, fun x H' y => ?_⟩
    obtain ⟨e, y⟩ := y
    subst e
    exact hs i x σ _ (y xs q) p
  · have e : i = xs.length := by omega
    subst e
    exact .inl ⟨⟨xs, q, Nat.le_refl _⟩, hd σ H p⟩
theorem for_tup {K : PySem.W.Frag} {a : Addr} {xs : List V} {g : TG} {tb : TS} {D : Ends} {σ : St} {H : Hp} (Pv : Nat → St → Hp → Prop) (h0 : Pv 0 σ H) (hl : ∀ i σ H, i ≤ xs.length → Pv i σ H → SqT K H a xs)
    (hs : ∀ i x σ H, xs[i]? = some x → Pv i σ H → g x σ H fun σ2 H2 => tb { D with nx := Pv (i + 1), ct := Pv (i + 1), bk := D.nx } σ2 H2) (hd : ∀ σ H, Pv xs.length σ H → D.nx σ H) :
    ∃ W : Nat → Nat → St → Hp → Prop, (∃ m, W 0 m σ H) ∧ ∀ i m σ H, W i m σ H →
      ((Itt K a).stop i H ∧ D.nx σ H) ∨ ((Itt K a).go i H ∧ ∃ N : St → Hp → Prop, (∀ σ' H', N σ' H' → ∃ m', m' < m ∧ W (i + 1) m' σ' H') ∧ ∀ x H', (Itt K a).yld i H x H' → g x σ H' fun σ2 H2 => tb { D with nx := N, ct := N, bk := D.nx } σ2 H2) := by
  refine ⟨fun i m σ H => m = xs.length - i ∧ i ≤ xs.length ∧ Pv i σ H, ⟨xs.length, by simp, Nat.zero_le _, h0⟩, ?_⟩
  rintro i m σ H ⟨rfl, hi, p⟩
  have q := hl i σ H hi p
  by_cases hlt : i < xs.length
  · refine .inr ⟨⟨xs, xs[i], q, by simp [hlt]⟩, Pv (i + 1), fun σ' H' p' => ⟨xs.length - (i + 1), by omega, rfl, hlt, p'⟩, fun x H' y => ?_⟩
    obtain ⟨e, y⟩ := y
    subst e
    exact hs i x σ _ (y xs q) p
  · have e : i = xs.length := by omega
    subst e
    exact .inl ⟨⟨xs, q, Nat.le_refl _⟩, hd σ H p⟩
theorem for_range {lo : Int} {n : Nat} {g : TG} {tb : TS} {D : Ends} {σ : St} {H : Hp} (Pv : Nat → St → Hp → Prop) (h0 : Pv 0 σ H)
    (hs : ∀ i σ H, i < n → Pv i σ H → g (.int (lo + i)) σ H fun σ2 H2 => tb { D with nx := Pv (i + 1), ct := Pv (i + 1), bk := D.nx } σ2 H2) (hd : ∀ σ H, Pv n σ H → D.nx σ H) :
    ∃ W : Nat → Nat → St → Hp → Prop, (∃ m, W 0 m σ H) ∧ ∀ i m σ H, W i m σ H →
      ((Itr lo n).stop i H ∧ D.nx σ H) ∨ ((Itr lo n).go i H ∧ ∃ N : St → Hp → Prop, (∀ σ' H', N σ' H' → ∃ m', m' < m ∧ W (i + 1) m' σ' H') ∧ ∀ x H', (Itr lo n).yld i H x H' → g x σ H' fun σ2 H2 => tb { D with nx := N, ct := N, bk := D.nx } σ2 H2) := by
  refine ⟨fun i m σ H => m = n - i ∧ i ≤ n ∧ Pv i σ H, ⟨n, by simp, Nat.zero_le _, h0⟩, ?_⟩
  rintro i m σ H ⟨rfl, hi, p⟩
  by_cases hlt : i < n
  · refine .inr ⟨hlt, Pv (i + 1), fun σ' H' p' => ⟨n - (i + 1), by omega, rfl, hlt, p'⟩, fun x H' y => ?_⟩
    obtain ⟨e, y⟩ := y
    subst e y
    exact hs i σ _ hlt p
  · have e : i = n := by omega
    subst e
    exact .inl ⟨Nat.le_refl _, hd σ H p⟩
end L2

namespace L2
open PySem PySem.Spec PyProof.Rows

noncomputable abbrev R2 := V → V → Hp → VK → Prop
noncomputable def OpR (X : Cx) (f : Value → Value → Sem Value) (r : R2) : Prop :=
  ∀ (pins : List (Addr × Obj)) (s : Shared) (σ : St) (H : Hp) (x y : V) (v u : Value) (Q : VK), Inv X pins σ H s → RelV x v → RelV y u → r x y H Q →
    wpAny (model X.prog X.w) X.A (f v u) (EP X pins σ Q) X.xe s
noncomputable def UnR (X : Cx) (f : Value → Sem Value) (r : V → Hp → VK → Prop) : Prop :=
  ∀ (pins : List (Addr × Obj)) (s : Shared) (σ : St) (H : Hp) (x : V) (v : Value) (Q : VK), Inv X pins σ H s → RelV x v → r x H Q →
    wpAny (model X.prog X.w) X.A (f v) (EP X pins σ Q) X.xe s
noncomputable def CallR (X : Cx) (f : Value) (r : List V → Hp → VK → Prop) : Prop :=
  ∀ (pins : List (Addr × Obj)) (s : Shared) (σ : St) (H : Hp) (xs : List V) (us : List Value) (Q : VK), Inv X pins σ H s → Vals xs us → r xs H Q →
    wpAny (model X.prog X.w) X.A (call f us) (EP X pins σ Q) X.xe s
noncomputable def tOp (r : R2) (ta tb : TE) : TE := fun σ H Q => ta σ H fun x H1 => tb σ H1 fun y H2 => r x y H2 Q
noncomputable def tUn (r : V → Hp → VK → Prop) (ta : TE) : TE := fun σ H Q => ta σ H fun x H1 => r x H1 Q
noncomputable def rI (C : Int → Int → Prop) (g : Int → Int → V) : R2 := fun x y H Q => ∃ i j, x = .int i ∧ y = .int j ∧ C i j ∧ Q (g i j) H
noncomputable def rI0 (g : Int → Int → V) : R2 := fun x y H Q => ∃ i j, x = .int i ∧ y = .int j ∧ Q (g i j) H
noncomputable def rU (g : Int → V) : V → Hp → VK → Prop := fun x H Q => ∃ i, x = .int i ∧ Q (g i) H

section
variable {X : Cx} {a b c : Expr} {ta tb tc : TE} {pos : Pos}

theorem binT (ha : PE X a ta) (hb : PE X b tb) {pins : List (Addr × Obj)} {s : Shared} {σ : St} {H : Hp} {R : V → V → Hp → Prop} (I : Inv X pins σ H s)
    (h : ta σ H fun x H1 => tb σ H1 fun y H2 => R x y H2) {Q : Value → Shared → Prop} {f : Value → Value → Sem Value}
    (hf : ∀ v u s2 x y H2, Inv X pins σ H2 s2 → RelV x v → RelV y u → R x y H2 → wpAny (model X.prog X.w) X.A (f v u) Q X.xe s2) :
    wpAny (model X.prog X.w) X.A (eval a X.env) (fun v s₁ => wpAny (model X.prog X.w) X.A (eval b X.env) (fun u s₂ => wpAny (model X.prog X.w) X.A (f v u) Q X.xe s₂) X.xe s₁) X.xe s := by
  refine thn (ha pins s σ H _ I h) fun v s1 ⟨x, H1, I1, r1, q1⟩ => ?_
  refine thn (hb pins s1 σ H1 _ I1 q1) fun u s2 ⟨y, H2, I2, r2, q2⟩ => ?_
  exact hf v u s2 x y H2 I2 r1 r2 q2

theorem pe_op {op : Operator} {r : R2} (ho : OpR X (binaryOp op) r) (ha : PE X a ta) (hb : PE X b tb) : PE X (.BinOp a op b pos) (tOp r ta tb) := by
  intro pins s σ H Q I h
  exact wpAny_BinOp (binT ha hb I h fun v u s2 x y H2 I2 rx ry q => ho pins s2 σ H2 x y v u Q I2 rx ry q)
theorem pe_un {op : UnaryOp} {r : V → Hp → VK → Prop} (ho : UnR X (unaryOp op) r) (ha : PE X a ta) : PE X (.UnaryOp op a pos) (tUn r ta) := by
  intro pins s σ H Q I h
  exact UnaryOp_ (thn (ha pins s σ H _ I h) fun v s1 ⟨x, H1, I1, r1, q1⟩ => ho pins s1 σ H1 x v Q I1 r1 q1)
theorem opI {f : Value → Value → Sem Value} {C : Int → Int → Prop} {g : Int → Int → Int}
    (rule : ∀ (i j : Int) (t u : Tok) (s : Shared) (Q : Value → Shared → Prop) (E : Value → Shared → Prop), C i j → Q (.int (g i j) s.toks) { s with toks := s.toks + 1 } → wpAny (model X.prog X.w) X.A (f (.int i t) (.int j u)) Q E s) :
    OpR X f (rI C fun i j => .int (g i j)) := by
  intro pins s σ H x y v u Q I rx ry h
  obtain ⟨i, j, rfl, rfl, hc, q⟩ := h
  obtain ⟨t, rfl⟩ := rx
  obtain ⟨t', rfl⟩ := ry
  exact rule i j t t' s _ _ hc ⟨.int (g i j), H, I.tok _, ⟨_, rfl⟩, q⟩
theorem opI0 {f : Value → Value → Sem Value} {g : Int → Int → Int}
    (rule : ∀ (i j : Int) (t u : Tok) (s : Shared) (Q : Value → Shared → Prop) (E : Value → Shared → Prop), Q (.int (g i j) s.toks) { s with toks := s.toks + 1 } → wpAny (model X.prog X.w) X.A (f (.int i t) (.int j u)) Q E s) :
    OpR X f (rI0 fun i j => .int (g i j)) := by
  intro pins s σ H x y v u Q I rx ry h
  obtain ⟨i, j, rfl, rfl, q⟩ := h
  obtain ⟨t, rfl⟩ := rx
  obtain ⟨t', rfl⟩ := ry
  exact rule i j t t' s _ _ ⟨.int (g i j), H, I.tok _, ⟨_, rfl⟩, q⟩
theorem opB0 {f : Value → Value → Sem Value} {g : Int → Int → Bool}
    (rule : ∀ (i j : Int) (t u : Tok) (s : Shared) (Q : Value → Shared → Prop) (E : Value → Shared → Prop), Q (.bool (g i j)) s → wpAny (model X.prog X.w) X.A (f (.int i t) (.int j u)) Q E s) :
    OpR X f (rI0 fun i j => .bl (g i j)) := by
  intro pins s σ H x y v u Q I rx ry h
  obtain ⟨i, j, rfl, rfl, q⟩ := h
  obtain ⟨t, rfl⟩ := rx
  obtain ⟨t', rfl⟩ := ry
  exact rule i j t t' s _ _ ⟨.bl (g i j), H, I, rfl, q⟩

noncomputable def CDiv (i j : Int) : Prop := 0 < j ∧ j < 1073741824
noncomputable def CPow (i j : Int) : Prop := 0 ≤ j ∧ j ≤ 1000000 ∧ i.natAbs < 2 ^ 64
noncomputable def CMul (i j : Int) : Prop := (-(2 ^ 64) < i ∧ i < 2 ^ 64) ∨ (-(2 ^ 64) < j ∧ j < 2 ^ 64)
theorem CMul.ok {i j : Int} (h : CMul i j) : IntMulOk i j := by
  rcases h with ⟨h1, h2⟩ | ⟨h1, h2⟩
  · exact .of_left (intBits_le_64 h1 h2)
  · exact .of_right (intBits_le_64 h1 h2)
theorem op_add : OpR X (binaryOp .Add) (rI0 fun i j => .int (i + j)) := opI0 fun _ _ _ _ _ _ _ q => add_int q
theorem op_sub : OpR X (binaryOp .Sub) (rI0 fun i j => .int (i - j)) := opI0 fun _ _ _ _ _ _ _ q => sub_int q
theorem op_mul : OpR X (binaryOp .Mult) (rI CMul fun i j => .int (i * j)) := opI fun _ _ _ _ _ _ _ hc q => mul_int q hc.ok
theorem op_fdiv : OpR X (binaryOp .FloorDiv) (rI CDiv fun i j => .int (i / j)) := opI fun i j _ _ _ _ _ hc q => by
  have h1 : (0 : Int) < j := hc.1
  have h2 : j < 1073741824 := hc.2
  exact floordiv_int (by omega) (by rw [Int.fdiv_eq_ediv_of_nonneg i (by omega)]; exact q) (.inl (PyProof.noPylong_small (by omega)))
theorem op_mod : OpR X (binaryOp .Mod) (rI (fun _ j => 0 < j) fun i j => .int (i % j)) := opI fun i j _ _ _ _ _ hc q => by
  have h1 : (0 : Int) < j := hc
  exact mod_int' (by omega) (by rw [Int.fmod_eq_emod_of_nonneg i (by omega)]; exact q)
theorem op_pow : OpR X (binaryOp .Pow) (rI CPow fun i j => .int (i ^ j.toNat)) := opI fun _ _ _ _ _ _ _ hc q => pow_int_small hc.1 hc.2.1 hc.2.2 q
theorem unI {f : Value → Sem Value} {g : Int → Int}
    (rule : ∀ (i : Int) (t : Tok) (s : Shared) (Q : Value → Shared → Prop) (E : Value → Shared → Prop), Q (.int (g i) s.toks) { s with toks := s.toks + 1 } → wpAny (model X.prog X.w) X.A (f (.int i t)) Q E s) :
    UnR X f (rU fun i => .int (g i)) := by
  intro pins s σ H x v Q I rx h
  obtain ⟨i, rfl, q⟩ := h
  obtain ⟨t, rfl⟩ := rx
  exact rule i t s _ _ ⟨.int (g i), H, I.tok _, ⟨_, rfl⟩, q⟩
theorem un_neg : UnR X (unaryOp .USub) (rU fun i => .int (-i)) := unI fun _ _ _ _ _ q => neg_int q
end

noncomputable def scal : V → V → Bool
  | .non, .non => true | .non, .int _ => true | .int _, .non => true | .non, .bl _ => true | .bl _, .non => true | .non, .str _ => true | .str _, .non => true
  | .int _, .int _ => true | .bl _, .bl _ => true | .str _, .str _ => true | .byt _, .byt _ => true
  | .int _, .str _ => true | .str _, .int _ => true | .bl _, .str _ => true | .str _, .bl _ => true
  | _, _ => false
noncomputable def rEq : R2 := fun x y H Q => scal x y = true ∧ Q (.bl (decide (x = y))) H
noncomputable def rNe : R2 := fun x y H Q => scal x y = true ∧ Q (.bl (!decide (x = y))) H

theorem dec_int {i j : Int} : decide (V.int i = V.int j) = (i == j) := by
  rw [Bool.eq_iff_iff]
  simp
theorem dec_bl {i j : Bool} : decide (V.bl i = V.bl j) = (i == j) := by
  rw [Bool.eq_iff_iff]
  simp
theorem dec_str {i j : Str} : decide (V.str i = V.str j) = (i == j) := by
  rw [Bool.eq_iff_iff]
  simp
theorem dec_byt {i j : Array UInt8} : decide (V.byt i = V.byt j) = (i.toList == j.toList) := by
  rw [Bool.eq_iff_iff]
  cases i
  cases j
  simp

section
variable {X : Cx} {a b c : Expr} {ta tb tc : TE} {pos : Pos}
theorem fin_bl {pins : List (Addr × Obj)} {σ : St} {H : Hp} {s : Shared} {Q : VK} {k k' : Bool} (I : Inv X pins σ H s) (q : Q (.bl k) H) (e : k = k') : EP X pins σ Q (.bool k') s := by
  subst e
  exact ⟨.bl k, H, I, rfl, q⟩
theorem op_eq : OpR X (compareOp .Eq) rEq := by
  intro pins s σ H x y v u Q I rx ry h
  obtain ⟨hs, q⟩ := h
  cases x with
  | non =>
    cases rx
    cases y with
    | non => cases ry; exact PySem.EqNone.eq_none_none (fin_bl I q (by simp))
    | bl j => cases ry; exact PySem.EqNone.eq_none_bool (fin_bl I q (by simp))
    | int j => obtain ⟨t', rfl⟩ := ry; exact PySem.EqNone.eq_none_int (fin_bl I q (by simp))
    | str j => obtain ⟨t', rfl⟩ := ry; exact PySem.EqNone.eq_none_str (fin_bl I q (by simp))
    | _ => exact absurd (show false = true from hs) Bool.false_ne_true
  | bl i =>
    cases rx
    cases y with
    | non => cases ry; exact PySem.EqNone.eq_bool_none (fin_bl I q (by simp))
    | bl j => cases ry; exact eq_bool (fin_bl I q dec_bl)
    | str j => obtain ⟨t', rfl⟩ := ry; exact PySem.EqMixed.eq_bool_str (fin_bl I q (by simp))
    | _ => exact absurd (show false = true from hs) Bool.false_ne_true
  | int i =>
    obtain ⟨t, rfl⟩ := rx
    cases y with
    | non => cases ry; exact PySem.EqNone.eq_int_none (fin_bl I q (by simp))
    | int j => obtain ⟨t', rfl⟩ := ry; exact eq_int (fin_bl I q dec_int)
    | str j => obtain ⟨t', rfl⟩ := ry; exact PySem.EqMixed.eq_int_str (fin_bl I q (by simp))
    | _ => exact absurd (show false = true from hs) Bool.false_ne_true
  | str i =>
    obtain ⟨t, rfl⟩ := rx
    cases y with
    | non => cases ry; exact PySem.EqNone.eq_str_none (fin_bl I q (by simp))
    | bl j => cases ry; exact PySem.EqMixed.eq_str_bool (fin_bl I q (by simp))
    | int j => obtain ⟨t', rfl⟩ := ry; exact PySem.EqMixed.eq_str_int (fin_bl I q (by simp))
    | str j => obtain ⟨t', rfl⟩ := ry; exact eq_str (fin_bl I q dec_str)
    | _ => exact absurd (show false = true from hs) Bool.false_ne_true
  | byt i =>
    obtain ⟨t, rfl⟩ := rx
    cases y with
    | byt j => obtain ⟨t', rfl⟩ := ry; exact PySem.W.eq_bytes (fin_bl I q dec_byt)
    | _ => exact absurd (show false = true from hs) Bool.false_ne_true
  | _ => cases y <;> exact absurd (show false = true from hs) Bool.false_ne_true
theorem op_ne : OpR X (compareOp .NotEq) rNe := by
  intro pins s σ H x y v u Q I rx ry h
  obtain ⟨hs, q⟩ := h
  cases x with
  | non =>
    cases rx
    cases y with
    | non => cases ry; exact PySem.EqNone.ne_none_none (fin_bl I q (by simp))
    | bl j => cases ry; exact PySem.EqNone.ne_none_bool (fin_bl I q (by simp))
    | int j => obtain ⟨t', rfl⟩ := ry; exact PySem.EqNone.ne_none_int (fin_bl I q (by simp))
    | str j => obtain ⟨t', rfl⟩ := ry; exact PySem.EqNone.ne_none_str (fin_bl I q (by simp))
    | _ => exact absurd (show false = true from hs) Bool.false_ne_true
  | bl i =>
    cases rx
    cases y with
    | non => cases ry; exact PySem.EqNone.ne_bool_none (fin_bl I q (by simp))
    | bl j => cases ry; exact ne_bool (fin_bl I q (congrArg not dec_bl))
    | str j => obtain ⟨t', rfl⟩ := ry; exact PySem.EqMixed.ne_bool_str (fin_bl I q (by simp))
    | _ => exact absurd (show false = true from hs) Bool.false_ne_true
  | int i =>
    obtain ⟨t, rfl⟩ := rx
    cases y with
    | non => cases ry; exact PySem.EqNone.ne_int_none (fin_bl I q (by simp))
    | int j => obtain ⟨t', rfl⟩ := ry; exact ne_int (fin_bl I q (congrArg not dec_int))
    | str j => obtain ⟨t', rfl⟩ := ry; exact PySem.EqMixed.ne_int_str (fin_bl I q (by simp))
    | _ => exact absurd (show false = true from hs) Bool.false_ne_true
  | str i =>
    obtain ⟨t, rfl⟩ := rx
    cases y with
    | non => cases ry; exact PySem.EqNone.ne_str_none (fin_bl I q (by simp))
    | bl j => cases ry; exact PySem.EqMixed.ne_str_bool (fin_bl I q (by simp))
    | int j => obtain ⟨t', rfl⟩ := ry; exact PySem.EqMixed.ne_str_int (fin_bl I q (by simp))
    | str j => obtain ⟨t', rfl⟩ := ry; exact ne_str (fin_bl I q (congrArg not dec_str))
    | _ => exact absurd (show false = true from hs) Bool.false_ne_true
  | byt i =>
    obtain ⟨t, rfl⟩ := rx
    cases y with
    | byt j => obtain ⟨t', rfl⟩ := ry; exact PySem.W.ne_bytes (fin_bl I q (congrArg not dec_byt))
    | _ => exact absurd (show false = true from hs) Bool.false_ne_true
  | _ => cases y <;> exact absurd (show false = true from hs) Bool.false_ne_true

theorem op_lt : OpR X (compareOp .Lt) (rI0 fun i j => .bl (decide (i < j))) := opB0 fun _ _ _ _ _ _ _ q => lt_int q
theorem op_gt : OpR X (compareOp .Gt) (rI0 fun i j => .bl (decide (j < i))) := opB0 fun _ _ _ _ _ _ _ q => gt_int q
theorem op_ge : OpR X (compareOp .GtE) (rI0 fun i j => .bl (decide (j ≤ i))) := opB0 fun _ _ _ _ _ _ _ q => ge_int q
theorem op_isN : OpR X (compareOp .Is) (fun x y H Q => y = .non ∧ Q (.bl (decide (x = .non))) H) := by
  intro pins s σ H x y v u Q I rx ry h
  obtain ⟨rfl, q⟩ := h
  cases ry
  refine is_none_gen (fin_bl I q ?_)
  cases x <;> first
    | (cases rx; rfl)
    | (obtain ⟨t, rfl⟩ := rx; rfl)
theorem op_notN : OpR X (compareOp .IsNot) (fun x y H Q => y = .non ∧ Q (.bl (!decide (x = .non))) H) := by
  intro pins s σ H x y v u Q I rx ry h
  obtain ⟨rfl, q⟩ := h
  cases ry
  refine isnot_none_gen (fin_bl I q ?_)
  cases x <;> first
    | (cases rx; rfl)
    | (obtain ⟨t, rfl⟩ := rx; rfl)

theorem nomark (b : Expr) {op : CmpOp} (h : op ≠ .In := by decide) (h2 : op ≠ .NotIn := by decide) : behindInMarks op b = false := by
  have e1 : (op == CmpOp.In) = false := by cases op <;> first | rfl | exact absurd rfl h
  have e2 : (op == CmpOp.NotIn) = false := by cases op <;> first | rfl | exact absurd rfl h2
  cases b <;> simp [behindInMarks, e1, e2]
theorem pe_cmpR {op : CmpOp} {r : R2} (ho : OpR X (compareOp op) r) (ha : PE X a ta) (hb : PE X b tb) (hm : behindInMarks op b = false) : PE X (.Compare a [op] [b] pos) (tOp r ta tb) := by
  intro pins s σ H Q I h
  exact wpAny_Compare1 (binT ha hb I h fun v u s2 x y H2 I2 rx ry q => ho pins s2 σ H2 x y v u Q I2 rx ry q) hm
noncomputable def tTest (t : TE) : TT := fun σ H Q => t σ H fun x H' => ∃ k, x = .bl k ∧ Q k H'
theorem pt_cmpR {op : CmpOp} {r : R2} (ho : OpR X (compareOp op) r) (ha : PE X a ta) (hb : PE X b tb) (hm : behindInMarks op b = false) : PT X (.Compare a [op] [b] pos) (tTest (tOp r ta tb)) := by
  intro pins s σ H Q I h
  refine wpAny_isTrue_Compare1 (thn (ha pins s σ H _ I h) fun v s1 ⟨x, H1, I1, r1, q1⟩ => thn (hb pins s1 σ H1 _ I1 q1) fun u s2 ⟨y, H2, I2, r2, q2⟩ =>
    thn (ho pins s2 σ H2 x y v u _ I2 r1 r2 q2) fun c s3 ⟨z, H3, I3, r3, k, e, q3⟩ => ?_) hm
  subst e
  cases r3
  exact wpAny_truthy_bool ⟨H3, I3, q3⟩
theorem line63 : (sizeLine : Nat) < 2 ^ 63 := by rw [sizeLine_eq]; decide
theorem vals1 {x : V} {us : List Value} (r : Vals [x] us) : ∃ u, us = [u] ∧ RelV x u := by
  cases r with
  | cons r1 r2 => cases r2; exact ⟨_, rfl, r1⟩
theorem vals2 {x y : V} {us : List Value} (r : Vals [x, y] us) : ∃ u w', us = [u, w'] ∧ RelV x u ∧ RelV y w' := by
  cases r with
  | cons r1 r2 =>
    cases r2 with
    | cons r3 r4 => cases r4; exact ⟨_, _, rfl, r1, r3⟩
theorem call_abs : CallR X (.builtin "abs") (fun xs H Q => ∃ i, xs = [.int i] ∧ Q (.int (if i < 0 then -i else i)) H) := by
  intro pins s σ H xs us Q I r h
  obtain ⟨i, rfl, q⟩ := h
  obtain ⟨u, rfl, t, rfl⟩ := vals1 r
  exact call_abs_int fun u tk => ⟨.int (if i < 0 then -i else i), H, I.tok _, ⟨_, rfl⟩, q⟩
theorem call_max2 (hc : X.calm = true) : CallR X (.builtin "max") (fun xs H Q => ∃ i j, xs = [.int i, .int j] ∧ Q (.int (if j > i then j else i)) H) := by
  intro pins s σ H xs us Q I r h
  obtain ⟨i, j, rfl, q⟩ := h
  obtain ⟨u, w', rfl, ⟨t, rfl⟩, ⟨t', rfl⟩⟩ := vals2 r
  refine max_two_ints (I.ok.hd hc) fun h' tk k => ⟨_, H, I.kept k, ?_, q⟩
  by_cases hj : j > i
  · rw [if_pos hj, if_pos hj]; exact ⟨_, rfl⟩
  · rw [if_neg hj, if_neg hj]; exact ⟨_, rfl⟩
theorem call_min2 (hc : X.calm = true) : CallR X (.builtin "min") (fun xs H Q => ∃ i j, xs = [.int i, .int j] ∧ Q (.int (if j < i then j else i)) H) := by
  intro pins s σ H xs us Q I r h
  obtain ⟨i, j, rfl, q⟩ := h
  obtain ⟨u, w', rfl, ⟨t, rfl⟩, ⟨t', rfl⟩⟩ := vals2 r
  refine min_two_ints (I.ok.hd hc) fun h' tk k => ⟨_, H, I.kept k, ?_, q⟩
  by_cases hj : j < i
  · rw [if_pos hj, if_pos hj]; exact ⟨_, rfl⟩
  · rw [if_neg hj, if_neg hj]; exact ⟨_, rfl⟩
theorem call_int1 : CallR X (.type "int") (fun xs H Q => (∃ i, xs = [.int i] ∧ Q (.int i) H) ∨ ∃ k, xs = [.bl k] ∧ Q (.int (if k then 1 else 0)) H) := by
  intro pins s σ H xs us Q I r h
  rcases h with ⟨i, rfl, q⟩ | ⟨k, rfl, q⟩
  · obtain ⟨u, rfl, t, rfl⟩ := vals1 r
    exact call_int_int ⟨.int i, H, I, ⟨_, rfl⟩, q⟩
  · obtain ⟨u, rfl, r1⟩ := vals1 r
    cases r1
    exact call_int_bool ⟨.int (if k then 1 else 0), H, I.tok _, ⟨_, rfl⟩, q⟩
end
end L2

namespace L2
open PySem PySem.Spec PyProof.Rows

structure ObjM (h : Heap) (x dx C : Addr) (mA : Str → Option Value) : Prop where
  obj : h.get? x = some (PySem.W.instObj C dx)
  ns : h.Ns1 dx mA
  ne : dx ≠ x

theorem lookIn_ns {h : Heap} {dx : Addr} {mA : Str → Option Value} (n : h.Ns1 dx mA) : ∃ od, h.get? dx = some od ∧ ∀ name, PySem.W.lookIn name od = some (mA name) := by
  obtain ⟨o, es, ep, ho, hd, hk, _, hm⟩ := n
  refine ⟨o, ho, fun name => ?_⟩
  have e := hm name
  unfold nsFind findBy at e
  rw [← Array.find?_toList] at e
  unfold PySem.W.lookIn
  rw [hd]
  dsimp only
  split
  · rename_i y q
    rw [q] at e
    exact congrArg some e
  · rename_i q
    rw [q] at e
    have a : es.toList.any (·.refKey) = false := by
      rw [List.any_eq_false]
      intro y hy
      obtain ⟨z, t, hkey⟩ := hk y (Array.mem_toList_iff.mp hy)
      simp [DictEntry.refKey, hkey]
    have a' : ¬ es.toList.any (·.refKey) = true := by rw [a]; exact Bool.false_ne_true
    rw [if_neg a']
    exact congrArg some e

theorem ObjM.look {h : Heap} {x dx C : Addr} {mA : Str → Option Value} (I : ObjM h x dx C mA) : ∃ od, PySem.W.InstAt h x (PySem.W.instObj C dx) C (some od) ∧ ∀ name, PySem.W.lookIn name od = some (mA name) :=
  let ⟨od, ho, hl⟩ := lookIn_ns I.ns
  ⟨od, ⟨I.obj, rfl, rfl, ho⟩, hl⟩

section
variable {prog : Program} {w : World} {A : Around} {E : Value → Shared → Prop} {s : Shared} {K : PySem.W.Frag} {x dx C f : Addr} {mA : Str → Option Value} {name : Str} {v : Value}

end

theorem RelO.some_of {v : V} {o : Option Value} (r : RelO (some v) o) : ∃ u, o = some u ∧ RelV v u := by
  cases o with
  | none => exact (show False from r).elim
  | some u => exact ⟨u, rfl, r⟩
section
variable {P : Program} {w : World} {H H' : Hp} {h h' : Heap} {a C dx : Addr} {fs fs' : List (Str × V)}
theorem ins_get (hok : HOk P w H h) (e : H a = some (.ins C dx fs)) : ∃ mA, ObjM h a dx C mA ∧ (∀ f, RelO (fs.lookup f) (mA f)) ∧ PySem.Within mA (fs.map (·.1)) ∧ fs.length ≤ 1000 ∧ H dx = some (.own a) := by
  obtain ⟨d, z, ne, ob, mA, n, r, q⟩ := (show ObjOk P w H h a (.ins C dx fs) from hok a _ e)
  exact ⟨mA, ⟨ob, n, ne⟩, r, q, z, d⟩
end

structure Cls (K : PySem.W.Frag) (C : Addr) : Prop where
  pg : PySem.W.plainGet K C Str.empty = true
  hd : PySem.W.hasDictIn K C = true
  po : PySem.W.plainOver K C = true
  sa : PySem.W.findIn K (.ref C) "__setattr__" = some (some (.builtin "object.__setattr__"))
theorem Cls.get {K : PySem.W.Frag} {C : Addr} (c : Cls K C) (f : Str) : PySem.W.plainGet K C f = true := c.pg
section
variable {X : Cx} {pins : List (Addr × Obj)} {σ : St} {H : Hp} {s : Shared} {a C dx : Addr} {fs : List (Str × V)} {f : Str} {v : V} {A : Around} {E : Value → Shared → Prop}

end

section
variable {X : Cx} {o e value : Expr} {f : Str} {pos pos' tpos : Pos} {ta tv : TE}
end

section
variable {X : Cx} {pins : List (Addr × Obj)} {σ : St} {H : Hp} {s : Shared} {A : Around} {E : Value → Shared → Prop} {Q : Value → Shared → Prop} {c : Value} {b : Bool}
inductive TyOf (K : PySem.W.Frag) (H : Hp) : V → Value → Prop where
  | non : TyOf K H .non (.type "NoneType")
  | bl (x : Bool) : TyOf K H (.bl x) (.type "bool")
  | int (i : Int) : TyOf K H (.int i) (.type "int")
  | str (x : Str) : TyOf K H (.str x) (.type "str")
  | flt (x : UInt64) : TyOf K H (.flt x) (.type "float")
  | lst {a : Addr} {xs : List V} (e : H a = some (.lst xs)) : TyOf K H (.ref a) (.type "list")
  | frz {a : Addr} {o : Obj} {xs : List V} (e : H a = some (.frz o (.lst xs))) : TyOf K H (.ref a) (.type "list")
  | tup {a : Addr} {xs : List V} (e : H a = some (.tup xs)) : TyOf K H (.ref a) (.type "tuple")
  | dK {a : Addr} {kvs : List (Key × V)} (e : H a = some (.dK kvs)) : TyOf K H (.ref a) (.type "dict")
  | dT {a : Addr} {kvs : List (List Key × V)} (e : H a = some (.dT kvs)) : TyOf K H (.ref a) (.type "dict")
  | ins {a C dx : Addr} {fs : List (Str × V)} (e : H a = some (.ins C dx fs)) (cl : Cls K C) (ha : PySem.W.findIn K (.ref C) "__class__" = some (some (.builtin "object.__class__")))
      (hn : PySem.W.specialIn K (.builtin "object.__class__") "__get__" = some (some (.builtin "getset_descriptor.__get__"))) (htk : PySem.W.takesIn K (.builtin "object.__class__") = some true)
      (hm : PySem.W.mroIn K C (.type "object") = some true) : TyOf K H (.ref a) (.ref C)
theorem isinst_ok {x : V} {u t : Value} (I : Inv X pins σ H s) (rx : RelV x u) (ty : TyOf X.K H x t) (e : PySem.W.kitOne X.K t c = some b) (h : ∀ tk, Q (.bool b) { s with toks := tk }) :
    wpAny (model X.prog X.w) A (call (.builtin "isinstance") [u, c]) Q E s := by
  cases ty with
  | non => cases (show u = Value.none from rx); exact PySem.W.kia_one PySem.W.kitx_none I.kIn True.intro e (fun z => nomatch z) h
  | bl y => cases (show u = Value.bool y from rx); exact PySem.W.kia_one PySem.W.kitx_bool I.kIn True.intro e (fun z => nomatch z) h
  | int i => obtain ⟨t, q⟩ := (show ∃ t, u = Value.int i t from rx); cases q; exact PySem.W.kia_one PySem.W.kitx_int I.kIn True.intro e (fun z => nomatch z) h
  | str y => obtain ⟨t, q⟩ := (show ∃ t, u = Value.str y t from rx); cases q; exact PySem.W.kia_one PySem.W.kitx_str I.kIn True.intro e (fun z => nomatch z) h
  | flt y => obtain ⟨t, q⟩ := (show ∃ t, u = Value.float y t from rx); cases q; exact PySem.W.kia_one PySem.W.kitx_float I.kIn True.intro e (fun z => nomatch z) h
  | @lst a xs ea =>
    cases (show u = Value.ref a from rx)
    obtain ⟨_, _, n, _, h1⟩ := (show ObjOk X.prog X.w H s.heap a (.lst xs) from I.hok a _ ea)
    exact PySem.W.kia_one PySem.W.kitx_list I.kIn ⟨_, h1, rfl⟩ e (fun z => nomatch z) h
  | @frz a ob xs ea =>
    cases (show u = Value.ref a from rx)
    obtain ⟨_, _, _, n, _, h1⟩ := (show ObjOk X.prog X.w H s.heap a (.frz ob (.lst xs)) from I.hok a _ ea)
    exact PySem.W.kia_one PySem.W.kitx_list I.kIn ⟨_, h1, rfl⟩ e (fun z => nomatch z) h
  | @tup a xs ea =>
    cases (show u = Value.ref a from rx)
    obtain ⟨_, _, _, p⟩ := (show ObjOk X.prog X.w H s.heap a (.tup xs) from I.hok a _ ea)
    obtain ⟨o, h1, h2, _⟩ := p
    exact PySem.W.kia_one PySem.W.kitx_tuple I.kIn ⟨o, h1, h2⟩ e (fun z => nomatch z) h
  | @dK a kvs ea =>
    cases (show u = Value.ref a from rx)
    obtain ⟨_, _, vs, _, p⟩ := (show ObjOk X.prog X.w H s.heap a (.dK kvs) from I.hok a _ ea)
    obtain ⟨o, es, ep, h1, h2, _⟩ := p
    exact PySem.W.kia_one PySem.W.kitx_dict I.kIn ⟨o, h1, h2.1⟩ e (fun z => nomatch z) h
  | @dT a kvs ea =>
    cases (show u = Value.ref a from rx)
    obtain ⟨_, _, xs, _, o, es, ep, h1, h2, _⟩ := (show ObjOk X.prog X.w H s.heap a (.dT kvs) from I.hok a _ ea)
    exact PySem.W.kia_one PySem.W.kitx_dict I.kIn ⟨o, h1, h2.1⟩ e (fun z => nomatch z) h
  | @ins a C dx fs ea cl ha hn htk hm =>
    cases (show u = Value.ref a from rx)
    obtain ⟨mA, O, _⟩ := ins_get I.hok ea
    obtain ⟨od, J, _⟩ := O.look
    exact PySem.W.kia_one (PySem.W.kitx_own (cl.get _) cl.hd ha hn htk hm) I.kIn J e (fun z => nomatch z) h
end
end L2

namespace L2
open PySem PySem.Spec PyProof.Rows

structure Room (k : Nat) (A : Around) : Prop where
  hd : A.handled = none
  dp : A.depth + 3 * k + 5 < recursionLimit
  un : A.units + 16 * k + 200 < cLine
  gd : A.guards = some []
theorem Room.mono {j k : Nat} {A : Around} (r : Room k A) (h : j ≤ k) : Room j A := ⟨r.hd, by have := r.dp; omega, by have := r.un; omega, r.gd⟩
theorem Room.deeper {k : Nat} {A : Around} (r : Room (k + 1) A) (env : Env) : Room k (A.deeper env) :=
  ⟨r.hd, by have := r.dp; show A.depth + 1 + 3 * k + 5 < _; omega, by have := r.un; show A.units + 3 + 16 * k + 200 < _; omega, r.gd⟩
theorem Room.depth {k : Nat} {A : Around} (r : Room k A) : A.depth < recursionLimit := by have := r.dp; omega
noncomputable def tNil : TA := fun _ H Q => Q [] H
noncomputable def tCons (ta : TE) (tr : TA) : TA := fun σ H Q => ta σ H fun x H1 => tr σ H1 fun xs H2 => Q (x :: xs) H2
section
variable {X : Cx} {e : Expr} {es : List Expr} {te : TE} {t : TA} {pos : Pos}
theorem pa_nil : PA X [] tNil := fun _ _ _ _ H Q I h => Calls.spliced_nil ⟨[], H, I, .nil, h⟩
theorem pa_cons (ha : PE X e te) (hr : PA X es t) (hs : starEach (e :: es) X.env = (false, eval e X.env) :: starEach es X.env := by rfl) : PA X (e :: es) (tCons te t) := by
  intro pos pins s σ H Q I h
  rw [hs]
  show wpAny _ _ (spliced ((false, eval e X.env) :: backTo pos (starEach es X.env))) _ _ s
  refine Calls.spliced_cons (thn (ha pins s σ H _ I h) fun u s1 ⟨x, H1, I1, r1, q1⟩ => ?_)
  exact thn (hr pos pins s1 σ H1 _ I1 q1) fun us s2 ⟨xs, H2, I2, r2, q2⟩ => ⟨x :: xs, H2, I2, .cons r1 r2, q2⟩

noncomputable def tTup (t : TA) : TE := fun σ H Q => t σ H fun xs H1 => xs.length ≤ sizeLine ∧ ∀ p, H1 p = none → Q (.ref p) (upd H1 p (.tup xs))
noncomputable def tLst (t : TA) : TE := fun σ H Q => t σ H fun xs H1 => xs.length ≤ sizeLine ∧ ∀ p, H1 p = none → Q (.ref p) (upd H1 p (.lst xs))
theorem pe_tup {x1} (h : PA X es t) : PE X (.Tuple es x1 pos) (tTup t) := by
  intro pins s σ H Q I hq
  refine wpAny_Tuple_spliced (thn (h pos pins s σ H _ I hq) fun us s1 ⟨xs, H1, I1, r, z, q⟩ => ⟨by rw [← r.length]; exact z, ?_⟩)
  have hf : H1 s1.heap.objs.size = none := I1.hok.fresh (Nat.le_refl _)
  refine ⟨.ref s1.heap.objs.size, upd H1 s1.heap.objs.size (.tup xs), I1.laid (t' := s1.toks) (fun b u e => Heap.get?_push_of_some _ e) (Nat.le_refl _) ?_, rfl, q _ hf⟩
  exact ⟨z, us, r, ⟨_, Heap.get?_push_size _ rfl, rfl, ⟨_, rfl⟩, rfl⟩⟩
theorem pe_lst (h : PA X es t) : PE X (.List es pos) (tLst t) := by
  intro pins s σ H Q I hq
  refine wpAny_List_spliced (thn (h pos pins s σ H _ I hq) fun us s1 ⟨xs, H1, I1, r, z, q⟩ => ⟨by rw [← r.length]; exact z, ?_⟩)
  have hf : H1 s1.heap.objs.size = none := I1.hok.fresh (Nat.le_refl _)
  refine ⟨.ref s1.heap.objs.size, upd H1 s1.heap.objs.size (.lst xs), I1.laid (t' := s1.toks) (fun b u e => Heap.get?_push_of_some _ e) (Nat.le_refl _) ?_, rfl, q _ hf⟩
  exact ⟨z, us, 0, r, Heap.get?_push_size _ rfl⟩
end

noncomputable abbrev Sp := List V → Hp → VK → XK → Prop
noncomputable abbrev CXT := List Env → Hp → Shared → XK → Value → Shared → Prop

structure Env0 (P : Program) (w : World) (K : PySem.W.Frag) (mg : Str → Option Value) (base : Heap) (A : Around) (outer : List Env) (s : Shared) (H : Hp) : Prop where
  frames : A.frames = some outer
  mod : Mod K mg base
  bs : ∀ b o, base.get? b = some o → s.heap.get? b = some o ∧ H b = none
  bsz : base.objs.size ≤ s.heap.objs.size
  funs : s.heap.FunFrames base outer
  frf : ∀ b ∈ frs outer, H b = none
  hok : HOk P w H s.heap
  bare : AllBare s.gens
noncomputable def CE (outer : List Env) (P : Program) (w : World) (H : Hp) (s : Shared) (Q : VK) (u : Value) (s' : Shared) : Prop :=
  ∃ v H', s'.os = s.os ∧ AllBare s'.gens ∧ Un (frs outer) [] H H' s.heap s'.heap ∧ HOk P w H' s'.heap ∧ RelV v u ∧ Q v H'
noncomputable def CR (CX : CXT) (outer : List Env) (P : Program) (w : World) (H : Hp) (s : Shared) (Q : VK) (E : XK) (r : Result) (s' : Shared) : Prop :=
  match r with
  | .ok (.ret u) => CE outer P w H s Q u s'
  | .ok _ => False
  | .error e => CX outer H s E e s'
structure FnOk (P : Program) (w : World) (K : PySem.W.Frag) (mg : Str → Option Value) (base : Heap) (CX : CXT) (k : Nat) (f : Addr) (fd : FuncData) (ps : List Str) (sp : Sp) : Prop where
  len : ∀ vs H Q E, sp vs H Q E → vs.length = ps.length
  run : ∀ (A : Around) (outer : List Env) (s : Shared) (H : Hp) (args : Args) (us : List Value) (vs : List V) (Q : VK) (E : XK), Room k A → Env0 P w K mg base A outer s H → BindsTo s fd args (ps.zip us) → Vals vs us → sp vs H Q E →
    codeAny (model P w) A (.call (.ref f) args) (CR CX outer P w H s Q E) s
section
variable {X : Cx} {pins : List (Addr × Obj)} {σ : St} {H : Hp} {s s' : Shared}
theorem Inv.env0 (I : Inv X pins σ H s) : Env0 X.prog X.w X.K X.mg X.base X.A X.stack s H :=
  ⟨I.ok.frames, I.ok.mod, I.bs, Nat.le_trans I.ok.bsz I.sz, I.stack, I.stkFree, I.hok, I.bare⟩
theorem Inv.after {Q : VK} {u : Value} (I : Inv X pins σ H s) (h : CE X.stack X.prog X.w H s Q u s') : EP X pins σ Q u s' := by
  obtain ⟨v, H', os, bare, un, hok, r, q⟩ := h
  obtain ⟨hh, g, d, t, os'⟩ := s'
  obtain rfl : os' = s.os := os
  exact ⟨v, H', I.call (h' := hh) (g' := g) (d' := d) (t' := t) (ch := []) un hok bare (fun b z => absurd z (by simp)), r, q⟩
end

noncomputable def tCall (sp : Sp) (dvs : List V) (E : XK) (t : TA) : TE := fun σ H Q => t σ H fun vs H1 => sp (vs ++ dvs) H1 Q E
noncomputable def Binds (K : PySem.W.Frag) (fd : FuncData) (ps : List Str) (ds : List Value) : Prop :=
  ∀ (s : Shared) (us : List Value), K.In s.heap → (us ++ ds).length = ps.length → BindsTo s fd ⟨us, []⟩ (ps.zip (us ++ ds))
theorem Binds.all {K : PySem.W.Frag} {fd : FuncData} {ps : List Str} (h : ∀ us : List Value, us.length = ps.length → bindArgs fd ⟨us, []⟩ = pure (ps.zip us)) : Binds K fd ps [] := fun s us _ hl => by
  rw [List.append_nil] at hl ⊢
  exact .of_eq (h us hl)

noncomputable def Passes (CX : CXT) (X : Cx) (E : XK) : Prop := ∀ (pins : List (Addr × Obj)) (σ : St) (H : Hp) (s : Shared) (e : Value) (s' : Shared), Inv X pins σ H s → CX X.stack H s E e s' → X.xe e s'

section
variable {X : Cx} {CX : CXT} {k : Nat} {f C : Addr} {fd : FuncData} {ps : List Str} {sp : Sp} {dvs : List V} {ds : List Value} {E : XK} {x m : Str} {p pos apos : Pos} {e o : Expr} {es : List Expr} {ta : TE} {t : TA}

theorem run_fn {pins : List (Addr × Obj)} {σ : St} {H : Hp} {s : Shared} {Q : VK} {us : List Value} {vs : List V} (F : FnOk X.prog X.w X.K X.mg X.base CX k f fd ps sp) (hr : Room k X.A) (hb : Binds X.K fd ps ds) (hd : Vals dvs ds) (hx : Passes CX X E)
    (I : Inv X pins σ H s) (r : Vals vs us) (h : sp (vs ++ dvs) H Q E) : wpAny (model X.prog X.w) X.A (call (.ref f) us) (EP X pins σ Q) X.xe s := by
  have r2 : Vals (vs ++ dvs) (us ++ ds) := r.append hd
  have hl : (us ++ ds).length = ps.length := by rw [← r2.length]; exact F.len _ _ _ _ h
  refine wpAny_call (codeAny_mono (F.run X.A X.stack s H ⟨us, []⟩ (us ++ ds) (vs ++ dvs) Q E hr I.env0 (hb s us I.kIn hl) r2 h) fun r s' hq => ?_)
  cases r with
  | error e => exact hx pins σ H s e s' I hq
  | ok fl =>
    cases fl with
    | ret u => exact I.after hq
    | next => exact False.elim hq
    | brk => exact False.elim hq
    | cont => exact False.elim hq

theorem pe_call (F : FnOk X.prog X.w X.K X.mg X.base CX k f fd ps sp) (hr : Room k X.A) (hg : Gl X x) (hm : X.mg x = some (.ref f)) (hk : PySem.W.keepIn X.K (.ref f) = true) (hb : Binds X.K fd ps ds) (hd : Vals dvs ds) (hx : Passes CX X E)
    (ha : PA X (e :: es) t) (hdb : (x == ("__debug__" : Str)) = false := by decide) (he : starEach (e :: es) X.env = (false, eval e X.env) :: starEach es X.env := by rfl) (hpl : (backTo pos (starEach es X.env)).any (·.1) = false := by rfl) :
    PE X (.Call (.Name x p) (e :: es) [] pos) (tCall sp dvs E t) := by
  intro pins s σ H Q I h
  refine wpAny_Call_Name_kw (ld_glob I hg hm ?_ hdb)
  refine PySem.W.callWith_K (h₀ := X.base) I.ok.mod.kin hk (thn (ha pos pins s σ H _ I h) fun us s1 ⟨vs, H1, I1, r, q⟩ => ⟨I1.kIn, ?_⟩) he hpl
  exact run_fn F hr hb hd hx I1 r q
end

section
variable {X : Cx} {CX : CXT} {k : Nat} {f C : Addr} {fd : FuncData} {ps ks : List Str} {sp : Sp} {E : XK} {x m : Str} {p pos apos kpos : Pos} {e o : Expr} {es : List Expr} {kws : List Keyword} {te ta : TE} {t tk : TA} {nm : Option Str}
variable {g : List Value → List Value → List Value} {gV : List V → List V → List V}
end

structure FnScope (N P : List Str) (sc : Scope) : Prop where
  kind : sc.kind = .function
  co : sc.isCoroutine = false
  gen : sc.isGenerator = false
  nd : N.Nodup
  pre : N.take P.length = P
  par : ∀ x ∈ P, sc.names.lookup x = some .local ∨ sc.names.lookup x = some .cell
  nofree : ∀ y ∈ sc.names, y.2 ≠ .free

theorem bindL_out {kindOf : Str → Option NameKind} {x : Str} : ∀ {binds : List (Str × Value)} {m : Str → Option Value}, (∀ v, (x, v) ∉ binds) → bindL kindOf binds m x = m x
  | [], _, _ => rfl
  | (n, v) :: r, m, h => by
    unfold bindL
    rw [bindL_out fun w hw => h w (List.mem_cons_of_mem _ hw)]
    split
    · have : x ≠ n := by rintro rfl; exact h v List.mem_cons_self
      simp [this]
    · rfl
theorem bindC_out {kindOf : Str → Option NameKind} {x : Str} : ∀ {binds : List (Str × Value)} {m : Str → Option Value}, (∀ v, (x, v) ∉ binds) → bindC kindOf binds m x = m x
  | [], _, _ => rfl
  | (n, v) :: r, m, h => by
    unfold bindC
    rw [bindC_out fun w hw => h w (List.mem_cons_of_mem _ hw)]
    split
    · rfl
    · have : x ≠ n := by rintro rfl; exact h v List.mem_cons_self
      simp [this]
theorem bindL_get {kindOf : Str → Option NameKind} {x : Str} {v : Value} : ∀ {P : List Str} {vs : List Value} {i : Nat} {m : Str → Option Value}, P.Nodup → P[i]? = some x → vs[i]? = some v → kindOf x = some .local →
    bindL kindOf (P.zip vs) m x = some v
  | [], _, _, _, _, h, _, _ => by simp at h
  | _ :: _, [], _, _, _, _, h, _ => by simp at h
  | p :: P, w :: vs, 0, m, nd, h1, h2, hk => by
    simp at h1 h2; subst h1; subst h2
    show bindL kindOf ((p, w) :: P.zip vs) m p = _
    unfold bindL
    rw [bindL_out fun v hv => (List.nodup_cons.mp nd).1 (List.of_mem_zip hv).1, if_pos hk]
    simp
  | p :: P, w :: vs, i + 1, m, nd, h1, h2, hk => by
    show bindL kindOf ((p, w) :: P.zip vs) m x = _
    unfold bindL
    exact bindL_get (i := i) (List.nodup_cons.mp nd).2 (by simpa using h1) (by simpa using h2) hk
theorem bindC_get {kindOf : Str → Option NameKind} {x : Str} {v : Value} : ∀ {P : List Str} {vs : List Value} {i : Nat} {m : Str → Option Value}, P.Nodup → P[i]? = some x → vs[i]? = some v → kindOf x ≠ some .local →
    bindC kindOf (P.zip vs) m x = some v
  | [], _, _, _, _, h, _, _ => by simp at h
  | _ :: _, [], _, _, _, _, h, _ => by simp at h
  | p :: P, w :: vs, 0, m, nd, h1, h2, hk => by
    simp at h1 h2; subst h1; subst h2
    show bindC kindOf ((p, w) :: P.zip vs) m p = _
    unfold bindC
    rw [bindC_out fun v hv => (List.nodup_cons.mp nd).1 (List.of_mem_zip hv).1, if_neg hk]
    simp
  | p :: P, w :: vs, i + 1, m, nd, h1, h2, hk => by
    show bindC kindOf ((p, w) :: P.zip vs) m x = _
    unfold bindC
    exact bindC_get (i := i) (List.nodup_cons.mp nd).2 (by simpa using h1) (by simpa using h2) hk

noncomputable def start (N : List Str) (vs : List V) : St := vs.map some ++ List.replicate (N.length - vs.length) none

noncomputable def cxOf (CX : CXT) (P : Program) (w : World) (K : PySem.W.Frag) (mg : Str → Option Value) (base : Heap) (N : List Str) (qual : Str) (scope : Scope) (f : Addr) (cd : Value) (A : Around) (outer : List Env) (s : Shared) (H : Hp) (E : XK) : Cx where
  prog := P
  w := w
  K := K
  mg := mg
  base := base
  A := A.deeper (envOfC qual scope s.heap.objs.size f cd)
  N := N
  s₀ := s
  H₀ := H
  env := envOfC qual scope s.heap.objs.size f cd
  outer := outer
  stack := envOfC qual scope s.heap.objs.size f cd :: outer
  ex := []
  calm := true
  fn := fun _ => true
  pn := []
  xe := fun e s' => wpAny (model P w) (A.deeper (envOfC qual scope s.heap.objs.size f cd)) (leaving (envOfC qual scope s.heap.objs.size f cd) e) (fun _ s'' => CX outer H s E e s'') (fun e' s'' => CX outer H s E e' s'') s'

theorem cell_has {sc : Scope} {n : Nat} {x : Str} (h : sc.names.lookup x = some .cell) : ∃ c, (cellsFrom n sc.names []).lookup x = some c := by
  have q := PySem.W.cellsFrom_some sc.names n [] (.inl h)
  exact Option.isSome_iff_exists.mp q

theorem inv_start {CX : CXT} {P : Program} {w : World} {K : PySem.W.Frag} {mg : Str → Option Value} {base : Heap} {N ps : List Str} {qual : Str} {scope : Scope} {f : Addr} {cd : Value} {A : Around} {outer : List Env} {s s1 : Shared} {H : Hp} {E : XK} {us : List Value} {vs : List V}
    (S : FnScope N ps scope) (hd : A.handled = none) (e0 : Env0 P w K mg base A outer s H) (hl : vs.length = ps.length) (r : Vals vs us)
    (x : InCallC s s.heap.objs.size (bindL (envOfC qual scope s.heap.objs.size f cd).kindOf (ps.zip us) fun _ => none) (cellsFrom (s.heap.objs.size + 1) scope.names []) (bindC (envOfC qual scope s.heap.objs.size f cd).kindOf (ps.zip us) fun _ => none) s1) :
    Inv (cxOf CX P w K mg base N qual scope f cd A outer s H E) [] (start N vs) H s1 := by
  have hpl : ps.length ≤ N.length := by have := congrArg List.length S.pre; rw [List.length_take] at this; omega
  obtain ⟨h1, tk, rfl, hk⟩ := x.done
  have noA : ∀ b : Addr, b ∉ (cxOf CX P w K mg base N qual scope f cd A outer s H E).ex := fun b z => absurd (show b ∈ ([] : List Addr) from z) (by simp)
  refine ⟨⟨e0.mod, S.kind, rfl, rfl, Nat.le_refl _, fun y z c h1 h2 => ?_, fun y hy => ?_, fun y c _ h => ?_, fun _ => hd, Around.frames_deeper e0.frames, .inr ⟨rfl, rfl⟩, fun b z => absurd z (noA b), e0.bs, e0.bsz, fun b _ _ => noA b, fun b z => absurd z (noA b), e0.funs, e0.frf⟩,
    rfl, e0.bare, Un.kept hk, ⟨_, x.toInCall.ns, fun i y v h1 h2 h3 => ?_⟩, fun y c h => ⟨_, x.cell y c h⟩, e0.hok.fresh (Nat.le_refl _), fun y c h => ?_, fun p hp => absurd (show p ∈ ([] : List (Addr × Obj)) from hp) (by simp), e0.hok.kept hk, ?_⟩
  · exact name_of_addr x.apart (PySem.mem_of_lookup h1) (PySem.mem_of_lookup h2)
  · have hy : scope.names.lookup y = some .cell ∨ scope.names.lookup y = some .free := hy
    rcases hy with hy | hy
    · exact cell_has hy
    · exact absurd rfl (S.nofree _ (PySem.mem_of_lookup hy))
  · exact Nat.le_of_lt (x.above y c (PySem.mem_of_lookup h))
  · have hi : i < vs.length := by
      unfold start at h2
      by_cases hi : i < vs.length
      · exact hi
      · rw [List.getElem?_append_right (by simpa using hi)] at h2
        rw [List.getElem?_replicate] at h2
        split at h2 <;> cases h2
    have ha : vs[i]? = some v := by
      unfold start at h2
      rw [List.getElem?_append_left (by simpa using hi), List.getElem?_map] at h2
      cases e : vs[i]? with
      | none => rw [e] at h2; cases h2
      | some a => rw [e] at h2; cases h2; rfl
    obtain ⟨u, hu, rv⟩ := r.get ha
    have hp : ps[i]? = some y := by
      rw [← S.pre, List.getElem?_take_of_lt (by omega)]; exact h1
    have ndP : ps.Nodup := by rw [← S.pre]; exact S.nd.sublist (List.take_sublist _ _)
    refine ⟨u, rv, ?_⟩
    rcases S.par y (List.mem_of_getElem? hp) with k | k
    · exact .inl ⟨k, bindL_get ndP hp hu k⟩
    · obtain ⟨c, e⟩ := cell_has (n := s.heap.objs.size + 1) k
      refine .inr ⟨.inl k, c, e, ?_⟩
      have q := x.cell y c e
      rw [bindC_get ndP hp hu (by show scope.names.lookup y ≠ _; rw [k]; decide)] at q
      exact q
  · exact e0.hok.fresh (Nat.le_of_lt (x.above y c (PySem.mem_of_lookup h)))
  · unfold start
    show _ = N.length
    rw [List.length_append, List.length_map, List.length_replicate]
    omega

theorem fn_of {CX : CXT} {P : Program} {w : World} {K : PySem.W.Frag} {mg : Str → Option Value} {base : Heap} {k : Nat} {f : Addr} {name qual : Str} {params : Arguments} {body : List Stmt} {scope : Scope} {dV kV doc pm cdv ct oc : Value} {an od : Option Addr}
    {osl : Array (Option Value)} {N ps : List Str} {sp : Sp} (lk : K.lookup f = some ⟨oc, od, .func (PySem.W.fnOf name qual params body scope dV kV doc pm an cdv ct), osl⟩) (hcd : PySem.W.codeIn K cdv qual = true) (S : FnScope N ps scope)
    (len : ∀ vs H Q E, sp vs H Q E → vs.length = ps.length)
    (hbody : ∀ (A : Around) (outer : List Env) (s : Shared) (H : Hp) (vs : List V) (Q : VK) (E : XK), Room k (A.deeper (envOfC qual scope s.heap.objs.size f cdv)) → sp vs H Q E →
      ∃ t, PSs (cxOf CX P w K mg base N qual scope f cdv A outer s H E) body t ∧ t { nx := fun _ H' => Q .non H', rt := Q } (start N vs) H) :
    FnOk P w K mg base CX (k + 1) f (PySem.W.fnOf name qual params body scope dV kV doc pm an cdv ct) ps sp := by
  refine ⟨len, fun A outer s H args us vs Q E hr e0 hb r hsp => ?_⟩
  have hl := len _ _ _ _ hsp
  have KX : K.In s.heap := e0.mod.kin.keeps fun b o e => (e0.bs b o e).1
  have lim : s.heap.NoLimit := e0.mod.nolimit.keeps fun b o e => (e0.bs b o e).1
  have hkind : ∀ y ∈ ps.zip us, scope.names.lookup y.1 = some .local ∨ (scope.names.lookup y.1 = some .cell ∧ ((cellsFrom (s.heap.objs.size + 1) scope.names []).lookup y.1).isSome = true) := fun ⟨n, v⟩ hy => by
    rcases S.par n (List.of_mem_zip hy).1 with q | q
    · exact .inl q
    · exact .inr ⟨q, PySem.W.cellsFrom_some _ _ _ (.inl q)⟩
  refine codeAny_call_function hr.depth (KX _ _ lk) rfl S.co S.gen rfl (PySem.W.codeRec_of KX hcd) (hb _ _ _ _ ?_)
  refine wpAny_newFunctionEnv_cells S.kind hkind fun env he s1 x => ?_
  subst he
  refine ⟨lim.keeps x.toInCall.keep, codeAny_func ?_⟩
  obtain ⟨t, ht, hq⟩ := hbody A outer s H vs Q E (hr.deeper _) hsp
  have I : Inv (cxOf CX P w K mg base N qual scope f cdv A outer s H E) [] (start N vs) H s1 := inv_start S hr.hd e0 hl r x
  refine wpAny_mono (ht [] s1 (start N vs) H _ I hq) (fun fl s' hs => ?_) fun e s' hs => hs
  have fin : ∀ {σ' : St} {H' : Hp} {v : V} {u : Value}, Inv (cxOf CX P w K mg base N qual scope f cdv A outer s H E) [] σ' H' s' → RelV v u → Q v H' → CE outer P w H s Q u s' :=
    fun {σ' H' v u} J rv q => ⟨v, H', J.os, J.bare, J.base, J.hok, rv, q⟩
  cases fl with
  | ret u =>
    obtain ⟨v, σ', H', J, rv, q⟩ := hs
    exact fin J rv q
  | next =>
    obtain ⟨σ', H', J, q⟩ := hs
    exact fin (v := V.non) (u := Value.none) J rfl q
  | brk =>
    obtain ⟨_, _, _, q⟩ := hs
    exact False.elim q
  | cont =>
    obtain ⟨_, _, _, q⟩ := hs
    exact False.elim q
end L2

namespace L2
open PySem PySem.Spec PyProof.Rows
section
variable {X : Cx} {x : Str} {p pos : Pos} {e : Expr} {es : List Expr} {t : TA} {id T : String} {r : List V → Hp → VK → Prop}

noncomputable def tCB (r : List V → Hp → VK → Prop) (t : TA) : TE := fun σ H Q => t σ H fun vs H1 => r vs H1 Q
theorem pe_callB (hc : CallR X (.builtin id) r) (hg : Gl X x) (hm : X.mg x = none) (hv : bootBuiltins x = some (.builtin id)) (ha : PA X (e :: es) t) (hn : x ≠ "__name__" := by decide) (hdb : (x == ("__debug__" : Str)) = false := by decide)
    (he : starEach (e :: es) X.env = (false, eval e X.env) :: starEach es X.env := by rfl) (hpl : (backTo pos (starEach es X.env)).any (·.1) = false := by rfl) : PE X (.Call (.Name x p) (e :: es) [] pos) (tCB r t) := by
  intro pins s σ H Q I h
  refine wpAny_Call_Name_kw (ld_blt I hg hm hv ?_ hn hdb)
  exact PyProof.Rows.callWith_builtin1 (thn (ha pos pins s σ H _ I h) fun us s1 ⟨vs, H1, I1, r1, q1⟩ => hc pins s1 σ H1 vs us Q I1 r1 q1) he hpl
theorem pe_callTy (hc : CallR X (.type T) r) (hg : Gl X x) (hm : X.mg x = none) (hv : bootBuiltins x = some (.type T)) (ha : PA X (e :: es) t) (hn : x ≠ "__name__" := by decide) (hdb : (x == ("__debug__" : Str)) = false := by decide)
    (he : starEach (e :: es) X.env = (false, eval e X.env) :: starEach es X.env := by rfl) (hpl : (backTo pos (starEach es X.env)).any (·.1) = false := by rfl) : PE X (.Call (.Name x p) (e :: es) [] pos) (tCB r t) := by
  intro pins s σ H Q I h
  refine wpAny_Call_Name_kw (ld_blt I hg hm hv ?_ hn hdb)
  exact PyProof.Rows.callWith_type1 (thn (ha pos pins s σ H _ I h) fun us s1 ⟨vs, H1, I1, r1, q1⟩ => hc pins s1 σ H1 vs us Q I1 r1 q1) he hpl
end
end L2

namespace HT
open PySem PyProof.Rows

section
open PySem.SeqAt
open PySem.AutoSeq1 (wpAny_loadPart')
open PySem.MeetsSeq PySem.MeetsSeq2 PySem.MeetsSeq3

end

section
variable {prog : Program} {w : World} {A : Around} {E : Value → Shared → Prop} {s : Shared}

theorem cat_tup {t b : Addr} {vs ws : List Value} {Q : Value → Shared → Prop} (ht : IsTup s.heap t vs.toArray) (hb : IsTup s.heap b ws.toArray) (hv : vs ≠ [])
    (h1 : ws = [] → Q (.ref t) s) (h2 : ws ≠ [] → Q (.ref s.heap.objs.size) { s with heap := s.heap.push { cls := .type "tuple", data := .seq (vs ++ ws).toArray } })
    (hsz : vs.length + ws.length ≤ sizeLine) : wpAny (model prog w) A (binaryOp .Add (.ref t) (.ref b)) Q E s := by
  obtain ⟨⟨cls, dd, data, sl⟩, ho, hc, n, hd⟩ := id ht
  obtain ⟨⟨cls2, dd2, data2, sl2⟩, ho2, hc2, n2, hd2⟩ := id hb
  simp only at hc hd hc2 hd2
  subst hc hd hc2 hd2
  have e : vs.toArray ++ ws.toArray = (vs ++ ws).toArray := by simp
  by_cases hw : ws = []
  · exact concat_meets ⟨_, ho, rfl⟩ ⟨_, ho2, rfl⟩ noFill_tuple_add seq_tuple_add PySem.F.slot_tuple_add PySem.F.entry_tuple_add (PySem.F.args_tuple_add_2 _ _)
      (tuple_addW1 t b vs.toArray ws.toArray n n2 dd dd2 sl sl2 (by simpa using hv) (by simp [hw])) ⟨ho, ho2, h1 hw⟩
  · refine concat_meets ⟨_, ho, rfl⟩ ⟨_, ho2, rfl⟩ noFill_tuple_add seq_tuple_add PySem.F.slot_tuple_add PySem.F.entry_tuple_add (PySem.F.args_tuple_add_2 _ _)
      (tuple_addW2 t b vs.toArray ws.toArray n n2 dd dd2 sl sl2 (by simpa using hv) (by simpa using hw) (by rw [List.size_toArray, List.size_toArray]; exact hsz)) ⟨ho, ho2, ?_⟩
    rw [e]
    exact h2 hw

noncomputable def sIx (n d : Nat) : Option Int → Nat
  | none => d
  | some v => if v < 0 then (v + (n : Int)).toNat else min v.toNat n
theorem sIx_none (n d : Nat) : sIx n d none = d := rfl
theorem sIx_nat (n d k : Nat) : sIx n d (some (k : Int)) = min k n := by
  show (if (k : Int) < 0 then ((k : Int) + (n : Int)).toNat else min (k : Int).toNat n) = min k n
  rw [if_neg (by omega), Int.toNat_natCast]
theorem sIx_le (n d : Nat) (hd : d ≤ n) (o : Option Int) : sIx n d o ≤ n := by
  cases o with
  | none => exact hd
  | some v =>
    show (if v < 0 then (v + (n : Int)).toNat else min v.toNat n) ≤ n
    by_cases hv : v < 0
    · rw [if_pos hv]; omega
    · rw [if_neg hv]; exact Nat.min_le_right _ _
theorem clip_eq (v : Int) (n d : Nat) : (if v < 0 then max (v + (n : Int)) 0 else min v (n : Int)) = ((sIx n d (some v) : Nat) : Int) := by
  show (if v < 0 then max (v + (n : Int)) 0 else min v (n : Int)) = (((if v < 0 then (v + (n : Int)).toNat else min v.toNat n) : Nat) : Int)
  by_cases hv : v < 0
  · simp only [if_pos hv]; omega
  · simp only [if_neg hv]; omega
theorem adjust_gen (lo hi : Option Int) (n : Nat) : Builtin.Slice.sliceAdjust lo hi 1 (n : Int) = (((sIx n 0 lo : Nat) : Int), ((sIx n n hi : Nat) : Int)) := by
  have h1 : ¬ ((1 : Int) < 0) := by omega
  unfold Builtin.Slice.sliceAdjust
  simp only [h1, if_false]
  refine Prod.ext ?_ ?_
  · cases lo with
    | none => rfl
    | some v => exact clip_eq v n 0
  · cases hi with
    | none => rfl
    | some v => exact clip_eq v n n
theorem places_gen (i j : Nat) : Builtin.Slice.slicePlaces (i : Int) (j : Int) 1 = j - i := by
  unfold Builtin.Slice.slicePlaces
  have h1 : (1 : Int) > 0 := by omega
  simp only [h1, if_true, Int.ediv_one]
  split <;> omega
theorem slicePart_ {v : Value} {o : Option Int} {Q : Option Int → Shared → Prop} (p : IsPart v o) (h : Q o s) : wpAny (model prog w) A (Builtin.Slice.slicePartIndex v) Q E s := by
  cases p with
  | none => exact slicePart_none h
  | int i t => exact slicePart_int h
theorem sliceApplied_gen {sl : Addr} {vl vu : Value} {lo hi : Option Int} {n : Nat} {Q : Int × Int × Nat → Shared → Prop} (hs : s.heap.IsSliceOf sl vl vu .none) (pl : IsPart vl lo) (pu : IsPart vu hi)
    (h : Q (((sIx n 0 lo : Nat) : Int), 1, sIx n n hi - sIx n 0 lo) s) : wpAny (model prog w) A (Builtin.Slice.sliceApplied (.ref sl) (pure (n : Int))) Q E s := by
  obtain ⟨os, hos, hcs, hds⟩ := id hs
  unfold Builtin.Slice.sliceApplied Builtin.Slice.sliceFields
  refine wpAny_bind (wpAny_bind (wpAny_field hos hds (x := vl) rfl (wpAny_bind (wpAny_field hos hds (x := vu) rfl (wpAny_bind (wpAny_field hos hds (x := .none) rfl (wpAny_pure ?_)))))))
  refine wpAny_bind (slicePart_none ?_)
  show wpAny _ _ (if ((1 : Int) == 0) = true then _ else _) _ _ s
  rw [if_neg (by decide)]
  refine wpAny_bind (slicePart_ pl (wpAny_bind (slicePart_ pu (wpAny_bind (wpAny_pure ?_)))))
  show wpAny _ _ (match Builtin.Slice.sliceAdjust lo hi 1 (n : Int) with | (lo, hi) => pure (lo, (1 : Int), Builtin.Slice.slicePlaces lo hi 1)) _ _ s
  rw [adjust_gen lo hi n]
  show wpAny _ _ (pure (((sIx n 0 lo : Nat) : Int), (1 : Int), Builtin.Slice.slicePlaces ((sIx n 0 lo : Nat) : Int) ((sIx n n hi : Nat) : Int) 1)) _ _ s
  rw [places_gen]
  exact wpAny_pure h
theorem pick_gen (xs : Array Value) (i k : Nat) : ((List.range k).filterMap fun (m : Nat) => xs[((i : Int) + (m : Int) * 1).toNat]?).toArray = ((xs.toList.drop i).take k).toArray := by
  have e : (fun (m : Nat) => xs[((i : Int) + (m : Int) * 1).toNat]?) = fun m => xs[i + m]? := by
    funext m
    have : ((i : Int) + (m : Int) * 1).toNat = i + m := by omega
    rw [this]
  rw [e]
  have := pick_run xs i k
  rw [List.filterMap_map] at this
  have e2 : ((fun x => xs[x]?) ∘ fun x => i + x) = fun m => xs[i + m]? := rfl
  rw [e2] at this
  rw [this]

theorem getItem_tuple_cut {t sl : Addr} {items : Array Value} {vl vu : Value} {lo hi : Option Int} {Q : Value → Shared → Prop} (ht : IsTup s.heap t items) (hs : s.heap.IsSliceOf sl vl vu .none) (pl : IsPart vl lo) (pu : IsPart vu hi)
    (hw : ¬ (sIx items.size 0 lo = 0 ∧ sIx items.size items.size hi = items.size))
    (h : Q (.ref s.heap.objs.size) { s with heap := s.heap.push { cls := .type "tuple", data := .seq ((items.toList.drop (sIx items.size 0 lo)).take (sIx items.size items.size hi - sIx items.size 0 lo)).toArray } })
    (hsz : items.size ≤ sizeLine) : wpAny (model prog w) A (getItem (.ref t) (.ref sl)) Q E s := by
  have htake : sizeOk (.seq ((items.toList.drop (sIx items.size 0 lo)).take (sIx items.size items.size hi - sIx items.size 0 lo)).toArray) := by
    show ((items.toList.drop (sIx items.size 0 lo)).take (sIx items.size items.size hi - sIx items.size 0 lo)).toArray.size ≤ sizeLine
    rw [List.size_toArray, List.length_take, List.length_drop, Array.length_toList]
    omega
  have hj : sIx items.size items.size hi ≤ items.size := sIx_le _ _ (Nat.le_refl _) hi
  obtain ⟨os, hos, hcs, hds⟩ := id hs
  have hTs : s.TypeIs (.ref sl) "slice" := ⟨os, hos, hcs⟩
  unfold getItem
  try with_reducible refine wpAny_holding ?_
  first | refine wpAny_bind (wpAny_pure ?_) | skip
  refine wpAny_bind (wpAny_sequenceKey ht.typeIs (by decide) ?_)
  refine wpAny_bind (wpAny_callSpecial?_slot (name := Str.ofString "__getitem__") ht.typeIs PyProof.Rows.slot_tuple_getitem
    (wpAny_call_entry PyProof.Rows.slot_tuple_getitem ht.typeIs entry_tuple_getitem ?_ (args_tuple_getitem _ _)))
  show wpAny _ _ (Builtin.Tuple.tupleItemsOf (.ref t) >>= _) _ _ s
  refine wpAny_bind (tupleItemsOf_ ht ?_)
  refine wpAny_bind (wpAny_typeOf hTs ?_)
  rw [if_pos (by decide)]
  refine wpAny_bind (sliceApplied_gen hs pl pu ?_)
  have hno : ¬ ((((sIx items.size 0 lo : Nat) : Int) == 0 && (1 : Int) == 1 && (sIx items.size items.size hi - sIx items.size 0 lo) == items.size) = true) := by
    intro q
    rw [Bool.and_eq_true, Bool.and_eq_true] at q
    have q1 : ((sIx items.size 0 lo : Nat) : Int) = 0 := eq_of_beq q.1.1
    have q2 : sIx items.size items.size hi - sIx items.size 0 lo = items.size := eq_of_beq q.2
    exact hw ⟨by omega, by omega⟩
  show wpAny _ _ (if (((sIx items.size 0 lo : Nat) : Int) == 0 && (1 : Int) == 1 && (sIx items.size items.size hi - sIx items.size 0 lo) == items.size) = true then _ else _) _ _ s
  rw [if_neg hno, pick_gen]
  first
    | exact wpAny_bind (m := Builtin.Tuple.tupleExact _) (wpAny_newObj_type (wpAny_pure ⟨_, rfl, wpAny_pure h⟩) htake)
    | exact wpAny_bind (m := Builtin.Tuple.tupleExact _) (wpAny_newObj_type (wpAny_bind (wpAny_pure (wpAny_pure ⟨_, rfl, wpAny_pure h⟩))) htake)
    | exact wpAny_bind (wpAny_bind (m := Builtin.Tuple.tupleExact _) (wpAny_newObj_type (wpAny_pure (wpAny_pure ⟨_, rfl, wpAny_pure h⟩)) htake))
    | exact wpAny_bind (wpAny_bind (m := Builtin.Tuple.tupleExact _) (wpAny_newObj_type (wpAny_pure ⟨_, rfl, wpAny_pure h⟩) htake))
end
end HT

namespace L2
open PySem PySem.Spec PyProof.Rows

noncomputable abbrev TO := St → Hp → (Option Int → Hp → Prop) → Prop
noncomputable def PO (X : Cx) (e : Option Expr) (t : TO) : Prop :=
  ∀ (pins : List (Addr × Obj)) (s : Shared) (σ : St) (H : Hp) (Q : Option Int → Hp → Prop), Inv X pins σ H s → t σ H Q →
    wpAny (model X.prog X.w) X.A (evalPart e X.env) (fun u s' => ∃ o H', Inv X pins σ H' s' ∧ IsPart u o ∧ Q o H') X.xe s
noncomputable def tNoPart : TO := fun _ H Q => Q none H
noncomputable def tPart (t : TE) : TO := fun σ H Q => t σ H fun x H1 => ∃ i, x = .int i ∧ Q (some i) H1

section
variable {X : Cx} {e : Expr} {te : TE} {lo hi : Option Expr} {tl th : TO} {pos p2 : Pos}

theorem po_none : PO X none tNoPart := by
  intro pins s σ H Q I h
  rw [evalPart_none]
  exact wpAny_pure ⟨none, H, I, .none, h⟩
theorem po_some (h : PE X e te) : PO X (some e) (tPart te) := by
  intro pins s σ H Q I hw
  rw [evalPart_some]
  refine thn (h pins s σ H _ I hw) fun u s1 ⟨x, H1, I1, r1, q1⟩ => ?_
  obtain ⟨i, rfl, q⟩ := q1
  obtain ⟨t, rfl⟩ := r1
  exact ⟨some i, H1, I1, .int i t, q⟩

noncomputable def SlR (X : Cx) (r : V → Option Int → Option Int → Hp → VK → Prop) : Prop :=
  ∀ (pins : List (Addr × Obj)) (s : Shared) (σ : St) (H : Hp) (x : V) (v vl vu : Value) (lo hi : Option Int) (sl : Addr) (Q : VK), Inv X pins σ H s → RelV x v → s.heap.IsSliceOf sl vl vu .none → IsPart vl lo → IsPart vu hi → r x lo hi H Q →
    ∃ T id, typeLookup (.type T) "__getitem__" = pure (some (.builtin id)) ∧ s.TypeIs v T ∧ wpAny (model X.prog X.w) X.A (getItem v (.ref sl)) (EP X pins σ Q) X.xe s
noncomputable def tSl (r : V → Option Int → Option Int → Hp → VK → Prop) (te : TE) (tl th : TO) : TE := fun σ H Q => te σ H fun x H1 => tl σ H1 fun l H2 => th σ H2 fun u H3 => r x l u H3 Q
theorem pe_slice {r : V → Option Int → Option Int → Hp → VK → Prop} (hr : SlR X r) (he : PE X e te) (hl : PO X lo tl) (hu : PO X hi th) : PE X (.Subscript e (.Slice lo hi none p2) pos) (tSl r te tl th) := by
  intro pins s σ H Q I h
  refine Subscript_ (thn (he pins s σ H _ I h) fun v s1 ⟨x, H1, I1, r1, q1⟩ => ?_)
  refine wpAny_Slice (thn (hl pins s1 σ H1 _ I1 q1) fun vl s2 ⟨l, H2, I2, pl, q2⟩ => thn (hu pins s2 σ H2 _ I2 q2) fun vu s3 ⟨u, H3, I3, pu, q3⟩ => ?_)
  rw [evalPart_none]
  refine wpAny_pure ?_
  have I4 : Inv X pins σ H3 { s3 with heap := s3.heap.push { cls := .type "slice", data := .fields #[vl, vu, .none] } } := I3.kept (t' := s3.toks) fun b ob q => Heap.get?_push_of_some _ q
  obtain ⟨T, id, hT, ht, hg⟩ := hr pins { s3 with heap := s3.heap.push { cls := .type "slice", data := .fields #[vl, vu, .none] } } σ H3 x v vl vu l u s3.heap.objs.size Q I4 r1 (Heap.IsSliceOf.new ..) pl pu q3
  show wpAny (model X.prog X.w) X.A (subscriptTail e (.Slice lo hi none p2) v (.ref s3.heap.objs.size)) (EP X pins σ Q) X.xe { s3 with heap := s3.heap.push { cls := .type "slice", data := .fields #[vl, vu, .none] } }
  exact tail_any (ops := [.ref s3.heap.objs.size, v]) ht hT hg (by with_unfolding_all rfl)

noncomputable def cutV (xs : List V) (lo hi : Option Int) : List V := (xs.drop (HT.sIx xs.length 0 lo)).take (HT.sIx xs.length xs.length hi - HT.sIx xs.length 0 lo)
theorem cutV_length (xs : List V) (lo hi : Option Int) : (cutV xs lo hi).length ≤ xs.length := by
  unfold cutV
  rw [List.length_take, List.length_drop]
  omega
noncomputable def rSlT (K : PySem.W.Frag) : V → Option Int → Option Int → Hp → VK → Prop := fun x lo hi H Q => ∃ a xs, x = .ref a ∧ SqT K H a xs ∧
  ¬ (HT.sIx xs.length 0 lo = 0 ∧ HT.sIx xs.length xs.length hi = xs.length) ∧ ∀ p, H p = none → Q (.ref p) (upd H p (.tup (cutV xs lo hi)))
theorem sl_tup : SlR X (rSlT X.K) := by
  intro pins s σ H x v vl vu lo hi sl Q I rx hs pl pu h
  obtain ⟨a, xs, rfl, hx, hw, q⟩ := h
  cases rx
  obtain ⟨its, r, ht, hz⟩ := I.tuple hx
  have hlen : its.toArray.size = xs.length := by rw [List.size_toArray]; exact r.length.symm
  refine ⟨"tuple", _, PyProof.Rows.slot_tuple_getitem.lookup, ht.typeIs, ?_⟩
  refine HT.getItem_tuple_cut ht hs pl pu (by rw [hlen]; exact hw) ?_ (by rw [hlen]; exact hz)
  rw [hlen]
  refine ⟨.ref s.heap.objs.size, _, I.laid (t' := s.toks) (o := .tup (cutV xs lo hi)) (fun b ob q => Heap.get?_push_of_some _ q) (Nat.le_refl _) ?_, rfl, q _ (I.hok.fresh (Nat.le_refl _))⟩
  exact ⟨Nat.le_trans (cutV_length xs lo hi) hz, _, (r.drop (HT.sIx xs.length 0 lo)).take (HT.sIx xs.length xs.length hi - HT.sIx xs.length 0 lo), IsTupN.new _ _⟩

noncomputable def rCatT (K : PySem.W.Frag) : R2 := fun x y H Q => ∃ a b xs ys, x = .ref a ∧ y = .ref b ∧ SqT K H a xs ∧ SqT K H b ys ∧ xs ≠ [] ∧ xs.length + ys.length ≤ sizeLine ∧
  (ys = [] → Q (.ref a) H) ∧ (ys ≠ [] → ∀ p, H p = none → Q (.ref p) (upd H p (.tup (xs ++ ys))))
theorem Vals.nil_iff {xs : List V} {us : List Value} (r : Vals xs us) : us = [] ↔ xs = [] := by
  cases r with
  | nil => simp
  | cons _ _ => simp
theorem op_catT : OpR X (binaryOp .Add) (rCatT X.K) := by
  intro pins s σ H x y v u Q I rx ry h
  obtain ⟨a, b, xs, ys, rfl, rfl, ha, hb, hx, hz, q1, q2⟩ := h
  cases rx
  cases ry
  obtain ⟨its, r1, p1, _⟩ := I.tuple ha
  obtain ⟨its2, r2, p2, _⟩ := I.tuple hb
  refine HT.cat_tup p1 p2 (fun z => hx (r1.nil_iff.mp z)) (fun z => ⟨.ref a, H, I, rfl, q1 (r2.nil_iff.mp z)⟩) (fun z => ?_) (by rw [← r1.length, ← r2.length]; exact hz)
  refine ⟨.ref s.heap.objs.size, _, I.laid (t' := s.toks) (o := .tup (xs ++ ys)) (fun b ob q => Heap.get?_push_of_some _ q) (Nat.le_refl _) ?_, rfl, q2 (fun w => z (r2.nil_iff.mpr w)) _ (I.hok.fresh (Nat.le_refl _))⟩
  exact ⟨by rw [List.length_append]; exact hz, _, r1.append r2, IsTupN.new _ _⟩
end
end L2

namespace L2
open PySem PySem.Spec PyProof.Rows

noncomputable def ixN (n : Nat) (i : Int) : Option Nat := if 0 ≤ i then (if i < n then some i.toNat else none) else if -(n : Int) ≤ i then some (i + n).toNat else none
noncomputable def atI {α : Type} (xs : List α) (i : Int) : Option α := (ixN xs.length i).bind fun j => xs[j]?
theorem ixN_seq {n : Nat} {i : Int} {j : Nat} (h : ixN n i = some j) : seqIndex? i n = some j ∧ j < n ∧ -(n : Int) ≤ i ∧ i < n := by
  unfold ixN at h
  by_cases h0 : 0 ≤ i
  · rw [if_pos h0] at h
    by_cases h1 : i < n
    · rw [if_pos h1] at h
      have e : i.toNat = j := Option.some.inj h
      exact ⟨by rw [seqIndex_of h0 h1, e], by omega, by omega, h1⟩
    · rw [if_neg h1] at h; cases h
  · rw [if_neg h0] at h
    by_cases h1 : -(n : Int) ≤ i
    · rw [if_pos h1] at h
      have e : (i + n).toNat = j := Option.some.inj h
      exact ⟨by rw [seqIndex_neg (by omega) h1, e], by omega, h1, by omega⟩
    · rw [if_neg h1] at h; cases h
theorem atI_get {α : Type} {xs : List α} {i : Int} {v : α} (h : atI xs i = some v) : ∃ j, seqIndex? i xs.length = some j ∧ xs[j]? = some v ∧ j < xs.length ∧ -(xs.length : Int) ≤ i ∧ i < xs.length := by
  unfold atI at h
  cases e : ixN xs.length i with
  | none => rw [e] at h; cases h
  | some j =>
    rw [e] at h
    obtain ⟨h1, h2, h3, h4⟩ := ixN_seq e
    exact ⟨j, h1, h, h2, h3, h4⟩
theorem atI_nat {α : Type} {xs : List α} {j : Nat} {v : α} (h : xs[j]? = some v) : atI xs (j : Int) = some v := by
  have hj : j < xs.length := (List.getElem?_eq_some_iff.mp h).1
  have e : ixN xs.length (j : Int) = some j := by
    unfold ixN
    rw [if_pos (by omega), if_pos (by omega)]; simp
  unfold atI; rw [e]; exact h
theorem atI_last {α : Type} (xs : List α) (v : α) : atI (xs ++ [v]) (-1) = some v := by
  have hl : (xs ++ [v]).length = xs.length + 1 := by simp
  have e : ixN (xs ++ [v]).length (-1) = some xs.length := by
    unfold ixN
    rw [hl, if_neg (by decide), if_pos (by omega)]
    congr 1
    omega
  unfold atI
  rw [e]
  show (xs ++ [v])[xs.length]? = some v
  simp

noncomputable def PlainIx (b : Expr) : Prop := ∀ o i, subscripted b false o i = operate [o, i] (getItem o i)
noncomputable def IxR (X : Cx) (r : R2) : Prop :=
  ∀ (value slice : Expr) (pins : List (Addr × Obj)) (s : Shared) (σ : St) (H : Hp) (x y : V) (v u : Value) (Q : VK), Inv X pins σ H s → RelV x v → RelV y u → r x y H Q →
    subscripted slice false v u = operate [v, u] (getItem v u) → wpAny (model X.prog X.w) X.A (subscriptTail value slice v u) (EP X pins σ Q) X.xe s
noncomputable def MtR (X : Cx) (id : String) (r : V → List V → Hp → VK → Prop) : Prop :=
  ∀ (pins : List (Addr × Obj)) (s : Shared) (σ : St) (H : Hp) (x : V) (xs : List V) (v : Value) (us : List Value) (Q : VK), Inv X pins σ H s → RelV x v → Vals xs us → r x xs H Q →
    wpAny (model X.prog X.w) X.A (call (.builtin id) (v :: us)) (EP X pins σ Q) X.xe s
section
variable {X : Cx} {a b : Expr} {ta tb : TE} {pos : Pos}
theorem pe_ix {r : R2} (hr : IxR X r) (ha : PE X a ta) (hb : PE X b tb) (hs : PlainIx b) : PE X (.Subscript a b pos) (tOp r ta tb) := by
  intro pins s σ H Q I h
  exact Subscript_ (binT ha hb I h fun v u s2 x y H2 I2 rx ry q => hr a b pins s2 σ H2 x y v u Q I2 rx ry q (hs _ _))

noncomputable def rIxL (K : PySem.W.Frag) : R2 := fun x y H Q => ∃ p xs i v, x = .ref p ∧ y = .int i ∧ SqL K H p xs ∧ atI xs i = some v ∧ Q v H
noncomputable def rIxT (K : PySem.W.Frag) : R2 := fun x y H Q => ∃ p xs i v, x = .ref p ∧ y = .int i ∧ SqT K H p xs ∧ atI xs i = some v ∧ Q v H
theorem ix_list : IxR X (rIxL X.K) := by
  intro value slice pins s σ H x y v u Q I rx ry h hs
  obtain ⟨p, xs, i, z, rfl, rfl, hq, he, q⟩ := h
  cases rx
  obtain ⟨t, rfl⟩ := ry
  obtain ⟨its, r, pl, hz⟩ := I.list hq
  obtain ⟨j, h1, h2, h3, h4, h5⟩ := atI_get he
  obtain ⟨w, ew, rw'⟩ := r.get h2
  have hl := r.length
  have hn := line63
  have fin : EP X pins σ Q w s := ⟨z, H, I, rw', q⟩
  by_cases h0 : 0 ≤ i
  · have hj : i.toNat = j := by
      rw [seqIndex_of h0 h5] at h1
      exact Option.some.inj h1
    exact item_listR pl.isList h0 (by omega) (by rw [hj]; simpa using ew) fin hs
  · have hj : (i + (its.toArray.size : Int)).toNat = j := by
      rw [seqIndex_neg (by omega) h4] at h1
      rw [List.size_toArray, ← hl]
      exact Option.some.inj h1
    exact subscriptTail_builtinR (x := w) pl.isList.typeIs slot_list_getitem.lookup
      (wpAny_getItem_list_neg (Q := fun r s' => r = w ∧ EP X pins σ Q r s') pl.isList (by omega) (by rw [List.size_toArray] <;> omega) (by omega) (by rw [hj]; simpa using ew) ⟨rfl, fin⟩) hs
theorem ix_tup : IxR X (rIxT X.K) := by
  intro value slice pins s σ H x y v u Q I rx ry h hs
  obtain ⟨p, xs, i, z, rfl, rfl, hq, he, q⟩ := h
  cases rx
  obtain ⟨t, rfl⟩ := ry
  obtain ⟨its, r, pl, hz⟩ := I.tuple hq
  obtain ⟨j, h1, h2, h3, h4, h5⟩ := atI_get he
  obtain ⟨w, ew, rw'⟩ := r.get h2
  have hl := r.length
  have hn := line63
  have fin : EP X pins σ Q w s := ⟨z, H, I, rw', q⟩
  exact subscriptTail_builtinR (x := w) pl.typeIs slot_tuple_getitem.lookup
    (getItem_tuple (j := j) (Q := fun r s' => r = w ∧ EP X pins σ Q r s') pl (by omega) (by omega) (by rw [List.size_toArray, ← hl]; exact h1) (by simpa using ew) ⟨rfl, fin⟩) hs
theorem mapSeq_set (its : List Value) (n j : Nat) (u : Value) : Obj.mapSeq (·.setIfInBounds j u) { cls := .type "list", data := .seq its.toArray n } = { cls := .type "list", data := .seq (its.set j u).toArray n } := by
  simp [Obj.mapSeq]
theorem Inv.lst {pins : List (Addr × Obj)} {σ : St} {H : Hp} {s : Shared} {p : Addr} {xs : List V} (I : Inv X pins σ H s) (h : H p = some (.lst xs)) :
    ∃ (its : List Value) (n : Nat), Vals xs its ∧ s.heap.get? p = some { cls := .type "list", data := .seq its.toArray n } ∧ xs.length ≤ sizeLine := by
  obtain ⟨z, its, n, r, e⟩ := I.hok p _ h
  exact ⟨its, n, r, e, z⟩
theorem Inv.lstUpd {pins : List (Addr × Obj)} {σ : St} {H : Hp} {s : Shared} {p : Addr} {xs ys : List V} {its its' : List Value} {n n' : Nat} {f : Obj → Obj} (I : Inv X pins σ H s) (h : H p = some (.lst xs))
    (ho : s.heap.get? p = some { cls := .type "list", data := .seq its.toArray n }) (hf : f { cls := .type "list", data := .seq its.toArray n } = { cls := .type "list", data := .seq its'.toArray n' }) (r : Vals ys its') (hz : ys.length ≤ sizeLine) (t : Nat) :
    Inv X pins σ (upd H p (.lst ys)) { s with heap := s.heap.update p f, toks := t } := by
  have e : (s.heap.update p f).get? p = some { cls := .type "list", data := .seq its'.toArray n' } := by
    rw [Heap.get?_update_self f ho (by rw [hf] <;> rfl), hf]
  refine I.write (x := p) (e := p) (by rw [h]; trivial) (.inl rfl) (fun b u hb q => (Heap.get?_update_other _ _ (Ne.symm hb)).trans q) ⟨_, e⟩ ?_
  exact ⟨hz, its', n', r, e⟩
noncomputable def rSetL : V → V → V → Hp → (Hp → Prop) → Prop := fun o i v H Q => ∃ p xs k j, o = .ref p ∧ i = .int k ∧ H p = some (.lst xs) ∧ ixN xs.length k = some j ∧ Q (upd H p (.lst (xs.set j v)))
theorem set_list : PSet X rSetL := by
  intro pins s σ H o i v ov iv u Q I ro ri rv h
  obtain ⟨p, xs, k, j, rfl, rfl, hp, hj, q⟩ := h
  cases ro
  obtain ⟨t, rfl⟩ := ri
  obtain ⟨its, n, r, ho, hz⟩ := I.lst hp
  obtain ⟨h1, h2, h3, h4⟩ := ixN_seq hj
  have hl := r.length
  have hn := line63
  have I' : Inv X pins σ (upd H p (.lst (xs.set j v))) { s with heap := s.heap.update p (Obj.mapSeq (·.setIfInBounds j u)) } :=
    I.lstUpd hp ho (mapSeq_set its n j u) (r.set rv j) (by rw [List.length_set]; exact hz) s.toks
  by_cases h0 : 0 ≤ k
  · have hk : k.toNat = j := by
      rw [seqIndex_of h0 h4] at h1
      exact Option.some.inj h1
    exact PySem.W.ki_setAt ho h0 (by omega) (by rw [List.size_toArray, ← hl]; exact h4) (by rw [hk]; exact ⟨_, I', q⟩)
  · have hk : (k + (its.toArray.size : Int)).toNat = j := by
      rw [seqIndex_neg (by omega) h3] at h1
      rw [List.size_toArray, ← hl]
      exact Option.some.inj h1
    exact PySem.W.ki_setBack ho (by omega) (by rw [List.size_toArray, ← hl]; exact h3) (by omega) (by rw [hk]; exact ⟨_, I', q⟩)

theorem slice_bounds (lo hi : Option Int) (n : Nat) : (sliceBounds lo hi none n).1 = ((HT.sIx n 0 lo : Nat) : Int) ∧ (sliceBounds lo hi none n).2.1 = ((HT.sIx n n hi : Nat) : Int) ∧ (sliceBounds lo hi none n).2.2 = 1 := by
  refine ⟨?_, ?_, rfl⟩
  · cases lo with
    | none => simp [sliceBounds, HT.sIx]
    | some i =>
      simp only [sliceBounds, HT.sIx, Option.getD_none, show (1 : Int) > 0 by decide, if_true]
      by_cases h : i < 0
      · simp only [h, if_true] <;> omega
      · simp only [h, if_false] <;> omega
  · cases hi with
    | none => simp [sliceBounds, HT.sIx]
    | some i =>
      simp only [sliceBounds, HT.sIx, Option.getD_none, show (1 : Int) > 0 by decide, if_true]
      by_cases h : i < 0
      · simp only [h, if_true] <;> omega
      · simp only [h, if_false] <;> omega
theorem slicePick_cut (its : List Value) (lo hi : Option Int) : slicePick its.toArray lo hi none = ((its.drop (HT.sIx its.length 0 lo)).take (HT.sIx its.length its.length hi - HT.sIx its.length 0 lo)).toArray := by
  obtain ⟨h1, h2, h3⟩ := slice_bounds lo hi its.toArray.size
  unfold slicePick
  rw [h1, h2, h3]
  simp only [sliceRange_one, pick_run, List.size_toArray] <;> rfl
noncomputable def rSlL (K : PySem.W.Frag) : V → Option Int → Option Int → Hp → VK → Prop := fun x lo hi H Q => ∃ a xs, x = .ref a ∧ SqL K H a xs ∧ ∀ p, H p = none → Q (.ref p) (upd H p (.lst (cutV xs lo hi)))
theorem sl_list : SlR X (rSlL X.K) := by
  intro pins s σ H x v vl vu lo hi sl Q I rx hs pl pu h
  obtain ⟨a, xs, rfl, hx, q⟩ := h
  cases rx
  obtain ⟨its, r, ht, hz⟩ := I.list hx
  have hlen := r.length
  refine ⟨"list", _, slot_list_getitem.lookup, ht.isList.typeIs, ?_⟩
  refine wpAny_getItem_list_slice ht.isList hs pl pu .none (by simp) ?_ (by rw [List.size_toArray] <;> omega)
  rw [slicePick_cut, ← hlen]
  refine ⟨.ref s.heap.objs.size, _, I.laid (t' := s.toks) (o := .lst (cutV xs lo hi)) (fun b ob q => Heap.get?_push_of_some _ q) (Nat.le_refl _) ?_, rfl, q _ (I.hok.fresh (Nat.le_refl _))⟩
  exact ⟨Nat.le_trans (cutV_length xs lo hi) hz, _, 0, (r.drop (HT.sIx xs.length 0 lo)).take (HT.sIx xs.length xs.length hi - HT.sIx xs.length 0 lo), Heap.get?_push_size _ rfl⟩

noncomputable def flatV : V → Bool
  | .non => true
  | .bl _ => true
  | .int _ => true
  | .str _ => true
  | _ => false
noncomputable def eqV : V → V → Bool
  | .non, .non => true
  | .bl a, .bl b => a == b
  | .bl a, .int b => (if a then 1 else 0) == b
  | .int a, .bl b => a == (if b then 1 else 0)
  | .int a, .int b => a == b
  | .str a, .str b => a == b
  | _, _ => false
theorem eqAt_V {A : Around} {s : Shared} {y x : V} {u v : Value} (ry : RelV y u) (rx : RelV x v) (fy : flatV y = true) (fx : flatV x = true) : SeqAt.EqAt A s u v (eqV y x) := by
  cases y with
  | non =>
    cases ry
    cases x with
    | non => cases rx; exact SeqAt.EqAt.same _
    | bl b => cases rx; exact SeqAt.EqAt.none_bool b
    | int b => obtain ⟨t, rfl⟩ := rx; exact SeqAt.EqAt.none_int b t
    | str b => obtain ⟨t, rfl⟩ := rx; exact SeqAt.EqAt.none_str b t
    | _ => exact absurd (show false = true from fx) Bool.false_ne_true
  | bl a =>
    cases ry
    cases x with
    | non => cases rx; exact SeqAt.EqAt.bool_none a
    | bl b => cases rx; exact SeqAt.EqAt.bool_bool a b
    | int b => obtain ⟨t, rfl⟩ := rx; exact SeqAt.EqAt.bool_int a b t
    | str b => obtain ⟨t, rfl⟩ := rx; exact SeqAt.EqAt.bool_str a b t
    | _ => exact absurd (show false = true from fx) Bool.false_ne_true
  | int a =>
    obtain ⟨t', rfl⟩ := ry
    cases x with
    | non => cases rx; exact SeqAt.EqAt.int_none a t'
    | bl b => cases rx; exact SeqAt.EqAt.int_bool a t' b
    | int b => obtain ⟨t, rfl⟩ := rx; exact SeqAt.EqAt.int_int a t' b t
    | str b => obtain ⟨t, rfl⟩ := rx; exact SeqAt.EqAt.int_str a t' b t
    | _ => exact absurd (show false = true from fx) Bool.false_ne_true
  | str a =>
    obtain ⟨t', rfl⟩ := ry
    cases x with
    | non => cases rx; exact SeqAt.EqAt.str_none a t'
    | bl b => cases rx; exact SeqAt.EqAt.str_bool a t' b
    | int b => obtain ⟨t, rfl⟩ := rx; exact SeqAt.EqAt.str_int a t' b t
    | str b => obtain ⟨t, rfl⟩ := rx; exact SeqAt.EqAt.str_str a t' b t
    | _ => exact absurd (show false = true from fx) Bool.false_ne_true
  | _ => exact absurd (show false = true from fy) Bool.false_ne_true
noncomputable def eqU (x : V) (u : Value) : Bool := match u with
  | .none => eqV .non x
  | .bool b => eqV (.bl b) x
  | .int i _ => eqV (.int i) x
  | .str z _ => eqV (.str z) x
  | _ => false
theorem eqU_of {x y : V} {u : Value} (r : RelV y u) (f : flatV y = true) : eqU x u = eqV y x := by
  cases y with
  | non => cases r; rfl
  | bl b => cases r; rfl
  | int i => obtain ⟨t, rfl⟩ := r; rfl
  | str z => obtain ⟨t, rfl⟩ := r; rfl
  | _ => exact absurd (show false = true from f) Bool.false_ne_true
theorem any_eqU {x : V} : ∀ {xs : List V} {us : List Value}, Vals xs us → xs.all flatV = true → us.any (eqU x) = xs.any fun y => eqV y x
  | _, _, .nil, _ => rfl
  | y :: xs, u :: us, .cons r t, f => by
    rw [List.all_cons, Bool.and_eq_true] at f
    rw [List.any_cons, List.any_cons, eqU_of r f.1, any_eqU t f.2]
theorem mem_eqAt {A : Around} {s : Shared} {x : V} {v : Value} (rx : RelV x v) (fx : flatV x = true) : ∀ {xs : List V} {us : List Value}, Vals xs us → xs.all flatV = true → ∀ u ∈ us, SeqAt.EqAt A s u v (eqU x u)
  | _, _, .nil, _ => fun u hu => by cases hu
  | y :: xs, u :: us, .cons r t, f => fun u' hu => by
    rw [List.all_cons, Bool.and_eq_true] at f
    rcases List.mem_cons.mp hu with rfl | hu
    · rw [eqU_of r f.1]; exact eqAt_V r rx f.1 fx
    · exact mem_eqAt rx fx t f.2 u' hu
noncomputable def inV (x : V) (xs : List V) : Bool := xs.any fun y => eqV y x
noncomputable def rIn (K : PySem.W.Frag) (neg : Bool) : R2 := fun x y H Q => ∃ p xs, y = .ref p ∧ (SqL K H p xs ∨ SqT K H p xs) ∧ flatV x = true ∧ xs.all flatV = true ∧ Q (.bl (if neg then !inV x xs else inV x xs)) H
theorem op_in_seq : OpR X (compareOp .In) (rIn X.K false) := by
  intro pins s σ H x y v u Q I rx ry h
  obtain ⟨p, xs, rfl, hq, fx, fs, q⟩ := h
  cases ry
  rcases hq with hq | hq
  · obtain ⟨its, r, pl, hz⟩ := I.list hq
    refine SeqAt.in_listAt (eqU x) pl.isList (fun w hw => mem_eqAt rx fx r fs w (by simpa using hw)) ⟨.bl _, H, I, rfl, ?_⟩
    rw [show its.toArray.any (eqU x) = its.any (eqU x) by simp, any_eqU r fs]
    exact q
  · obtain ⟨its, r, pl, hz⟩ := I.tuple hq
    refine SeqAt.in_tupleAt (eqU x) pl (fun w hw => mem_eqAt rx fx r fs w (by simpa using hw)) ⟨.bl _, H, I, rfl, ?_⟩
    rw [show its.toArray.any (eqU x) = its.any (eqU x) by simp, any_eqU r fs]
    exact q
theorem call_len_seq : CallR X (.builtin "len") (fun xs H Q => ∃ p ys, xs = [.ref p] ∧ (SqL X.K H p ys ∨ SqT X.K H p ys) ∧ Q (.int ys.length) H) := by
  intro pins s σ H xs us Q I r h
  obtain ⟨p, ys, rfl, hq, q⟩ := h
  obtain ⟨u, rfl, rx⟩ := vals1 r
  cases rx
  have hn := line63
  rcases hq with hq | hq
  · obtain ⟨its, r', pl, hz⟩ := I.list hq
    have hlen := r'.length
    exact Calls.call_len_list pl.isList (by simp only [List.size_toArray] <;> omega) ⟨.int ys.length, H, I.tok _, ⟨s.toks + 1, by rw [List.size_toArray, hlen]⟩, q⟩
  · obtain ⟨its, r', pl, hz⟩ := I.tuple hq
    have hlen := r'.length
    exact len_tuple pl (by simp only [List.size_toArray] <;> omega) ⟨.int ys.length, H, I.tok _, ⟨s.toks + 1, by rw [List.size_toArray, hlen]⟩, q⟩
theorem call_list_of : CallR X (.type "list") (fun xs H Q => ∃ p ys, xs = [.ref p] ∧ (SqL X.K H p ys ∨ SqT X.K H p ys) ∧ ∀ l, H l = none → Q (.ref l) (upd H l (.lst ys))) := by
  intro pins s σ H xs us Q I r h
  obtain ⟨p, ys, rfl, hq, q⟩ := h
  obtain ⟨u, rfl, rx⟩ := vals1 r
  cases rx
  have fin : ∀ (its : List Value), Vals ys its → ys.length ≤ sizeLine → ∀ (h' : Heap) (c' : Nat), (∀ b o', s.heap.get? b = some o' → h'.get? b = some o') →
      h'.get? s.heap.objs.size = some { cls := .type "list", dict := none, data := .seq its.toArray c', slots := #[] } → EP X pins σ Q (.ref s.heap.objs.size) { s with heap := h' } := fun its r' hz h' c' kp e =>
    ⟨.ref s.heap.objs.size, _, I.laid (t' := s.toks) kp (Nat.le_refl _) (show ObjOk X.prog X.w _ h' _ (.lst ys) from ⟨hz, its, c', r', e⟩), rfl, q _ (I.hok.fresh (Nat.le_refl _))⟩
  rcases hq with hq | hq
  · obtain ⟨its, r', pl, hz⟩ := I.list hq
    have hlen := r'.length
    obtain ⟨o, ho, hc, n, hd⟩ := pl.isList
    exact call_list_seq p (.inl rfl) ho hc hd (fun h' c' kp e => fin its r' hz h' c' kp e) (by simp only [List.size_toArray] <;> omega)
  · obtain ⟨its, r', pl, hz⟩ := I.tuple hq
    have hlen := r'.length
    obtain ⟨o, ho, hc, n, hd⟩ := pl
    exact call_list_seq p (.inr rfl) ho hc hd (fun h' c' kp e => fin its r' hz h' c' kp e) (by simp only [List.size_toArray] <;> omega)
theorem call_tuple_of : CallR X (.type "tuple") (fun xs H Q => ∃ p ys, xs = [.ref p] ∧ ((SqL X.K H p ys ∧ ∀ l, H l = none → Q (.ref l) (upd H l (.tup ys))) ∨ (SqT X.K H p ys ∧ Q (.ref p) H))) := by
  intro pins s σ H xs us Q I r h
  obtain ⟨p, ys, rfl, h⟩ := h
  obtain ⟨u, rfl, rx⟩ := vals1 r
  cases rx
  rcases h with ⟨hq, q⟩ | ⟨hq, q⟩
  · obtain ⟨its, r', pl, hz⟩ := I.list hq
    have hlen := r'.length
    refine call_tuple_list pl.isList (fun h' kp => ?_) (by simp only [List.size_toArray] <;> omega)
    have I1 : Inv X pins σ H { s with heap := h' } := I.kept (t' := s.toks) kp
    have I2 : Inv X pins σ (upd H h'.objs.size (.tup ys)) { s with heap := h'.push { cls := .type "tuple", data := .seq its.toArray } } :=
      I1.laid (t' := s.toks) (fun b o e => Heap.get?_push_of_some _ e) (Nat.le_refl _) (show ObjOk X.prog X.w _ _ _ (.tup ys) from ⟨hz, its, r', IsTupN.new _ _⟩)
    exact ⟨.ref h'.objs.size, _, I2, rfl, q _ (I1.hok.fresh (Nat.le_refl _))⟩
  · obtain ⟨its, r', pl, hz⟩ := I.tuple hq
    exact call_tuple_same pl ⟨.ref p, H, I, rfl, q⟩

noncomputable def tyV (K : PySem.W.Frag) (T : String) (x : V) (H : Hp) : Prop := match x with
  | .str _ => T = "str"
  | .int _ => T = "int"
  | .ref p => (T = "list" ∧ ∃ xs, SqL K H p xs) ∨ (T = "tuple" ∧ ∃ o, K.lookup p = some o ∧ o.cls = .type "tuple" ∧ o.dict = none) ∨
      (T = "dict" ∧ ((∃ kvs, H p = some (.dK kvs)) ∨ ∃ kvs, H p = some (.dT kvs))) ∨ (T = "set" ∧ ∃ S n, H p = some (.set S n))
  | _ => False
theorem tyV_is {pins : List (Addr × Obj)} {σ : St} {H : Hp} {s : Shared} {T : String} {x : V} {v : Value} (I : Inv X pins σ H s) (r : RelV x v) (ty : tyV X.K T x H) :
    s.TypeIs v T ∧ ∀ a, v = .ref a → ∃ ob, s.heap.get? a = some ob ∧ ob.dict = none := by
  cases x with
  | str z =>
    obtain ⟨t, rfl⟩ := r
    cases (show T = "str" from ty)
    exact ⟨typeIs_str s z t, fun _ e => nomatch e⟩
  | int i =>
    obtain ⟨t, rfl⟩ := r
    cases (show T = "int" from ty)
    exact ⟨typeIs_int s i t, fun _ e => nomatch e⟩
  | ref p =>
    cases r
    rcases ty with ⟨rfl, xs, hq⟩ | ⟨rfl, o, hk, hc, hd⟩ | ⟨rfl, hk⟩ | ⟨rfl, S, n, hk⟩
    · obtain ⟨its, _, pl, _⟩ := I.list hq
      refine ⟨pl.isList.typeIs, fun a e => ?_⟩
      cases e
      obtain ⟨o, n, e, c, hd, _⟩ := pl
      exact ⟨o, e, hd⟩
    · refine ⟨⟨o, I.kIn p o hk, hc⟩, fun a e => ?_⟩
      cases e
      exact ⟨o, I.kIn _ o hk, hd⟩
    · have z : ∃ o, s.heap.get? p = some o ∧ o.ExactDict := by
        rcases hk with ⟨kvs, hk⟩ | ⟨kvs, hk⟩
        · obtain ⟨_, _, _, _, o, _, _, e, ex, _⟩ := I.hok p _ hk
          exact ⟨o, e, ex⟩
        · obtain ⟨_, _, _, _, o, _, _, e, ex, _⟩ := I.hok p _ hk
          exact ⟨o, e, ex⟩
      obtain ⟨o, e, ex⟩ := z
      refine ⟨⟨o, e, ex.1⟩, fun a e2 => ?_⟩
      cases e2
      exact ⟨o, e, ex.2.1⟩
    · obtain ⟨o, _, _, _, e, ex, _⟩ := I.hok p _ hk
      refine ⟨⟨o, e, ex.1⟩, fun a e2 => ?_⟩
      cases e2
      exact ⟨o, e, ex.2.1⟩
  | _ => exact False.elim ty
noncomputable def tBM (K : PySem.W.Frag) (T : String) (r : V → List V → Hp → VK → Prop) (to : TE) (t : TA) : TE := fun σ H Q => to σ H fun x H1 => tyV K T x H1 ∧ t σ H1 fun xs H2 => r x xs H2 Q
variable {o e : Expr} {es : List Expr} {to : TE} {t : TA} {name : Str} {apos cpos : Pos} {T id : String} {r : V → List V → Hp → VK → Prop}
theorem pe_bm (pa : PlainAttrs T) (slot : Slot T name id) (hty : typeOf (.builtin id) = pure (.type "method_descriptor")) (hm : MtR X id r) (ho : PE X o to) (ha : PA X (e :: es) t)
    (hbase : attributeBase o name X.env (eval o X.env) = eval o X.env := by rfl)
    (hfew : ((backTo cpos (starEach (e :: es) X.env)).all (fun x => !x.1) && (backToKw cpos (keywordEach [] X.env)).all (fun x => x.1.isSome)
      && decide ((e :: es).length + ([] : List Keyword).length + (if ([] : List Keyword).isEmpty then 0 else 1) < 30)) = true := by rfl)
    (hline : (apos.endLine == cpos.line) = true := by rfl) (hs : starEach (e :: es) X.env = (false, eval e X.env) :: starEach es X.env := by rfl) (hplain : (backTo cpos (starEach es X.env)).any (·.1) = false := by rfl) :
    PE X (.Call (.Attribute o name apos) (e :: es) [] cpos) (tBM X.K T r to t) := by
  intro pins s σ H Q I h
  refine wpAny_Call_method_late hbase hfew hline rfl (thn (ho pins s σ H _ I h) fun v s1 ⟨x, H1, I1, r1, ty, q1⟩ => ?_)
  obtain ⟨h1, h2⟩ := tyV_is I1 r1 ty
  refine ⟨T, id, pa, slot, hty, h1, h2, ?_⟩
  have hA := ha cpos pins s1 σ H1 _ I1 q1
  rw [hs] at hA ⊢
  refine Calls.callWith_builtin (by show (false || (backTo cpos (starEach es X.env)).any (·.1)) = false; rw [hplain] <;> rfl) (Calls.evalArgs_plain ?_)
  exact thn hA fun us s2 ⟨vs, H2, I2, r2, q2⟩ => hm pins s2 σ H2 x vs v us Q I2 r1 r2 q2
end
end L2

namespace L2
open PySem PySem.Spec PyProof.Rows

noncomputable def MtM (X : Cx) (id : String) (r : V → List V → Hp → VK → Prop) : Prop :=
  ∀ (pins : List (Addr × Obj)) (s : Shared) (σ : St) (H : Hp) (x : V) (xs : List V) (v : Value) (us : List Value) (Q : VK), Inv X pins σ H s → RelV x v → Vals xs us → r x xs H Q →
    wpAny (model X.prog X.w) X.A (call (.builtin id) (v :: us)) (EP X pins σ Q) X.xe s

theorem Vals.one : ∀ {x : V} {us : List Value}, Vals [x] us → ∃ u, us = [u] ∧ RelV x u
  | _, _, .cons r .nil => ⟨_, rfl, r⟩
theorem Vals.two : ∀ {x y : V} {us : List Value}, Vals [x, y] us → ∃ u v, us = [u, v] ∧ RelV x u ∧ RelV y v
  | _, _, _, .cons r (.cons q .nil) => ⟨_, _, rfl, r, q⟩
section
variable {X : Cx} {pins : List (Addr × Obj)} {σ : St} {H : Hp} {s : Shared} {l b : Addr} {xs ys zs : List V}

theorem Inv.lset {its its' : List Value} {n : Nat} {f : Array Value → Array Value} {t' : Nat} (I : Inv X pins σ H s) (hH : H l = some (.lst xs))
    (e : s.heap.get? l = some { cls := .type "list", data := .seq its.toArray n }) (hf : f its.toArray = its'.toArray) (hv : Vals ys its') (hz : ys.length ≤ sizeLine) :
    Inv X pins σ (upd H l (.lst ys)) { s with heap := s.heap.update l (Obj.mapSeq f), toks := t' } := by
  have q := PySem.IsL.update e f
  rw [hf] at q
  refine I.write (x := l) (e := l) (by rw [hH]; exact trivial) (.inl rfl) (fun b' u hb hu => (Heap.get?_update_other s.heap (Obj.mapSeq f) (Ne.symm hb)).trans hu) ⟨_, q⟩ ?_
  exact ⟨hz, its', _, hv, q⟩
theorem Inv.lnew {its : List Value} {t' : Nat} (I : Inv X pins σ H s) (hv : Vals ys its) (hz : ys.length ≤ sizeLine) :
    Inv X pins σ (upd H s.heap.objs.size (.lst ys)) { s with heap := s.heap.push { cls := .type "list", data := .seq its.toArray }, toks := t' } :=
  I.laid (fun _ _ q => Heap.get?_push_of_some _ q) (Nat.le_refl _) ⟨hz, its, 0, hv, Heap.get?_push_size _ rfl⟩
theorem Inv.fresh (I : Inv X pins σ H s) : H s.heap.objs.size = none := I.hok.fresh (Nat.le_refl _)
theorem Inv.lstM (I : Inv X pins σ H s) (hH : H l = some (.lst xs)) : xs.length ≤ sizeLine ∧ ∃ (its : List Value) (n : Nat), Vals xs its ∧ xs.length = its.length ∧ s.heap.get? l = some { cls := .type "list", data := .seq its.toArray n } := by
  obtain ⟨z, its, n, r, e⟩ := I.hok l _ hH
  exact ⟨z, its, n, r, r.length, e⟩

theorem notLongL {n : Nat} (h : n ≤ sizeLine) : Builtin.List.listTooLong n = false := by
  unfold Builtin.List.listTooLong
  exact decide_eq_false (by omega)
end

section
variable {X : Cx}

noncomputable def rAppend : V → List V → Hp → VK → Prop := fun x vs H Q => ∃ l xs y, x = .ref l ∧ vs = [y] ∧ H l = some (.lst xs) ∧ xs.length < sizeLine ∧ Q .non (upd H l (.lst (xs ++ [y])))
theorem mt_append : MtM X "list.append" rAppend := by
  intro pins s σ H x vs v us Q I rx rv h
  obtain ⟨l, xs, y, rfl, rfl, hH, hz, q⟩ := h
  cases rx
  obtain ⟨u, rfl, ru⟩ := rv.one
  obtain ⟨z, its, n, r, hl, e⟩ := I.lstM hH
  refine call_meets F.slot_list_append ⟨_, e, rfl⟩ F.entry_list_append (F.args_list_append_2 _ _) (PySem.list_append l its.toArray n u (by rw [List.size_toArray]; omega)) ⟨e, ?_⟩
  refine ⟨.non, _, I.lset (its' := its ++ [u]) hH e (by simp) (r.append (.cons ru .nil)) ?_, rfl, q⟩
  rw [List.length_append, List.length_singleton]
  omega

noncomputable def rExtend : V → List V → Hp → VK → Prop := fun x vs H Q => ∃ l b xs zs, x = .ref l ∧ vs = [.ref b] ∧ H l = some (.lst xs) ∧ H b = some (.lst zs) ∧ xs.length + zs.length ≤ sizeLine ∧ Q .non (upd H l (.lst (xs ++ zs)))
theorem mt_extend : MtM X "list.extend" rExtend := by
  intro pins s σ H x vs v us Q I rx rv h
  obtain ⟨l, b, xs, zs, rfl, rfl, hH, hB, hz, q⟩ := h
  cases rx
  obtain ⟨u, rfl, ru⟩ := rv.one
  cases ru
  obtain ⟨z, its, n, r, hl, e⟩ := I.lstM hH
  obtain ⟨z2, its2, n2, r2, hl2, e2⟩ := I.lstM hB
  have hsz : its.toArray.size + its2.toArray.size ≤ sizeLine := by rw [List.size_toArray, List.size_toArray]; omega
  have hlong : ¬ (!its.toArray.isEmpty && Builtin.List.listTooLong (its.toArray.size + its2.toArray.size)) = true := by
    rw [notLongL hsz, Bool.and_false]
    exact Bool.false_ne_true
  refine call_meets F.slot_list_extend ⟨_, e, rfl⟩ F.entry_list_extend (F.args_list_extend_2 _ _)
    (AutoSeq1.list_extend_list_list_0 l its.toArray n b its2.toArray n2 hlong (by rw [List.size_toArray]; omega) (by omega)) ⟨e, e2, ?_⟩
  refine ⟨.non, _, I.lset (its' := its ++ its2) hH e (by simp) (r.append r2) ?_, rfl, q⟩
  rw [List.length_append]
  omega

noncomputable def rCat : R2 := fun x y H Q => ∃ l b xs zs, x = .ref l ∧ y = .ref b ∧ H l = some (.lst xs) ∧ H b = some (.lst zs) ∧ xs.length + zs.length ≤ sizeLine ∧ ∀ p, H p = none → Q (.ref p) (upd H p (.lst (xs ++ zs)))
theorem op_cat : OpR X (binaryOp .Add) rCat := by
  intro pins s σ H x y v u Q I rx ry h
  obtain ⟨l, b, xs, zs, rfl, rfl, hH, hB, hz, q⟩ := h
  cases rx
  cases ry
  obtain ⟨z, its, n, r, hl, e⟩ := I.lstM hH
  obtain ⟨z2, its2, n2, r2, hl2, e2⟩ := I.lstM hB
  refine PySem.P.add_list e e2 ?_ (by rw [List.size_toArray, List.size_toArray]; omega)
  have ea : its.toArray ++ its2.toArray = (its ++ its2).toArray := by simp
  rw [ea]
  exact ⟨.ref _, _, I.lnew (t' := s.toks) (r.append r2) (by rw [List.length_append]; omega), rfl, q _ I.fresh⟩
end

section
variable {prog : Program} {w : World} {A : Around} {E : Value → Shared → Prop} {s : Shared}
set_option maxRecDepth 100000 in
end

section
variable {X : Cx}
end
end L2

namespace L2
open PySem PySem.Spec PyProof.Rows

section
variable {κ : Type} [DecidableEq κ]
noncomputable def valV (kvs : List (κ × V)) (k : κ) : Option V := (kvs.find? fun kv => decide (kv.1 = k)).map (·.2)
theorem valV_pos {p : κ × V} {r : List (κ × V)} {k : κ} (e : p.1 = k) : valV (p :: r) k = some p.2 := by simp [valV, List.find?_cons, e]
theorem valV_neg {p : κ × V} {r : List (κ × V)} {k : κ} (e : ¬ p.1 = k) : valV (p :: r) k = valV r k := by simp [valV, List.find?_cons, e]
theorem RelO.isSome_eq {o : Option V} {u : Option Value} (r : RelO o u) : o.isSome = u.isSome := by
  cases o with
  | none => cases u with
    | none => rfl
    | some _ => exact (show False from r).elim
  | some _ => cases u with
    | none => exact (show False from r).elim
    | some _ => rfl
theorem KV.val {kvs : List (κ × V)} {vs : List (κ × Value)} (r : KV kvs vs) (k : κ) : RelO (valV kvs k) (valueAt vs k) := by
  unfold KV at r
  induction r with
  | nil => exact True.intro
  | @cons p q ps qs h t ih =>
    obtain ⟨h1, h2⟩ := h
    by_cases e : p.1 = k
    · have e' : q.1 = k := h1.symm.trans e
      have b : valueAt (q :: qs) k = some q.2 := by simp [valueAt, List.find?_cons, e']
      rw [valV_pos e, b]; exact h2
    · have e' : ¬ q.1 = k := fun z => e (h1.trans z)
      have b : valueAt (q :: qs) k = valueAt qs k := by simp [valueAt, List.find?_cons, e']
      rw [valV_neg e, b]; exact ih
end


theorem kV_is {P : Program} {w : World} {k : Key} {u : Value} (r : RelV (kV k) u) : (mixKind P w).is k u = true := by
  cases k with
  | inl i => obtain ⟨t, e⟩ := (show ∃ t, u = Value.int i t from r); subst e; exact mixKind_int P w i t
  | inr x => obtain ⟨t, e⟩ := (show ∃ t, u = Value.str x t from r); subst e; exact mixKind_str P w x t
section
variable {P : Program} {w : World} {H : Hp} {h : Heap} {a : Addr}
end

section
variable {X : Cx} {pins : List (Addr × Obj)} {σ : St} {H : Hp} {s : Shared} {a : Addr} {y v : V} {u r : Value} {o : Option V} {A : Around} {E : Value → Shared → Prop}

end

section
variable {X : Cx} {pins : List (Addr × Obj)} {σ : St} {H : Hp} {s : Shared} {a : Addr} {kvs : List (Key × V)} {k : Key} {u : Value} {A : Around} {E : Value → Shared → Prop}
end


noncomputable def NoSl (i : Expr) : Prop := ∀ ov iv, subscripted i false ov iv = operate [ov, iv] (getItem ov iv)
theorem subD_of {prog : Program} {w : World} {A : Around} {E : Value → Shared → Prop} {s : Shared} {env : Env} {value slice : Expr} {pos : Pos} {T id : String} {Q : Value → Shared → Prop}
    (hl : typeLookup (.type T) "__getitem__" = pure (some (.builtin id))) (hs : NoSl slice)
    (h : wpAny (model prog w) A (eval value env) (fun o s₁ => wpAny (model prog w) A (eval slice env) (fun i s₂ => s₂.TypeIs o T ∧ wpAny (model prog w) A (getItem o i) Q E s₂) E s₁) E s) :
    wpAny (model prog w) A (eval (.Subscript value slice pos) env) Q E s := by
  refine Subscript_ (wpAny_mono h (fun o s₁ h₁ => wpAny_mono h₁ (fun i s₂ h₂ => ?_) fun _ _ x => x) fun _ _ x => x)
  obtain ⟨hT, h₂⟩ := h₂
  unfold subscriptTail
  refine wpAny_bind ?_
  rw [getitemInPython_of_ne hT.not_modules]
  refine wpAny_bind (wpAny_specialOf hT hl ?_)
  have fin : wpAny (model prog w) A (subscripted slice false o i) (fun r s₃ => wpAny (model prog w) A (letTemporaryGo value o r >>= fun _ => pure r) Q E s₃) E s₂ := by
    rw [hs o i]
    exact wpAny_operating (wpAny_mono h₂ (fun r s₃ h₃ => wpAny_bind (wpAny_letTemporaryGo (wpAny_pure h₃))) fun _ _ x => x)
  first
    | exact wpAny_pure (wpAny_bind fin)
    | exact wpAny_bind (wpAny_pure (wpAny_bind fin))
    | exact wpAny_bind fin

section
variable {X : Cx} {o i e value : Expr} {pos pos' tpos : Pos} {td ty tv : TE}
end


section
variable {X : Cx} {pos : Pos}
end

section
variable {X : Cx} {pins : List (Addr × Obj)} {σ : St} {H : Hp} {s : Shared} {a : Addr} {y d : V} {u r : Value} {o : Option V} {A : Around} {E : Value → Shared → Prop}
end

section
variable {X : Cx} {o e f : Expr} {apos cpos : Pos} {td ty tx : TE}
end

section
variable {X : Cx} {pins : List (Addr × Obj)} {σ : St} {H : Hp} {s : Shared} {a : Addr} {kvs : List (Key × V)} {A : Around} {E : Value → Shared → Prop}
end


section
variable {X : Cx} {pins : List (Addr × Obj)} {σ : St} {H : Hp} {s : Shared} {a : Addr} {y : V} {u : Value} {A : Around} {E : Value → Shared → Prop}
end
end L2

namespace Att
open PySem PySem.W PySem.Calls PyProof.Rows

theorem ints_of_wellAll {P : Params} {h : Heap} : ∀ (ns : List Int) (vs : List Value), WellAll P h vs (ns.map WData.int) → IntsAre vs ns := by
  intro ns
  induction ns with
  | nil =>
    intro vs w
    rw [List.map_nil] at w
    cases w
    exact .nil
  | cons n ns ih =>
    intro vs w
    rw [List.map_cons] at w
    cases w with
    | cons a b =>
      cases a
      exact .cons _ _ (ih _ b)

theorem script_of {l : OpenLaw} {n : Nat} (hn : l.most = some n) {P : Params} {h : Heap} {args : List WData} {vals : List Value}
    (hpre : l.row.toRowW.claim.pre args = true) (hwl : WellAll P h vals args) :
    ∃ a vs ns, vals = [Value.ref a] ∧ args = [WData.list (ns.map WData.int)] ∧ h.get? a = some { cls := .type "list", data := .seq vs.toArray } ∧ IntsAre vs ns ∧ ns.length ≤ n := by
  have hsh : WShape.hasAll [] args [.list .int] = true := (pre_splitW hpre).1
  have hc : l.pre.holds [] { args := args } = true := (pre_splitW hpre).2
  obtain ⟨d, r, rfl, h1, h2⟩ := hasAllW_cons hsh
  obtain rfl := hasAllW_nil h2
  obtain ⟨xs, rfl, h3⟩ := hasW_list h1
  obtain ⟨ns, rfl⟩ := items_int h3
  have hlen : ns.length ≤ n := by
    unfold OpenLaw.pre at hc
    have h4 : (WTm.not (.lt (.lit (.int (n : Int))) (.len (.arg 0)))).holds [] { args := [.list (ns.map .int)] } = true := by
      have h4 := (holds_andW hc).1
      rw [hn] at h4
      exact h4
    have h5 := condW_of h4 (w_not (w_lt w_lit (w_len_list (w_arg rfl))))
    rw [List.length_map] at h5
    refine Nat.le_of_not_lt fun q => ?_
    have q' : (n : Int) < ((ns.length : Nat) : Int) := by omega
    first
      | (rw [decide_eq_true q'] at h5; exact absurd h5 (by decide))
      | (simp at h5; omega)
  cases hwl with
  | cons w1 w2 =>
    cases w2
    cases w1 with
    | list ho hall => exact ⟨_, _, ns, rfl, rfl, ho, ints_of_wellAll ns _ hall, hlen⟩

theorem post_true (l : OpenLaw) (args : List WData) : l.row.toRowW.claim.post args (.bool true) args = true :=
  postW_of (r := l.row.toRowW) (X := (true == true))
    (show WShape.has [] (.bool true) .bool = true by first | rfl | decide | simp [WShape.has, WShape.arms, WShape.armsAll])
    (show (WTm.eq .res (.lit (.bool true))).value [] { args := args, res := some (.bool true), after := args } = some (.bool (true == true)) from w_eq_bool (w_res rfl) w_lit) rfl

theorem attach_call {l : OpenLaw} {n : Nat} {q : Program} {loose : List Str} {XP : (Str → Option Value) → Heap → Prop} {YP : World → Heap → Prop} {d : DefRec}
    (hn : l.most = some n) (hdf : d.params.defaults = [])
    (call : ∀ (w : World) (s₀ s₁ : Shared) (mg mb : Str → Option Value) (fa : Addr) (o : Obj) (pm cd doc : Value) (a : Addr) (vs : List Value) (ns : List Int),
      Ground q loose [] XP w s₀ mg mb s₁.heap → YP w s₁.heap →
      s₁.heap.get? fa = some o → o.data = .func (docDef d.name d.params d.body d.scope pm cd doc) → s₁.heap.CodeRec cd d.name → mg d.name = some (.ref fa) →
      s₁.heap.get? a = some { cls := .type "list", data := .seq vs.toArray } → IntsAre vs ns → ns.length ≤ n → s₁.gens = #[] →
      codeAny (model l.prog w) callerA (.call (.ref fa) ⟨[.ref a], []⟩) (fun r s' => r = .ok (.ret (.bool true)) ∧ OldK s₁.heap s'.heap ∧ s'.os = s₁.os ∧ AllBare s'.gens) s₁) :
    WalkO q loose XP YP l.row.toRowW d [] (fun f vs => PySem.call f vs) := by
  intro w s₀ s₁ mg mb G Y fa o pm cd doc dV kV ho hd hcd hD hmg hg args vals as hpre hlay hrd hwl hlo
  obtain rfl : dV = .none := Dflts.none hD hdf
  obtain rfl : kV = .none := Dflts.noKw hD
  obtain ⟨a, vs, ns, rfl, rfl, hobj, hints, hlen⟩ := script_of hn hpre hwl
  refine enter_call (codeAny_mono (call w s₀ s₁ mg mb fa o pm cd doc a vs ns G Y ho (fd_plain hd) hcd hmg hobj hints hlen hg) fun r s' hq => ?_)
  obtain ⟨rfl, h2, h3, h4⟩ := hq
  exact ⟨.inl ⟨.bool true, .bool true, [], rfl, fun _ => rfl, .bool true, post_true l _, fun _ => ⟨List.Pairwise.nil, fun _ hm => (nomatch hm)⟩⟩, h2, h3, h4⟩

section
variable {prog : Program} {w : World} {A : Around} {E : Value → Shared → Prop} {s : Shared} {K : Frag}

end
end Att

namespace L2
open PySem PySem.Spec PyProof.Rows

theorem vals_ints : ∀ {vs : List Value} {ns : List Int}, IntsAre vs ns → Vals (ns.map V.int) vs
  | _, _, .nil => .nil
  | _, _, .cons n t h => .cons ⟨t, rfl⟩ (vals_ints h)

end L2

namespace L2
open PySem PySem.Spec PyProof.Rows

end L2


namespace L2
open PySem PySem.Spec PyProof.Rows

noncomputable def defArgs (s : Stmt) : Arguments := match s with
  | .FunctionDef _ a _ _ _ _ _ _ _ _ => a
  | _ => { posonlyargs := [], args := [], vararg := none, kwonlyargs := [], kw_defaults := [], kwarg := none, defaults := [] }
noncomputable def defBody (s : Stmt) : List Stmt := match s with
  | .FunctionDef _ _ b _ _ _ _ _ _ _ => b
  | _ => []
noncomputable def defScope (s : Stmt) : Scope := match s with
  | .FunctionDef _ _ _ _ _ _ sc _ _ _ => sc
  | _ => { kind := .function, names := [], isGenerator := false, isCoroutine := false }

noncomputable abbrev CX0 : CXT := fun _ _ _ _ _ _ => False
noncomputable abbrev E0 : XK := fun _ _ _ => False
theorem pass0 {X : Cx} : Passes CX0 X E0 := fun _ _ _ _ _ _ _ h => h.elim

structure Fun (K : PySem.W.Frag) (x qual : Str) (st : Stmt) (f : Addr) (fd : FuncData) : Prop where
  ex : ∃ (oc : Value) (od : Option Addr) (kV doc pm : Value) (an : Option Addr) (cdv ct : Value) (osl : Array (Option Value)),
    fd = PySem.W.fnOf x qual (defArgs st) (defBody st) (defScope st) .none kV doc pm an cdv ct ∧ K.lookup f = some ⟨oc, od, .func fd, osl⟩ ∧ PySem.W.codeIn K cdv qual = true
  kp : PySem.W.keepIn K (.ref f) = true
section
variable {P : Program} {w : World} {K : PySem.W.Frag} {mg : Str → Option Value} {base : Heap}
theorem Fun.ok {x qual : Str} {st : Stmt} {f : Addr} {fd : FuncData} {N ps : List Str} {k : Nat} {sp : Sp} (F : Fun K x qual st f fd) (S : FnScope N ps (defScope st)) (len : ∀ vs H Q E, sp vs H Q E → vs.length = ps.length)
    (hbody : ∀ (cdv : Value) (A : Around) (outer : List Env) (s : Shared) (H : Hp) (vs : List V) (Q : VK) (E : XK), Room k (A.deeper (envOfC qual (defScope st) s.heap.objs.size f cdv)) → sp vs H Q E →
      ∃ t, PSs (cxOf CX0 P w K mg base N qual (defScope st) f cdv A outer s H E).nox (defBody st) t ∧ t { nx := fun _ H' => Q .non H', rt := Q } (start N vs) H) : FnOk P w K mg base CX0 (k + 1) f fd ps sp := by
  obtain ⟨oc, od, kV, doc, pm, an, cdv, ct, osl, rfl, lk, hcd⟩ := F.ex
  refine fn_of lk hcd S len fun A outer s H vs Q E hr hsp => ?_
  obtain ⟨t, h, q⟩ := hbody cdv A outer s H vs Q E hr hsp
  exact ⟨t, h.nox, q⟩
theorem Fun.binds {x qual : Str} {st : Stmt} {f : Addr} {fd : FuncData} {ps : List Str} (F : Fun K x qual st f fd)
    (h : ∀ (kV doc pm : Value) (an : Option Addr) (cdv ct : Value) (us : List Value), us.length = ps.length → bindArgs (PySem.W.fnOf x qual (defArgs st) (defBody st) (defScope st) .none kV doc pm an cdv ct) ⟨us, []⟩ = pure (ps.zip us)) : Binds K fd ps [] := by
  obtain ⟨oc, od, kV, doc, pm, an, cdv, ct, osl, rfl, lk, hcd⟩ := F.ex
  exact .all (h kV doc pm an cdv ct)
theorem fun_mk {x qual : Str} {st : Stmt} {f : Addr} {oc : Value} {od an : Option Addr} {osl : Array (Option Value)} {kV doc pm cdv ct : Value} (l : K.lookup f = some ⟨oc, od, .func (PySem.W.fnOf x qual (defArgs st) (defBody st) (defScope st) .none kV doc pm an cdv ct), osl⟩)
    (c : PySem.W.codeIn K cdv qual = true) (k : PySem.W.keepIn K (.ref f) = true) : Fun K x qual st f (PySem.W.fnOf x qual (defArgs st) (defBody st) (defScope st) .none kV doc pm an cdv ct) := ⟨⟨oc, od, kV, doc, pm, an, cdv, ct, osl, rfl, l, c⟩, k⟩
end
section
variable {X : Cx}
theorem pv (i : Nat) {x : Str} {pos : Pos} (hN : X.N[i]? = some x := by rfl) (hv : Vis X.env.scope x := by first | exact Or.inl rfl | exact Or.inr (Or.inl rfl) | exact Or.inr (Or.inr rfl)) (hd : (x == ("__debug__" : Str)) = false := by decide)
    (hcd : (x == ("__classdict__" : Str)) = false := by decide) : PE X (.Name x pos) (tVar i) := pe_var hN hv hd hcd
end

theorem iteF {A B : Prop} (h : B) : if false = true then A else B := by
  rw [if_neg Bool.false_ne_true]
  exact h
theorem iteT {A B : Prop} (h : A) : if true = true then A else B := by
  rw [if_pos rfl]
  exact h
theorem ite2 {c A B : Prop} [Decidable c] (h1 : c → A) (h2 : ¬ c → B) : if c then A else B := by
  by_cases h : c
  · rw [if_pos h]
    exact h1 h
  · rw [if_neg h]
    exact h2 h
noncomputable def Same (H H' : Hp) : Prop := ∀ b o, H b = some o → H' b = some o
theorem Same.refl (H : Hp) : Same H H := fun _ _ h => h
theorem Same.trans {H H1 H2 : Hp} (a : Same H H1) (b : Same H1 H2) : Same H H2 := fun c o h => b c o (a c o h)
theorem Same.free {H H' : Hp} (e : Same H H') {l : Addr} (h : H' l = Option.none) : H l = Option.none := by
  cases q : H l with
  | none => rfl
  | some o =>
    rw [e l o q] at h
    cases h
theorem Same.seq {K : PySem.W.Frag} {H H' : Hp} {a : Addr} {xs : List V} (e : Same H H') (h : SqL K H a xs) : SqL K H' a xs := by
  rcases h with (h | ⟨o, h⟩) | h
  · exact .inl (.inl (e _ _ h))
  · exact .inl (.inr ⟨o, e _ _ h⟩)
  · exact .inr h

section
variable {κ : Type} [DecidableEq κ]
end
end L2


set_option Elab.async false
set_option linter.all false
set_option maxRecDepth 100000
set_option maxHeartbeats 4000000
namespace L2
open PySem PySem.Spec PyProof.Rows

theorem clos_aux (env : Env) : ∀ (l : List (Str × NameKind)) (cs : List (Str × Addr)), (∀ n, (n, NameKind.free) ∈ l → ∃ c, env.cells.lookup n = some c) → (∀ x c, cs.lookup x = some c → env.cells.lookup x = some c) →
    ∃ cl, (forIn l cs fun x s => if (x.snd == NameKind.free) = true then do let c ← cellOf env x.fst; pure (ForInStep.yield ((x.fst, c) :: s)) else pure (ForInStep.yield s)) = (pure cl : Sem (List (Str × Addr))) ∧
      (∀ x c, cl.lookup x = some c → env.cells.lookup x = some c) ∧ (∀ n, (n, NameKind.free) ∈ l → ∃ c, cl.lookup n = some c) ∧ ∀ n c, cs.lookup n = some c → ∃ c', cl.lookup n = some c'
  | [], cs, _, h => ⟨cs, rfl, h, (fun _ z => nomatch z), (fun n c e => ⟨c, e⟩)⟩
  | (n, k) :: r, cs, hf, h => by
    by_cases hk : k = .free
    · subst hk
      obtain ⟨c, hc⟩ := hf n List.mem_cons_self
      have e : cellOf env n = pure c := by unfold cellOf; rw [hc]
      obtain ⟨cl, e1, h1, h2, h3⟩ := clos_aux env r ((n, c) :: cs) (fun m hm => hf m (List.mem_cons_of_mem _ hm)) (fun x c' q => by
        rw [List.lookup_cons] at q
        by_cases hx : x = n
        · subst hx; simp at q; subst q; exact hc
        · have : (x == n) = false := by simpa using hx
          rw [this] at q; exact h x c' q)
      refine ⟨cl, ?_, h1, fun m hm => ?_, fun m c' q => ?_⟩
      · rw [List.forIn_cons]
        show ((do let c ← cellOf env n; pure (ForInStep.yield ((n, c) :: cs))) >>= _) = _
        rw [e]
        exact e1
      · rcases List.mem_cons.mp hm with z | z
        · cases z; exact h3 n c (by simp)
        · exact h2 m z
      · by_cases hx : m = n
        · subst hx; exact h3 m c (by simp)
        · have : (m == n) = false := by simpa using hx
          exact h3 m c' (by rw [List.lookup_cons, this]; exact q)
    · have hb : (k == NameKind.free) = false := by simpa using hk
      obtain ⟨cl, e1, h1, h2, h3⟩ := clos_aux env r cs (fun m hm => hf m (List.mem_cons_of_mem _ hm)) h
      refine ⟨cl, ?_, h1, fun m hm => ?_, h3⟩
      · rw [List.forIn_cons]
        dsimp only
        rw [hb]
        exact e1
      · rcases List.mem_cons.mp hm with z | z
        · cases z; exact absurd rfl hk
        · exact h2 m z

theorem closureFor_of {scope : Scope} {env : Env} (h : ∀ n, (n, NameKind.free) ∈ scope.names → ∃ c, env.cells.lookup n = some c) :
    ∃ cl, closureFor scope env = pure cl ∧ (∀ x c, cl.lookup x = some c → env.cells.lookup x = some c) ∧ ∀ n, (n, NameKind.free) ∈ scope.names → ∃ c, cl.lookup n = some c := by
  obtain ⟨cl, e, h1, h2, _⟩ := clos_aux env scope.names [] h (fun _ _ z => by simp at z)
  refine ⟨cl, ?_, h1, h2⟩
  simp only [closureFor]
  rw [e]
  rfl

noncomputable def compCx (X : Cx) (scope : Scope) (N' : List Str) (cl : List (Str × Addr)) (C : Addr) (s : Shared) (H : Hp) (fp : List Addr) (pins : List (Addr × Obj)) : Cx where
  prog := X.prog
  w := X.w
  K := X.K
  mg := X.mg
  base := X.base
  A := X.A
  N := N'
  s₀ := s
  H₀ := H
  env := compEnvC scope cl C X.env
  outer := X.stack
  stack := X.stack
  ex := fp
  calm := X.calm
  fn := fun _ => false
  pn := X.pn ++ pins
  xe := fun _ _ => False

structure CompScope (sc : Scope) (out : Scope) : Prop where
  kind : sc.kind = .function
  cell : ∀ y ∈ sc.names, y.2 ≠ .cell
  loc : ∀ y ∈ sc.names, y.2 = .local → sc.names.lookup y.1 = some .local
  free : ∀ y ∈ sc.names, y.2 = .free → out.names.lookup y.1 = some .cell ∨ out.names.lookup y.1 = some .free

noncomputable def inSt (ρ : List (Option Nat)) (σ : St) : St := ρ.map fun o => match o with | some i => (σ[i]?).getD none | none => none
noncomputable def SlotOk (sc : Scope) (env : Env) (N N' : List Str) (ρ : List (Option Nat)) : Prop :=
  ρ.length = N'.length ∧ ∀ (j i : Nat) (x : Str), ρ[j]? = some (some i) → N'[j]? = some x → N[i]? = some x ∧ Vis env.scope x ∧ (x, NameKind.free) ∈ sc.names

theorem lookup_relabel {names : List (Str × NameKind)} {env : Env} {x : Str} {k : NameKind} (h : (names.map fun (n, k) => if (k == NameKind.free && env.scope.kind == .function && env.kindOf n == some .cell) then (n, NameKind.cell) else (n, k)).lookup x = some k)
    (hk : k = .cell ∨ k = .free) (hc : ∀ y ∈ names, y.2 ≠ .cell) : (x, NameKind.free) ∈ names := by
  induction names with
  | nil => simp at h
  | cons p r ih =>
    obtain ⟨n, k'⟩ := p
    by_cases hx : x = n
    · subst hx
      have hk' : k' = .free := by
        by_cases hc' : (k' == NameKind.free && env.scope.kind == .function && env.kindOf x == some .cell) = true
        · simp only [Bool.and_eq_true, beq_iff_eq] at hc'
          exact hc'.1.1
        · simp only [List.map_cons] at h
          rw [if_neg hc'] at h
          simp at h
          subst h
          rcases hk with z | z
          · exact absurd z (hc (x, k') List.mem_cons_self)
          · exact z
      rw [hk']; exact List.mem_cons_self
    · have hb : (x == n) = false := by simpa using hx
      refine List.mem_cons_of_mem _ (ih ?_ fun y hy => hc y (List.mem_cons_of_mem _ hy))
      simp only [List.map_cons] at h
      by_cases hc' : (k' == NameKind.free && env.scope.kind == .function && env.kindOf n == some .cell) = true
      · rw [if_pos hc', List.lookup_cons, hb] at h; exact h
      · rw [if_neg hc', List.lookup_cons, hb] at h; exact h

theorem lookup_relabel_free : ∀ {names : List (Str × NameKind)} {env : Env} {x : Str}, (x, NameKind.free) ∈ names → (names.map fun (n, k) => if (k == NameKind.free && env.scope.kind == .function && env.kindOf n == some .cell) then (n, NameKind.cell) else (n, k)).lookup x = some .cell ∨
    (names.map fun (n, k) => if (k == NameKind.free && env.scope.kind == .function && env.kindOf n == some .cell) then (n, NameKind.cell) else (n, k)).lookup x = some .free ∨ names.lookup x ≠ some .free := by
  intro names env x hm
  by_cases hl : names.lookup x = some .free
  · induction names with
    | nil => simp at hl
    | cons p r ih =>
      obtain ⟨n, k'⟩ := p
      by_cases hx : x = n
      · subst hx
        simp at hl
        subst hl
        by_cases hc' : (NameKind.free == NameKind.free && env.scope.kind == .function && env.kindOf x == some .cell) = true
        · left; simp only [List.map_cons]; rw [if_pos hc']; simp
        · right; left; simp only [List.map_cons]; rw [if_neg hc']; simp
      · have hb : (x == n) = false := by simpa using hx
        rw [List.lookup_cons, hb] at hl
        have hm' : (x, NameKind.free) ∈ r := by
          rcases List.mem_cons.mp hm with z | z
          · cases z; exact absurd rfl hx
          · exact z
        have q := ih hm' hl
        simp only [List.map_cons]
        by_cases hc' : (k' == NameKind.free && env.scope.kind == .function && env.kindOf n == some .cell) = true
        · rw [if_pos hc', List.lookup_cons, hb, List.lookup_cons, hb]; exact q
        · rw [if_neg hc', List.lookup_cons, hb, List.lookup_cons, hb]; exact q
  · exact .inr (.inr hl)

section
variable {X : Cx} {pins : List (Addr × Obj)} {σ : St} {H : Hp} {s : Shared} {scope : Scope} {N' : List Str} {ρ : List (Option Nat)} {cl : List (Str × Addr)} {fp : List Addr} {C D : Addr}

theorem comp_ok (I : Inv X pins σ H s) (S : CompScope scope X.env.scope) (hf : ∀ b ∈ fp, FpOk X pins H b) (h1 : ∀ x c, cl.lookup x = some c → X.env.cells.lookup x = some c) (h2 : ∀ n, (n, NameKind.free) ∈ scope.names → ∃ c, cl.lookup n = some c)
    (hC : s.heap.objs.size ≤ C) (hfs : ∀ b ∈ fp, b < s.heap.objs.size) : (compCx X scope N' cl C s H fp pins).Ok where
  mod := I.ok.mod
  kind := S.kind
  glob := I.ok.glob
  blt := I.ok.blt
  above := hC
  inj := fun x y c e1 e2 => I.ok.inj x y c (h1 x c e1) (h1 y c e2)
  has := fun x hk => h2 x (by
    rcases hk with hk | hk
    · exact lookup_relabel (env := X.env) hk (.inl rfl) S.cell
    · exact lookup_relabel (env := X.env) hk (.inr rfl) S.cell)
  cab := fun _ _ z => nomatch z
  hd := I.ok.hd
  frames := I.ok.frames
  stk := .inl rfl
  exf := fun b hb => ⟨Nat.ne_of_lt (Nat.lt_of_lt_of_le (hfs b hb) hC), fun x c e => (hf b hb).2.2.2.2.1 x c (h1 x c e)⟩
  bs := I.bs
  bsz := Nat.le_trans I.ok.bsz I.sz
  noex := fun b o e hb => by
    rcases (hf b hb).2.2.2.1 with z | z
    · exact I.ok.noex b o e z
    · exact absurd (Nat.lt_of_lt_of_le (Nat.lt_of_lt_of_le (Heap.lt_size e) I.ok.bsz) z) (Nat.lt_irrefl _)
  exfs := fun b hb z => by
    rcases List.mem_cons.mp (I.stkSub b z) with q | q
    · exact (hf b hb).2.1 q
    · exact (hf b hb).2.2.1 q
  funs := I.stack
  frf := I.stkFree

theorem comp_start {h₁ : Heap} {tk : Nat} (I : Inv X pins σ H s) (S : CompScope scope X.env.scope) (hρ : SlotOk scope X.env X.N N' ρ) (hf : ∀ b ∈ fp, FpOk X pins H b) (h1 : ∀ x c, cl.lookup x = some c → X.env.cells.lookup x = some c)
    (h2 : ∀ n, (n, NameKind.free) ∈ scope.names → ∃ c, cl.lookup n = some c) (hC : s.heap.objs.size ≤ C) (hfs : ∀ b ∈ fp, b < s.heap.objs.size) (hn : h₁.Ns C (fun _ => none)) (hk : ∀ b o, s.heap.get? b = some o → h₁.get? b = some o)
    (hl : ∀ x, (x, NameKind.free) ∈ scope.names → scope.names.lookup x = some .free) :
    Inv (compCx X scope N' cl C s H fp pins) [] (inSt ρ σ) H { s with heap := h₁, toks := tk } where
  ok := comp_ok I S hf h1 h2 hC hfs
  os := rfl
  bare := I.bare
  base := Un.kept hk
  loc := by
    refine ⟨_, hn, fun j x v e1 e2 hv => ?_⟩
    obtain ⟨m, hm, hl'⟩ := I.loc
    unfold inSt at e2
    rw [List.getElem?_map] at e2
    cases hr : ρ[j]? with
    | none => rw [hr] at e2; simp at e2
    | some o =>
      cases o with
      | none => rw [hr] at e2; simp at e2
      | some i =>
        rw [hr] at e2
        obtain ⟨q1, q2, q3⟩ := hρ.2 j i x hr e1
        have e3 : σ[i]? = some (some v) := by
          cases hσ : σ[i]? with
          | none => simp [hσ] at e2
          | some z => simp [hσ] at e2; rw [e2]
        obtain ⟨u, r, lk⟩ := hl' i x v q1 e3 q2
        refine ⟨u, r, ?_⟩
        obtain ⟨c, hc⟩ := h2 x q3
        have hkind : (relabel scope X.env).names.lookup x = some .cell ∨ (relabel scope X.env).names.lookup x = some .free := by
          rcases lookup_relabel_free (env := X.env) q3 with z | z | z
          · exact .inl z
          · exact .inr z
          · exact absurd (hl x q3) z
        refine .inr ⟨hkind, c, hc, ?_⟩
        rcases lk with ⟨k, _⟩ | ⟨_, c', e', z⟩
        · rcases S.free (x, .free) q3 rfl with z | z
          · have k' : X.env.scope.names.lookup x = some .local := k
            rw [z] at k'; cases k'
          · have k' : X.env.scope.names.lookup x = some .local := k
            rw [z] at k'; cases k'
        · have := h1 x c hc
          rw [e'] at this; cases this
          obtain ⟨o, ho, hd⟩ := z
          exact ⟨o, hk _ _ ho, hd⟩
  cell := fun x c e => by
    obtain ⟨v, o, ho, hd⟩ := I.cell x c (h1 x c e)
    exact ⟨v, o, hk _ _ ho, hd⟩
  free := I.hok.fresh hC
  freeC := fun x c e => I.freeC x c (h1 x c e)
  pin := fun p hp => by
    have hp' : p ∈ X.pn ++ pins := by simpa [compCx] using hp
    obtain ⟨e, n, ne, nf, d⟩ := I.pin p hp'
    refine ⟨hk _ _ e, n, Nat.ne_of_lt (Nat.lt_of_lt_of_le (Heap.lt_size e) hC), fun z => ?_, d⟩
    rcases List.mem_cons.mp (I.stkSub p.1 z) with q | q
    · exact ne q
    · exact nf q
  hok := I.hok.kept hk
  len := by
    show (inSt ρ σ).length = N'.length
    unfold inSt
    rw [List.length_map]; exact hρ.1
end

theorem HOk.track {P : Program} {w : World} {H : Hp} {h : Heap} {D : Addr} {o : HO} (x : HOk P w H h) (n : H D = none) (new : ObjOk P w (upd H D o) h D o) : HOk P w (upd H D o) h := fun b u e => by
  by_cases hb : b = D
  · subst hb; rw [upd_same] at e; cases e; exact new
  · rw [upd_ne hb] at e
    exact (x b u e).stay (fun c v _ q => q) (fun c q => by rw [upd_ne (ne_of_none q n)]; exact q) fun c xs q => by rw [upd_ne (ne_of_none q n)]; exact q

section
variable {prog : Program} {w : World} {A : Around} {R : Result → Shared → Prop} {s : Shared}
theorem compLoop_gen {elt target iter : Expr} {ifs : List Expr} {scope : Scope} {pos : Pos} {it acc : Value} {env : Env} (I : Nat → Shared → Prop)
    (turn : ∀ n s, I n s → wpAny (model prog w) A (pyNext it) (fun r s₁ => match r with
      | none => R (.ok .next) s₁
      | some v => wpAny (model prog w) A (letOwnedTupleGo target it v) (fun _ s₁' => wpAny (model prog w) A (assign target env v) (fun _ s₂ =>
          wpAny (model prog w) A (forIn ifs true fun c r => if r = true then do let ok ← isTrue c env (eval c env); pure (ForInStep.yield ok) else pure (ForInStep.yield r)) (fun ok s₃ =>
            if ok = true then wpAny (model prog w) A (eval elt env) (fun x s₄ =>
              wpAny (model prog w) A (call (.builtin "list.append") [acc, x]) (fun _ s₅ => ∃ m, m < n ∧ I m s₅) (fun _ _ => False) s₄) (fun _ _ => False) s₃
            else ∃ m, m < n ∧ I m s₃) (fun _ _ => False) s₂) (fun _ _ => False) s₁') (fun _ _ => False) s₁) (fun _ _ => False) s)
    (n : Nat) (h : I n s) :
    codeAny (model prog w) A (.compLoop (.ListComp elt [⟨target, iter, ifs, 0⟩] scope pos) 0 it acc env) R s := by
  refine codeAny_loop rfl I (fun n s hI => ?_) n h
  show wpAny _ A ((compTurn (.ListComp elt [⟨target, iter, ifs, 0⟩] scope pos) 0 it acc env).onRaise (fun x => do noteFrame x env; theTreesLotGoes x)) _ _ s
  refine wpAny_noted ?_
  rw [compTurn_list]
  refine wpAny_bind (wpAny_standAt (wpAny_bind (wpAny_mono (turn n s hI) (fun r s₁ h₁ => ?_) fun _ _ h' => h'.elim)))
  cases r with
  | none => exact wpAny_pure h₁
  | some v =>
    refine wpAny_bind (wpAny_mono h₁ (fun _ s₁' h₁ => ?_) fun _ _ h' => h'.elim)
    refine wpAny_bind (wpAny_mono h₁ (fun _ s₂ h₂ => wpAny_bind (wpAny_mono h₂ (fun ok s₃ h₃ => ?_) fun _ _ h' => h'.elim)) fun _ _ h' => h'.elim)
    cases ok with
    | false => exact wpAny_pure ⟨rfl, h₃⟩
    | true =>
      exact wpAny_bind (wpAny_bind (wpAny_mono h₃ (fun x s₄ h₄ => wpAny_bind (wpAny_mono h₄ (fun _ s₅ h₅ => wpAny_pure (wpAny_pure ⟨rfl, h₅⟩)) fun _ _ h' => h'.elim)) fun _ _ h' => h'.elim))
end

noncomputable def PTs (X : Cx) (ifs : List Expr) (t : TT) : Prop :=
  ∀ (pins : List (Addr × Obj)) (s : Shared) (σ : St) (H : Hp) (Q : Bool → Hp → Prop), Inv X pins σ H s → t σ H Q →
    wpAny (model X.prog X.w) X.A (forIn ifs true fun c r => if r = true then do let ok ← isTrue c X.env (eval c X.env); pure (ForInStep.yield ok) else pure (ForInStep.yield r)) (TP X pins σ Q) X.xe s
noncomputable def tYes : TT := fun _ H Q => Q true H
theorem pts_nil {X : Cx} : PTs X [] tYes := fun _ _ _ H _ I h => wpAny_tests_nil ⟨H, I, h⟩
theorem pts_one {X : Cx} {c : Expr} {t : TT} (h : PT X c t) : PTs X [c] t := fun pins s σ H Q I hw => wpAny_tests_one (h pins s σ H Q I hw)

noncomputable def Outs (ρ : List (Option Nat)) (σ σ2 : St) : Prop := σ2.length = ρ.length ∧ ∀ (j : Nat) v, (inSt ρ σ)[j]? = some (some v) → σ2[j]? = some (some v)
noncomputable def CompW (ρ : List (Option Nat)) (g : TG) (tt : TT) (te : TE) (σ : St) (Q : VK) (J : It) (H1 : Hp) : Prop := ∃ W : Nat → Nat → List V → Hp → Prop, (∃ m, W 0 m [] H1) ∧ ∀ i m ys H', W i m ys H' →
  (J.stop i H' ∧ ys.length ≤ sizeLine ∧ ∀ p, H' p = none → Q (.ref p) (upd H' p (.lst ys))) ∨
  (J.go i H' ∧ ys.length < sizeLine ∧ ∃ N : List V → Hp → Prop, (∀ ys' H'', N ys' H'' → ∃ m', m' < m ∧ W (i + 1) m' ys' H'') ∧ ∀ x H2, J.yld i H' x H2 → g x (inSt ρ σ) H2 fun σ2 H3 => Outs ρ σ σ2 ∧ tt σ2 H3 fun ok H4 => if ok = true then te σ2 H4 fun v H5 => N (ys ++ [v]) H5 else N ys H4)
noncomputable def tComp (ρ : List (Option Nat)) (wi : TI) (g : TG) (tt : TT) (te : TE) : TE := fun σ H Q => wi σ H fun J H1 => CompW ρ g tt te σ Q J H1

theorem comp_run {X : Cx} {elt iter tg : Expr} {ifs : List Expr} {scope : Scope} {pos : Pos} {N' : List Str} {ρ : List (Option Nat)} {wi : TI} {g : TG} {tt : TT} {te : TE} {cl : List (Str × Addr)} {RR : Value → Addr → Result → Shared → Prop} (hc : X.calm = true) (hi : PI X tg iter wi) (S : CompScope scope X.env.scope) (hρ : SlotOk scope X.env X.N N' ρ)
    (hl : ∀ x, (x, NameKind.free) ∈ scope.names → scope.names.lookup x = some .free)
    (inner : ∀ (cl : List (Str × Addr)) (C : Addr) (s : Shared) (H : Hp) (fp : List Addr) (pins : List (Addr × Obj)), PG (compCx X scope N' cl C s H fp pins) tg g ∧ PTs (compCx X scope N' cl C s H fp pins) ifs tt ∧ PE (compCx X scope N' cl C s H fp pins) elt te)
    {pins : List (Addr × Obj)} {s : Shared} {σ : St} {H : Hp} {Q : VK} (I : Inv X pins σ H s) (h : tComp ρ wi g tt te σ H Q)
    (h1 : ∀ x c, cl.lookup x = some c → X.env.cells.lookup x = some c) (h2 : ∀ n, (n, NameKind.free) ∈ scope.names → ∃ c, cl.lookup n = some c)
    (fin : ∀ D C s' H' m, Inv X pins σ H' s' → Q (.ref D) H' → s'.heap.Ns C m → FpOk X pins H' C → RR (.ref D) C (.ok .next) s') :
    wpAny (model X.prog X.w) X.A (eval iter X.env) (fun x s₁ => wpAny (model X.prog X.w) X.A (pyIter x) (fun it s₂ => wpAny (model X.prog X.w) X.A (newList []) (fun acc s₃ =>
      wpAny (model X.prog X.w) X.A (newFunctionEnv scope X.env.globals cl [] X.env.qual none .none (some X.env)) (fun cenv s₄ =>
        codeAny (model X.prog X.w) X.A (.compStart (.ListComp elt [⟨tg, iter, ifs, 0⟩] scope pos) 0 it acc { cenv with scope := relabel scope X.env }) (RR acc cenv.locals) s₄) X.xe s₃) X.xe s₂) X.xe s₁) X.xe s := by
  refine thn (hi pins s σ H _ I h) fun v s1 h1' => thn h1' fun itv s2 hx => ?_
  obtain ⟨it, fp, tn, J, H2, e, I2, T, st2, f2, W, ⟨m0, w0⟩, turn⟩ := hx
  subst e
  have hfs : ∀ b ∈ fp, b < s2.heap.objs.size := fun b hb => by
    obtain ⟨o, e, _⟩ := T.obj _ _ st2 b hb
    exact Heap.lt_size e
  refine wpAny_newObj_type (wpAny_newFunctionEnv S.cell (by intro y hy; simp at hy) (fun h₁ hns₁ hsb₁ => ?_) S.kind)
  dsimp only at hns₁ hsb₁ ⊢
  generalize hH2 : s2.heap.push { cls := .type "list", dict := none, data := .seq ([] : List Value).toArray } = G at hns₁ hsb₁ ⊢
  have hC : G.objs.size = s2.heap.objs.size + 1 := by rw [← hH2, Heap.size_push]
  have hDC : s2.heap.objs.size ≠ G.objs.size := by rw [hC]; exact Nat.ne_of_lt (Nat.lt_succ_self _)
  have hCle : s2.heap.objs.size ≤ G.objs.size := by rw [hC]; exact Nat.le_succ _
  have old : ∀ b o, s2.heap.get? b = some o → h₁.get? b = some o := fun b o e => hsb₁.extBut b o (Nat.ne_of_lt (Nat.lt_of_lt_of_le (Heap.lt_size e) hCle)) (Heap.get?_push_of_some _ (hH2 ▸ Heap.get?_push_of_some _ e))
  have hacc : h₁.get? s2.heap.objs.size = some { cls := .type "list", dict := none, data := .seq ([] : List Value).toArray } := hsb₁.extBut _ _ hDC (Heap.get?_push_of_some _ (hH2 ▸ Heap.get?_push_size _ rfl))
  have hns₂ : h₁.Ns G.objs.size (fun _ => none) := hns₁
  generalize hXX : compCx X scope N' cl G.objs.size s2 H2 fp pins = XX at *
  have IN : ∀ (tk : Nat), Inv XX [] (inSt ρ σ) H2 { s2 with heap := h₁, toks := tk } := fun tk => hXX ▸ comp_start (N' := N') I2 S hρ f2 h1 h2 hCle hfs hns₂ old hl
  obtain ⟨pg, pt, pe⟩ := inner cl G.objs.size s2 H2 fp pins
  rw [hXX] at pg pt pe
  have eP : XX.prog = X.prog := by rw [← hXX]; rfl
  have eW : XX.w = X.w := by rw [← hXX]; rfl
  have eK : XX.K = X.K := by rw [← hXX]; rfl
  have eA : XX.A = X.A := by rw [← hXX]; rfl
  have eE : XX.env = compEnvC scope cl G.objs.size X.env := by rw [← hXX]; rfl
  have eL : XX.env.locals = G.objs.size := by rw [eE]; rfl
  have ec : XX.calm = true := by rw [← hXX]; exact hc
  have ex : XX.xe = fun _ _ => False := by rw [← hXX]; rfl
  have es0 : XX.s₀ = s2 := by rw [← hXX]; rfl
  have eex : XX.ex = fp := by rw [← hXX]; rfl
  have efs : XX.fs = frs X.stack := by rw [← hXX]; rfl
  have eH0 : XX.H₀ = H2 := by rw [← hXX]; rfl
  have epn : XX.pn = X.pn ++ pins := by rw [← hXX]; rfl
  have ecl : XX.env.cells = cl := by rw [eE]; rfl
  -- what stays true of the iterator's records
  have stat : ∀ {H' : Hp} {ps : List (Addr × Obj)}, (∀ b ∈ fp, H' b = none) → (∀ p ∈ ps, p.1 = s2.heap.objs.size) → ∀ b ∈ fp, FpOk XX ps H' b := fun {H' ps} hn hp b hb => by
    refine ⟨hn b hb, ?_, ?_, ?_, ?_, ?_⟩
    · rw [eL]; exact Nat.ne_of_lt (Nat.lt_of_lt_of_le (hfs b hb) hCle)
    · rw [efs]
      intro z
      rcases List.mem_cons.mp (I2.stkSub b z) with q | q
      · exact (f2 b hb).2.1 q
      · exact (f2 b hb).2.2.1 q
    · rw [eex]; exact .inl hb
    · rw [ecl]; exact fun x c e => (f2 b hb).2.2.2.2.1 x c (h1 x c e)
    · intro p hp' z
      rw [epn] at hp'
      rcases List.mem_append.mp hp' with q | q
      · exact (f2 b hb).2.2.2.2.2 p q z
      · rw [hp p q] at z
        exact absurd (hfs b hb) (by rw [z]; exact Nat.lt_irrefl _)
  have nofsD : s2.heap.objs.size ∉ XX.fs := by
    rw [efs]; intro z
    rcases List.mem_cons.mp (I2.stkSub _ z) with q | q
    · exact absurd I2.lt (by rw [← q]; exact Nat.lt_irrefl _)
    · exact I2.nofs (Nat.le_refl _) q
  have pinD : ∀ {σ' : St} {H' : Hp} {s' : Shared} {its : List Value} {n : Nat}, Inv XX [] σ' H' s' → H' s2.heap.objs.size = none → s'.heap.get? s2.heap.objs.size = some { cls := .type "list", data := .seq its.toArray n } →
      Inv XX [(s2.heap.objs.size, { cls := .type "list", data := .seq its.toArray n })] σ' H' s' := fun {σ' H' s' its n} I' hn ho => I'.pins_of fun p hp => by
    have e : p = (s2.heap.objs.size, { cls := .type "list", data := .seq its.toArray n }) := by simpa using hp
    subst e
    refine ⟨ho, hn, by rw [eL]; exact hDC, nofsD, fun v z => ?_⟩
    have z' : Data.seq its.toArray n = Data.cell v := z
    cases z'
  have loop : ∀ s₃ : Shared, (∃ tk, s₃ = { s2 with heap := h₁, toks := tk }) →
      codeAny (model X.prog X.w) X.A (.compLoop (.ListComp elt [⟨tg, iter, ifs, 0⟩] scope pos) 0 (.ref it) (.ref s2.heap.objs.size) (compEnvC scope cl G.objs.size X.env)) (RR (.ref s2.heap.objs.size) G.objs.size) s₃ := by
    rintro s₃ ⟨tk, rfl⟩
    refine compLoop_gen (fun n s' => ∃ i ys its k H', Inv XX [] (inSt ρ σ) H' s' ∧ tn i s'.heap ∧ (∀ b ∈ fp, H' b = none) ∧ H' s2.heap.objs.size = none ∧ Vals ys its ∧
      s'.heap.get? s2.heap.objs.size = some { cls := .type "list", data := .seq its.toArray k } ∧ W i n ys H') ?_ m0
      ⟨0, [], [], 0, H2, IN tk, T.keep _ _ _ st2 fun b _ o e => old b o e, fun b hb => (f2 b hb).1, I2.hok.fresh (Nat.le_refl _), .nil, hacc, w0⟩
    rintro n s3 ⟨i, ys, its, k, H3, I3, st3, fr3, hD3, rv, ho3, w3⟩
    rcases turn i n ys H3 w3 with ⟨stop, hz, qn⟩ | ⟨go, hz, N, hN, step⟩
    · have I3p := pinD I3 hD3 ho3
      have q := T.done XX eP eW eK ec i _ s3 (inSt ρ σ) H3 (fun _ _ => False) I3p (stat fr3 (by simp)) st3 stop
      rw [eA] at q
      refine thn q fun r s4 ⟨hr, I4⟩ => ?_
      subst hr
      have ho4 := (I4.pin (s2.heap.objs.size, { cls := .type "list", data := .seq its.toArray k }) (by simp)).1
      obtain ⟨m, hm, _⟩ := I4.loc
      rw [eL] at hm
      have hun : Un (frs X.stack) fp H2 (upd H3 s2.heap.objs.size (.lst ys)) s2.heap s4.heap := by
        have u := I4.base
        rw [efs, eex, eH0, es0] at u
        refine ⟨u.keep, u.slot, fun b o e n hx => ?_, u.there, fun b xs e => ?_, fun b o xs e => ?_, fun b ps e => ?_⟩
        · rw [upd_ne (Nat.ne_of_lt (Heap.lt_size e))]; exact u.free b o e n hx
        · have q := u.tups b xs e
          rw [upd_ne (ne_of_none q hD3)]; exact q
        · have q := u.frzs b o xs e
          rw [upd_ne (ne_of_none q hD3)]; exact q
        · obtain ⟨more, q⟩ := u.tbls b ps e
          exact ⟨more, by rw [upd_ne (ne_of_none q hD3)]; exact q⟩
      have hok : HOk X.prog X.w (upd H3 s2.heap.objs.size (.lst ys)) s4.heap := by
        have q := I4.hok
        rw [eP, eW] at q
        exact q.track hD3 ⟨hz, its, k, rv, ho4⟩
      have hfr : ∀ b ∈ fp, (b ∈ X.ex ∨ X.s₀.heap.objs.size ≤ b) ∧ b ≠ X.env.locals ∧ (∀ x c, X.env.cells.lookup x = some c → c ≠ b) ∧ ∀ p ∈ X.pn ++ pins, p.1 ≠ b := fun b hb => ⟨(f2 b hb).2.2.2.1, (f2 b hb).2.1, (f2 b hb).2.2.2.2.1, (f2 b hb).2.2.2.2.2⟩
      have IO : Inv X pins σ (upd H3 s2.heap.objs.size (.lst ys)) s4 := I2.call' (by have := I4.os; rw [es0] at this; exact this) hun hok I4.bare hfr
      refine fin _ _ s4 _ m IO (qn _ hD3) hm (I2.fpOk hCle ?_)
      rw [upd_ne (Ne.symm hDC)]
      have := I4.free
      rw [eL] at this
      exact this
    · have I3p := pinD I3 hD3 ho3
      have q := T.item XX eP eW eK ec i _ s3 (inSt ρ σ) H3 (fun _ _ => False) I3p (stat fr3 (by simp)) st3 go
      rw [eA] at q
      refine thn q fun r s4 ⟨u, hr, h4⟩ => ?_
      subst hr
      refine thn h4 fun _ s5 ⟨x, H5, I5, r5, y5, st5, fr5⟩ => ?_
      have I5' := I5.pinned (stat fr5 (by simp)) (T.obj _ _ st5)
      have qa := pg _ s5 (inSt ρ σ) H5 x u _ I5' r5 (step x H5 y5)
      rw [eP, eW, eA, eE, ex] at qa
      refine thn qa fun _ s6 ⟨σ6, H6, I6, ⟨ou1, ou2⟩, q6⟩ => ?_
      have hw6 : (inSt ρ σ).length = σ6.length := by rw [ou1]; unfold inSt; rw [List.length_map]
      have qt := pt _ s6 σ6 H6 _ I6 q6
      rw [eP, eW, eA, eE, ex] at qt
      refine thn qt fun ok s7 ⟨H7, I7, q7⟩ => ?_
      have back : ∀ {s8 : Shared} {H8 : Hp}, Inv XX ([(s2.heap.objs.size, { cls := .type "list", data := .seq its.toArray k })] ++ pinsAt fp s5.heap) σ6 H8 s8 → tn (i + 1) s8.heap ∧ (∀ b ∈ fp, H8 b = none) ∧ H8 s2.heap.objs.size = none ∧
          s8.heap.get? s2.heap.objs.size = some { cls := .type "list", data := .seq its.toArray k } := fun {s8 H8} I8 => by
        refine ⟨T.keep _ _ _ st5 fun b hb o e => (I8.pin (b, o) (List.mem_append_right _ (List.mem_append_right _ (mem_pinsAt hb e)))).1, fun b hb => ?_, ?_, ?_⟩
        · obtain ⟨o, e, d⟩ := T.obj _ _ st5 b hb
          exact (I8.pin (b, o) (List.mem_append_right _ (List.mem_append_right _ (mem_pinsAt hb e)))).2.1
        · exact (I8.pin (s2.heap.objs.size, { cls := .type "list", data := .seq its.toArray k }) (by simp)).2.1
        · exact (I8.pin (s2.heap.objs.size, { cls := .type "list", data := .seq its.toArray k }) (by simp)).1
      cases ok with
      | false =>
        obtain ⟨m', hm, w7⟩ := hN _ _ q7
        obtain ⟨b1, b2, b3, b4⟩ := back I7
        exact ⟨m', hm, i + 1, ys, its, k, H7, (I7.pins_of (pins' := []) (fun _ z => nomatch z)).weak hw6 ou2, b1, b2, b3, rv, b4, w7⟩
      | true =>
        have qe := pe _ s7 σ6 H7 _ I7 q7
        rw [eP, eW, eA, eE, ex] at qe
        refine thn qe fun y s8 ⟨v8, H8, I8, r8, n8⟩ => ?_
        obtain ⟨m', hm, w8⟩ := hN _ _ n8
        obtain ⟨b1, b2, b3, b4⟩ := back I8
        have hlen := rv.length
        refine call_meets F.slot_list_append ⟨_, b4, rfl⟩ F.entry_list_append (F.args_list_append_2 _ _) (PySem.list_append s2.heap.objs.size its.toArray k y (by rw [List.size_toArray]; omega)) ⟨b4, ?_⟩
        have qL := PySem.IsL.update b4 (fun xs => xs.push y)
        have I8' : Inv XX [] σ6 H8 s8 := I8.pins_of (fun _ z => nomatch z)
        have I9 : Inv XX [] σ6 H8 { s8 with heap := s8.heap.update s2.heap.objs.size (Obj.mapSeq fun xs => xs.push y), toks := s8.toks } := I8'.turned (it := s2.heap.objs.size) (fun b o hb e => (Heap.get?_update_other s8.heap _ (Ne.symm hb)).trans e) b3
          (by rw [eL]; exact hDC) (.inr (by rw [es0]; exact Nat.le_refl _)) (by
            rw [ecl]; intro x c e z
            obtain ⟨v, qc⟩ := I2.cell x c (h1 x c e)
            exact absurd qc.lt (by rw [z]; exact Nat.lt_irrefl _)) (by
            intro p hp z
            have hp' : p ∈ X.pn ++ pins := by rw [epn] at hp; simpa using hp
            exact absurd (Heap.lt_size (I2.pin p hp').1) (by rw [z]; exact Nat.lt_irrefl _))
        have hnd : s2.heap.objs.size ∉ fp := fun z => Nat.lt_irrefl _ (hfs _ z)
        rw [show its.toArray.push y = (its ++ [y]).toArray by simp] at qL
        refine ⟨m', hm, i + 1, ys ++ [v8], its ++ [y], _, H8, I9.weak hw6 ou2, T.keep _ _ _ b1 fun b hb o e => (Heap.get?_update_other s8.heap _ (by rintro rfl; exact hnd hb)).trans e, b2, b3, rv.append (.cons r8 .nil), qL, w8⟩
  refine codeAny_compStart_list (loop _ ⟨_, rfl⟩) (T.self X.A 0 _ _ _ (T.keep _ _ _ st2 fun b _ o e => old b o e) (loop _ ⟨_, rfl⟩))
theorem pe_comp {X : Cx} {elt iter tg : Expr} {ifs : List Expr} {scope : Scope} {pos : Pos} (N' : List Str) (ρ : List (Option Nat)) {wi : TI} {g : TG} {tt : TT} {te : TE} (hc : X.calm = true) (hi : PI X tg iter wi) (S : CompScope scope X.env.scope) (hρ : SlotOk scope X.env X.N N' ρ)
    (hl : ∀ x, (x, NameKind.free) ∈ scope.names → scope.names.lookup x = some .free)
    (inner : ∀ (cl : List (Str × Addr)) (C : Addr) (s : Shared) (H : Hp) (fp : List Addr) (pins : List (Addr × Obj)), PG (compCx X scope N' cl C s H fp pins) tg g ∧ PTs (compCx X scope N' cl C s H fp pins) ifs tt ∧ PE (compCx X scope N' cl C s H fp pins) elt te)
    (hs : ∀ x, foldedSetIterable iter X.env x = pure x := by intro _; rfl) : PE X (.ListComp elt [⟨tg, iter, ifs, 0⟩] scope pos) (tComp ρ wi g tt te) := by
  intro pins s σ H Q I h
  obtain ⟨cl, hcl, h1, h2⟩ := closureFor_of (scope := scope) (env := X.env) (fun n hn => I.ok.has n (S.free (n, .free) hn rfl))
  rw [eval_ListComp]
  refine wpAny_comprehension_free (use := none) rfl hs hcl S.kind S.loc ?_
  refine comp_run (RR := fun acc C => compPost (model X.prog X.w) X.A X.xe none (EP X pins σ Q) acc C) hc hi S hρ hl inner I h h1 h2 ?_
  intro D C s' H' m I' q hm hf
  refine ⟨m, hm, fun h' sb => ⟨.ref D, H', ?_, rfl, q⟩⟩
  exact I'.turned (t' := s'.toks) (fun b o hb e => (sb.2 b hb).trans e) hf.1 hf.2.1 hf.2.2.2.1 hf.2.2.2.2.1 hf.2.2.2.2.2

theorem ps_setcomp {X : Cx} {elt iter tg : Expr} {ifs : List Expr} {scope : Scope} {pos pos' spos : Pos} {i : Nat} {x : Str} (N' : List Str) (ρ : List (Option Nat)) {wi : TI} {g : TG} {tt : TT} {te : TE} (hN : X.N.Nodup) (hix : X.N[i]? = some x) (hx : Loc X.env.scope x)
    (hc : X.calm = true) (hi : PI X tg iter wi) (S : CompScope scope X.env.scope) (hρ : SlotOk scope X.env X.N N' ρ)
    (hl : ∀ x, (x, NameKind.free) ∈ scope.names → scope.names.lookup x = some .free)
    (inner : ∀ (cl : List (Str × Addr)) (C : Addr) (s : Shared) (H : Hp) (fp : List Addr) (pins : List (Addr × Obj)), PG (compCx X scope N' cl C s H fp pins) tg g ∧ PTs (compCx X scope N' cl C s H fp pins) ifs tt ∧ PE (compCx X scope N' cl C s H fp pins) elt te)
    (hsw : swapsWith (.ListComp elt [⟨tg, iter, ifs, 0⟩] scope pos) (some (.Name x pos')) spos.line X.env = pure true := by rfl)
    (hs : ∀ x, foldedSetIterable iter X.env x = pure x := by intro _; rfl) (hf : X.fn x = true ∨ X.env.scope.names.lookup x = some .local := by first | exact .inl rfl | exact .inr rfl | assumption) :
    PS X (.Assign [.Name x pos'] (.ListComp elt [⟨tg, iter, ifs, 0⟩] scope pos) spos) (tAsg (tComp ρ wi g tt te) (gName i)) := by
  intro pins s σ H Dn I h
  obtain ⟨cl, hcl, h1, h2⟩ := closureFor_of (scope := scope) (env := X.env) (fun n hn => I.ok.has n (S.free (n, .free) hn rfl))
  rw [exec_Assign_Name_used _ _ _ _ hsw]
  refine wpAny_bind (wpAny_standAt (wpAny_bind ?_))
  show wpAny _ X.A (do let _ ← comprehension (.ListComp elt [⟨tg, iter, ifs, 0⟩] scope pos) scope X.env _ (newList []) false (eval iter X.env) (some (assign (.Name x pos') X.env))) _ _ s
  refine wpAny_bind (wpAny_mono (wpAny_comprehension_free (use := some (assign (.Name x pos') X.env)) (Q := fun _ s' => SP X pins Dn .next s') rfl hs hcl S.kind S.loc ?_) (fun _ s' hq => wpAny_pure (wpAny_pure hq)) fun _ _ e => e)
  refine comp_run (RR := fun acc C => compPost (model X.prog X.w) X.A X.xe (some (assign (.Name x pos') X.env)) (fun _ s' => SP X pins Dn .next s') acc C) hc hi S hρ hl inner I h h1 h2 ?_
  intro D C s' H' m I' q hm hfC
  obtain ⟨oC, es, ep, hoC, hr⟩ := id hm
  have pin : Inv X (pins ++ pinsAt [C] s'.heap) σ H' s' := I'.pinned (fun b hb => by
    have e : b = C := by simpa using hb
    subst e
    exact hfC) (fun b hb => by
    have e : b = C := by simpa using hb
    subst e
    exact ⟨oC, hoC, fun v z => by rw [hr.1] at z; cases z⟩)
  show wpAny _ X.A (assign (.Name x pos') X.env (.ref D)) _ _ _
  refine wpAny_assign_Name ?_
  refine store_ok (M := model X.prog X.w) (A := X.A) (E := X.xe) pin hN hix hx (v := .ref D) (u := .ref D) rfl (fun s'' I'' => ?_) hf
  have pC := (I''.pin (C, oC) (List.mem_append_right _ (List.mem_append_right _ (mem_pinsAt (by simp) hoC))))
  refine ⟨m, ⟨oC, es, ep, pC.1, hr⟩, fun h' sb => ⟨_, H', ?_, q⟩⟩
  have I2 : Inv X pins (σ.set i (some (.ref D))) H' s'' := I''.unpinned
  exact I2.turned (t' := s''.toks) (fun b o hb e => (sb.2 b hb).trans e) hfC.1 hfC.2.1 hfC.2.2.2.1 hfC.2.2.2.2.1 hfC.2.2.2.2.2

theorem inSt_cons (σ : St) (o : Option Nat) (ρ : List (Option Nat)) : inSt (o :: ρ) σ = (match o with | some i => (σ[i]?).getD none | none => none) :: inSt ρ σ := rfl
theorem outs1 {ρ : List (Option Nat)} {σ : St} (o : Option V) : Outs (none :: ρ) σ (o :: inSt ρ σ) := by
  refine ⟨by unfold inSt; simp, fun j v e => ?_⟩
  cases j with
  | zero => rw [inSt_cons] at e; simp at e
  | succ j => rw [inSt_cons] at e; simpa using e
theorem outs2 {ρ : List (Option Nat)} {σ : St} (o o' : Option V) : Outs (none :: none :: ρ) σ (o :: o' :: inSt ρ σ) := by
  refine ⟨by unfold inSt; simp, fun j v e => ?_⟩
  cases j with
  | zero => rw [inSt_cons] at e; simp at e
  | succ j =>
    rw [inSt_cons, inSt_cons] at e
    cases j with
    | zero => simp at e
    | succ j => simpa using e
theorem comp_by {J : It} {n : Nat} {X : Nat → V → Prop} {ρ : List (Option Nat)} {tt : TT} {te : TE} {σ : St} {H : Hp} {Q : VK} (Pv : Nat → List V → Hp → Prop) (h0 : Pv 0 [] H) (hlen : n ≤ sizeLine)
    (hy : ∀ i ys H, i ≤ n → Pv i ys H → ys.length ≤ i) (hgo : ∀ i ys H, i < n → Pv i ys H → J.go i H) (hyl : ∀ i ys H x H', i < n → Pv i ys H → J.yld i H x H' → H' = H ∧ X i x) (hst : ∀ ys H, Pv n ys H → J.stop n H)
    (hs : ∀ i x ys H, i < n → X i x → Pv i ys H → tt (some x :: inSt ρ σ) H fun ok H4 => if ok = true then te (some x :: inSt ρ σ) H4 fun v H5 => Pv (i + 1) (ys ++ [v]) H5 else Pv (i + 1) ys H4)
    (hd : ∀ ys H, Pv n ys H → ∀ p, H p = none → Q (.ref p) (upd H p (.lst ys))) :
    CompW (none :: ρ) (gName 0) tt te σ Q J H := by
  refine ⟨fun i m ys H => m = n - i ∧ i ≤ n ∧ Pv i ys H, ⟨n, by simp, Nat.zero_le _, h0⟩, ?_⟩
  rintro i m ys H ⟨rfl, hi, p⟩
  have hl := hy i ys H hi p
  by_cases hlt : i < n
  · refine .inr ⟨hgo i ys H hlt p, by omega, Pv (i + 1), fun ys' H'' p' => ⟨n - (i + 1), by omega, rfl, hlt, p'⟩, fun x H' y => ?_⟩
    obtain ⟨e, y2⟩ := hyl i ys H x H' hlt p y
    subst e
    exact ⟨outs1 _, hs i x ys _ hlt y2 p⟩
  · have e : i = n := by omega
    subst e
    exact .inl ⟨hst ys H p, by omega, hd ys H p⟩
theorem comp_list {K : PySem.W.Frag} {a : Addr} {xs : List V} {ρ : List (Option Nat)} {tt : TT} {te : TE} {σ : St} {H : Hp} {Q : VK} (Pv : Nat → List V → Hp → Prop) (h0 : Pv 0 [] H) (hlen : xs.length ≤ sizeLine) (hl : ∀ i ys H, i ≤ xs.length → Pv i ys H → SqL K H a xs ∧ ys.length ≤ i)
    (hs : ∀ i x ys H, xs[i]? = some x → Pv i ys H → tt (some x :: inSt ρ σ) H fun ok H4 => if ok = true then te (some x :: inSt ρ σ) H4 fun v H5 => Pv (i + 1) (ys ++ [v]) H5 else Pv (i + 1) ys H4)
    (hd : ∀ ys H, Pv xs.length ys H → ∀ p, H p = none → Q (.ref p) (upd H p (.lst ys))) :
    CompW (none :: ρ) (gName 0) tt te σ Q (Itl K a) H :=
  comp_by (n := xs.length) (X := fun i x => xs[i]? = some x) Pv h0 hlen (fun i ys H hi p => (hl i ys H hi p).2) (fun i ys H hi p => ⟨xs, xs[i], (hl i ys H (Nat.le_of_lt hi) p).1, by simp [hi]⟩) (fun i ys H x H' hi p y => ⟨y.1, y.2 xs (hl i ys H (Nat.le_of_lt hi) p).1⟩)
    (fun ys H p => ⟨xs, (hl _ ys H (Nat.le_refl _) p).1, Nat.le_refl _⟩) (fun i x ys H _ e p => hs i x ys H e p) hd
end L2

set_option Elab.async false
set_option linter.all false
set_option maxRecDepth 100000
set_option maxHeartbeats 4000000
namespace L2
open PySem PySem.Spec PyProof.Rows

noncomputable def cutC {α : Type} (xs : List α) (lo hi : Option Int) : List α := (xs.drop (HT.sIx xs.length 0 lo)).take (HT.sIx xs.length xs.length hi - HT.sIx xs.length 0 lo)
section
variable {X : Cx}
end

section
variable {X : Cx}
noncomputable def clsV : V → Option Value
  | .ty n => some (.type n)
  | .ref a => some (.ref a)
  | _ => none
theorem call_isi : CallR X (.builtin "isinstance") (fun xs H Q => ∃ x c t cv b, xs = [x, c] ∧ clsV c = some cv ∧ TyOf X.K H x t ∧ PySem.W.kitOne X.K t cv = some b ∧ Q (.bl b) H) := by
  intro pins s σ H xs us Q I r h
  obtain ⟨x, c, t, cv, b, rfl, rc, ty, e, q⟩ := h
  obtain ⟨u, w', rfl, rx, rw'⟩ := r.two
  have : w' = cv := by
    cases c with
    | ref a => cases rc; exact rw'
    | ty a => cases rc; exact rw'
    | _ => cases rc
  subst this
  exact isinst_ok I rx ty e fun tk => ⟨.bl b, H, I.tok _, rfl, q⟩
end
end L2

set_option Elab.async false
set_option linter.all false
set_option maxRecDepth 100000
set_option maxHeartbeats 4000000
namespace L2
open PySem PySem.Spec PyProof.Rows

noncomputable def compB (sc out : Scope) (N N' : List Str) (ρ : List (Option Nat)) : Bool :=
  decide (sc.kind = .function) && sc.names.all (fun y => decide (y.2 ≠ .cell)) && sc.names.all (fun y => decide (y.2 = .local → sc.names.lookup y.1 = some .local)) &&
  sc.names.all (fun y => decide (y.2 = .free → sc.names.lookup y.1 = some .free ∧ (out.names.lookup y.1 = some .cell ∨ out.names.lookup y.1 = some .free))) &&
  decide (ρ.length = N'.length) && decide N'.Nodup &&
  (ρ.zip N').all (fun p => match p.1 with | none => true | some i => decide (N[i]? = some p.2) && decide (out.names.lookup p.2 = some .local ∨ out.names.lookup p.2 = some .cell ∨ out.names.lookup p.2 = some .free) && sc.names.any (fun y => decide (y = (p.2, NameKind.free))))
structure CompF (sc : Scope) (env : Env) (N N' : List Str) (ρ : List (Option Nat)) : Prop where
  S : CompScope sc env.scope
  sl : SlotOk sc env N N' ρ
  hl : ∀ x, (x, NameKind.free) ∈ sc.names → sc.names.lookup x = some .free
  nd : N'.Nodup
theorem compF_of {sc : Scope} {env : Env} {N N' : List Str} {ρ : List (Option Nat)} (h : compB sc env.scope N N' ρ = true) : CompF sc env N N' ρ := by
  unfold compB at h
  simp only [Bool.and_eq_true, decide_eq_true_eq, List.all_eq_true] at h
  obtain ⟨⟨⟨⟨⟨⟨h1, h2⟩, h3⟩, h4⟩, h5⟩, h6⟩, h7⟩ := h
  refine ⟨⟨h1, h2, h3, fun y hy e => (h4 y hy e).2⟩, ⟨h5, fun j i x e1 e2 => ?_⟩, fun x hx => (h4 _ hx rfl).1, h6⟩
  have hm : (some i, x) ∈ ρ.zip N' := by
    refine List.mem_of_getElem? (i := j) ?_
    rw [List.getElem?_zip_eq_some]
    exact ⟨e1, e2⟩
  have q := h7 _ hm
  simp only [Bool.and_eq_true, decide_eq_true_eq, List.any_eq_true] at q
  obtain ⟨⟨q1, q2⟩, y, hy, e⟩ := q
  exact ⟨q1, q2, e ▸ hy⟩

theorem pe_compB {X : Cx} {elt iter tg : Expr} {ifs : List Expr} {scope : Scope} {pos : Pos} (N' : List Str) (ρ : List (Option Nat)) {wi : TI} {g : TG} {tt : TT} {te : TE} (hc : X.calm = true) (hi : PI X tg iter wi) (h : compB scope X.env.scope X.N N' ρ = true)
    (inner : ∀ (cl : List (Str × Addr)) (C : Addr) (s : Shared) (H : Hp) (fp : List Addr) (pins : List (Addr × Obj)), PG (compCx X scope N' cl C s H fp pins) tg g ∧ PTs (compCx X scope N' cl C s H fp pins) ifs tt ∧ PE (compCx X scope N' cl C s H fp pins) elt te)
    (hs : ∀ x, foldedSetIterable iter X.env x = pure x := by intro _; rfl) : PE X (.ListComp elt [⟨tg, iter, ifs, 0⟩] scope pos) (tComp ρ wi g tt te) :=
  have F := compF_of h
  pe_comp N' ρ hc hi F.S F.sl F.hl inner hs
theorem ps_setcompB {X : Cx} {elt iter tg : Expr} {ifs : List Expr} {scope : Scope} {pos pos' spos : Pos} {i : Nat} {x : Str} (N' : List Str) (ρ : List (Option Nat)) {wi : TI} {g : TG} {tt : TT} {te : TE} (hN : X.N.Nodup) (hix : X.N[i]? = some x) (hx : Loc X.env.scope x)
    (hc : X.calm = true) (hi : PI X tg iter wi) (h : compB scope X.env.scope X.N N' ρ = true)
    (inner : ∀ (cl : List (Str × Addr)) (C : Addr) (s : Shared) (H : Hp) (fp : List Addr) (pins : List (Addr × Obj)), PG (compCx X scope N' cl C s H fp pins) tg g ∧ PTs (compCx X scope N' cl C s H fp pins) ifs tt ∧ PE (compCx X scope N' cl C s H fp pins) elt te)
    (hsw : swapsWith (.ListComp elt [⟨tg, iter, ifs, 0⟩] scope pos) (some (.Name x pos')) spos.line X.env = pure true := by rfl)
    (hs : ∀ x, foldedSetIterable iter X.env x = pure x := by intro _; rfl) (hf : X.fn x = true ∨ X.env.scope.names.lookup x = some .local := by first | exact .inl rfl | exact .inr rfl | assumption) :
    PS X (.Assign [.Name x pos'] (.ListComp elt [⟨tg, iter, ifs, 0⟩] scope pos) spos) (tAsg (tComp ρ wi g tt te) (gName i)) :=
  have F := compF_of h
  ps_setcomp N' ρ hN hix hx hc hi F.S F.sl F.hl inner hsw hs hf

end L2
namespace L2
open PySem
noncomputable def mkSc (l : List (Str × NameKind)) : Scope := { kind := .function, names := l, isGenerator := false, isCoroutine := false, more := [] }
end L2

namespace L2
open PySem
theorem bt_len : bootBuiltins "len" = some (.builtin "len") := by decide +kernel
theorem bt_isinstance : bootBuiltins "isinstance" = some (.builtin "isinstance") := by decide +kernel
theorem bt_abs : bootBuiltins "abs" = some (.builtin "abs") := by decide +kernel
theorem bt_min : bootBuiltins "min" = some (.builtin "min") := by decide +kernel
theorem bt_max : bootBuiltins "max" = some (.builtin "max") := by decide +kernel
theorem bt_int : bootBuiltins "int" = some (.type "int") := by decide +kernel
theorem bt_bool : bootBuiltins "bool" = some (.type "bool") := by decide +kernel
theorem bt_list : bootBuiltins "list" = some (.type "list") := by decide +kernel
theorem bt_tuple : bootBuiltins "tuple" = some (.type "tuple") := by decide +kernel
end L2

set_option Elab.async false
set_option linter.all false
set_option maxRecDepth 100000
set_option maxHeartbeats 4000000
namespace L2
open PySem PySem.Spec PyProof.Rows

theorem szl {n : Nat} (h : n ≤ 1000000) : n ≤ sizeLine := by rw [sizeLine_eq]; omega
theorem szlt {n : Nat} (h : n < 1000000) : n < sizeLine := by rw [sizeLine_eq]; omega
theorem same_new {H : Hp} {p : Addr} (h : H p = none) (o : HO) : Same H (upd H p o) := fun b u q => by rw [upd_ne (ne_of_none q h)]; exact q
theorem dT {p : Prop} [Decidable p] (h : decide p = true) : p := of_decide_eq_true h
theorem dF {p : Prop} [Decidable p] (h : ¬ decide p = true) : ¬ p := fun z => h (decide_eq_true z)

noncomputable def spCell (K : PySem.W.Frag) : Sp := fun vs H Q _ => ∃ (a : Addr) (ns : List Int) (k : Int), vs = [.ref a, .int k] ∧ SqL K H a (ns.map V.int) ∧ 0 ≤ k ∧ Q (.int (ns.getD k.toNat 0)) H
theorem cell_in {ns : List Int} {k : Int} (h0 : 0 ≤ k) (h : k < (ns.length : Int)) : atI (ns.map V.int) k = some (.int (ns.getD k.toNat 0)) := by
  have hk : k.toNat < ns.length := by omega
  have ek : k = ((k.toNat : Nat) : Int) := by omega
  have q : atI (ns.map V.int) ((k.toNat : Nat) : Int) = some (.int (ns.getD k.toNat 0)) := atI_nat (by rw [List.getElem?_map, List.getElem?_eq_getElem hk]; simp [List.getD_eq_getElem?_getD, hk])
  rw [← ek] at q
  exact q
theorem cell_out {ns : List Int} {k : Int} (h : ¬ k < (ns.length : Int)) : ns.getD k.toNat 0 = 0 := by rw [List.getD_eq_getElem?_getD, List.getElem?_eq_none (by omega)]; rfl
noncomputable def isInt : V → Bool
  | .int _ => true
  | _ => false
noncomputable def plainV : V → Bool
  | .int _ => true
  | .bl _ => true
  | .non => true
  | .str _ => true
  | _ => false
noncomputable def spWhole : Sp := fun vs H Q _ => ∃ x, vs = [x] ∧ plainV x = true ∧ Q (.bl (isInt x)) H
theorem take_snoc {α : Type} {l : List α} {i : Nat} {c : α} (h : l[i]? = some c) : l.take (i + 1) = l.take i ++ [c] := by
  rw [List.take_succ, h]; rfl
end L2
namespace L2
open PySem
end L2
namespace L2
open PySem
theorem seq_any {t u : TS} {D : Ends} {σ : St} {H : Hp} (M : St → Hp → Prop) (hu : ∀ σ' H', M σ' H' → u D σ' H') (ht : (∀ σ' H', M σ' H' → u D σ' H') → t { D with nx := u D } σ H) : tSeq t u D σ H := ht hu
theorem iteE {b : Bool} {A B : Prop} {v : Bool} (e : b = v) (h : if v = true then A else B) : if b = true then A else B := by rw [e]; exact h
end L2
namespace L2
open PySem
theorem cutC_le {α : Type} (xs : List α) (lo hi : Option Int) : (cutC xs lo hi).length ≤ xs.length := by
  unfold cutC
  rw [List.length_take, List.length_drop]
  omega
end L2

set_option Elab.async false
set_option linter.all false
set_option maxRecDepth 100000
set_option maxHeartbeats 4000000
namespace L2
open PySem PySem.Spec PyProof.Rows

inductive Tr where
  | v (x : V)
  | lst (l : List Tr)
  | tup (l : List Tr)
mutual
inductive TrIs (K : PySem.W.Frag) (H : Hp) : V → Tr → Prop
  | flat {x : V} : flatV x = true → TrIs K H x (.v x)
  | lst {p : Addr} {xs : List V} {l : List Tr} : SqL K H p xs → TrsIs K H xs l → TrIs K H (.ref p) (.lst l)
  | tup {p : Addr} {xs : List V} {l : List Tr} : SqT K H p xs → TrsIs K H xs l → TrIs K H (.ref p) (.tup l)
inductive TrsIs (K : PySem.W.Frag) (H : Hp) : List V → List Tr → Prop
  | nil : TrsIs K H [] []
  | cons {x : V} {t : Tr} {xs : List V} {l : List Tr} : TrIs K H x t → TrsIs K H xs l → TrsIs K H (x :: xs) (t :: l)
end
mutual
noncomputable def eqT : Tr → Tr → Bool
  | .v x, .v y => eqV x y
  | .lst l, .lst m => eqTs l m
  | .tup l, .tup m => eqTs l m
  | _, _ => false
noncomputable def eqTs : List Tr → List Tr → Bool
  | [], [] => true
  | x :: l, y :: m => eqT x y && eqTs l m
  | _, _ => false
end
mutual
noncomputable def simT : Tr → Tr → Bool
  | .v _, .v _ => true
  | .lst l, .lst m => simTs l m
  | .tup l, .tup m => simTs l m
  | _, _ => false
noncomputable def simTs : List Tr → List Tr → Bool
  | x :: l, y :: m => simT x y && simTs l m
  | _, _ => true
end
mutual
noncomputable def depT : Tr → Nat
  | .v _ => 0
  | .lst l => depTs l + 1
  | .tup l => depTs l + 1
noncomputable def depTs : List Tr → Nat
  | [] => 0
  | x :: l => max (depT x) (depTs l)
end
theorem eqV_refl {x : V} (h : flatV x = true) : eqV x x = true := by
  cases x <;> first | rfl | (simp [eqV]; done) | (simp [flatV] at h)
mutual
/-- a tree of flat values -/
noncomputable def okT : Tr → Bool
  | .v x => flatV x
  | .lst l => okTs l
  | .tup l => okTs l
noncomputable def okTs : List Tr → Bool
  | [] => true
  | x :: l => okT x && okTs l
end
mutual
theorem eqT_refl : ∀ t : Tr, okT t = true → eqT t t = true
  | .v x, h => by rw [eqT]; exact eqV_refl (by simpa [okT] using h)
  | .lst l, h => by rw [eqT]; exact eqTs_refl l (by simpa [okT] using h)
  | .tup l, h => by rw [eqT]; exact eqTs_refl l (by simpa [okT] using h)
theorem eqTs_refl : ∀ l : List Tr, okTs l = true → eqTs l l = true
  | [], _ => by rw [eqTs]
  | x :: l, h => by
    rw [okTs, Bool.and_eq_true] at h
    rw [eqTs, eqT_refl x h.1, eqTs_refl l h.2]; rfl
end
mutual
theorem simT_refl : ∀ t : Tr, simT t t = true
  | .v x => by rw [simT]
  | .lst l => by rw [simT]; exact simTs_refl l
  | .tup l => by rw [simT]; exact simTs_refl l
theorem simTs_refl : ∀ l : List Tr, simTs l l = true
  | [] => by simp [simTs]
  | x :: l => by rw [simTs, simT_refl x, simTs_refl l]; rfl
end
mutual
theorem TrIs.ok {K : PySem.W.Frag} {H : Hp} : ∀ {x : V} {t : Tr}, TrIs K H x t → okT t = true
  | _, _, .flat h => by rw [okT]; exact h
  | _, _, .lst _ h => by rw [okT]; exact h.ok
  | _, _, .tup _ h => by rw [okT]; exact h.ok
theorem TrsIs.ok {K : PySem.W.Frag} {H : Hp} : ∀ {xs : List V} {l : List Tr}, TrsIs K H xs l → okTs l = true
  | _, _, .nil => by rw [okTs]
  | _, _, .cons h r => by rw [okTs, h.ok, r.ok]; rfl
end
theorem TrsIs.length {K : PySem.W.Frag} {H : Hp} : ∀ {xs : List V} {l : List Tr}, TrsIs K H xs l → xs.length = l.length
  | _, _, .nil => rfl
  | _, _, .cons _ r => by simp [r.length]
theorem eqTs_len : ∀ {l m : List Tr}, l.length ≠ m.length → eqTs l m = false
  | [], [], h => absurd rfl h
  | [], _ :: _, _ => by rw [eqTs] <;> simp
  | _ :: _, [], _ => by rw [eqTs] <;> simp
  | x :: l, y :: m, h => by
    rw [eqTs, eqTs_len (l := l) (m := m) (fun e => h (by simp [e])), Bool.and_false]
section
variable {X : Cx} {pins : List (Addr × Obj)} {σ : St} {H : Hp} {s : Shared}
mutual
theorem TrIs.inj (I : Inv X pins σ H s) : ∀ {t t' : Tr} {x : V}, TrIs X.K H x t → TrIs X.K H x t' → t = t'
  | .v x, t', _, .flat h, h' => by
    cases h' with
    | flat _ => rfl
    | lst _ _ => cases h
    | tup _ _ => cases h
  | .lst l, t', _, .lst (p := p) (xs := xs) hq hr, h' => by
    cases h' with
    | flat h => cases h
    | lst hq' hr' =>
      have e := I.list_inj hq hq'
      subst e
      rw [TrsIs.inj I hr hr']
    | tup hq' hr' =>
      obtain ⟨_, _, ⟨o, n, e1, c1, _⟩, _⟩ := I.list hq
      obtain ⟨_, _, ⟨o', e2, c2, _⟩, _⟩ := I.tuple hq'
      rw [e1] at e2; cases e2
      rw [c1] at c2; simp at c2
  | .tup l, t', _, .tup (p := p) (xs := xs) hq hr, h' => by
    cases h' with
    | flat h => cases h
    | tup hq' hr' =>
      have e := I.tuple_inj hq hq'
      subst e
      rw [TrsIs.inj I hr hr']
    | lst hq' hr' =>
      obtain ⟨_, _, ⟨o, n, e1, c1, _⟩, _⟩ := I.list hq'
      obtain ⟨_, _, ⟨o', e2, c2, _⟩, _⟩ := I.tuple hq
      rw [e1] at e2; cases e2
      rw [c1] at c2; simp at c2
theorem TrsIs.inj (I : Inv X pins σ H s) : ∀ {l l' : List Tr} {xs : List V}, TrsIs X.K H xs l → TrsIs X.K H xs l' → l = l'
  | [], _, _, .nil, h' => by cases h'; rfl
  | t :: l, _, _, .cons h r, h' => by
    cases h' with
    | cons h2 r2 => rw [TrIs.inj I h h2, TrsIs.inj I r r2]
end
theorem range_all_eq {α : Type} {e : Nat → Bool} {f : α → Bool} : ∀ {l : List α}, (∀ j x, l[j]? = some x → e j = f x) → (List.range l.length).all e = l.all f := by
  intro l h
  rw [Bool.eq_iff_iff]
  simp only [List.all_eq_true, List.mem_range]
  constructor
  · intro q x hx
    obtain ⟨i, hi, hx⟩ := List.mem_iff_getElem.mp hx
    rw [← h i x (by rw [List.getElem?_eq_getElem hi, hx])]
    exact q i hi
  · intro q i hi
    rw [h i l[i] (List.getElem?_eq_getElem hi)]
    exact q _ (List.getElem_mem hi)
theorem eqTs_zip : ∀ {l m : List Tr}, l.length = m.length → eqTs l m = (l.zip m).all fun p => eqT p.1 p.2
  | [], [], _ => by rw [eqTs]; rfl
  | [], _ :: _, h => by simp at h
  | _ :: _, [], h => by simp at h
  | x :: l, y :: m, h => by
    rw [eqTs, eqTs_zip (l := l) (m := m) (by simpa using h)]
    rfl
theorem TrsIs.at {K : PySem.W.Frag} {H : Hp} : ∀ {xs : List V} {l : List Tr} {j : Nat} {t : Tr}, TrsIs K H xs l → l[j]? = some t → ∃ x, xs[j]? = some x ∧ TrIs K H x t
  | _, _, _, _, .nil, h => by simp at h
  | _, _, 0, _, .cons h _, e => by simp at e; subst e; exact ⟨_, rfl, h⟩
  | _, _, j + 1, _, .cons _ r, e => by
    obtain ⟨x, h1, h2⟩ := r.at (j := j) (by simpa using e)
    exact ⟨x, by simpa using h1, h2⟩
theorem simTs_at : ∀ {l m : List Tr} {j : Nat} {t t' : Tr}, simTs l m = true → l[j]? = some t → m[j]? = some t' → simT t t' = true
  | [], _, _, _, _, _, h, _ => by simp at h
  | _ :: _, [], _, _, _, _, _, h => by simp at h
  | x :: l, y :: m, 0, t, t', h, e1, e2 => by
    simp at e1 e2; subst e1 e2
    rw [simTs, Bool.and_eq_true] at h; exact h.1
  | x :: l, y :: m, j + 1, t, t', h, e1, e2 => by
    rw [simTs, Bool.and_eq_true] at h
    exact simTs_at (j := j) h.2 (by simpa using e1) (by simpa using e2)
theorem depTs_at : ∀ {l : List Tr} {j : Nat} {t : Tr}, l[j]? = some t → depT t ≤ depTs l
  | [], _, _, h => by simp at h
  | x :: l, 0, t, h => by simp at h; subst h; rw [depTs]; omega
  | x :: l, j + 1, t, h => by
    have := depTs_at (l := l) (j := j) (t := t) (by simpa using h)
    rw [depTs]; omega
theorem items_eq {A : Around} {l m : List Tr} {xs ys : List V} {its jts : List Value} (hr : TrsIs X.K H xs l) (hr' : TrsIs X.K H ys m) (rv : Vals xs its) (rv' : Vals ys jts)
    (ih : ∀ (j : Nat) (t t' : Tr) (x y : V) (u v : Value), l[j]? = some t → m[j]? = some t' → TrIs X.K H x t → RelV x u → TrIs X.K H y t' → RelV y v → SeqAt.EqAt A.in1 s u v (eqT t t')) :
    ∀ j (h1 : j < its.toArray.size) (h2 : j < jts.toArray.size), SeqAt.EqAt A.in1 s its.toArray[j] jts.toArray[j] (match l[j]?, m[j]? with | some t, some t' => eqT t t' | _, _ => true) := by
  intro j h1 h2
  have l1 := hr.length; have l2 := hr'.length; have l3 := rv.length; have l4 := rv'.length
  rw [List.size_toArray] at h1 h2
  obtain ⟨t, ht⟩ : ∃ t, l[j]? = some t := ⟨l[j]'(by omega), List.getElem?_eq_getElem (by omega)⟩
  obtain ⟨t', ht'⟩ : ∃ t', m[j]? = some t' := ⟨m[j]'(by omega), List.getElem?_eq_getElem (by omega)⟩
  obtain ⟨x, hx, hxt⟩ := hr.at ht
  obtain ⟨y, hy, hyt⟩ := hr'.at ht'
  obtain ⟨u, hu, ru⟩ := rv.get hx
  obtain ⟨v, hv, rw'⟩ := rv'.get hy
  rw [ht, ht']
  have e1 : its.toArray[j] = u := by
    have := List.getElem?_eq_getElem (l := its) (i := j) h1
    rw [hu] at this
    simpa using (Option.some.inj this).symm
  have e2 : jts.toArray[j] = v := by
    have := List.getElem?_eq_getElem (l := jts) (i := j) h2
    rw [hv] at this
    simpa using (Option.some.inj this).symm
  rw [e1, e2]
  exact ih j t t' x y u v ht ht' hxt ru hyt rw'
theorem all_items {l m : List Tr} (h : l.length = m.length) : (List.range l.length).all (fun j => match l[j]?, m[j]? with | some t, some t' => eqT t t' | _, _ => true) = eqTs l m := by
  rw [eqTs_zip h]
  have e : l.length = (l.zip m).length := by rw [List.length_zip]; omega
  rw [e]
  refine range_all_eq fun j p hp => ?_
  obtain ⟨h1, h2⟩ := List.getElem?_zip_eq_some.mp hp
  rw [h1, h2]
theorem RcAt_lists {A : Around} {p q : Addr} {xs ys : List V} {l m : List Tr} (I : Inv X pins σ H s) (hu : A.units < cLine) (hq : SqL X.K H p xs) (hr : TrsIs X.K H xs l) (hq' : SqL X.K H q ys) (hr' : TrsIs X.K H ys m)
    (ih : ∀ (j : Nat) (t t' : Tr) (x y : V) (u v : Value), l[j]? = some t → m[j]? = some t' → TrIs X.K H x t → RelV x u → TrIs X.K H y t' → RelV y v → SeqAt.EqAt A.in1 s u v (eqT t t')) :
    SeqAt.RcAt A s (.ref p) (.ref q) (eqTs l m) ∧ SeqAt.RcNeAt A s (.ref p) (.ref q) (!eqTs l m) := by
  obtain ⟨its, rv, pl, _⟩ := I.list hq
  obtain ⟨jts, rv', pl', _⟩ := I.list hq'
  have l1 := hr.length; have l2 := hr'.length; have l3 := rv.length; have l4 := rv'.length
  by_cases hl : l.length = m.length
  · have e : its.toArray.size = l.length := by rw [List.size_toArray]; omega
    have a := SeqAt.RcAt.lists (A := A) pl.isList pl'.isList (by rw [List.size_toArray, List.size_toArray]; omega) hu (items_eq hr hr' rv rv' ih)
    have b := SeqAt.RcNeAt.lists (A := A) pl.isList pl'.isList (by rw [List.size_toArray, List.size_toArray]; omega) hu (items_eq hr hr' rv rv' ih)
    rw [e, all_items hl] at a b
    exact ⟨a, b⟩
  · rw [eqTs_len hl]
    have hne : (its.toArray.size != jts.toArray.size) = true := by
      rw [List.size_toArray, List.size_toArray]
      simp only [bne_iff_ne, ne_eq]; omega
    exact ⟨SeqAt.RcAt.lists_lengths pl.isList pl'.isList hne hu, SeqAt.RcNeAt.lists_lengths pl.isList pl'.isList hne hu⟩
theorem RcAt_tuples {A : Around} {p q : Addr} {xs ys : List V} {l m : List Tr} (I : Inv X pins σ H s) (hu : A.units < cLine) (hq : SqT X.K H p xs) (hr : TrsIs X.K H xs l) (hq' : SqT X.K H q ys) (hr' : TrsIs X.K H ys m)
    (ih : ∀ (j : Nat) (t t' : Tr) (x y : V) (u v : Value), l[j]? = some t → m[j]? = some t' → TrIs X.K H x t → RelV x u → TrIs X.K H y t' → RelV y v → SeqAt.EqAt A.in1 s u v (eqT t t')) :
    SeqAt.RcAt A s (.ref p) (.ref q) (eqTs l m) ∧ SeqAt.RcNeAt A s (.ref p) (.ref q) (!eqTs l m) := by
  obtain ⟨its, rv, pl, _⟩ := I.tuple hq
  obtain ⟨jts, rv', pl', _⟩ := I.tuple hq'
  have l1 := hr.length; have l2 := hr'.length; have l3 := rv.length; have l4 := rv'.length
  have a := SeqAt.RcAt.tuples (A := A) (show s.heap.IsTuple p its.toArray from pl) (show s.heap.IsTuple q jts.toArray from pl') hu (items_eq hr hr' rv rv' ih)
  have b := SeqAt.RcNeAt.tuples (A := A) (show s.heap.IsTuple p its.toArray from pl) (show s.heap.IsTuple q jts.toArray from pl') hu (items_eq hr hr' rv rv' ih)
  have e : ((List.range (min its.toArray.size jts.toArray.size)).all (fun j => match l[j]?, m[j]? with | some t, some t' => eqT t t' | _, _ => true) && its.toArray.size == jts.toArray.size) = eqTs l m := by
    by_cases hl : l.length = m.length
    · have e1 : min its.toArray.size jts.toArray.size = l.length := by rw [List.size_toArray, List.size_toArray]; omega
      have e2 : (its.toArray.size == jts.toArray.size) = true := by rw [List.size_toArray, List.size_toArray]; simp; omega
      rw [e1, e2, all_items hl, Bool.and_true]
    · have e2 : (its.toArray.size == jts.toArray.size) = false := by rw [List.size_toArray, List.size_toArray]; simp; omega
      rw [e2, eqTs_len hl, Bool.and_false]
  rw [e] at a b
  exact ⟨a, b⟩
theorem eqAt_T (I : Inv X pins σ H s) (n : Nat) : ∀ (A : Around) (t t' : Tr) (x y : V) (u v : Value), depT t ≤ n → A.units + n < cLine → simT t t' = true → TrIs X.K H x t → RelV x u → TrIs X.K H y t' → RelV y v → SeqAt.EqAt A s u v (eqT t t') := by
  induction n with
  | zero =>
    intro A t t' x y u v hd hu hs hx rx hy ry
    cases hx with
    | flat fx =>
      cases hy with
      | flat fy => rw [eqT]; exact eqAt_V rx ry fx fy
      | lst _ _ => simp [simT] at hs
      | tup _ _ => simp [simT] at hs
    | lst _ _ => simp [depT] at hd
    | tup _ _ => simp [depT] at hd
  | succ n ih =>
    intro A t t' x y u v hd hu hs hx rx hy ry
    cases hx with
    | flat fx =>
      cases hy with
      | flat fy => rw [eqT]; exact eqAt_V rx ry fx fy
      | lst _ _ => simp [simT] at hs
      | tup _ _ => simp [simT] at hs
    | @lst p xs l hq hr =>
      cases hy with
      | flat fy => simp [simT] at hs
      | tup _ _ => simp [simT] at hs
      | @lst q ys m hq' hr' =>
        cases rx; cases ry
        rw [depT] at hd
        rw [simT] at hs
        by_cases e : p = q
        · subst e
          have e1 := TrIs.inj I (TrIs.lst hq hr) (TrIs.lst hq' hr')
          rw [← e1, eqT_refl _ (TrIs.lst hq hr).ok]
          exact SeqAt.EqAt.same _
        · rw [eqT]
          refine SeqAt.EqAt.of_refs e (RcAt_lists I (by omega) hq hr hq' hr' fun j t t' x y u v h1 h2 h3 h4 h5 h6 => ?_).1
          exact ih A.in1 t t' x y u v (by have := depTs_at h1; omega) (by show A.units + 1 + n < cLine; omega) (simTs_at hs h1 h2) h3 h4 h5 h6
    | @tup p xs l hq hr =>
      cases hy with
      | flat fy => simp [simT] at hs
      | lst _ _ => simp [simT] at hs
      | @tup q ys m hq' hr' =>
        cases rx; cases ry
        rw [depT] at hd
        rw [simT] at hs
        by_cases e : p = q
        · subst e
          have e1 := TrIs.inj I (TrIs.tup hq hr) (TrIs.tup hq' hr')
          rw [← e1, eqT_refl _ (TrIs.tup hq hr).ok]
          exact SeqAt.EqAt.same _
        · rw [eqT]
          refine SeqAt.EqAt.of_refs e (RcAt_tuples I (by omega) hq hr hq' hr' fun j t t' x y u v h1 h2 h3 h4 h5 h6 => ?_).1
          exact ih A.in1 t t' x y u v (by have := depTs_at h1; omega) (by show A.units + 1 + n < cLine; omega) (simTs_at hs h1 h2) h3 h4 h5 h6
end

section
variable {X : Cx}
noncomputable def rEqX (K : PySem.W.Frag) (neg : Bool) : R2 := fun x y H Q => ∃ t t', TrIs K H x t ∧ TrIs K H y t' ∧ (∃ p, x = .ref p) ∧ (∃ p, y = .ref p) ∧ simT t t' = true ∧ depT t ≤ 60 ∧ Q (.bl (if neg then !eqT t t' else eqT t t')) H
theorem eqX_aux {neg : Bool} (hu : X.A.units + 64 < cLine) : OpR X (compareOp (if neg then .NotEq else .Eq)) (rEqX X.K neg) := by
  intro pins s σ H x y v u Q I rx ry h
  obtain ⟨t, t', hx, hy, ⟨p, rfl⟩, ⟨q, rfl⟩, hs, hd, q'⟩ := h
  cases rx; cases ry
  have done : ∀ l m, SeqAt.RcAt X.A s (.ref p) (.ref q) (eqTs l m) ∧ SeqAt.RcNeAt X.A s (.ref p) (.ref q) (!eqTs l m) → Q (.bl (if neg then !eqTs l m else eqTs l m)) H →
      wpAny (model X.prog X.w) X.A (compareOp (if neg then .NotEq else .Eq) (.ref p) (.ref q)) (EP X pins σ Q) X.xe s := fun l m hb hq => by
    cases neg with
    | false => exact hb.1 X.prog X.w X.xe _ ⟨.bl _, H, I, rfl, hq⟩
    | true => exact hb.2 X.prog X.w X.xe _ ⟨.bl _, H, I, rfl, hq⟩
  cases hx with
  | flat fx => cases fx
  | @lst _ xs l hq hr =>
    cases hy with
    | flat fy => cases fy
    | tup _ _ => simp [simT] at hs
    | @lst _ ys m hq' hr' =>
      rw [depT] at hd
      rw [simT] at hs
      rw [eqT] at q'
      refine done l m (RcAt_lists I (by omega) hq hr hq' hr' fun j t t' x y u v h1 h2 h3 h4 h5 h6 => ?_) q'
      exact eqAt_T I 60 X.A.in1 t t' x y u v (by have := depTs_at h1; omega) (by show X.A.units + 1 + 60 < cLine; omega) (simTs_at hs h1 h2) h3 h4 h5 h6
  | @tup _ xs l hq hr =>
    cases hy with
    | flat fy => cases fy
    | lst _ _ => simp [simT] at hs
    | @tup _ ys m hq' hr' =>
      rw [depT] at hd
      rw [simT] at hs
      rw [eqT] at q'
      refine done l m (RcAt_tuples I (by omega) hq hr hq' hr' fun j t t' x y u v h1 h2 h3 h4 h5 h6 => ?_) q'
      exact eqAt_T I 60 X.A.in1 t t' x y u v (by have := depTs_at h1; omega) (by show X.A.units + 1 + 60 < cLine; omega) (simTs_at hs h1 h2) h3 h4 h5 h6
theorem op_eqS (hu : X.A.units + 64 < cLine) : OpR X (compareOp .Eq) (rEqX X.K false) := eqX_aux (neg := false) hu
theorem op_neS (hu : X.A.units + 64 < cLine) : OpR X (compareOp .NotEq) (rEqX X.K true) := eqX_aux (neg := true) hu
theorem hu64 {A : Around} {k : Nat} (hr : Room k A) : A.units + 64 < cLine := by have := hr.un; omega
end
end L2

set_option Elab.async false
set_option linter.all false
set_option maxRecDepth 100000
set_option maxHeartbeats 4000000
namespace L2
open PySem PySem.Spec PyProof.Rows

section
variable {X : Cx}
end

end L2

set_option Elab.async false
set_option linter.all false
set_option maxRecDepth 100000
set_option maxHeartbeats 4000000
namespace L2
open PySem PySem.Spec PyProof.Rows

noncomputable def stepS (x : Int) (k : Int) : Int := (x * x + 48271 * x + k) % 2147483647
noncomputable def seqS (x k : Int) : Nat → List Int
  | 0 => []
  | n + 1 => stepS x k :: seqS (stepS x k) (k + 1) n
theorem seqS_len (x k : Int) (n : Nat) : (seqS x k n).length = n := by
  induction n generalizing x k with
  | zero => rfl
  | succ n ih => simp [seqS, ih]
theorem seqS_mem {x k y : Int} {n : Nat} (h : y ∈ seqS x k n) : 0 ≤ y ∧ y < 2147483647 := by
  induction n generalizing x k with
  | zero => cases h
  | succ n ih =>
    rcases List.mem_cons.mp h with rfl | h
    · exact ⟨Int.emod_nonneg _ (by decide), Int.emod_lt_of_pos _ (by decide)⟩
    · exact ih h
noncomputable def lastS (x k : Int) : Nat → Int
  | 0 => x
  | n + 1 => lastS (stepS x k) (k + 1) n
theorem lastS_succ (x k : Int) (n : Nat) : lastS x k (n + 1) = stepS (lastS x k n) (k + n) := by
  induction n generalizing x k with
  | zero => simp [lastS]
  | succ n ih =>
    rw [lastS, ih, lastS]
    congr 1
    omega
theorem seqS_snoc (x k : Int) (n : Nat) : seqS x k (n + 1) = seqS x k n ++ [lastS x k (n + 1)] := by
  induction n generalizing x k with
  | zero => simp [seqS, lastS]
  | succ n ih =>
    rw [seqS, ih, seqS, List.cons_append]
    rfl
noncomputable def seedS (c : Int) : Int := c % 2147483647 + 48271
noncomputable def strm (c : Int) (n : Nat) : List Int := (seqS (seedS c) 0 (n + 1)).drop 1
theorem strm_len (c : Int) (n : Nat) : (strm c n).length = n := by unfold strm; rw [List.length_drop, seqS_len]; omega
theorem strm_mem {c y : Int} {n : Nat} (h : y ∈ strm c n) : 0 ≤ y ∧ y < 2147483647 := seqS_mem (List.mem_of_mem_drop h)
noncomputable def spStream : Sp := fun vs H Q _ => ∃ (c n : Int), vs = [.int c, .int n] ∧ 0 ≤ n ∧ n ≤ 1000 ∧ ∀ (r : Addr) (H' : Hp), Same H H' → H' r = some (.lst ((strm c n.toNat).map V.int)) → Q (.ref r) H'
theorem step_bound {x : Int} (h0 : 0 ≤ x) (h1 : x < 2147531918) : -(2 ^ 64 : Int) < x ∧ x < 2 ^ 64 := by
  have : (2 : Int) ^ 64 = 18446744073709551616 := by decide
  omega
theorem seed_bound (c : Int) : 0 ≤ seedS c ∧ seedS c < 2147531918 := by
  have h0 := Int.emod_nonneg c (show (2147483647 : Int) ≠ 0 by decide)
  have h1 := Int.emod_lt_of_pos c (show (0 : Int) < 2147483647 by decide)
  unfold seedS; omega
theorem last_bound (c : Int) (n : Nat) : 0 ≤ lastS (seedS c) 0 n ∧ lastS (seedS c) 0 n < 2147531918 := by
  cases n with
  | zero => exact seed_bound c
  | succ n =>
    rw [lastS_succ]
    unfold stepS
    have h0 := Int.emod_nonneg (lastS (seedS c) 0 n * lastS (seedS c) 0 n + 48271 * lastS (seedS c) 0 n + (0 + (n : Int))) (show (2147483647 : Int) ≠ 0 by decide)
    have h1 := Int.emod_lt_of_pos (lastS (seedS c) 0 n * lastS (seedS c) 0 n + 48271 * lastS (seedS c) 0 n + (0 + (n : Int))) (show (0 : Int) < 2147483647 by decide)
    omega
theorem cut1 {α : Type} (l : List α) : (l.drop (HT.sIx l.length 0 (some 1))).take (HT.sIx l.length l.length none - HT.sIx l.length 0 (some 1)) = l.drop 1 := by
  rw [show HT.sIx l.length 0 (some (1 : Int)) = min 1 l.length from HT.sIx_nat _ _ 1, HT.sIx_none]
  cases l with
  | nil => rfl
  | cons a r =>
    have e : min 1 (a :: r).length = 1 := by simp
    rw [e]
    simp
theorem cutV_1 (xs : List Int) : cutV (xs.map V.int) (some 1) none = (xs.drop 1).map V.int := by
  unfold cutV
  rw [cut1, List.map_drop]

theorem cut_mid {α : Type} (l : List α) {i j : Int} (hi : 0 ≤ i) (hj : 0 ≤ j) (hl : j ≤ (l.length : Int)) (hij : i ≤ j) : cutC l (some i) (some j) = (l.drop i.toNat).take (j.toNat - i.toNat) := by
  unfold cutC
  have e1 : i = ((i.toNat : Nat) : Int) := by omega
  have e2 : j = ((j.toNat : Nat) : Int) := by omega
  rw [e1, e2, HT.sIx_nat, HT.sIx_nat]
  rw [show (((i.toNat : Nat) : Int)).toNat = i.toNat by omega, show (((j.toNat : Nat) : Int)).toNat = j.toNat by omega, Nat.min_eq_left (by omega), Nat.min_eq_left (by omega)]
noncomputable def numZ (c far : Int) : Int := if c % 3 = 0 then c / 3 % 7 - 3 else c / 3 % (2 * far + 1) - far
noncomputable def spNumber : Sp := fun vs H Q _ => ∃ (c far : Int), vs = [.int c, .int far] ∧ 0 ≤ far ∧ far < 2 ^ 63 ∧ Q (.int (numZ c far)) H
end L2
namespace L2
open PySem
end L2
namespace L2
open PySem
end L2
namespace L2
open PySem
end L2

set_option Elab.async false
set_option linter.all false
set_option maxRecDepth 100000
set_option maxHeartbeats 4000000
namespace L2
open PySem PySem.Spec PyProof.Rows

end L2

set_option Elab.async false
set_option linter.all false
set_option maxRecDepth 100000
set_option maxHeartbeats 4000000
namespace L2
open PySem PySem.Spec PyProof.Rows
noncomputable def wo (H : Hp) (l : Addr) : Hp := fun b => if b = l then none else H b
theorem wo_same {H : Hp} {l : Addr} : Same (wo H l) H := fun b o h => by
  unfold wo at h
  split at h
  · cases h
  · exact h
theorem wo_mono {H H' : Hp} {l : Addr} (e : Same H H') : Same (wo H l) (wo H' l) := fun b o h => by
  unfold wo at h ⊢
  split at h
  · cases h
  · rename_i c; rw [if_neg c]; exact e b o h
theorem wo_upd {H : Hp} {l : Addr} {o : HO} : wo (upd H l o) l = wo H l := by
  funext b
  unfold wo
  by_cases c : b = l
  · rw [if_pos c, if_pos c]
  · rw [if_neg c, if_neg c, upd_ne c]
theorem wo_ne {H : Hp} {l b : Addr} (h : b ≠ l) : wo H l b = H b := by unfold wo; rw [if_neg h]
theorem atI_neg {α : Type} (l : List α) (x : α) (m : List α) {n : Int} (hn : n = -((m.length : Int) + 1)) : atI (l ++ x :: m) n = some x := by
  unfold atI ixN
  have hl : (l ++ x :: m).length = l.length + (m.length + 1) := by rw [List.length_append]; rfl
  rw [hl, if_neg (by omega), if_pos (by omega)]
  show (l ++ x :: m)[(n + ((l.length + (m.length + 1) : Nat) : Int)).toNat]? = some x
  rw [show (n + ((l.length + (m.length + 1) : Nat) : Int)).toNat = l.length by omega, List.getElem?_append_right (Nat.le_refl _), Nat.sub_self]
  rfl
theorem cutV_neg (l m : List V) (hm : 0 < m.length) {n : Int} (hn : n = -(m.length : Int)) : cutV (l ++ m) none (some n) = l := by
  unfold cutV
  have hl : (l ++ m).length = l.length + m.length := List.length_append
  have e1 : HT.sIx (l ++ m).length 0 none = 0 := rfl
  have e2 : HT.sIx (l ++ m).length (l ++ m).length (some n) = l.length := by
    show (if n < 0 then (n + ((l ++ m).length : Int)).toNat else min n.toNat (l ++ m).length) = l.length
    rw [hl, if_pos (by omega)]
    omega
  rw [e1, e2, List.drop_zero, Nat.sub_zero, List.take_left']
  rfl
theorem if_any {tt : TT} {ta tb : TS} {D : Ends} {σ : St} {H : Hp} (M : Hp → Prop) (hb : ∀ H', M H' → tb D σ H') (h : (∀ H', M H' → tb D σ H') → tIfS tt ta tb D σ H) : tIfS tt ta tb D σ H := h hb
theorem snoc_of {α : Type} {l : List α} {n : Nat} (h : l.length = n + 1) : ∃ p x, l = p ++ [x] ∧ p.length = n := by
  have hne : l ≠ [] := fun e => by rw [e] at h; cases h
  exact ⟨l.dropLast, l.getLast hne, (List.dropLast_concat_getLast hne).symm, by rw [List.length_dropLast]; omega⟩
theorem tup_ne {H : Hp} {p l : Addr} {xs ys : List V} (h1 : H p = some (.tup xs)) (h2 : H l = some (.lst ys)) : p ≠ l := fun e => by
  rw [e, h2] at h1
  cases h1
theorem cutV_map (ns : List Int) (lo hi : Option Int) : cutV (ns.map V.int) lo hi = (cutC ns lo hi).map V.int := by
  unfold cutV cutC
  rw [List.length_map, List.map_take, List.map_drop]
end L2

set_option Elab.async false
set_option linter.all false
set_option maxRecDepth 100000
set_option maxHeartbeats 4000000
namespace L2
open PySem PySem.Spec PyProof.Rows
section
variable {X : Cx} {pins : List (Addr × Obj)} {σ : St} {H : Hp} {s : Shared} {h' : Heap}
theorem Inv.turnedL {t' : Nat} {ch : List Addr} (I : Inv X pins σ H s) (k : ∀ b o, b ∉ ch → s.heap.get? b = some o → h'.get? b = some o) (hf : ∀ b ∈ ch, FpOk X pins H b) : Inv X pins σ H { s with heap := h', toks := t' } := by
  have nit : ∀ b u, H b = some u → b ∉ ch := fun b u e z => by rw [(hf b z).1] at e; cases e
  have hL : X.env.locals ∉ ch := fun z => (hf _ z).2.1 rfl
  refine I.step (g' := s.gens) (d' := s.drawn) (ch := ch) (fun b hb => ?_) (fun b o _ _ hc e _ => k b o hc e) (fun b o _ _ hc e _ => ⟨o.slots, k b o hc e⟩) (fun _ _ _ _ n => n)
    (fun b o hc e => ⟨o, k b o hc e⟩) (fun _ _ e => e) (fun _ _ _ e => e) (fun b ps e => ⟨#[], by rw [e]; simp⟩) (fun m hm => ?_) (fun b u e => ?_) I.bare
  · obtain ⟨f0, f1, f2, f3, f4, f5⟩ := hf b hb
    exact ⟨f3, f1, f4, f5⟩
  · obtain ⟨o, es, ep, ho, r⟩ := hm
    exact ⟨o, es, ep, k _ o hL ho, r⟩
  · refine (I.hok b u e).stay (fun c v hc q => k c v ?_ q) (fun _ q => q) fun _ _ q => q
    rcases hc with z | z
    · rw [z]; exact nit b u e
    · exact nit c _ z
end
end L2

set_option Elab.async false
set_option linter.all false
set_option maxRecDepth 100000
set_option maxHeartbeats 4000000
namespace Bd
end Bd
namespace L2
open PySem PySem.Spec PyProof.Rows Bd
section
variable {es : List Expr} {env : Env} {p : Pos}
theorem star_C {c : Const} {n : Nat} : starEach (.Constant c n p :: es) env = (false, eval (.Constant c n p) env) :: starEach es env := rfl
theorem star_N {x : Str} : starEach (.Name x p :: es) env = (false, eval (.Name x p) env) :: starEach es env := rfl
theorem star_B {a b : Expr} {o : Operator} : starEach (.BinOp a o b p :: es) env = (false, eval (.BinOp a o b p) env) :: starEach es env := rfl
theorem star_K {f : Expr} {as : List Expr} {ks : List Keyword} : starEach (.Call f as ks p :: es) env = (false, eval (.Call f as ks p) env) :: starEach es env := rfl
theorem star_S {a b : Expr} : starEach (.Subscript a b p :: es) env = (false, eval (.Subscript a b p) env) :: starEach es env := rfl
end
@[irreducible] def PAq (X : Cx) (es : List Expr) (t : TA) : Prop := PA X es t
section
variable {X : Cx} {e : Expr} {es : List Expr} {te : TE} {t : TA} {pos : Pos}
theorem paq_nil : PAq X [] tNil := by unfold PAq; exact pa_nil
theorem paq_cons (ha : PE X e te) (hr : PAq X es t) (hs : starEach (e :: es) X.env = (false, eval e X.env) :: starEach es X.env) : PAq X (e :: es) (tCons te t) := by unfold PAq at *; exact pa_cons ha hr hs
theorem pe_lstq (h : PAq X es t) : PE X (.List es pos) (tLst t) := by unfold PAq at h; exact pe_lst h
theorem pe_tupq {x1 : Nat} (h : PAq X es t) : PE X (.Tuple es x1 pos) (tTup t) := by unfold PAq at h; exact pe_tup h
end
theorem ixN_nat {n x : Nat} (h : x < n) : ixN n (x : Int) = some x := by
  unfold ixN
  rw [if_pos (by omega), if_pos (by omega)]
  rfl
theorem while_ix {c : TT} {tb : TS} {D : Ends} {σ : St} {H : Hp} (k : Nat) (Pv : Nat → St → Hp → Prop) (h0 : Pv 0 σ H)
    (hs : ∀ i σ H, i ≤ k → Pv i σ H → c σ H fun b H1 => if b = true then i < k ∧ tb { D with nx := Pv (i + 1), ct := Pv (i + 1), bk := D.nx } σ H1 else D.nx σ H1)
    (mono : ∀ σ H Q Q', (∀ b H1, Q b H1 → Q' b H1) → c σ H Q → c σ H Q') : tWhile c tb D σ H := by
  refine ⟨fun m σ H => ∃ i, i ≤ k ∧ m = k - i ∧ Pv i σ H, ⟨_, 0, Nat.zero_le _, rfl, h0⟩, ?_⟩
  rintro m σ H ⟨i, hi, rfl, p⟩
  refine mono σ H _ _ (fun b H1 q => ?_) (hs i σ H hi p)
  cases b with
  | true => exact ⟨Pv (i + 1), fun σ' H' p' => ⟨k - (i + 1), by have := q.1; omega, i + 1, by have := q.1; omega, rfl, p'⟩, q.2⟩
  | false => exact q
end L2

set_option Elab.async false
set_option linter.all false
set_option maxRecDepth 100000
set_option maxHeartbeats 4000000
namespace Bd
end Bd
namespace L2
open PySem PySem.Spec PyProof.Rows Bd
end L2

set_option Elab.async false
set_option linter.all false
set_option maxRecDepth 100000
set_option maxHeartbeats 4000000
namespace L2
open PySem PySem.Spec PyProof.Rows
open Bd
end L2

set_option Elab.async false
set_option linter.all false
set_option maxRecDepth 100000
set_option maxHeartbeats 4000000
namespace L2
open PySem PySem.Spec PyProof.Rows
end L2

set_option Elab.async false
set_option linter.all false
set_option maxRecDepth 100000
set_option maxHeartbeats 4000000
namespace PySem
open Builtin
open AutoSeq1 (wpAny_loadPart')
end PySem
namespace L2
open PySem PySem.Spec PyProof.Rows
section
variable {X : Cx}
end
end L2

set_option Elab.async false
set_option linter.all false
set_option maxRecDepth 100000
set_option maxHeartbeats 4000000
namespace L2
open PySem PySem.Spec PyProof.Rows Bd
theorem dS {x y : Str} (h : x ≠ y) : decide (V.str x = V.str y) = false := decide_eq_false fun e => h (V.str.inj e)
theorem comp_listG {K : PySem.W.Frag} {a : Addr} {xs : List V} {ρ : List (Option Nat)} {g : TG} {tt : TT} {te : TE} {σ : St} {H : Hp} {Q : VK} (Pv : Nat → List V → Hp → Prop) (h0 : Pv 0 [] H) (hlen : xs.length ≤ sizeLine) (hl : ∀ i ys H, i ≤ xs.length → Pv i ys H → SqL K H a xs ∧ ys.length ≤ i)
    (hs : ∀ i x ys H, xs[i]? = some x → Pv i ys H → g x (inSt ρ σ) H fun σ2 H3 => Outs ρ σ σ2 ∧ tt σ2 H3 fun ok H4 => if ok = true then te σ2 H4 fun v H5 => Pv (i + 1) (ys ++ [v]) H5 else Pv (i + 1) ys H4)
    (hd : ∀ ys H, Pv xs.length ys H → ∀ p, H p = none → Q (.ref p) (upd H p (.lst ys))) : CompW ρ g tt te σ Q (Itl K a) H := by
  refine ⟨fun i m ys H => m = xs.length - i ∧ i ≤ xs.length ∧ Pv i ys H, ⟨_, rfl, Nat.zero_le _, h0⟩, ?_⟩
  rintro i m ys H ⟨rfl, hi, p⟩
  obtain ⟨hq, hy⟩ := hl i ys H hi p
  by_cases hlt : i < xs.length
  · refine .inr ⟨⟨xs, xs[i], hq, by simp [hlt]⟩, by omega, Pv (i + 1), fun ys' H'' p' => ⟨xs.length - (i + 1), by omega, rfl, hlt, p'⟩, fun x H' y => ?_⟩
    obtain ⟨e, y2⟩ := y
    subst e
    exact hs i x ys _ (y2 xs hq) p
  · have e : i = xs.length := by omega
    subst e
    exact .inl ⟨⟨xs, hq, Nat.le_refl _⟩, by omega, hd ys H p⟩
end L2

set_option Elab.async false
set_option linter.all false
set_option maxRecDepth 100000
set_option maxHeartbeats 4000000
namespace L2
open PySem PySem.Spec PyProof.Rows
section
open PySem.SeqAt
open PySem.AutoSeq1 (wpAny_loadPart')
open PySem.MeetsSeq PySem.MeetsSeq2 PySem.MeetsSeq3
end
end L2

set_option Elab.async false
set_option linter.all false
set_option maxRecDepth 100000
set_option maxHeartbeats 4000000
namespace L2
open PySem PySem.Spec PyProof.Rows
section
variable {prog : Program} {w : World} {A : Around} {E : Value → Shared → Prop} {s : Shared}
theorem tu_ask {it t : Addr} {k : Nat} {its : Array Value} {Q : Value → Shared → Prop} (a : s.heap.IsTupleIter it t k) (b : s.heap.IsTuple t its)
    (q : wpAny (model prog w) A.in1 (match its[k]? with
        | some x => do setField (.ref it) 1 (rawInt (k + 1)); ret x
        | none => do rule (toString "tuple_iterator.__next__" ++ toString ".end"); setField (.ref it) 0 .none; Builtin.SmallTypes.stopIteration) (fun fin s' => ∃ v, fin = .done (.ret v) ∧ Q v s') E s) :
    wpAny (model prog w) A (Builtin.SmallTypes.nextOf (.ref it)) Q E s := by
  have ty := a.typeIs
  obtain ⟨o, g, c, d⟩ := a
  obtain ⟨o2, g2, -, n2, d2⟩ := b
  unfold Builtin.SmallTypes.nextOf
  apply wpAny_bind
  apply wpAny_callSpecial?_slot (name := Str.ofString "__next__") ty F.slot_tuple_iterator_next
  refine wpAny_call_entry F.slot_tuple_iterator_next ty F.entry_tuple_iterator_next ?_ (F.args_tuple_iterator_next_1 _)
  unfold Builtin.«tuple_iterator.__next__»
  wp_walk using wpAny_field g d (x := .ref t) rfl
  rw [d]
  apply wpAny_pure
  apply wpAny_pure
  apply wpAny_bind
  apply wpAny_seqItems g2 d2
  rw [show Int.toNat (k : Int) = k from rfl]
  exact wpAny_mono q (fun fin s' ⟨v, e, z⟩ => ⟨v, e, wpAny_pure z⟩) fun _ _ z => z
theorem tu_item {it t : Addr} {k : Nat} {its : Array Value} {x : Value} {Q : Value → Shared → Prop} (a : s.heap.IsTupleIter it t k) (b : s.heap.IsTuple t its) (hx : its[k]? = some x)
    (q : ∀ h', h'.IsTupleIter it t (k + 1) → Heap.SameBut it s.heap h' → Q x { s with heap := h' }) : wpAny (model prog w) A (Builtin.SmallTypes.nextOf (.ref it)) Q E s := by
  apply tu_ask a b
  obtain ⟨o, g, c, d⟩ := a
  rw [hx]
  apply wpAny_bind
  apply wpAny_setField g d (by simp)
  apply wpAny_pure
  refine ⟨x, rfl, q _ ⟨_, Heap.get?_update_self _ g ?_, ?_, ?_⟩ (Heap.SameBut.update ..)⟩
  · exact Obj.isFreed_of_fields (Obj.data_mapFields d _)
  · exact (Obj.cls_mapFields ..).trans c
  · rw [Obj.data_mapFields d]; rfl
theorem tu_end {it t : Addr} {k : Nat} {its : Array Value} {Q : Value → Shared → Prop} (hh : A.handled = none) (a : s.heap.IsTupleIter it t k) (b : s.heap.IsTuple t its) (hx : its[k]? = none)
    (q : ∀ h' e, Heap.ExtBut it s.heap h' → (∃ o, h'.get? e = some o ∧ o.cls = .type "StopIteration") → E (.ref e) { s with heap := h' }) : wpAny (model prog w) A (Builtin.SmallTypes.nextOf (.ref it)) Q E s := by
  apply tu_ask a b
  obtain ⟨o, g, c, d⟩ := a
  rw [hx]
  apply wpAny_bind
  apply wpAny_rule
  apply wpAny_bind
  apply wpAny_setField g d (by simp)
  have h1 : A.in1.handled = none := hh
  wp_walk
  unfold raiseNew
  apply wpAny_bind
  apply wpAny_handled
  rw [h1]
  show wpAny _ _ (throw _) _ _ _
  apply wpAny_throw
  exact q _ _ (((Heap.SameBut.update ..).extBut.push _).push _) ⟨_, Heap.get?_push_size _ rfl, rfl⟩
theorem drawsT (hh : A.handled = none) (it t : Addr) (ne : t ≠ it) (its : Array Value) : Draws prog w A it [it, t] its.size (fun i v => its[i]? = some v) (fun i h => h.IsTupleIter it t i ∧ h.IsTuple t its) where
  live := fun _ _ ⟨⟨o, g, _⟩, _⟩ => ⟨o, g⟩
  frame := fun _ _ _ ⟨⟨o, g, r⟩, ⟨o2, g2, r2⟩⟩ k => ⟨⟨o, k it (by simp) o g, r⟩, ⟨o2, k t (by simp) o2 g2, r2⟩⟩
  item := fun i s Q E lt ⟨a, b⟩ q => tu_item a b (Array.getElem?_eq_getElem lt) fun h' a' sb => q _ h' s.toks (Array.getElem?_eq_getElem lt) ⟨a', b.extBut sb.extBut ne⟩ sb
  done := fun s Q E ⟨a, b⟩ q => tu_end hh a b (by simp) q
end
section
variable {prog : Program} {w : World} {A : Around} {E : Value → Shared → Prop} {s : Shared}
end
noncomputable def Itu (K : PySem.W.Frag) (a : Addr) : It :=
  ⟨fun i H => ∃ xs x, SqT K H a xs ∧ xs[i]? = some x, fun i H v H' => ∃ x T, (∀ xs, SqT K H a xs → xs[i]? = some x) ∧ H T = none ∧ v = .ref T ∧ H' = upd H T (.tup [.int i, x]), fun i H => ∃ xs, SqT K H a xs ∧ xs.length = i⟩
theorem turn_enumT {P : Program} {w : World} {K : PySem.W.Frag} {elts : List Expr} {x1 : Nat} {pos : Pos} (a e it : Addr) (hei : e ≠ it) (na : a ≠ it) (ne : e ≠ a) : Turn P w K (.Tuple elts x1 pos) (Itu K a) [e, it] e (fun i h => (∃ old, IsEnum h e it i old) ∧ h.IsTupleIter it a i) where
  mem := by simp
  obj := fun i h st b hb => by
    obtain ⟨⟨old, he⟩, hit⟩ := st
    rcases List.mem_cons.mp hb with rfl | hb
    · exact ⟨_, he, fun v z => by cases z⟩
    · have e : b = it := by simpa using hb
      subst e
      obtain ⟨o, e, c, d⟩ := hit
      exact ⟨o, e, fun v z => by rw [d] at z; cases z⟩
  keep := fun i h h' st k => by
    obtain ⟨⟨old, he⟩, hit⟩ := st
    exact ⟨⟨old, k e (by simp) _ he⟩, hit.at fun o e => k it (by simp) o e⟩
  item := by
    intro X hP hw hK hc i pins s σ H E I hf st hg
    subst hP hw hK
    obtain ⟨xs, x, hq, hx⟩ := hg
    obtain ⟨its, rv, p, hz⟩ := I.tuple hq
    obtain ⟨u, hu, ru⟩ := rv.get hx
    obtain ⟨⟨old, he⟩, hit⟩ := st
    have p' : s.heap.IsTuple a its.toArray := p
    have hn : X.A.in1.handled = none := I.ok.hd hc
    have d1 := drawsT (prog := X.prog) (w := X.w) hn it a na its.toArray
    have l1 := rv.length
    obtain ⟨b1, _⟩ := List.getElem?_eq_some_iff.1 hx
    refine wpAny_pyNext_enum_itemD d1 he ⟨hit, p'⟩ (by simp; omega) hei (by simp [hei, ne]) fun u' h1 tk hu' ho hit' hT hsz hk => ⟨_, rfl, ?_⟩
    have eu : u = u' := by simpa [hu] using hu'
    subst eu
    refine wpAny_letOwnedTupleGo_enum ho fun h2 he2 hs2 => ?_
    have hTn : H s.heap.objs.size = none := I.hok.fresh (Nat.le_refl _)
    have helt : e < s.heap.objs.size := Heap.lt_size he
    have hilt : it < s.heap.objs.size := by obtain ⟨_, x, _⟩ := hit; exact Heap.lt_size x
    have I1 : Inv X pins σ (upd H s.heap.objs.size (.tup [.int i, x])) { s with heap := s.heap.push { cls := .type "tuple", data := .seq #[.int i tk, u] }, toks := tk + 1 } := I.laid (t' := tk + 1) (o := .tup [.int i, x]) (fun b o e => Heap.get?_push_of_some _ e) (Nat.le_refl _) ⟨szl (by show 2 ≤ 1000000; decide), [.int i tk, u], .cons ⟨_, rfl⟩ (.cons ru .nil), IsTupN.new _ _⟩
    have I2 : Inv X pins σ (upd H s.heap.objs.size (.tup [.int i, x])) { s with heap := h2, toks := tk + 1 } := by
      refine Inv.turnedL (s := { s with heap := s.heap.push { cls := .type "tuple", data := .seq #[.int i tk, u] }, toks := tk + 1 }) (h' := h2) (ch := [e, it]) (t' := tk + 1) I1 (fun b o hb q => ?_) (fun b hb => ?_)
      · have nbe : b ≠ e := fun z => hb (by simp [z])
        have nbi : b ≠ it := fun z => hb (by simp [z])
        show h2.get? b = some o
        rw [hs2.2 b nbe]
        rcases Heap.get?_push_cases q with ⟨rfl, rfl⟩ | q
        · exact hT
        · exact hk b o nbe nbi q
      · obtain ⟨f0, f1, f2, f3, f4, f5⟩ := hf b hb
        have nb : b ≠ s.heap.objs.size := by
          rcases List.mem_cons.mp hb with rfl | hb
          · exact Nat.ne_of_lt helt
          · have : b = it := by simpa using hb
            subst this
            exact Nat.ne_of_lt hilt
        exact ⟨by rw [upd_ne nb]; exact f0, f1, f2, f3, f4, f5⟩
    refine ⟨.ref s.heap.objs.size, _, I2, rfl, ⟨x, _, fun ys hy => by rw [I.tuple_inj hy hq]; exact hx, hTn, rfl, rfl⟩, ⟨⟨_, by simpa using he2⟩, hit'.1.at fun o y => (hs2.2 it hei.symm).trans y⟩, fun b hb => ?_⟩
    obtain ⟨f0, f1, f2, f3, f4, f5⟩ := hf b hb
    have nb : b ≠ s.heap.objs.size := by
      rcases List.mem_cons.mp hb with rfl | hb
      · exact Nat.ne_of_lt helt
      · have : b = it := by simpa using hb
        subst this
        exact Nat.ne_of_lt hilt
    rw [upd_ne nb]
    exact f0
  done := by
    intro X hP hw hK hc i pins s σ H E I hf st hg
    subst hP hw hK
    obtain ⟨xs, hq, hx⟩ := hg
    obtain ⟨its, rv, p, hz⟩ := I.tuple hq
    obtain ⟨⟨old, he⟩, hit⟩ := st
    have p' : s.heap.IsTuple a its.toArray := p
    have hn : X.A.in1.handled = none := I.ok.hd hc
    have d1 := drawsT (prog := X.prog) (w := X.w) hn it a na its.toArray
    have hl := rv.length
    have e1 : its.toArray.size = i := by simp; omega
    refine wpAny_pyNext_enum_endD d1 he ⟨by rw [e1]; exact hit, p'⟩ fun h' eb => ⟨rfl, ?_⟩
    exact I.turnedL (ch := [e, it]) (t' := s.toks) (fun b o hb q => eb b o (fun z => hb (by simp [z])) q) hf
  self := fun _ _ _ _ _ st h => by
    obtain ⟨⟨old, he⟩, _⟩ := st
    exact wpAny_pyIter_enum he h
theorem enum_newT (l : Addr) (items : Array Value) (n : Nat) (dd : Option Addr) (sl : Array (Option Value)) :
    Meets (Builtin.«enumerate.__new__» ⟨[.type "enumerate", .ref l], []⟩) (fun _ R s => s.heap.get? l = some { cls := .type "tuple", dict := dd, data := .seq items n, slots := sl } ∧
      ∀ h', IsEnum h' (s.heap.objs.size + 1) s.heap.objs.size 0 .none → h'.IsTupleIter s.heap.objs.size l 0 → (∀ c o, s.heap.get? c = some o → h'.get? c = some o) → R (.ok (.ret (.ref (s.heap.objs.size + 1)))) { s with heap := h' }) :=
  .of_wp fun prog w A R s h => by
    obtain ⟨hp, g, d, tk, os⟩ := s
    obtain ⟨hl, h⟩ := h
    have hsub := sub_enumerate
    have hL : Heap.IsTuple (Shared.heap ⟨hp, g, d, tk, os⟩) l items := ⟨_, hl, rfl, n, rfl⟩
    have key : ∀ (n1 : Nat) (h' : Heap), n1 = hp.objs.size + 1 → IsEnum h' n1 hp.objs.size 0 .none → h'.IsTupleIter hp.objs.size l 0 → (∀ c o, hp.get? c = some o → h'.get? c = some o) → R (.ok (.ret (.ref n1))) ⟨h', g, d, tk, os⟩ := by
      rintro _ h' rfl
      exact h h'
    wp_walk using AutoSeq1.wpAny_loadPart' hl
    apply wpAny_stack_any
    intro st
    apply wpAny_pure
    have fin : R (.ok (.ret (.ref (hp.push { cls := .type "tuple_iterator", data := .fields #[.ref l, .int 0 0] }).objs.size))) ⟨(hp.push { cls := .type "tuple_iterator", data := .fields #[.ref l, .int 0 0] }).push { cls := .type "enumerate", data := .fields #[.none, .bool false, .ref hp.objs.size, rawInt 0, .none, .none] }, g, d, tk, os⟩ :=
      key _ _ (by simp only [Heap.size_push]) (Heap.get?_push_size _ rfl) ⟨_, Heap.get?_push_of_some _ (Heap.get?_push_size _ rfl), rfl, rfl⟩ fun c o e => Heap.get?_push_of_some _ (Heap.get?_push_of_some _ e)
    split
    · rename_i c _ _ _ _ _
      cases (c == Value.type "enumerate")
      all_goals
        wp_walk using AutoSeq1.wpAny_loadPart' hl, wpAny_pyIter_tuple hL
        exact ⟨_, rfl, fin⟩
    · wp_walk using AutoSeq1.wpAny_loadPart' hl, wpAny_pyIter_tuple hL
      exact ⟨_, rfl, fin⟩
noncomputable def iEnumT (K : PySem.W.Frag) (ta : TA) : TI := fun σ H R => ta σ H fun vs H1 => ∃ a : Addr, vs = [.ref a] ∧ (∃ xs, SqT K H1 a xs) ∧ R (Itu K a) H1
theorem pi_enumT {X : Cx} {a : Expr} {ta : TA} {p pos : Pos} {elts : List Expr} {x1 : Nat} {pos2 : Pos} (hg : Gl X "enumerate") (hm : X.mg "enumerate" = none) (ha : PA X [a] ta) (hs : starEach [a] X.env = [(false, eval a X.env)] := by rfl) : PI X (.Tuple elts x1 pos2) (.Call (.Name "enumerate" p) [a] [] pos) (iEnumT X.K ta) := by
  intro pins s σ H R I h
  refine Call_ (ld_blt I hg hm boot_enumerate (PyProof.Rows.callWith_type1 (thn (ha pos pins s σ H _ I h) fun us s1 ⟨vs, H1, I1, r1, q1⟩ => ?_) hs rfl))
  obtain ⟨l, rfl, ⟨xs, hq⟩, q⟩ := q1
  cases r1 with
  | cons r rr =>
    cases rr
    cases r
    obtain ⟨its, rv, pl, hz⟩ := I1.tuple hq
    have lt1 : l < s1.heap.objs.size := pl.lt
    obtain ⟨⟨c, dct, dt, sl⟩, hl, hc, n, hd⟩ := pl
    have hc' : c = .type "tuple" := hc
    have hd' : dt = .seq its.toArray n := hd
    subst hc' hd'
    refine callType_new F.called_enumerate (by decide) (F.typeCall_enumerate_1 _) (F.newCall_enumerate_1 _) (fun obj => F.args_object_init_2 obj _) F.entry_enumerate_new (enum_newT l its.toArray n dct sl) ⟨hl, fun h' he hit hk => ⟨⟨_, he, rfl⟩, ?_⟩⟩
    refine wpAny_pyIter_enum he ?_
    refine ⟨_, [s1.heap.objs.size + 1, s1.heap.objs.size], _, _, H1, rfl, I1.kept (t' := s1.toks) hk, turn_enumT l _ _ (Nat.ne_of_gt (Nat.lt_succ_self _)) (Nat.ne_of_lt lt1) (Nat.ne_of_gt (Nat.lt_of_lt_of_le lt1 (Nat.le_add_right _ _))), ⟨⟨_, he⟩, hit⟩, fun b hb => ?_, q⟩
    rcases List.mem_cons.mp hb with rfl | hb
    · exact I1.fpOk (Nat.le_succ _) (I1.hok.fresh (Nat.le_succ _))
    · have e : b = s1.heap.objs.size := by simpa using hb
      subst e
      exact I1.fpOk (Nat.le_refl _) (I1.hok.fresh (Nat.le_refl _))
theorem for_enumT {K : PySem.W.Frag} {a : Addr} {xs : List V} {g : TG} {tb : TS} {D : Ends} {σ : St} {H : Hp} (Pv : Nat → St → Hp → Prop) (h0 : Pv 0 σ H) (hl : ∀ i σ H, i ≤ xs.length → Pv i σ H → SqT K H a xs)
    (hs : ∀ i x T σ H, xs[i]? = some x → Pv i σ H → H T = none → g (.ref T) σ (upd H T (.tup [.int i, x])) fun σ2 H2 => tb { D with nx := Pv (i + 1), ct := Pv (i + 1), bk := D.nx } σ2 H2) (hd : ∀ σ H, Pv xs.length σ H → D.nx σ H) :
    ∃ W : Nat → Nat → St → Hp → Prop, (∃ m, W 0 m σ H) ∧ ∀ i m σ H, W i m σ H →
      ((Itu K a).stop i H ∧ D.nx σ H) ∨ ((Itu K a).go i H ∧ ∃ N : St → Hp → Prop, (∀ σ' H', N σ' H' → ∃ m', m' < m ∧ W (i + 1) m' σ' H') ∧ ∀ x H', (Itu K a).yld i H x H' → g x σ H' fun σ2 H2 => tb { D with nx := N, ct := N, bk := D.nx } σ2 H2) := by
  refine ⟨fun i m σ H => m = xs.length - i ∧ i ≤ xs.length ∧ Pv i σ H, ⟨xs.length, by simp, Nat.zero_le _, h0⟩, ?_⟩
  rintro i m σ H ⟨rfl, hi, p⟩
  have q := hl i σ H hi p
  by_cases hlt : i < xs.length
  · refine .inr ⟨⟨xs, xs[i], q, List.getElem?_eq_getElem hlt⟩, Pv (i + 1), fun σ' H' p' => ⟨xs.length - (i + 1), by omega, rfl, hlt, p'⟩, fun v H' y => ?_⟩
    obtain ⟨x, T, hx, hT, rfl, rfl⟩ := y
    exact hs i x T σ H (hx xs q) p hT
  · have e : i = xs.length := by omega
    subst e
    exact .inl ⟨⟨xs, q, rfl⟩, hd σ H p⟩
end L2

set_option Elab.async false
set_option linter.all false
set_option maxRecDepth 100000
set_option maxHeartbeats 4000000
namespace L2
open PySem PySem.Spec PyProof.Rows
end L2
namespace L2
open PySem PySem.Spec PyProof.Rows
end L2
namespace L2
open PySem PySem.Spec PyProof.Rows
noncomputable def rCatH : R2 := fun x y H Q => ∃ (a b : Addr) (xs ys : List V), x = .ref a ∧ y = .ref b ∧ H a = some (.tup xs) ∧ H b = some (.tup ys) ∧ xs.length + ys.length ≤ sizeLine ∧ ∀ (p : Addr) (H' : Hp), Same H H' → H' p = some (.tup (xs ++ ys)) → Q (.ref p) H'
theorem op_catH {X : Cx} : OpR X (binaryOp .Add) rCatH := by
  intro pins s σ H x y v u Q I rx ry h
  obtain ⟨a, b, xs, ys, rfl, rfl, ha, hb, hz, q⟩ := h
  by_cases c : xs = []
  · subst c
    cases rx
    cases ry
    obtain ⟨its, r1, p1, _⟩ := I.tuple (SqT.of ha)
    obtain ⟨its2, r2, p2, _⟩ := I.tuple (SqT.of hb)
    obtain ⟨⟨cls, dd, data, sl⟩, ho, hc, n, hd⟩ := id p1
    obtain ⟨⟨cls2, dd2, data2, sl2⟩, ho2, hc2, n2, hd2⟩ := id p2
    simp only at hc hd hc2 hd2
    subst hc hd hc2 hd2
    have e : its = [] := r1.nil_iff.mpr rfl
    exact concat_meets ⟨_, ho, rfl⟩ ⟨_, ho2, rfl⟩ noFill_tuple_add seq_tuple_add PySem.F.slot_tuple_add PySem.F.entry_tuple_add (PySem.F.args_tuple_add_2 _ _)
      (tuple_addW0 a b its.toArray its2.toArray n n2 dd dd2 sl sl2 (by simp [e])) ⟨ho, ho2, .ref b, H, I, rfl, q b H (Same.refl _) hb⟩
  · refine op_catT pins s σ H (.ref a) (.ref b) v u Q I rx ry ⟨a, b, xs, ys, rfl, rfl, SqT.of ha, SqT.of hb, c, hz, fun z => ?_, fun z p hp => ?_⟩
    · subst z
      exact q a H (Same.refl _) (by rw [List.append_nil]; exact ha)
    · exact q p _ (same_new hp _) upd_same
end L2

set_option linter.all false
namespace Fo
inductive F (W : Type) where
  | nil : F W
  | leaf (k : Int) (pl : List (Int × Int)) (rest : F W) : F W
  | node (cut : Bool) (way : W) (sub rest : F W) : F W
structure Bo (W : Type) where
  k : Int
  sh : Nat
  ways : List (Bool × W)
  pl : List (Int × Int)
variable {W L : Type}
noncomputable def HeadSh (B : List (Bo W)) (d : Nat) : Prop := ∀ c, B.head? = some c → c.sh = d
noncomputable def Is : F W → List (Bo W) → Nat → Prop
  | .nil, B, _ => B = []
  | .leaf k pl rest, B, d => ∃ b B', B = b :: B' ∧ b.k = k ∧ b.pl = pl ∧ b.ways.length = d ∧ HeadSh B' d ∧ Is rest B' d
  | .node cut way sub rest, B, d => ∃ b G B', B = (b :: G) ++ B' ∧ b.ways[d]? = some (cut, way) ∧ (∀ c ∈ G, d < c.sh) ∧ HeadSh B' d ∧ Is sub (b :: G) (d + 1) ∧ Is rest B' d
section
variable (hdr : Nat → Bool → W → L) (dl : Nat → Int → List (Int × Int) → L)
end
structure Ok (B : List (Bo W)) : Prop where
  sh : ∀ b ∈ B, b.sh ≤ b.ways.length
  ln : ∀ (i : Nat) (b c : Bo W), B[i]? = some b → B[i + 1]? = some c → c.sh ≤ b.ways.length ∧ c.ways.take c.sh = b.ways.take c.sh
structure En where
  k : Int
  pl : List (Int × Int)
  path : List Int
noncomputable def deedsF : F W → List Int → Nat → List En
  | .nil, _, _ => []
  | .leaf k pl rest, p, j => ⟨k, pl, p ++ [(j : Int)]⟩ :: deedsF rest p (j + 1)
  | .node _ _ sub rest, p, j => deedsF sub (p ++ [(j : Int)]) 0 ++ deedsF rest p (j + 1)
theorem deeds_map : ∀ (f : F W) (B : List (Bo W)) (d : Nat) (p : List Int) (j : Nat), Is f B d → (deedsF f p j).map (fun e => (e.k, e.pl)) = B.map fun b => (b.k, b.pl)
  | .nil, B, d, p, j, h => by cases (show B = [] from h); rfl
  | .leaf k pl rest, B, d, p, j, h => by
    obtain ⟨b, B', rfl, rfl, rfl, hl, hh, hr⟩ := h
    show (b.k, b.pl) :: _ = (b.k, b.pl) :: _
    rw [deeds_map rest B' d p (j + 1) hr]
  | .node c w sub rest, B, d, p, j, h => by
    obtain ⟨b, G, B', rfl, hw, hG, hh, hs, hr⟩ := h
    show List.map _ (deedsF sub (p ++ [(j : Int)]) 0 ++ deedsF rest p (j + 1)) = _
    rw [List.map_append, deeds_map sub (b :: G) (d + 1) _ _ hs, deeds_map rest B' d p (j + 1) hr, ← List.map_append]
end Fo
namespace Fo
variable {W L : Type}
noncomputable def app : F W → F W → F W
  | .nil, g => g
  | .leaf k pl r, g => .leaf k pl (app r g)
  | .node c w s r, g => .node c w s (app r g)
theorem HeadSh.app {B C : List (Bo W)} {d : Nat} (h : HeadSh B d) (g : HeadSh C d) : HeadSh (B ++ C) d := by
  cases B with
  | nil => exact g
  | cons b B => exact h
theorem Is.app : ∀ (f g : F W) (B C : List (Bo W)) (d : Nat), Is f B d → Is g C d → HeadSh C d → Is (app f g) (B ++ C) d
  | .nil, g, B, C, d, hf, hg, hh => by cases (show B = [] from hf); exact hg
  | .leaf k pl r, g, B, C, d, hf, hg, hh => by
    obtain ⟨b, B', rfl, h1, h2, h3, h4, h5⟩ := hf
    exact ⟨b, B' ++ C, rfl, h1, h2, h3, h4.app hh, Is.app r g B' C d h5 hg hh⟩
  | .node c w s r, g, B, C, d, hf, hg, hh => by
    obtain ⟨b, G, B', rfl, h1, h2, h3, h4, h5⟩ := hf
    exact ⟨b, G, B' ++ C, by simp, h1, h2, h3.app hh, h4, Is.app r g B' C d h5 hg hh⟩
theorem Is.leaf1 {b : Bo W} {d : Nat} (h : b.ways.length = d) : Is (.leaf b.k b.pl .nil) [b] d := ⟨b, [], rfl, rfl, rfl, h, (fun c hc => by cases hc), rfl⟩
theorem Is.node1 {b : Bo W} {G : List (Bo W)} {d : Nat} {s : F W} {c : Bool} {w : W} (hw : b.ways[d]? = some (c, w)) (hG : ∀ c ∈ G, d < c.sh) (hs : Is s (b :: G) (d + 1)) : Is (.node c w s .nil) (b :: G) d := ⟨b, G, [], by simp, hw, hG, (fun c hc => by cases hc), hs, rfl⟩
end Fo

set_option Elab.async false
set_option linter.all false
set_option maxRecDepth 100000
set_option maxHeartbeats 4000000
namespace L2
open PySem PySem.Spec PyProof.Rows
noncomputable def All2 {α : Type} (R : V → α → Prop) (xs : List V) (as : List α) : Prop := xs.length = as.length ∧ ∀ (i : Nat) (x : V) (a : α), xs[i]? = some x → as[i]? = some a → R x a
theorem All2.nil {α : Type} {R : V → α → Prop} : All2 R [] [] := ⟨rfl, fun i x a h => by simp at h⟩
theorem All2.mono {α : Type} {R S : V → α → Prop} {xs : List V} {as : List α} (h : All2 R xs as) (m : ∀ x a, R x a → S x a) : All2 S xs as := ⟨h.1, fun i x a p q => m _ _ (h.2 i x a p q)⟩
theorem All2.get {α : Type} {R : V → α → Prop} {xs : List V} {as : List α} {i : Nat} {a : α} (h : All2 R xs as) (ha : as[i]? = some a) : ∃ x, xs[i]? = some x ∧ R x a := by
  have hi : i < xs.length := by rw [h.1]; exact (List.getElem?_eq_some_iff.mp ha).1
  exact ⟨_, List.getElem?_eq_getElem hi, h.2 i _ a (List.getElem?_eq_getElem hi) ha⟩
theorem All2.get' {α : Type} {R : V → α → Prop} {xs : List V} {as : List α} {i : Nat} {x : V} (h : All2 R xs as) (hx : xs[i]? = some x) : ∃ a, as[i]? = some a ∧ R x a := by
  have hi : i < as.length := by rw [← h.1]; exact (List.getElem?_eq_some_iff.mp hx).1
  exact ⟨_, List.getElem?_eq_getElem hi, h.2 i x _ hx (List.getElem?_eq_getElem hi)⟩
theorem All2.app {α : Type} {R : V → α → Prop} {xs ys : List V} {as bs : List α} (h : All2 R xs as) (g : All2 R ys bs) : All2 R (xs ++ ys) (as ++ bs) := by
  refine ⟨by rw [List.length_append, List.length_append, h.1, g.1], fun i x a p q => ?_⟩
  by_cases l : i < xs.length
  · rw [List.getElem?_append_left l] at p
    rw [List.getElem?_append_left (by rw [← h.1]; exact l)] at q
    exact h.2 i x a p q
  · rw [List.getElem?_append_right (by omega)] at p
    rw [List.getElem?_append_right (by have := h.1; omega)] at q
    rw [h.1] at p
    exact g.2 _ x a p q
theorem All2.one {α : Type} {R : V → α → Prop} {x : V} {a : α} (h : R x a) : All2 R [x] [a] := ⟨rfl, fun i y b p q => by
  cases i with
  | zero => cases p; cases q; exact h
  | succ i => simp at p⟩
theorem All2.snoc {α : Type} {R : V → α → Prop} {xs : List V} {as : List α} {x : V} {a : α} (h : All2 R xs as) (g : R x a) : All2 R (xs ++ [x]) (as ++ [a]) := h.app (.one g)
theorem All2.cons {α : Type} {R : V → α → Prop} {xs : List V} {as : List α} {x : V} {a : α} (g : R x a) (h : All2 R xs as) : All2 R (x :: xs) (a :: as) := All2.app (.one g) h
theorem All2.drop {α : Type} {R : V → α → Prop} {xs : List V} {as : List α} (h : All2 R xs as) (n : Nat) : All2 R (xs.drop n) (as.drop n) := ⟨by rw [List.length_drop, List.length_drop, h.1], fun i x a p q => by
  rw [List.getElem?_drop] at p q
  exact h.2 _ x a p q⟩
theorem All2.take {α : Type} {R : V → α → Prop} {xs : List V} {as : List α} (h : All2 R xs as) (n : Nat) : All2 R (xs.take n) (as.take n) := ⟨by rw [List.length_take, List.length_take, h.1], fun i x a p q => by
  by_cases l : i < n
  · rw [List.getElem?_take_of_lt l] at p q
    exact h.2 _ x a p q
  · rw [List.getElem?_take_eq_none (by omega)] at p
    cases p⟩
noncomputable abbrev Way := Bool × Str
noncomputable abbrev Bgh := Fo.Bo Str
noncomputable abbrev Frs := Fo.F Str
noncomputable def WayAt (H : Hp) (x : V) (w : Way) : Prop := ∃ t, x = .ref t ∧ H t = some (.tup [.bl w.1, .str w.2])
noncomputable def PrAt (H : Hp) (x : V) (p : Int × Int) : Prop := ∃ t, x = .ref t ∧ H t = some (.tup [.int p.1, .int p.2])
theorem WayAt.over {H H' : Hp} {x : V} {w : Way} (h : WayAt H x w) (e : Same H H') : WayAt H' x w := by obtain ⟨t, a, b⟩ := h; exact ⟨t, a, e _ _ b⟩
theorem PrAt.over {H H' : Hp} {x : V} {p : Int × Int} (h : PrAt H x p) (e : Same H H') : PrAt H' x p := by obtain ⟨t, a, b⟩ := h; exact ⟨t, a, e _ _ b⟩
noncomputable def WaysAt (H : Hp) (l : Addr) (ws : List Way) : Prop := ∃ xs, H l = some (.lst xs) ∧ All2 (WayAt H) xs ws
noncomputable def PrsAt (H : Hp) (l : Addr) (ps : List (Int × Int)) : Prop := ∃ xs, H l = some (.lst xs) ∧ All2 (PrAt H) xs ps
noncomputable def PrsT (H : Hp) (l : Addr) (ps : List (Int × Int)) : Prop := ∃ xs, H l = some (.tup xs) ∧ All2 (PrAt H) xs ps
theorem WaysAt.over {H H' : Hp} {l : Addr} {ws : List Way} (h : WaysAt H l ws) (e : Same H H') : WaysAt H' l ws := by obtain ⟨xs, a, b⟩ := h; exact ⟨xs, e _ _ a, b.mono fun x w p => p.over e⟩
theorem PrsAt.over {H H' : Hp} {l : Addr} {ps : List (Int × Int)} (h : PrsAt H l ps) (e : Same H H') : PrsAt H' l ps := by obtain ⟨xs, a, b⟩ := h; exact ⟨xs, e _ _ a, b.mono fun x w p => p.over e⟩
theorem PrsT.over {H H' : Hp} {l : Addr} {ps : List (Int × Int)} (h : PrsT H l ps) (e : Same H H') : PrsT H' l ps := by obtain ⟨xs, a, b⟩ := h; exact ⟨xs, e _ _ a, b.mono fun x w p => p.over e⟩
noncomputable def BoAt (H : Hp) (x : V) (b : Bgh) : Prop := ∃ t w p, x = .ref t ∧ H t = some (.tup [.int b.k, .int (b.sh : Int), .ref w, .ref p]) ∧ WaysAt H w b.ways ∧ PrsAt H p b.pl
theorem BoAt.over {H H' : Hp} {x : V} {b : Bgh} (h : BoAt H x b) (e : Same H H') : BoAt H' x b := by obtain ⟨t, w, p, a, b, c, d⟩ := h; exact ⟨t, w, p, a, e _ _ b, c.over e, d.over e⟩
noncomputable def BosAt (H : Hp) (l : Addr) (B : List Bgh) : Prop := ∃ xs, H l = some (.lst xs) ∧ All2 (BoAt H) xs B
theorem BosAt.over {H H' : Hp} {l : Addr} {B : List Bgh} (h : BosAt H l B) (e : Same H H') : BosAt H' l B := by obtain ⟨xs, a, b⟩ := h; exact ⟨xs, e _ _ a, b.mono fun x w p => p.over e⟩
noncomputable def FoAt (H : Hp) : List V → Frs → Prop
  | xs, .nil => xs = []
  | xs, .leaf k pl rest => ∃ t p ys, xs = .ref t :: ys ∧ H t = some (.tup [.str "deed", .int k, .ref p]) ∧ PrsT H p pl ∧ FoAt H ys rest
  | xs, .node c w sub rest => ∃ t p zs ys, xs = .ref t :: ys ∧ H t = some (.tup [.str "sweep", .bl c, .str w, .ref p]) ∧ H p = some (.tup zs) ∧ FoAt H zs sub ∧ FoAt H ys rest
theorem FoAt.over {H H' : Hp} (e : Same H H') : ∀ {f : Frs} {xs : List V}, FoAt H xs f → FoAt H' xs f
  | .nil, xs, h => h
  | .leaf k pl rest, xs, h => by
    obtain ⟨t, p, ys, a, b, c, d⟩ := h
    exact ⟨t, p, ys, a, e _ _ b, c.over e, FoAt.over e d⟩
  | .node c w sub rest, xs, h => by
    obtain ⟨t, p, zs, ys, a, b, c, d, g⟩ := h
    exact ⟨t, p, zs, ys, a, e _ _ b, e _ _ c, FoAt.over e d, FoAt.over e g⟩
noncomputable def FoT (H : Hp) (p : Addr) (f : Frs) : Prop := ∃ xs, H p = some (.tup xs) ∧ FoAt H xs f
theorem FoT.over {H H' : Hp} {p : Addr} {f : Frs} (h : FoT H p f) (e : Same H H') : FoT H' p f := by obtain ⟨xs, a, b⟩ := h; exact ⟨xs, e _ _ a, FoAt.over e b⟩
end L2

set_option Elab.async false
set_option linter.all false
set_option maxRecDepth 100000
set_option maxHeartbeats 4000000
namespace L2
open PySem PySem.Spec PyProof.Rows
noncomputable def TK (H H' : Hp) : Prop := ∀ (b : Addr) (xs : List V), H b = some (.tup xs) → H' b = some (.tup xs)
theorem TK.trans {H H' H'' : Hp} (a : TK H H') (b : TK H' H'') : TK H H'' := fun x xs h => b x xs (a x xs h)
theorem Same.tk {H H' : Hp} (e : Same H H') : TK H H' := fun b xs h => e b _ h
theorem TK.upd {H : Hp} {l : Addr} {xs : List V} {o : HO} (hl : H l = some (.lst xs)) : TK H (upd H l o) := fun b ys hb => by
  rw [upd_ne (ne_of hb hl (by intro z; cases z))]
  exact hb
theorem PrAt.tk {H H' : Hp} {x : V} {w : Int × Int} (h : PrAt H x w) (e : TK H H') : PrAt H' x w := by obtain ⟨t, a, b⟩ := h; exact ⟨t, a, e _ _ b⟩
theorem PrsT.tk {H H' : Hp} {l : Addr} {ps : List (Int × Int)} (h : PrsT H l ps) (e : TK H H') : PrsT H' l ps := by obtain ⟨xs, a, b⟩ := h; exact ⟨xs, e _ _ a, b.mono fun x w p => p.tk e⟩
theorem FoAt.tk {H H' : Hp} (e : TK H H') : ∀ {f : Frs} {xs : List V}, FoAt H xs f → FoAt H' xs f
  | .nil, xs, h => h
  | .leaf k pl rest, xs, h => by
    obtain ⟨t, p, ys, a, b, c, d⟩ := h
    exact ⟨t, p, ys, a, e _ _ b, c.tk e, FoAt.tk e d⟩
  | .node c w sub rest, xs, h => by
    obtain ⟨t, p, zs, ys, a, b, c, d, g⟩ := h
    exact ⟨t, p, zs, ys, a, e _ _ b, e _ _ c, FoAt.tk e d, FoAt.tk e g⟩
theorem FoAt.app {H : Hp} : ∀ {f g : Frs} {xs ys : List V}, FoAt H xs f → FoAt H ys g → FoAt H (xs ++ ys) (Fo.app f g)
  | .nil, g, xs, ys, h, k => by cases (show xs = [] from h); exact k
  | .leaf k pl rest, g, xs, ys, h, hg => by
    obtain ⟨t, p, zs, rfl, b, c, d⟩ := h
    exact ⟨t, p, zs ++ ys, rfl, b, c, FoAt.app d hg⟩
  | .node c w sub rest, g, xs, ys, h, hg => by
    obtain ⟨t, p, zs, us, rfl, b, c, d, k⟩ := h
    exact ⟨t, p, zs, us ++ ys, rfl, b, c, d, FoAt.app k hg⟩
noncomputable def ways3 : List Str := ["up", "down", "any"]
structure From (B : List Bgh) (d n : Nat) : Prop where
  ok : Fo.Ok B
  sh : ∀ i c, B[i + 1]? = some c → d ≤ c.sh
  lo : ∀ b ∈ B, d ≤ b.ways.length
  hi : ∀ b ∈ B, b.ways.length ≤ d + n
  pl : ∀ b ∈ B, b.pl.length ≤ 6
  len : B.length ≤ 6
theorem ok_slice {B : List Bgh} (h : Fo.Ok B) (i j : Nat) : Fo.Ok ((B.drop i).take j) := by
  refine ⟨fun b hb => h.sh b (List.mem_of_mem_drop (List.mem_of_mem_take hb)), fun n b c h1 h2 => ?_⟩
  have l2 := (List.getElem?_eq_some_iff.mp h2).1
  rw [List.length_take] at l2
  rw [List.getElem?_take_of_lt (by omega), List.getElem?_drop] at h1 h2
  exact h.ln (i + n) b c h1 h2
theorem From.group {B : List Bgh} {d n at' m : Nat} {b : Bgh} (h : From B d (n + 1)) (hb : B[at']? = some b) (hd : b.ways.length ≠ d) (hm : at' < m) (hG : ∀ i c, at' < i → i < m → B[i]? = some c → d < c.sh) : From ((B.drop at').take (m - at')) (d + 1) n := by
  have mem : ∀ c ∈ (B.drop at').take (m - at'), c ∈ B := fun c hc => List.mem_of_mem_drop (List.mem_of_mem_take hc)
  refine ⟨ok_slice h.ok _ _, fun i c hc => ?_, fun c hc => ?_, fun c hc => by have := h.hi c (mem c hc); omega, fun c hc => h.pl c (mem c hc), ?_⟩
  · have l2 := (List.getElem?_eq_some_iff.mp hc).1
    rw [List.length_take] at l2
    rw [List.getElem?_take_of_lt (by omega), List.getElem?_drop] at hc
    exact hG (at' + (i + 1)) c (by omega) (by omega) hc
  · obtain ⟨i, hi⟩ := List.mem_iff_getElem?.mp hc
    have l2 := (List.getElem?_eq_some_iff.mp hi).1
    rw [List.length_take] at l2
    rw [List.getElem?_take_of_lt (by omega), List.getElem?_drop] at hi
    by_cases z : i = 0
    · subst z
      rw [Nat.add_zero, hb] at hi
      cases hi
      have := h.lo b (List.mem_of_getElem? hb)
      omega
    · have := hG (at' + i) c (by omega) (by omega) hi
      have := h.ok.sh c (mem c hc)
      omega
  · have := h.len
    rw [List.length_take, List.length_drop]
    omega
noncomputable def spItems (n : Nat) : Sp := fun vs H Q _ => ∃ (l : Addr) (d m : Nat) (B : List Bgh), vs = [.ref l, .int (d : Int)] ∧ BosAt H l B ∧ From B d m ∧ m < n ∧ d + m ≤ 10 ∧ ∀ (r : Addr) (H' : Hp) (f : Frs), Same H H' → FoT H' r f → Fo.Is f B d → Q (.ref r) H'
noncomputable def dep : Frs → Nat
  | .nil => 1
  | .leaf _ _ rest => dep rest
  | .node _ _ sub rest => max (1 + dep sub) (dep rest)
theorem dep_pos : ∀ f : Frs, 1 ≤ dep f
  | .nil => Nat.le_refl _
  | .leaf _ _ rest => dep_pos rest
  | .node _ _ sub rest => by have := dep_pos sub; unfold dep; omega
theorem dep_of : ∀ (f : Frs) (B : List Bgh) (d n : Nat), Fo.Is f B d → (∀ b ∈ B, b.ways.length ≤ d + n) → dep f ≤ n + 1
  | .nil, B, d, n, h, hn => by unfold dep; omega
  | .leaf k pl rest, B, d, n, h, hn => by
    obtain ⟨b, B', rfl, _, _, _, _, h5⟩ := h
    exact dep_of rest B' d n h5 fun b hb => hn b (List.mem_cons_of_mem _ hb)
  | .node c w sub rest, B, d, n, h, hn => by
    obtain ⟨b, G, B', rfl, h1, h2, h3, h4, h5⟩ := h
    have := dep_of rest B' d n h5 fun b hb => hn b (List.mem_append_right _ hb)
    have l := (List.getElem?_eq_some_iff.mp h1).1
    have l2 := hn b (List.mem_append_left _ List.mem_cons_self)
    obtain ⟨n, rfl⟩ : ∃ m, n = m + 1 := ⟨n - 1, by omega⟩
    have := dep_of sub (b :: G) (d + 1) n h4 fun b hb => by have := hn b (List.mem_append_left _ hb); omega
    unfold dep
    omega
noncomputable def ME (t : TE) : Prop := ∀ (σ : St) (H : Hp) (Q Q' : VK), (∀ v H1, Q v H1 → Q' v H1) → t σ H Q → t σ H Q'
noncomputable def MT (t : TT) : Prop := ∀ σ H Q Q', (∀ b H1, Q b H1 → Q' b H1) → t σ H Q → t σ H Q'
noncomputable def MA (t : TA) : Prop := ∀ σ H Q Q', (∀ b H1, Q b H1 → Q' b H1) → t σ H Q → t σ H Q'
noncomputable def MR (r : R2) : Prop := ∀ (x y : V) (H : Hp) (Q Q' : VK), (∀ v H1, Q v H1 → Q' v H1) → r x y H Q → r x y H Q'
noncomputable def MB (r : List V → Hp → VK → Prop) : Prop := ∀ (vs : List V) (H : Hp) (Q Q' : VK), (∀ v H1, Q v H1 → Q' v H1) → r vs H Q → r vs H Q'
theorem ME.var (i : Nat) : ME (tVar i) := fun σ H Q Q' hq ⟨v, h, k⟩ => ⟨v, h, hq _ _ k⟩
theorem ME.c (v : V) : ME (tC v) := fun σ H Q Q' hq h => hq _ _ h
theorem ME.op {r : R2} {a b : TE} (hr : MR r) (ha : ME a) (hb : ME b) : ME (tOp r a b) := fun σ H Q Q' hq h => ha _ _ _ _ (fun x H1 k => hb _ _ _ _ (fun y H2 k => hr _ _ _ _ _ hq k) k) h
theorem ME.cb {r : List V → Hp → VK → Prop} {t : TA} (hr : MB r) (h : MA t) : ME (tCB r t) := fun σ H Q Q' hq k => h _ _ _ _ (fun xs H1 m => hr _ _ _ _ hq m) k
theorem MA.nil : MA tNil := fun σ H Q Q' hq h => hq _ _ h
theorem MA.cons {t : TE} {u : TA} (ht : ME t) (hu : MA u) : MA (tCons t u) := fun σ H Q Q' hq h => ht _ _ _ _ (fun x H1 k => hu _ _ _ _ (fun xs H2 m => hq _ _ m) k) h
theorem MT.test {t : TE} (h : ME t) : MT (tTest t) := fun σ H Q Q' hq k => h _ _ _ _ (fun x H1 ⟨b, e, m⟩ => ⟨b, e, hq _ _ m⟩) k
theorem MT.and {t u : TT} (h : MT t) (g : MT u) : MT (tAnd t u) := fun σ H Q Q' hq k => h _ _ _ _ (fun c H1 m => by
  cases c with
  | true => exact g _ _ _ _ hq m
  | false => exact hq _ _ m) k
theorem MR.i0 (g : Int → Int → V) : MR (rI0 g) := fun x y H Q Q' hq ⟨i, j, a, b, d⟩ => ⟨i, j, a, b, hq _ _ d⟩
theorem MR.eq : MR rEq := fun x y H Q Q' hq ⟨a, b⟩ => ⟨a, hq _ _ b⟩
theorem MR.ixL (K : PySem.W.Frag) : MR (rIxL K) := fun x y H Q Q' hq ⟨p, xs, i, v, a, b, c, d, e⟩ => ⟨p, xs, i, v, a, b, c, d, hq _ _ e⟩
theorem MR.ixT (K : PySem.W.Frag) : MR (rIxT K) := fun x y H Q Q' hq ⟨p, xs, i, v, a, b, c, d, e⟩ => ⟨p, xs, i, v, a, b, c, d, hq _ _ e⟩
theorem MB.len {P R : Hp → Addr → List V → Prop} : MB (fun xs H Q => ∃ p ys, xs = [V.ref p] ∧ (P H p ys ∨ R H p ys) ∧ Q (V.int (ys.length : Int)) H) := fun vs H Q Q' hq ⟨p, ys, a, b, c⟩ => ⟨p, ys, a, b, hq _ _ c⟩
theorem ints_tr {K : PySem.W.Frag} {H : Hp} : ∀ L : List Int, TrsIs K H (L.map V.int) (L.map fun i => Tr.v (.int i))
  | [] => .nil
  | x :: L => .cons (.flat rfl) (ints_tr L)
theorem ints_dep : ∀ L : List Int, depTs (L.map fun i => Tr.v (.int i)) = 0
  | [] => rfl
  | x :: L => by rw [List.map_cons, depTs, ints_dep L]; rfl
theorem is_nil : ∀ {f : Frs} {d : Nat}, Fo.Is f [] d → f = .nil
  | .nil, d, h => rfl
  | .leaf k pl r, d, h => by obtain ⟨b, B', e, _⟩ := h; cases e
  | .node c w s r, d, h => by obtain ⟨b, G, B', e, _⟩ := h; simp at e
theorem is_app {f g : Frs} {B C : List Bgh} {d : Nat} (hf : Fo.Is f B d) (hg : Fo.Is g C d) (hh : B ≠ [] → Fo.HeadSh C d) : Fo.Is (Fo.app f g) (B ++ C) d := by
  by_cases c : B = []
  · subst c
    rw [is_nil hf]
    exact hg
  · exact Fo.Is.app f g B C d hf hg (hh c)
theorem take_slice {α : Type} (B : List α) {i m : Nat} (h : i ≤ m) : B.take i ++ (B.drop i).take (m - i) = B.take m := by
  have : B.take i = (B.take m).take i := by rw [List.take_take, Nat.min_eq_left h]
  rw [← List.drop_take, this, List.take_append_drop]
theorem seq_asgC {v : V} {i : Nat} {b : TS} {D : Ends} {σ : St} {H : Hp} (h : b D (σ.set i (some v)) H) : tSeq (tAsg (tC v) (gName i)) b D σ H := h
end L2

set_option Elab.async false
set_option linter.all false
set_option maxRecDepth 100000
set_option maxHeartbeats 4000000
namespace EX
open PySem PySem.Spec PyProof.Rows
theorem ExcAt.one {h : Heap} {a : Addr} {C C' : Addr} {d d' : Option Addr} {t t' : Value} (x : ExcAt h a (.ref C) d t) (y : ExcAt h a (.ref C') d' t') : C' = C ∧ d' = d := by
  obtain ⟨oe, vs, h0, h1, h2, _⟩ := x
  obtain ⟨oe', vs', g0, g1, g2, _⟩ := y
  rw [h0] at g0
  cases g0
  exact ⟨Value.ref.inj (g1.symm.trans h1), g2.symm.trans h2⟩
theorem But.then {fs ch : List Addr} {h h1 h2 : Heap} {T : Addr} (a : But fs ch h h1) (hT : h.objs.size ≤ T) (b : But [] [T] h1 h2) : But fs ch h h2 := fun x o e hc => by
  obtain ⟨p, sl, q⟩ := a x o e hc
  have nT : x ∉ [T] := fun z => absurd (Heap.lt_size e) (by rw [List.mem_singleton.mp z]; exact Nat.not_lt.mpr hT)
  exact ⟨fun hf => (b x o (p hf) nT).1 (by simp), (b x _ q nT).2⟩
theorem ExcAt.there {h : Heap} {a : Addr} {C : Value} {d : Option Addr} {t : Value} (x : ExcAt h a C d t) : ∃ u, h.get? a = some u := let ⟨oe, _, e, _⟩ := x; ⟨oe, e⟩
end EX
namespace L2
open PySem PySem.Spec PyProof.Rows EX

noncomputable def ExcNew (h : Heap) (a : Addr) (C : Value) (d : Option Addr) : Prop := ∃ oe vs t0, h.get? a = some oe ∧ oe.cls = C ∧ oe.dict = d ∧ oe.data = .fields vs ∧ vs[0]? = some (.ref t0) ∧ vs[1]? = some .none
theorem ExcNew.at {h : Heap} {a : Addr} {C : Value} {d : Option Addr} (x : ExcNew h a C d) : ExcAt h a C d .none := let ⟨oe, vs, _, h0, h1, h2, h3, _, h5⟩ := x; ⟨oe, vs, h0, h1, h2, h3, h5⟩
noncomputable def exN (a C : Addr) (d : Option Addr) : HO := .ext fun h => ExcNew h a (.ref C) d
noncomputable def exC (a C : Addr) (d : Option Addr) : HO := .ext fun h => ∃ tb, ExcAt h a (.ref C) d tb
section
variable {P : Program} {w : World} {H : Hp} {h : Heap} {a C : Addr} {d : Option Addr}
theorem exN_ok (x : ExcNew h a (.ref C) d) : ObjOk P w H h a (exN a C d) := by
  obtain ⟨oe, vs, t0, h0, h1⟩ := x
  exact ⟨⟨oe, vs, t0, h0, h1⟩, ⟨oe, h0⟩, fun g1 g2 ⟨oe', vs', t0', z0, z⟩ k => ⟨oe', vs', t0', k _ z0, z⟩⟩
theorem exC_ok {tb : Value} (x : ExcAt h a (.ref C) d tb) : ObjOk P w H h a (exC a C d) := by
  obtain ⟨oe, vs, h0, h1⟩ := x
  exact ⟨⟨tb, oe, vs, h0, h1⟩, ⟨oe, h0⟩, fun g1 g2 ⟨tb', oe', vs', z0, z⟩ k => ⟨tb', oe', vs', k _ z0, z⟩⟩
theorem exN_of (x : HOk P w H h) (e : H a = some (exN a C d)) : ExcNew h a (.ref C) d := (show ObjOk P w H h a (exN a C d) from x a _ e).1
theorem exC_of (x : HOk P w H h) (e : H a = some (exC a C d)) : ∃ tb, ExcAt h a (.ref C) d tb := (show ObjOk P w H h a (exC a C d) from x a _ e).1
end
theorem upd_self {H : Hp} {a : Addr} {o : HO} (h : H a = some o) : upd H a o = H := by
  funext b
  unfold upd
  split
  · rename_i e; rw [e, h]
  · rfl

noncomputable def CX1 (P : Program) (w : World) : CXT := fun outer H s E e s' => ∃ (a C : Addr) (d : Option Addr) (T : Addr) (H' : Hp), e = .ref a ∧ s'.os = s.os ∧ AllBare s'.gens ∧ Un (frs outer) [] H H' s.heap s'.heap ∧ HOk P w H' s'.heap ∧ H' a = some (exC a C d) ∧
  ExcAt s'.heap a (.ref C) d (.ref T) ∧ TbAt s'.heap T .none ∧ T ≠ a ∧ H' T = none ∧ s.heap.objs.size ≤ T ∧ E (.ref a) none H'

section
variable {X : Cx} {pins : List (Addr × Obj)} {σ : St} {H : Hp} {s : Shared} {a C : Addr} {d : Option Addr}
noncomputable def TOk (X : Cx) (pins : List (Addr × Obj)) (H : Hp) (T : Addr) : Prop := H T = none ∧ X.s₀.heap.objs.size ≤ T ∧ T ≠ X.env.locals ∧ (∀ x c, X.env.cells.lookup x = some c → c ≠ T) ∧ ∀ p ∈ X.pn ++ pins, p.1 ≠ T
theorem Inv.tok_new (I : Inv X pins σ H s) {T : Addr} (hT : s.heap.objs.size ≤ T) : TOk X pins H T :=
  ⟨I.hok.fresh hT, Nat.le_trans I.sz hT, Nat.ne_of_gt (Nat.lt_of_lt_of_le I.lt hT), fun x c e z => by
    obtain ⟨v, o, ho, _⟩ := I.cell x c e
    exact absurd (Heap.lt_size ho) (by rw [z]; exact Nat.not_lt.mpr hT), fun p hp z => by
    have := (I.pin p hp).1
    exact absurd (Heap.lt_size this) (by rw [z]; exact Nat.not_lt.mpr hT)⟩
theorem Inv.fly {ch : List Addr} {h' : Heap} {o : HO} {φ : Heap → Prop} (I : Inv X pins σ H s) (hb : But (frs X.stack) (a :: ch) s.heap h') (ha : H a = some (.ext φ)) (new : ObjOk X.prog X.w (upd H a o) h' a o) (ho : ∃ u, h'.get? a = some u)
    (hch : ∀ b ∈ ch, TOk X pins H b) : Inv X pins σ (upd H a o) { s with heap := h' } := by
  have nea : ∀ b, H b = none → b ≠ a := fun b n z => by rw [z, ha] at n; cases n
  have nof : ∀ b u, H b = some u → (∀ ψ, u ≠ .ext ψ) → b ≠ a := fun b u e n z => by rw [z, ha] at e; cases e; exact n φ rfl
  refine I.call' (s' := { s with heap := h' }) (ch := ch) rfl ⟨fun b ob q n hf hc => ?_, fun b ob q n hf hc => ?_, fun b ob q n hc => ?_, fun b ob q hc => ?_, fun b xs q => ?_, fun b ob u q => ?_, fun b ps q => ⟨#[], ?_⟩⟩ (fun b u e => ?_) I.bare fun b hm => ?_
  · exact (hb b ob q fun z => (List.mem_cons.mp z).elim (nea b n) hc).1 hf
  · exact (hb b ob q fun z => (List.mem_cons.mp z).elim (nea b n) hc).2
  · rw [upd_ne (nea b n)]; exact n
  · by_cases z : b = a
    · rw [z]; exact ho
    · obtain ⟨_, sl, q'⟩ := hb b ob q fun y => (List.mem_cons.mp y).elim z hc
      exact ⟨_, q'⟩
  · rw [upd_ne (nof b _ q fun ψ y => by cases y)]; exact q
  · rw [upd_ne (nof b _ q fun ψ y => by cases y)]; exact q
  · rw [upd_ne (nof b _ q fun ψ y => by cases y), q]; simp
  · by_cases z : b = a
    · subst z; rw [upd_same] at e; cases e; exact new
    · rw [upd_ne z] at e
      have kp : ∀ c v, H c ≠ none → c ≠ a → s.heap.get? c = some v → h'.get? c = some v := fun c v n1 n2 q =>
        (hb c v q fun y => (List.mem_cons.mp y).elim n2 fun m => n1 (hch c m).1).1 fun m => n1 (I.stkFree c m)
      refine (I.hok b u e).stay (fun c v hc q => ?_) (fun c q => ?_) fun c xs q => ?_
      · rcases hc with rfl | hc
        · exact kp c v (by rw [e]; simp) z q
        · exact kp c v (by rw [hc]; simp) (nof c _ hc fun ψ y => by cases y) q
      · rw [upd_ne (nof c _ q fun ψ y => by cases y)]; exact q
      · rw [upd_ne (nof c _ q fun ψ y => by cases y)]; exact q
  · obtain ⟨_, h2, h3, h4, h5⟩ := hch b hm
    exact ⟨.inr h2, h3, h4, h5⟩
end

section
variable {X : Cx}
noncomputable def Raises (X : Cx) (Ek : St → XK) : Prop := ∀ (pins : List (Addr × Obj)) (σ : St) (H : Hp) (s : Shared) (a C : Addr) (d : Option Addr), Inv X pins σ H s → H a = some (exN a C d) → Ek σ (.ref a) none (upd H a (exC a C d)) → X.xe (.ref a) s
noncomputable def PassesK (X : Cx) (Ek : St → XK) : Prop := ∀ (pins : List (Addr × Obj)) (σ : St) (H : Hp) (s : Shared) (e : Value) (s' : Shared), Inv X pins σ H s → CX1 X.prog X.w X.stack H s (Ek σ) e s' → X.xe e s'
variable {P : Program} {w : World} {K : PySem.W.Frag} {mg : Str → Option Value} {base : Heap} {N : List Str} {qual : Str} {scope : Scope} {f : Addr} {cd : Value} {A : Around} {outer : List Env} {s₀ : Shared} {H₀ : Hp} {E : XK}
theorem raises_def : Raises (cxOf (CX1 P w) P w K mg base N qual scope f cd A outer s₀ H₀ E) (fun _ => E) := by
  intro pins σ H s a C d I ha hE
  have x := exN_of I.hok ha
  show wpAny _ _ (leaving _ (.ref a)) _ _ s
  unfold leaving
  refine wpAny_bind (note_first (base := base) (L := s₀.heap.objs.size) I.ok.frames I.stack rfl x.at fun h1 T hT b1 x1 t1 ne => ?_)
  refine flight_none (s := { s with heap := h1 }) x1 t1 ne fun h2 b2 x2 t2 => ?_
  have J := I.fly (o := exC a C d) (ch := []) (h' := h2) (b1.then hT b2) ha (exC_ok x2) x2.there (fun b z => absurd z (by simp))
  exact ⟨a, C, d, T, _, rfl, J.os, J.bare, J.base, J.hok, upd_same, x2, t2, ne, by rw [upd_ne ne]; exact I.hok.fresh hT, Nat.le_trans I.sz hT, hE⟩
theorem passes_def : PassesK (cxOf (CX1 P w) P w K mg base N qual scope f cd A outer s₀ H₀ E) (fun _ => E) := by
  intro pins σ H s e s' I hc
  obtain ⟨a, C, d, T0, H', rfl, os, bare, un, hok, ha, x0, t0, ne0, hT0, sT0, hE⟩ := hc
  have J := I.call' (ch := []) os un hok bare (fun b z => absurd z (by simp))
  have tk := I.tok_new sT0
  show wpAny _ _ (leaving _ (.ref a)) _ _ s'
  unfold leaving
  refine wpAny_bind (note_next (base := base) (L := s₀.heap.objs.size) J.ok.frames J.stack rfl x0 t0 ne0 fun h1 T hT b1 x1 t1 ne => ?_)
  refine flight_none (s := { s' with heap := h1 }) x1 t1 ne fun h2 b2 x2 t2 => ?_
  have J2 := J.fly (o := exC a C d) (ch := [T0]) (h' := h2) (b1.then hT b2) ha (exC_ok x2) x2.there (fun b z => by rw [List.mem_singleton.mp z]; exact ⟨hT0, tk.2⟩)
  rw [upd_self ha] at J2
  exact ⟨a, C, d, T, _, rfl, J2.os, J2.bare, J2.base, J2.hok, ha, x2, t2, ne, J.hok.fresh hT, Nat.le_trans J.sz hT, hE⟩
end

section
variable {P : Program} {w : World} {K : PySem.W.Frag} {mg : Str → Option Value} {base : Heap}
theorem Fun.okX {x qual : Str} {st : Stmt} {f : Addr} {fd : FuncData} {N ps : List Str} {k : Nat} {sp : Sp} (F : Fun K x qual st f fd) (S : FnScope N ps (defScope st)) (len : ∀ vs H Q E, sp vs H Q E → vs.length = ps.length)
    (hbody : ∀ (cdv : Value) (A : Around) (outer : List Env) (s : Shared) (H : Hp) (vs : List V) (Q : VK) (E : XK), Room k (A.deeper (envOfC qual (defScope st) s.heap.objs.size f cdv)) → sp vs H Q E →
      ∃ t, PSs (cxOf (CX1 P w) P w K mg base N qual (defScope st) f cdv A outer s H E) (defBody st) t ∧ t { nx := fun _ H' => Q .non H', rt := Q } (start N vs) H) : FnOk P w K mg base (CX1 P w) (k + 1) f fd ps sp := by
  obtain ⟨oc, od, kV, doc, pm, an, cdv, ct, osl, rfl, lk, hcd⟩ := F.ex
  exact fn_of lk hcd S len fun A outer s H vs Q E hr hsp => hbody cdv A outer s H vs Q E hr hsp
end

section
variable {X : Cx} {Ek : St → XK} {e : Expr} {te : TE} {pos : Pos}
noncomputable def tRaise (K : PySem.W.Frag) (Ek : St → XK) (te : TE) : TS := fun _ σ H => te σ H fun v H1 => ∃ a C d, v = .ref a ∧ H1 a = some (exN a C d) ∧ XC K C ∧ Ek σ (.ref a) none (upd H1 a (exC a C d))
theorem ps_raise (hc : X.calm = true) (hr : Raises X Ek) (he : PE X e te) : PS X (.Raise (some e) none pos) (tRaise X.K Ek te) := by
  intro pins s σ H D I h
  refine exec_raise (I.ok.hd hc) (thn (he pins s σ H _ I h) fun u s1 q => ?_)
  obtain ⟨v, H1, I1, r, a, C, d, rfl, ha, xc, q⟩ := q
  obtain rfl : u = .ref a := r
  obtain ⟨N, bm, ct⟩ := xc.ct
  have c1 := ct _ I1.kIn
  obtain ⟨_, _, _, _, _, _, _, _, _, _, _, _, _, _, _, T⟩ := id c1
  exact ⟨a, d, C, bm, rfl, c1.at, T.hasType (by decide), (exN_of I1.hok ha).at, hr pins σ H1 s1 a C d I1 ha q⟩
end
end L2

set_option Elab.async false
set_option linter.all false
set_option maxRecDepth 100000
set_option maxHeartbeats 4000000
namespace EX
open PySem PySem.Spec PyProof.Rows
theorem ClsT.base {h : Heap} {C N : Addr} {bm : List Value} (x : ClsT h C N bm) : bm.contains (.type "BaseException") = true := by
  obtain ⟨_, _, _, _, _, _, _, _, _, _, _, _, _, _, _, T⟩ := x
  exact T.hasType (by decide)
end EX
namespace L2
open PySem PySem.Spec PyProof.Rows EX

noncomputable abbrev Cx.tried (X : Cx) (pn : List (Addr × Obj)) (xe : Value → Shared → Prop) : Cx := { X with pn := pn, xe := xe }
noncomputable abbrev Cx.held (X : Cx) (a : Addr) : Cx := { X with A := X.A.mark (some (.ref a)), calm := false, xe := fun _ _ => False }
section
variable {X : Cx} {pins pins' : List (Addr × Obj)} {σ : St} {H : Hp} {s : Shared} {a : Addr} {xe : Value → Shared → Prop} {pn : List (Addr × Obj)}
theorem Cx.Ok.tried (ok : X.Ok) : (X.tried pn xe).Ok := ⟨ok.mod, ok.kind, ok.glob, ok.blt, ok.above, ok.inj, ok.has, ok.cab, ok.hd, ok.frames, ok.stk, ok.exf, ok.bs, ok.bsz, ok.noex, ok.exfs, ok.funs, ok.frf⟩
theorem Cx.Ok.untried (ok : (X.tried pn xe).Ok) : X.Ok := ⟨ok.mod, ok.kind, ok.glob, ok.blt, ok.above, ok.inj, ok.has, ok.cab, ok.hd, ok.frames, ok.stk, ok.exf, ok.bs, ok.bsz, ok.noex, ok.exfs, ok.funs, ok.frf⟩
theorem Cx.Ok.held (ok : X.Ok) : (X.held a).Ok := ⟨ok.mod, ok.kind, ok.glob, ok.blt, ok.above, ok.inj, ok.has, ok.cab, (fun z => nomatch z), ok.frames, ok.stk, ok.exf, ok.bs, ok.bsz, ok.noex, ok.exfs, ok.funs, ok.frf⟩
theorem Inv.tried (I : Inv X pins σ H s) : Inv (X.tried (X.pn ++ pins) xe) [] σ H s := ⟨I.ok.tried, I.os, I.bare, I.base, I.loc, I.cell, I.free, I.freeC, fun p hp => I.pin p (by simpa using hp), I.hok, I.len⟩
theorem Inv.untried (I : Inv (X.tried (X.pn ++ pins) xe) pins' σ H s) : Inv X pins σ H s := ⟨I.ok.untried, I.os, I.bare, I.base, I.loc, I.cell, I.free, I.freeC, fun p hp => I.pin p (List.mem_append_left _ hp), I.hok, I.len⟩
theorem Inv.held (I : Inv X pins σ H s) : Inv (X.held a) pins σ H s := ⟨I.ok.held, I.os, I.bare, I.base, I.loc, I.cell, I.free, I.freeC, I.pin, I.hok, I.len⟩
theorem Inv.unheld (ok : X.Ok) (I : Inv (X.held a) pins σ H s) : Inv X pins σ H s := ⟨ok, I.os, I.bare, I.base, I.loc, I.cell, I.free, I.freeC, I.pin, I.hok, I.len⟩
theorem SP.untried {D : Ends} {f : Flow} {s' : Shared} (h : SP (X.tried (X.pn ++ pins) xe) pins' D f s') : SP X pins D f s' := by
  cases f with
  | next => obtain ⟨σ', H', I, q⟩ := h; exact ⟨σ', H', I.untried, q⟩
  | brk => obtain ⟨σ', H', I, q⟩ := h; exact ⟨σ', H', I.untried, q⟩
  | cont => obtain ⟨σ', H', I, q⟩ := h; exact ⟨σ', H', I.untried, q⟩
  | ret u => obtain ⟨v, σ', H', I, r, q⟩ := h; exact ⟨v, σ', H', I.untried, r, q⟩
theorem SP.unheld (ok : X.Ok) {D : Ends} {f : Flow} {s' : Shared} (h : SP (X.held a) pins D f s') : SP X pins D f s' := by
  cases f with
  | next => obtain ⟨σ', H', I, q⟩ := h; exact ⟨σ', H', I.unheld ok, q⟩
  | brk => obtain ⟨σ', H', I, q⟩ := h; exact ⟨σ', H', I.unheld ok, q⟩
  | cont => obtain ⟨σ', H', I, q⟩ := h; exact ⟨σ', H', I.unheld ok, q⟩
  | ret u => obtain ⟨v, σ', H', I, r, q⟩ := h; exact ⟨v, σ', H', I.unheld ok, r, q⟩
end

noncomputable def PH (X : Cx) (hs : List ExceptHandler) (th : Addr → Addr → Option Addr → TS) : Prop :=
  ∀ (pins : List (Addr × Obj)) (s : Shared) (σ : St) (H : Hp) (D : Ends) (a C : Addr) (d : Option Addr) (T : Addr), Inv X pins σ H s → H a = some (exC a C d) → ExcAt s.heap a (.ref C) d (.ref T) → TbAt s.heap T .none → T ≠ a → TOk X pins H T →
    th a C d D σ H → wpAny (model X.prog X.w) X.A (handleBy (.ref a) X.env hs) (SP X pins D) X.xe s
noncomputable def tHand (K : PySem.W.Frag) (Dc : Addr) (ts : Addr → TS) (th : Addr → Addr → Option Addr → TS) : Addr → Addr → Option Addr → TS := fun a C d D σ H =>
  ∃ N bm b, (∀ h, K.In h → ClsT h C N bm) ∧ (Value.ref C :: bm).contains (.ref Dc) = b ∧ if b = true then ts a D σ H else th a C d D σ H
section
variable {X : Cx} {x n : Str} {np pos : Pos} {Dc : Addr} {b₀ : Stmt} {suite : List Stmt} {rest : List ExceptHandler} {ts : Addr → TS} {th : Addr → Addr → Option Addr → TS}

theorem ph_cons (hg : Gl X x) (hm : X.mg x = some (.ref Dc)) (xd : XC X.K Dc) (hs : ∀ a, PSs (X.held a) (b₀ :: suite) (ts a)) (hr : PH X rest th) (hdb : (x == ("__debug__" : Str)) = false := by decide) :
    PH X (.ExceptHandler (some (.Name x np)) none (b₀ :: suite) pos :: rest) (tHand X.K Dc ts th) := by
  intro pins s σ H D a C d T I ha hx ht hne hT h
  obtain ⟨N, bm, b, ct, hb, h⟩ := h
  obtain ⟨N', bd, cd⟩ := xd.ct
  have I' : Inv (X.held a) pins σ H s := I.held
  refine wpAny_handleBy_cons (codeAny_handlers_test (ld_glob I' hg hm ?_ hdb)) (by intro q; cases q)
  obtain ⟨hp, g, dr, t, os⟩ := s
  refine matches_own (ct hp I.kIn).at (cd hp I.kIn).at (cd hp I.kIn).base hx ?_
  rw [hb]
  cases b with
  | false =>
    rw [if_neg (by simp)] at h
    exact hr pins _ σ H D a C d T I ha hx ht hne hT h
  | true =>
    rw [if_pos rfl] at h
    refine codeAny_handlers_suite (flight_none hx ht hne fun h2 b2 x2 t2 => ?_)
    have J := I.fly (o := exC a C d) (ch := [T]) (h' := h2) (b2.mono (fun b z => by cases z) fun b z => List.mem_cons_of_mem _ z) ha (exC_ok x2) x2.there (fun b z => by rw [List.mem_singleton.mp z]; exact hT)
    rw [upd_self ha] at J
    exact wpAny_mono (hs a pins _ σ H D J.held h) (fun f s2 q => q.unheld I.ok) fun _ _ z => z.elim
end

noncomputable def tTry (tb : (St → XK) → TS) (th : Addr → Addr → Option Addr → TS) : TS := fun D σ H => tb (fun σ' v _ H' => ∃ a C d, v = .ref a ∧ H' a = some (exC a C d) ∧ th a C d D σ' H') D σ H
theorem ps_try {X : Cx} {body : List Stmt} {h₀ : ExceptHandler} {hs : List ExceptHandler} {pos : Pos} {tb : (St → XK) → TS} {th : Addr → Addr → Option Addr → TS}
    (hb : ∀ pn xe Ek, PassesK (X.tried pn xe) Ek → Raises (X.tried pn xe) Ek → PSs (X.tried pn xe) body (tb Ek)) (hh : PH X (h₀ :: hs) th) (hst : X.stack = X.env :: X.outer := by rfl) (hfr : X.env.frame = some X.env.locals := by rfl) :
    PS X (.Try body (h₀ :: hs) [] [] pos) (tTry tb th) := by
  intro pins s σ H D I h
  rw [arm_exec_Try]
  refine wpAny_bind (wpAny_standAt (wpAny_tryStmt_except ?_))
  refine wpAny_mono (hb (X.pn ++ pins) (fun e s₁ => wpAny (model X.prog X.w) X.A (noteFrame e X.env) (fun _ s₂ => wpAny (model X.prog X.w) X.A (setFlight e none) (fun _ s₃ => wpAny (model X.prog X.w) X.A (handleBy e X.env (h₀ :: hs)) (SP X pins D) X.xe s₃) X.xe s₂) X.xe s₁)
    (fun σ' v _ H' => ∃ a C d, v = .ref a ∧ H' a = some (exC a C d) ∧ th a C d D σ' H') ?_ ?_ [] s σ H D I.tried h) (fun f s1 q => ?_) (fun _ _ z => z)
  · intro pins' σ' H1 s1 e s' I1 hc
    obtain ⟨a, C, d, T0, H', rfl, os, bare, un, hok, ha, x0, t0, ne0, hT0, sT0, a', C', d', ea, ha', hth⟩ := hc
    obtain rfl : a = a' := Value.ref.inj ea
    have J1 : Inv X pins σ' H1 s1 := I1.untried
    have J := J1.call' (ch := []) os un hok bare (fun b z => absurd z (by simp))
    obtain ⟨tb', y⟩ := exC_of J.hok ha'
    obtain ⟨rfl, rfl⟩ := ExcAt.one x0 y
    have tk := J1.tok_new sT0
    refine note_next (base := X.base) (L := X.env.locals) (env := X.env) (outer := X.outer) (by rw [← hst]; exact J.ok.frames) (by rw [← hst]; exact J.stack) hfr x0 t0 ne0 fun h1 T hT b1 x1 t1 ne => ?_
    refine flight_none (s := { s' with heap := h1 }) x1 t1 ne fun h2 b2 x2 t2 => ?_
    rw [← hst] at b1
    have J2 := J.fly (o := exC a C' d') (ch := [T0]) (h' := h2) (b1.then hT b2) ha (exC_ok x2) x2.there (fun b z => by rw [List.mem_singleton.mp z]; exact ⟨hT0, tk.2⟩)
    rw [upd_self ha] at J2
    exact hh pins _ σ' H' D a C' d' T J2 ha x2 t2 ne (J.tok_new hT) hth
  · intro pins' σ' H1 s1 a C d I1 ha hE
    obtain ⟨a', C', d', ea, ha', hth⟩ := hE
    obtain rfl : a = a' := Value.ref.inj ea
    have J : Inv X pins σ' H1 s1 := I1.untried
    have x := exN_of J.hok ha
    refine note_first (base := X.base) (L := X.env.locals) (env := X.env) (outer := X.outer) (by rw [← hst]; exact J.ok.frames) (by rw [← hst]; exact J.stack) hfr x.at fun h1 T hT b1 x1 t1 ne => ?_
    refine flight_none (s := { s1 with heap := h1 }) x1 t1 ne fun h2 b2 x2 t2 => ?_
    rw [← hst] at b1
    have J2 := J.fly (o := exC a C d) (ch := []) (h' := h2) (b1.then hT b2) ha (exC_ok x2) x2.there (fun b z => absurd z (by simp))
    obtain ⟨tb', y⟩ := exC_of J2.hok ha'
    obtain ⟨rfl, rfl⟩ := ExcAt.one x2 y
    have tk := J.tok_new hT
    exact hh pins _ σ' _ D a C' d' T J2 ha' x2 t2 ne ⟨by rw [upd_ne ne]; exact tk.1, tk.2⟩ hth
  · have q := q.untried
    cases f with
    | next => exact wpAny_execs_nil q
    | _ => exact q

section
variable {X : Cx} {k : Nat} {f C : Addr} {fd : FuncData} {ps : List Str} {sp : Sp} {dvs : List V} {ds : List Value} {Ek : St → XK} {x : Str} {p pos : Pos} {e : Expr} {es : List Expr} {t : TA}
noncomputable def tCallX (sp : Sp) (dvs : List V) (Ek : St → XK) (t : TA) : TE := fun σ H Q => t σ H fun vs H1 => sp (vs ++ dvs) H1 Q (Ek σ)
theorem pe_callX (F : FnOk X.prog X.w X.K X.mg X.base (CX1 X.prog X.w) k f fd ps sp) (hr : Room k X.A) (hg : Gl X x) (hm : X.mg x = some (.ref f)) (hk : PySem.W.keepIn X.K (.ref f) = true) (hb : Binds X.K fd ps ds) (hd : Vals dvs ds) (hx : PassesK X Ek)
    (ha : PA X (e :: es) t) (hdb : (x == ("__debug__" : Str)) = false := by decide) (he : starEach (e :: es) X.env = (false, eval e X.env) :: starEach es X.env := by rfl) (hpl : (backTo pos (starEach es X.env)).any (·.1) = false := by rfl) :
    PE X (.Call (.Name x p) (e :: es) [] pos) (tCallX sp dvs Ek t) := by
  intro pins s σ H Q I h
  refine wpAny_Call_Name_kw (ld_glob I hg hm ?_ hdb)
  refine PySem.W.callWith_K (h₀ := X.base) I.ok.mod.kin hk (thn (ha pos pins s σ H _ I h) fun us s1 ⟨vs, H1, I1, r, q⟩ => ⟨I1.kIn, ?_⟩) he hpl
  have r2 : Vals (vs ++ dvs) (us ++ ds) := r.append hd
  have hl : (us ++ ds).length = ps.length := by rw [← r2.length]; exact F.len _ _ _ _ q
  refine wpAny_call (codeAny_mono (F.run X.A X.stack s1 H1 ⟨us, []⟩ (us ++ ds) (vs ++ dvs) Q (Ek σ) hr I1.env0 (hb s1 us I1.kIn hl) r2 q) fun r s' hq => ?_)
  cases r with
  | error e => exact hx pins σ H1 s1 e s' I1 hq
  | ok fl =>
    cases fl with
    | ret u => exact I1.after hq
    | next => exact False.elim hq
    | brk => exact False.elim hq
    | cont => exact False.elim hq
end
end L2

set_option Elab.async false
set_option linter.all false
set_option maxRecDepth 100000
set_option maxHeartbeats 4000000
namespace EX
open PySem PySem.Spec PySem.Calls PyProof.Rows PySem.W
section
variable {prog : Program} {w : World} {A : Around} {h : Heap} {g : Array GenState} {d : Drawn} {t : Nat} {os : OsState} {R : Result → Shared → Prop} {C N : Addr} {bm : List Value}
theorem xtype_call0 {E : Value → Shared → Prop} {Q : PySem.Fin → Shared → Prop} (ct : ClsT h C N bm) (hL : Looks (model prog w) h (typeLookup (.ref C) "__init__") (some (.builtin "ValueError.__init__")))
    (hq : ∀ h', (∀ b o, h.get? b = some o → h'.get? b = some o) → h'.get? (h.objs.size + 1) = some (excObj C (h.objs.size + 2)) → Q (.done (.ret (.ref (h.objs.size + 1)))) ⟨h', g, d, t, os⟩) :
    wpAny (model prog w) A (Builtin.«type.__call__» ⟨[.ref C], []⟩) Q E ⟨h, g, d, t, os⟩ := by
  obtain ⟨nm, q, bs, hdct, sn, sub, ab, col, dd, k0, k1, k2, k3, k5, hC, T⟩ := ct
  repeat (first | with_reducible refine wpAny_loadPart_at hC ?_ | with_reducible refine wpAny_madeBy_exc hC ?_ | wp_step)
  refine codeAny_call_builtin_code (Code.quiet_builtin _ F.excBase_ValueError.quiet) (wpAny_check_new_subT F.excBase_ValueError T hC ?_)
  refine codeAny_exc_new_subT F.excBase_ValueError T hC ?_ (Nat.zero_le _)
  show wpAny _ _ _ _ _ _
  have k : ∀ b o, h.get? b = some o → ((h.push (tupObj [])).push (excObj C h.objs.size)).get? b = some o := fun b o e => Heap.get?_push_of_some _ (Heap.get?_push_of_some _ e)
  have hC₁ := k _ _ hC
  have T₁ := T.keeps k
  have hget : ((h.push (tupObj [])).push (excObj C h.objs.size)).get? (h.objs.size + 1) = some (excObj C h.objs.size) := by heap_get
  have hcC : (Value.ref C :: bm).contains (.ref C) = true := by simp
  unfold isInstance
  repeat (first | with_reducible refine wpAny_loadPart_at hget ?_ | (with_reducible refine wpAny_isSubtype_exc hC₁ ?_; rw [hcC]) | wp_step)
  show wpAny _ _ (typeLookup (.ref C) _) _ _ _
  refine (hL.keeps k).at ?_
  refine wpAny_holding (wpAny_bind (wpAny_of_eq (F.excBase_ValueError.init.bind _) ?_))
  refine wpAny_bind (wpAny_call (codeAny_call_builtin F.excBase_ValueError.init.plain F.excBase_ValueError.initEntry (wpAny_check_init_subT F.excBase_ValueError T₁ hC₁ hget rfl ?_)))
  wp_walk
  refine hq _ (fun b o hb => ?_) ?_
  · rw [Heap.get?_update_other _ _ (Nat.ne_of_gt (Nat.lt_succ_of_lt (Heap.lt_size hb)))]
    exact Heap.get?_push_of_some _ (Heap.get?_push_of_some _ (Heap.get?_push_of_some _ hb))
  · rw [Heap.get?_update_self _ (Heap.get?_push_of_some _ hget) rfl]
    simp only [Heap.size_push]
    rfl
theorem xmake0 (ct : ClsT h C N bm) (hL : Looks (model prog w) h (typeLookup (.ref C) "__init__") (some (.builtin "ValueError.__init__")))
    (hq : ∀ h', (∀ b o, h.get? b = some o → h'.get? b = some o) → h'.get? (h.objs.size + 1) = some (excObj C (h.objs.size + 2)) → R (.ok (.ret (.ref (h.objs.size + 1)))) ⟨h', g, d, t, os⟩) :
    codeAny (model prog w) A (.call (.ref C) ⟨[], []⟩) R ⟨h, g, d, t, os⟩ := by
  have f1 := tc_lookup
  have f2 := tc_bind (.ref C)
  obtain ⟨nm, q, bs, hdct, sn, sub, ab, col, dd, k0, k1, k2, k3, k5, hC, T⟩ := id ct
  have hT : (⟨h, g, d, t, os⟩ : Shared).TypeIs (.ref C) "type" := ⟨_, hC, rfl⟩
  refine codeAny_of_tree ?_
  show wpAny _ _ (callAny (.ref C) _) _ _ _
  repeat (any_goals (first | assumption | with_reducible refine wpAny_loadPart_at hC ?_ | wp_step))
  refine ⟨rfl, ?_⟩
  exact codeAny_call_builtin_at (Code.quiet_builtin _ (by decide +kernel)) entry_typeCall (wpAny_check_type_call_sub hC (xtype_call0 ct hL hq))
end
end EX
namespace L2
open PySem PySem.Spec PyProof.Rows EX

section
variable {X : Cx} {pins : List (Addr × Obj)} {σ : St} {H : Hp} {s : Shared} {M : Model} {A : Around} {E : Value → Shared → Prop}
end

section
variable {X : Cx} {x n : Str} {np pos : Pos} {Dc : Addr} {b₀ : Stmt} {suite : List Stmt} {rest : List ExceptHandler} {ts : Addr → TS} {th : Addr → Addr → Option Addr → TS} {i : Nat}
end

section
variable {X : Cx} {k : Nat} {f C : Addr} {fd : FuncData} {ps : List Str} {sp : Sp} {CX : CXT} {E : XK} {x : Str} {p pos : Pos} {e : Expr} {es : List Expr} {t : TA}
structure XMk0 (K : PySem.W.Frag) (C : Addr) : Prop where
  xc : XC K C
  init : PySem.W.findIn K (.ref C) "__init__" = some (some (.builtin "ValueError.__init__"))
  kp : PySem.W.keepIn K (.ref C) = true
noncomputable def tXMake0 (C : Addr) : TE := fun _ H Q => ∀ a, H a = none → Q (.ref a) (upd H a (exN a C none))
theorem pe_xmake0 (M : XMk0 X.K C) (hg : Gl X x) (hm : X.mg x = some (.ref C)) (hdb : (x == ("__debug__" : Str)) = false := by decide) : PE X (.Call (.Name x p) [] [] pos) (tXMake0 C) := by
  intro pins s σ H Q I h
  refine wpAny_Call_Name_kw (ld_glob I hg hm ?_ hdb)
  refine PySem.W.callWith_K0 I.kIn M.kp ?_
  obtain ⟨hp, g, d, tk, os⟩ := s
  obtain ⟨N, bm, ct⟩ := M.xc.ct
  refine wpAny_call (xmake0 (ct hp I.kIn) (PySem.W.looks_findIn I.kIn M.init) fun h' kk hx => ?_)
  have nx : ExcNew h' (hp.objs.size + 1) (.ref C) none := ⟨_, _, _, hx, rfl, rfl, rfl, rfl, rfl⟩
  exact ⟨.ref (hp.objs.size + 1), _, I.laid (t' := tk) (o := exN (hp.objs.size + 1) C none) kk (Nat.le_succ _) (exN_ok nx), rfl, h _ (I.hok.fresh (Nat.le_succ _))⟩
end
end L2

set_option Elab.async false
set_option linter.all false
set_option maxRecDepth 100000
set_option maxHeartbeats 4000000
namespace L2
open PySem PySem.Spec PyProof.Rows EX

structure XI (K : PySem.W.Frag) (C : Addr) : Prop where
  xc : XC K C
  ca : PySem.W.findIn K (.ref C) "__class__" = some (some (.builtin "object.__class__"))
  cg : PySem.W.specialIn K (.builtin "object.__class__") "__get__" = some (some (.builtin "getset_descriptor.__get__"))
  ck : PySem.W.takesIn K (.builtin "object.__class__") = some true
section
variable {X : Cx} {e o : Expr} {ta tv : TE} {f x : Str} {pos pos' p apos : Pos}
structure XB (K : PySem.W.Frag) (D : Addr) : Prop where
  ga : PySem.W.specialIn K (.ref D) "__getattribute__" = some (some (.builtin "type.__getattribute__"))
  rd : PySem.W.readsIn K D (.type "type") = true
  fc : PySem.W.findCls K (.ref D) (.type "type") "__init__" = some (.val (.builtin "ValueError.__init__"))
end
end L2

set_option Elab.async false
set_option linter.all false
set_option maxRecDepth 100000
set_option maxHeartbeats 4000000
namespace L2
open PySem PySem.Spec PyProof.Rows
noncomputable def EnAt (H : Hp) (x : V) (e : Fo.En) : Prop := ∃ t pl pt cu, x = .ref t ∧ H t = some (.tup [.int e.k, .ref pl, .ref pt, .ref cu]) ∧ PrsT H pl e.pl ∧ H pt = some (.tup (e.path.map V.int))
theorem EnAt.tk {H H' : Hp} {x : V} {e : Fo.En} (h : EnAt H x e) (k : TK H H') : EnAt H' x e := by obtain ⟨t, pl, pt, cu, a, b, c, d⟩ := h; exact ⟨t, pl, pt, cu, a, k _ _ b, c.tk k, k _ _ d⟩
theorem EnAt.over {H H' : Hp} {x : V} {e : Fo.En} (h : EnAt H x e) (k : Same H H') : EnAt H' x e := h.tk (Same.tk k)
noncomputable def spDeedsP (n : Nat) : Sp := fun vs H Q _ => ∃ (it pa cu : Addr) (f : Frs) (P : List Int) (cs : List V), vs = [.ref it, .ref pa, .ref cu] ∧ FoT H it f ∧ H pa = some (.tup (P.map V.int)) ∧ H cu = some (.tup cs) ∧ dep f ≤ n ∧ P.length + n ≤ 100 ∧ cs.length + n ≤ 100 ∧ (Fo.deedsF f P 0).length ≤ 1000 ∧ ∀ (r : Addr) (ys : List V) (H' : Hp), Same H H' → H' r = some (.lst ys) → All2 (EnAt H') ys (Fo.deedsF f P 0) → Q (.ref r) H'
end L2
namespace HT
open PySem PySem.Spec PyProof.Rows L2
section
variable {prog : Program} {w : World} {A : Around} {E : Value → Shared → Prop} {s : Shared}
theorem getItem_tuple_all {t sl : Addr} {items : Array Value} {vl vu : Value} {lo hi : Option Int} {Q : Value → Shared → Prop} (ht : IsTup s.heap t items) (hs : s.heap.IsSliceOf sl vl vu .none) (pl : IsPart vl lo) (pu : IsPart vu hi)
    (hw : sIx items.size 0 lo = 0 ∧ sIx items.size items.size hi = items.size) (h : Q (.ref t) s) : wpAny (model prog w) A (getItem (.ref t) (.ref sl)) Q E s := by
  obtain ⟨os, hos, hcs, hds⟩ := id hs
  have hTs : s.TypeIs (.ref sl) "slice" := ⟨os, hos, hcs⟩
  unfold getItem
  try with_reducible refine wpAny_holding ?_
  first | refine wpAny_bind (wpAny_pure ?_) | skip
  refine wpAny_bind (wpAny_sequenceKey ht.typeIs (by decide) ?_)
  refine wpAny_bind (wpAny_callSpecial?_slot (name := Str.ofString "__getitem__") ht.typeIs PyProof.Rows.slot_tuple_getitem
    (wpAny_call_entry PyProof.Rows.slot_tuple_getitem ht.typeIs entry_tuple_getitem ?_ (args_tuple_getitem _ _)))
  show wpAny _ _ (Builtin.Tuple.tupleItemsOf (.ref t) >>= _) _ _ s
  refine wpAny_bind (tupleItemsOf_ ht ?_)
  refine wpAny_bind (wpAny_typeOf hTs ?_)
  rw [if_pos (by decide)]
  refine wpAny_bind (sliceApplied_gen hs pl pu ?_)
  have hyes : (((sIx items.size 0 lo : Nat) : Int) == 0 && (1 : Int) == 1 && (sIx items.size items.size hi - sIx items.size 0 lo) == items.size) = true := by
    rw [hw.1, hw.2]
    simp
  show wpAny _ _ (if (((sIx items.size 0 lo : Nat) : Int) == 0 && (1 : Int) == 1 && (sIx items.size items.size hi - sIx items.size 0 lo) == items.size) = true then _ else _) _ _ s
  rw [if_pos hyes]
  show wpAny _ _ (Builtin.Tuple.tupleIsExact (.ref t) >>= _) _ _ s
  unfold Builtin.Tuple.tupleIsExact
  refine wpAny_bind (wpAny_bind (wpAny_typeOf ht.typeIs (wpAny_pure ?_)))
  rw [if_pos (by decide)]
  wp_walk
  first
    | exact ⟨_, rfl, wpAny_pure h⟩
    | exact wpAny_pure ⟨_, rfl, wpAny_pure h⟩
end
end HT
namespace L2
open PySem PySem.Spec PyProof.Rows
noncomputable def rSlH : V → Option Int → Option Int → Hp → VK → Prop := fun x lo hi H Q => ∃ (a : Addr) (xs : List V), x = .ref a ∧ H a = some (.tup xs) ∧ ∀ (p : Addr) (H' : Hp), Same H H' → H' p = some (.tup (cutV xs lo hi)) → Q (.ref p) H'
theorem sl_tupH {X : Cx} : SlR X rSlH := by
  intro pins s σ H x v vl vu lo hi sl Q I rx hs pl pu h
  obtain ⟨a, xs, rfl, ha, q⟩ := h
  by_cases c : HT.sIx xs.length 0 lo = 0 ∧ HT.sIx xs.length xs.length hi = xs.length
  · cases rx
    obtain ⟨its, r, ht, hz⟩ := I.tuple (SqT.of ha)
    have hlen : its.toArray.size = xs.length := by rw [List.size_toArray]; exact r.length.symm
    refine ⟨"tuple", _, PyProof.Rows.slot_tuple_getitem.lookup, ht.typeIs, ?_⟩
    refine HT.getItem_tuple_all ht hs pl pu (by rw [hlen]; exact c) ⟨.ref a, H, I, rfl, q a H (Same.refl _) ?_⟩
    have : cutV xs lo hi = xs := by
      unfold cutV
      rw [c.1, c.2]
      simp
    rw [this]
    exact ha
  · exact sl_tup pins s σ H (.ref a) v vl vu lo hi sl Q I rx hs pl pu ⟨a, xs, rfl, SqT.of ha, c, fun p hp => q p _ (same_new hp _) upd_same⟩
end L2

set_option Elab.async false
set_option linter.all false
set_option maxRecDepth 100000
set_option maxHeartbeats 4000000
namespace L2
open PySem PySem.Spec PyProof.Rows

end L2

set_option Elab.async false
set_option linter.all false
set_option maxRecDepth 100000
set_option maxHeartbeats 4000000
namespace L2
open PySem PySem.Spec PyProof.Rows
section
variable {X : Cx} {pins : List (Addr × Obj)} {s : Shared} {σ : St} {H : Hp}
end
end L2

set_option linter.all false
namespace Wv
variable {α : Type}
end Wv
set_option Elab.async false
set_option linter.all false
set_option maxRecDepth 100000
set_option maxHeartbeats 4000000
namespace L2
open PySem PySem.Spec PyProof.Rows
section
variable {X : Cx} {es : List Expr} {env : Env} {p : Pos}
noncomputable def rLenK (K : PySem.W.Frag) : List V → Hp → VK → Prop := fun xs H Q => ∃ p ys, xs = [V.ref p] ∧ (SqL K H p ys ∨ SqT K H p ys) ∧ Q (V.int (ys.length : Int)) H
end
section
variable {X : Cx} {pins : List (Addr × Obj)} {σ : St} {H : Hp} {s : Shared}
end
end L2

set_option Elab.async false
set_option linter.all false
set_option maxRecDepth 100000
set_option maxHeartbeats 4000000
namespace L2
open PySem PySem.Spec PyProof.Rows EX

section
variable {P : Program} {w : World} {K : PySem.W.Frag} {mg : Str → Option Value} {base : Heap}
end
section
variable {X : Cx} {k : Nat} {f : Addr} {fd : FuncData} {ps : List Str} {sp : Sp} {x : Str} {p pos : Pos} {e : Expr} {es : List Expr} {t : TA}
end
end L2

set_option Elab.async false
set_option linter.all false
set_option maxRecDepth 100000
set_option maxHeartbeats 4000000
namespace L2
open PySem PySem.Spec PyProof.Rows
end L2

set_option Elab.async false
set_option linter.all false
set_option maxRecDepth 100000
set_option maxHeartbeats 4000000
namespace L2
open PySem PySem.Spec PyProof.Rows EX

noncomputable def exIn (K : PySem.W.Frag) (C : Addr) (own : List Addr) : Bool := match K.lookup C with
  | some ⟨.type "type", _, .cls cd, sl⟩ => (match cd.mro, sl.toList with
    | .ref C' :: bm, [_, _, _, _, some (.builtin n), _] => C' == C && n == "ValueError.__new__" && !cd.hasDel && bm == own.map Value.ref ++ bmVE && PySem.W.tailIn K bmVE bm
    | _, _ => false)
  | _ => false
theorem ct_of {K : PySem.W.Frag} {C : Addr} {own : List Addr} (q : exIn K C own = true) : ∃ N, ∀ h, K.In h → ClsT h C N (own.map Value.ref ++ bmVE) := by
  unfold exIn at q
  split at q
  · rename_i dd cd sl ho
    split at q
    · rename_i C' bm k0 k1 k2 k3 n k5 hm hs
      simp only [Bool.and_eq_true, beq_iff_eq, Bool.not_eq_true'] at q
      obtain ⟨⟨⟨⟨rfl, rfl⟩, hdel⟩, hb⟩, ht⟩ := q
      obtain ⟨nm, bs, mro, ns, qn, hd, sn, sub, ab, col, del⟩ := cd
      dsimp only at hm hdel
      subst hm hdel
      have hsl : sl = #[k0, k1, k2, k3, some (.builtin "ValueError.__new__"), k5] := by
        obtain ⟨l⟩ := sl
        simp only at hs
        rw [hs]
      subst hsl
      rw [← hb]
      exact ⟨ns, fun h X => ⟨nm, qn, bs, hd, sn, sub, ab, col, dd, k0, k1, k2, k3, k5, X _ _ ho, PySem.W.tail_of_in X ht⟩⟩
    · cases q
  · cases q
noncomputable def tNoH : Addr → Addr → Option Addr → TS := fun _ _ _ _ _ _ => False
theorem ph_nil {X : Cx} : PH X [] tNoH := fun _ _ _ _ _ _ _ _ _ _ _ _ _ _ _ h => h.elim
theorem mem_bm {C : Addr} {own : List Addr} {D : Addr} : (Value.ref C :: (own.map Value.ref ++ bmVE)).contains (.ref D) = decide (D = C ∨ D ∈ own) := by
  rw [Bool.eq_iff_iff, List.contains_iff_mem, decide_eq_true_iff]
  simp [bmVE]
end L2

set_option Elab.async false
set_option linter.all false
set_option maxRecDepth 100000
set_option maxHeartbeats 4000000
namespace L2
open PySem PySem.Spec PyProof.Rows
structure LawTab (base : Heap) (mg : Str → Option Value) (c Pt : Addr) : Prop where
  hd : PySem.W.CodeHd base c Pt
  bm : ∃ bm ob, mg "__builtins__" = some (.ref bm) ∧ bm ≠ builtinsNs ∧ base.get? bm = some ob ∧ ob.cls = .type "module" ∧ ob.dict = some builtinsNs ∧ ob.data = .plain
end L2

set_option Elab.async false
set_option linter.all false
set_option maxRecDepth 100000
set_option maxHeartbeats 4000000
namespace L2
open PySem PySem.Spec PyProof.Rows
section
variable {X : Cx} {pins : List (Addr × Obj)} {σ : St} {H : Hp} {s : Shared} {h' : Heap} {c Pt : Addr} {ps : Array Value}
end
end L2

set_option Elab.async false
set_option linter.all false
set_option maxRecDepth 100000
set_option maxHeartbeats 4000000
namespace L2
open PySem PySem.Spec PyProof.Rows EX
end L2

set_option Elab.async false
set_option linter.all false
set_option maxRecDepth 100000
set_option maxHeartbeats 4000000
namespace Bd
open PySem L2
end Bd
namespace L2
open PySem PySem.Spec PyProof.Rows EX Bd
end L2

set_option Elab.async false
set_option linter.all false
set_option maxRecDepth 100000
set_option maxHeartbeats 4000000
namespace L2
open PySem PySem.Spec PyProof.Rows Bd
section
variable {X : Cx} {x : Str} {p pos : Pos} {e : Expr} {te : TE}
end
end L2

set_option Elab.async false
set_option linter.all false
set_option maxRecDepth 100000
set_option maxHeartbeats 4000000
namespace L2
open PySem PySem.Spec PyProof.Rows Bd
section
variable {P : Program} {w : World} {K : PySem.W.Frag} {mg : Str → Option Value} {base : Heap}
theorem Fun.okT {x qual : Str} {st : Stmt} {f c Pt : Addr} {fd : FuncData} {N ps : List Str} {k : Nat} {sp : Sp} (F : Fun K x qual st f fd) (hn : PySem.W.nsIn K mainGlobals x = some (some (.ref f))) (ht : PySem.W.tabIn K x = some (c, Pt)) (S : FnScope N ps (defScope st)) (len : ∀ vs H Q E, sp vs H Q E → vs.length = ps.length)
    (hbody : ∀ (A : Around) (outer : List Env) (s : Shared) (H : Hp) (vs : List V) (Q : VK) (E : XK), Room k (A.deeper (envOfC qual (defScope st) s.heap.objs.size f (.ref c))) → sp vs H Q E →
      ∃ t, PSs (cxOf CX0 P w K mg base N qual (defScope st) f (.ref c) A outer s H E).nox (defBody st) t ∧ t { nx := fun _ H' => Q .non H', rt := Q } (start N vs) H) : FnOk P w K mg base CX0 (k + 1) f fd ps sp := by
  obtain ⟨oc, od, kV, doc, pm, an, cdv, ct, osl, rfl, lk, hcd⟩ := F.ex
  have e : cdv = .ref c := by
    unfold PySem.W.tabIn at ht
    rw [hn] at ht
    dsimp only at ht
    rw [lk] at ht
    dsimp only at ht
    split at ht
    · split at ht
      · split at ht
        · cases ht; rfl
        · cases ht
      · cases ht
    · cases ht
  subst e
  refine fn_of lk hcd S len fun A outer s H vs Q E hr hsp => ?_
  obtain ⟨t, h, q⟩ := hbody A outer s H vs Q E hr hsp
  exact ⟨t, h.nox, q⟩
noncomputable def tabP (o : Obj) : Option Addr := match o.data with
  | .fields vs => (match (vs[11]? : Option Value) with
    | some (.ref P) => some P
    | _ => none)
  | _ => none
theorem tab_mk {x : Str} {f c Pt : Addr} {oc : Value} {od : Option Addr} {fd : FuncData} {sl : Array (Option Value)} {o : Obj} (a : PySem.W.nsIn K mainGlobals x = some (some (.ref f))) (l : K.lookup f = some ⟨oc, od, .func fd, sl⟩) (hc : fd.code = .ref c) (lc : K.lookup c = some o) (v : tabP o = some Pt) : PySem.W.tabIn K x = some (c, Pt) := by
  unfold PySem.W.tabIn
  rw [a]
  dsimp only
  rw [l]
  dsimp only
  rw [hc]
  dsimp only
  rw [lc]
  obtain ⟨o1, o2, o3, o4⟩ := o
  unfold tabP at v
  dsimp only at v
  split at v
  · rename_i vs hv
    split at v
    · rename_i P2 hP
      cases v
      dsimp only
      rw [hP]
    · cases v
  · cases v
noncomputable def hasNo (K : PySem.W.Frag) (b : Addr) : Bool := (K.lookup b).isNone
theorem hasNo_of {b : Addr} (h : hasNo K b = true) : K.lookup b = none := Option.isNone_iff_eq_none.mp h
end
end L2

set_option Elab.async false
set_option linter.all false
set_option maxRecDepth 100000
set_option maxHeartbeats 4000000
namespace L2
open PySem PySem.Spec PyProof.Rows
noncomputable def bigB (h : Heap) (H : Hp) (l : List Env) : Heap := PySem.W.hideAll h (trk h H ++ frs l)
theorem bigB_get {h : Heap} {H : Hp} {l : List Env} {b : Addr} {o : Obj} (e : h.get? b = some o) (n : H b = none) (hf : b ∉ frs l) : (bigB h H l).get? b = some o :=
  PySem.W.hideAll_get _ e fun hm => by
    rcases List.mem_append.mp hm with z | z
    · have q : (H b).isSome = true := (List.mem_filter.mp z).2
      rw [n] at q; simp at q
    · exact hf z
theorem of_bigB {h : Heap} {H : Hp} {l : List Env} {b : Addr} {o : Obj} (e : (bigB h H l).get? b = some o) : h.get? b = some o ∧ H b = none ∧ b ∉ frs l := by
  have e' : h.get? b = some o := PySem.W.of_hideAll _ e
  have no : ∀ {z}, z ∈ trk h H ++ frs l → b ≠ z := fun {z} hz q => by
    subst q
    have := PySem.W.hideAll_none (h := h) _ hz
    unfold bigB at e
    rw [this] at e
    cases e
  refine ⟨e', ?_, fun z => no (List.mem_append_right _ z) rfl⟩
  cases q : H b with
  | none => rfl
  | some x => exact absurd rfl (no (List.mem_append_left _ (List.mem_filter.mpr ⟨List.mem_range.mpr (Heap.lt_size e'), by simp [q]⟩)))
theorem bigB_frames {h base : Heap} {H : Hp} (l0 : List Env) : ∀ {l : List Env}, h.FunFrames base l → (∀ b ∈ frs l, b ∈ frs l0) → h.FunFrames (bigB h H l0) l
  | [], _, _ => trivial
  | env :: r, hl, hs => by
    obtain ⟨hk, ⟨L, o, hf, hn, ho, hd⟩, hr⟩ := hl
    have hL : L ∈ frs l0 := hs L (by unfold frs; rw [List.filterMap_cons, hf]; exact List.mem_cons_self)
    refine ⟨hk, ⟨L, o, hf, PySem.W.hideAll_none _ (List.mem_append_right _ hL), ho, hd⟩, bigB_frames l0 hr fun b hb => hs b ?_⟩
    unfold frs
    rw [List.filterMap_cons, hf]
    exact List.mem_cons_of_mem _ hb
section
variable {X : Cx} {pins : List (Addr × Obj)} {σ : St} {H : Hp} {s : Shared}
theorem Inv.bigs (I : Inv X pins σ H s) : ∀ b o, X.base.get? b = some o → (bigB s.heap H X.stack).get? b = some o := fun b o e => by
  obtain ⟨e1, e2⟩ := I.bs b o e
  refine bigB_get e1 e2 fun z => ?_
  have := (I.stack.mem z).1
  rw [e] at this
  cases this
theorem Inv.envB (I : Inv X pins σ H s) : Env0 X.prog X.w X.K X.mg (bigB s.heap H X.stack) X.A X.stack s H :=
  ⟨I.ok.frames, ⟨I.ok.mod.kin.keeps I.bigs, I.ok.mod.glob.keeps I.bigs, let ⟨mb, h1, h2⟩ := I.ok.mod.blt; ⟨mb, h1.keeps I.bigs, h2⟩, I.ok.mod.nolimit.keeps I.bigs⟩,
    fun b o e => ⟨(of_bigB e).1, (of_bigB e).2.1⟩, Nat.le_of_eq (PySem.W.hideAll_size _ _), bigB_frames X.stack I.stack fun _ z => z, I.stkFree, I.hok, I.bare⟩
end
end L2

set_option Elab.async false
set_option linter.all false
set_option maxRecDepth 100000
set_option maxHeartbeats 4000000
namespace L2
open PySem PySem.Spec PyProof.Rows
structure CloScope (ps fns : List Str) (sc : Scope) : Prop where
  kind : sc.kind = .function
  co : sc.isCoroutine = false
  gen : sc.isGenerator = false
  nd : (ps ++ fns).Nodup
  par : ∀ x ∈ ps, sc.names.lookup x = some .local
  fre : ∀ x ∈ fns, sc.names.lookup x = some .free
  nocell : ∀ y ∈ sc.names, y.2 ≠ .cell
noncomputable def cloCx (P : Program) (w : World) (K : PySem.W.Frag) (mg : Str → Option Value) (base : Heap) (N : List Str) (qual : Str) (scope : Scope) (f : Addr) (cd : Value) (clos : List (Str × Addr)) (A : Around) (outer : List Env) (s : Shared) (H : Hp) (E : XK) : Cx where
  prog := P
  w := w
  K := K
  mg := mg
  base := base
  A := A.deeper (PySem.W.envX qual scope s.heap.objs.size f cd clos)
  N := N
  s₀ := s
  H₀ := H
  env := PySem.W.envX qual scope s.heap.objs.size f cd clos
  outer := outer
  stack := PySem.W.envX qual scope s.heap.objs.size f cd clos :: outer
  ex := []
  calm := true
  fn := fun _ => false
  pn := []
  xe := fun e s' => wpAny (model P w) (A.deeper (PySem.W.envX qual scope s.heap.objs.size f cd clos)) (leaving (PySem.W.envX qual scope s.heap.objs.size f cd clos) e) (fun _ s'' => CX0 outer H s E e s'') (fun e' s'' => CX0 outer H s E e' s'') s'
structure CloOk (base : Heap) (scope : Scope) (clos : List (Str × Addr)) (fns : List Str) (fvs : List V) : Prop where
  len : fvs.length = fns.length
  val : ∀ (j : Nat) x v, fns[j]? = some x → fvs[j]? = some v → ∃ c u, clos.lookup x = some c ∧ base.IsCell c (some u) ∧ RelV v u
  cell : ∀ x c, clos.lookup x = some c → ∃ v, base.IsCell c v
  inj : ∀ x y c, clos.lookup x = some c → clos.lookup y = some c → x = y
  has : ∀ x, scope.names.lookup x = some .free → ∃ c, clos.lookup x = some c
theorem mem_of_lookup' {α : Type} {x : Str} {a : α} : ∀ {l : List (Str × α)}, l.lookup x = some a → (x, a) ∈ l
  | (y, b) :: l, h => by
    rw [List.lookup_cons] at h
    cases e : (x == y) with
    | true => rw [e] at h; cases h; rw [eq_of_beq e]; exact List.mem_cons_self
    | false => rw [e] at h; exact List.mem_cons_of_mem _ (mem_of_lookup' h)
theorem zip_rev_lookup {ps : List Str} {us : List Value} (nd : ps.Nodup) (hl : us.length = ps.length) {i : Nat} {x : Str} {u : Value} (h1 : ps[i]? = some x) (h2 : us[i]? = some u) : (ps.zip us).reverse.lookup x = some u := by
  have nd2 : ((ps.zip us).reverse.map Prod.fst).Nodup := by
    rw [List.map_reverse, List.map_fst_zip (by omega)]
    exact (List.reverse_perm _).nodup_iff.mpr nd
  have mem : (x, u) ∈ (ps.zip us).reverse := by
    rw [List.mem_reverse]
    exact List.mem_of_getElem? (i := i) (by rw [List.getElem?_zip_eq_some]; exact ⟨h1, h2⟩)
  generalize (ps.zip us).reverse = l at nd2 mem
  induction l with
  | nil => cases mem
  | cons p l ih =>
    rw [List.map_cons, List.nodup_cons] at nd2
    rw [List.lookup_cons]
    rcases List.mem_cons.mp mem with e | e
    · rw [← e]; simp
    · have ne : (x == p.1) = false := by
        rw [beq_eq_false_iff_ne]
        intro z
        exact nd2.1 (by rw [← z]; exact List.mem_map.mpr ⟨_, e, rfl⟩)
      rw [ne]
      exact ih nd2.2 e
end L2

set_option Elab.async false
set_option linter.all false
set_option maxRecDepth 100000
set_option maxHeartbeats 4000000
namespace L2
open PySem PySem.Spec PyProof.Rows
noncomputable def Cx.pinned (X : Cx) (ps : List (Addr × Obj)) : Cx := { X with pn := X.pn ++ ps }
section
variable {X : Cx} {pins ps : List (Addr × Obj)} {σ : St} {H : Hp} {s : Shared}
theorem Inv.toPinned (I : Inv X (ps ++ pins) σ H s) : Inv (X.pinned ps) pins σ H s :=
  ⟨⟨I.ok.mod, I.ok.kind, I.ok.glob, I.ok.blt, I.ok.above, I.ok.inj, I.ok.has, I.ok.cab, I.ok.hd, I.ok.frames, I.ok.stk, I.ok.exf, I.ok.bs, I.ok.bsz, I.ok.noex, I.ok.exfs, I.ok.funs, I.ok.frf⟩, I.os, I.bare, I.base, I.loc, I.cell, I.free, I.freeC,
    fun p hp => I.pin p (by rw [← List.append_assoc]; exact hp), I.hok, I.len⟩
theorem Inv.ofPinned (I : Inv (X.pinned ps) pins σ H s) : Inv X (ps ++ pins) σ H s :=
  ⟨⟨I.ok.mod, I.ok.kind, I.ok.glob, I.ok.blt, I.ok.above, I.ok.inj, I.ok.has, I.ok.cab, I.ok.hd, I.ok.frames, I.ok.stk, I.ok.exf, I.ok.bs, I.ok.bsz, I.ok.noex, I.ok.exfs, I.ok.funs, I.ok.frf⟩, I.os, I.bare, I.base, I.loc, I.cell, I.free, I.freeC,
    fun p hp => I.pin p (by show p ∈ (X.pn ++ ps) ++ pins; rw [List.append_assoc]; exact hp), I.hok, I.len⟩
theorem Inv.dropPins (I : Inv X (ps ++ pins) σ H s) : Inv X pins σ H s :=
  ⟨I.ok, I.os, I.bare, I.base, I.loc, I.cell, I.free, I.freeC, fun p hp => I.pin p ((List.mem_append.mp hp).elim (fun z => List.mem_append_left _ z) fun z => List.mem_append_right _ (List.mem_append_right _ z)), I.hok, I.len⟩
theorem SP.unpin {D : Ends} {fl : Flow} (h : SP (X.pinned ps) pins D fl s) : SP X pins D fl s := by
  cases fl with
  | ret u => obtain ⟨v, σ', H', J, rv, q⟩ := h; exact ⟨v, σ', H', J.ofPinned.dropPins, rv, q⟩
  | next => obtain ⟨σ', H', J, q⟩ := h; exact ⟨σ', H', J.ofPinned.dropPins, q⟩
  | brk => obtain ⟨σ', H', J, q⟩ := h; exact ⟨σ', H', J.ofPinned.dropPins, q⟩
  | cont => obtain ⟨σ', H', J, q⟩ := h; exact ⟨σ', H', J.ofPinned.dropPins, q⟩
end
section
variable {X : Cx} {k : Nat} {f C : Addr} {fd : FuncData} {ps : List Str} {sp : Sp} {e o : Expr} {es : List Expr} {t : TA} {ta : TE} {pos apos p : Pos} {m x : Str} {i : Nat}
theorem run_fnB {pins : List (Addr × Obj)} {σ : St} {H : Hp} {s : Shared} {Q : VK} {us : List Value} {vs : List V} (F : FnOk X.prog X.w X.K X.mg (bigB s.heap H X.stack) CX0 k f fd ps sp) (hr : Room k X.A) (hb : BindsTo s fd ⟨us, []⟩ (ps.zip us))
    (I : Inv X pins σ H s) (r : Vals vs us) (h : sp vs H Q E0) : wpAny (model X.prog X.w) X.A (call (.ref f) us) (EP X pins σ Q) X.xe s := by
  refine wpAny_call (codeAny_mono (F.run X.A X.stack s H ⟨us, []⟩ us vs Q E0 hr I.envB hb r h) fun r s' hq => ?_)
  cases r with
  | error e => exact hq.elim
  | ok fl =>
    cases fl with
    | ret u => exact I.after hq
    | next => exact False.elim hq
    | brk => exact False.elim hq
    | cont => exact False.elim hq
theorem Inv.pinB {pins : List (Addr × Obj)} {σ : St} {H : Hp} {s : Shared} (I : Inv X pins σ H s) {b : Addr} {ob : Obj} (hp : (b, ob) ∈ X.pn ++ pins) : (bigB s.heap H X.stack).get? b = some ob := by
  obtain ⟨e, n, nl, nf, _⟩ := I.pin _ hp
  refine bigB_get e n fun z => ?_
  rcases List.mem_cons.mp (I.stkSub b z) with q | q
  · exact nl q
  · exact nf q
theorem Inv.cellB {pins : List (Addr × Obj)} {σ : St} {H : Hp} {s : Shared} (I : Inv X pins σ H s) {n : Str} {v : V} (hi : X.N[i]? = some n) (hv : σ[i]? = some (some v)) (hk : X.env.scope.names.lookup n = some .cell) (hfn : X.fn n = true) : ∃ c u, X.env.cells.lookup n = some c ∧ (bigB s.heap H X.stack).IsCell c (some u) ∧ RelV v u := by
  obtain ⟨m, hn, hl⟩ := I.loc
  obtain ⟨u, r, l⟩ := hl i n v hi hv (.inr (.inl hk))
  rcases l with ⟨z, _⟩ | ⟨_, c, e, oc, ho, hd⟩
  · exact absurd (z.symm.trans hk) (by decide)
  · refine ⟨c, u, e, ⟨oc, bigB_get ho (I.freeC n c e) fun z => ?_, hd⟩, r⟩
    obtain ⟨_, o', e', nd⟩ := I.stack.mem z
    rcases List.mem_cons.mp (I.stkSub c z) with q | q
    · exact I.cne n c e q
    · obtain ⟨_, o2, e2, k2⟩ := I.ok.funs.mem q
      exact absurd (Nat.lt_of_lt_of_le (Heap.lt_size e2) (I.ok.cab n c hfn e)) (Nat.lt_irrefl _)
end
end L2

set_option Elab.async false
set_option linter.all false
set_option maxRecDepth 100000
set_option maxHeartbeats 4000000
namespace L2
open PySem PySem.Spec PyProof.Rows
section
variable {X : Cx} {k : Nat} {f g C : Addr} {fd : FuncData} {ps : List Str} {sp : Sp} {e o : Expr} {es : List Expr} {t : TA} {ta : TE} {pos apos p : Pos} {m x : Str} {i : Nat}
noncomputable def tCallV (i : Nat) (g : Addr) (sp : Sp) (t : TA) : TE := fun σ H Q => σ[i]? = some (some (.ref g)) ∧ t σ H fun vs H1 => sp vs H1 Q E0
theorem pe_callV (F : FnOk X.prog X.w X.K X.mg X.base CX0 k g fd ps sp) (hga : PySem.W.FnAt g X.base) (hr : Room k X.A) (hb : ∀ (s : Shared) (us : List Value), us.length = ps.length → BindsTo s fd ⟨us, []⟩ (ps.zip us)) (hN : X.N[i]? = some x) (hv : Vis X.env.scope x) (ha : PA X (e :: es) t)
    (hd : (x == ("__debug__" : Str)) = false := by decide) (hcd : (x == ("__classdict__" : Str)) = false := by decide) (he : starEach (e :: es) X.env = (false, eval e X.env) :: starEach es X.env := by rfl) (hpl : (backTo pos (starEach es X.env)).any (·.1) = false := by rfl) :
    PE X (.Call (.Name x p) (e :: es) [] pos) (tCallV i g sp t) := by
  intro pins s σ H Q I h
  obtain ⟨hσ, h⟩ := h
  have fnat : ∀ {pins : List (Addr × Obj)} {σ : St} {H : Hp} {s : Shared}, Inv X pins σ H s → PySem.W.FnAt g s.heap := fun I => let ⟨oc, od, fd, sl, e⟩ := hga; ⟨oc, od, fd, sl, I.bk _ _ e⟩
  have go : wpAny (model X.prog X.w) X.A (callWith pos (.ref g) [] (backTo pos (starEach (e :: es) X.env)) (backToKw pos (keywordEach [] X.env))) (EP X pins σ Q) X.xe s := by
    refine PySem.W.callWith_F (fnat I) (thn (ha pos pins s σ H _ I h) fun us s1 ⟨vs, H1, I1, r, q⟩ => ⟨fnat I1, ?_⟩) he hpl
    have hl : us.length = ps.length := by rw [← r.length]; exact F.len _ _ _ _ q
    refine wpAny_call (codeAny_mono (F.run X.A X.stack s1 H1 ⟨us, []⟩ us vs Q E0 hr I1.env0 (hb s1 us hl) r q) fun r s' hq => ?_)
    cases r with
    | error e => exact hq.elim
    | ok fl =>
      cases fl with
      | ret u => exact I1.after hq
      | next => exact False.elim hq
      | brk => exact False.elim hq
      | cont => exact False.elim hq
  obtain ⟨m, hn, hl⟩ := id I.loc
  obtain ⟨u, r, l⟩ := hl i x (.ref g) hN hσ hv
  cases r
  refine wpAny_Call_Name_kw ?_
  rcases l with ⟨hk, hm⟩ | ⟨hk, c, hc, hcell⟩
  · exact wpAny_Name (wpAny_loadName_local I.ok.kind hk hn hm go) hd
  · rcases hk with hk | hk
    · exact wpAny_Name (wpAny_loadName_cell I.ok.kind hk hc hcell go) hd
    · exact wpAny_Name (wpAny_loadName_free I.ok.kind hk hc hcell go hcd) hd
end
end L2

set_option Elab.async false
set_option linter.all false
set_option maxRecDepth 100000
set_option maxHeartbeats 4000000
namespace L2
open PySem PySem.Spec PyProof.Rows
namespace Tw
end Tw
end L2
namespace L2
open PySem
end L2
namespace L2
open PySem
end L2
namespace L2
open PySem
end L2
namespace L2
open PySem
end L2

set_option Elab.async false
set_option linter.all false
set_option maxRecDepth 100000
set_option maxHeartbeats 4000000
namespace L2
open PySem PySem.Spec PyProof.Rows
section
variable {prog : Program} {w : World} {A : Around} {E : Value → Shared → Prop} {s : Shared}
end
end L2

set_option Elab.async false
set_option linter.all false
set_option maxRecDepth 100000
set_option maxHeartbeats 4000000
namespace L2
open PySem PySem.Spec PyProof.Rows
section
variable {prog : Program} {w : World} {A : Around} {E : Value → Shared → Prop} {s : Shared}
end
end L2

set_option Elab.async false
set_option linter.all false
set_option maxRecDepth 100000
set_option maxHeartbeats 4000000
namespace L2
open PySem PySem.Spec PyProof.Rows
end L2

set_option Elab.async false
set_option linter.all false
set_option maxRecDepth 100000
set_option maxHeartbeats 4000000
namespace L2
open PySem PySem.Spec PyProof.Rows
section
variable {prog : Program} {w : World} {A : Around} {E : Value → Shared → Prop} {s : Shared}
end
end L2

set_option Elab.async false
set_option linter.all false
set_option maxRecDepth 100000
set_option maxHeartbeats 4000000
namespace L2
open PySem PySem.Spec PyProof.Rows
end L2

set_option Elab.async false
set_option linter.all false
set_option maxRecDepth 100000
set_option maxHeartbeats 4000000
namespace L2
open PySem PySem.Spec PyProof.Rows
end L2

set_option Elab.async false
set_option linter.all false
set_option maxRecDepth 100000
set_option maxHeartbeats 4000000
namespace L2
open PySem PySem.Spec PyProof.Rows
end L2

set_option Elab.async false
set_option linter.all false
set_option maxRecDepth 100000
set_option maxHeartbeats 4000000
namespace L2
open PySem PySem.Spec PyProof.Rows
end L2

set_option Elab.async false
set_option linter.all false
set_option maxRecDepth 100000
set_option maxHeartbeats 4000000
namespace L2
open PySem PySem.Spec PyProof.Rows
section
variable {c : Cs} {kn : List (Str × Int)} {salt : Int} {av av' : Addr → Prop} {H H' : Hp} {x : V} {t : Tw}
end
section
variable {c : Cs} {kn : List (Str × Int)} {salt : Int} {ks : List Str} {av : Addr → Prop} {H H' : Hp} {xs : List V} {ts : List Tw} {N : Nat}
end
end L2

set_option Elab.async false
set_option linter.all false
set_option maxRecDepth 100000
set_option maxHeartbeats 4000000
namespace L2
open PySem PySem.Spec PyProof.Rows
theorem clo1 {base : Heap} {scope : Scope} {n : Str} {c : Addr} {v : V} {u : Value} (hf : ∀ y ∈ scope.names, y.2 = .free → y.1 = n) (hc : base.IsCell c (some u)) (rv : RelV v u) : CloOk base scope [(n, c)] [n] [v] := by
  have one : ∀ x c', ([(n, c)] : List (Str × Addr)).lookup x = some c' → x = n ∧ c' = c := fun x c' h => by
    have := mem_of_lookup' h
    rw [List.mem_singleton] at this
    cases this
    exact ⟨rfl, rfl⟩
  have lk : ([(n, c)] : List (Str × Addr)).lookup n = some c := by rw [List.lookup_cons, beq_self_eq_true]
  refine ⟨rfl, fun j x v' h1 h2 => ?_, fun x c' h => ?_, fun x y c' h1 h2 => (one x c' h1).1.trans (one y c' h2).1.symm, fun x h => ⟨c, ?_⟩⟩
  · cases j with
    | zero =>
      cases h1; cases h2
      exact ⟨c, u, lk, hc, rv⟩
    | succ j => cases h1
  · rw [(one x c' h).2]; exact ⟨_, hc⟩
  · have : x = n := hf _ (mem_of_lookup' h) rfl
    rw [this]; exact lk
section
variable {c : Cs} {kn : List (Str × Int)} {hd : Str → List Int → Int} {g d : Addr} {n : Nat} {ta : TE} {t : TA} {σ : St} {H : Hp} {Q : VK} {l : Tw} {lv : V}
end
end L2

set_option Elab.async false
set_option linter.all false
set_option maxRecDepth 100000
set_option maxHeartbeats 4000000
namespace L2
open PySem PySem.Spec PyProof.Rows
noncomputable def cdX (c : Addr) (oc : Obj) : HO := .ext fun h => h.get? c = some oc
section
variable {P : Program} {w : World} {H : Hp} {h : Heap} {c : Addr} {oc : Obj}
theorem cdX_ok (e : h.get? c = some oc) : ObjOk P w H h c (cdX c oc) := ⟨e, ⟨oc, e⟩, fun _ _ z k => k _ z⟩
theorem cdX_of (x : HOk P w H h) (e : H c = some (cdX c oc)) : h.get? c = some oc := (show ObjOk P w H h c (cdX c oc) from x c _ e).1
end
noncomputable def CdOf (qn : Str) (oc : Obj) : Prop := ∃ vs t, oc.data = .fields vs ∧ vs[1]? = some (.str qn t)
section
variable {X : Cx} {pins : List (Addr × Obj)} {σ : St} {H : Hp} {s : Shared} {h' : Heap} {c Pt : Addr} {ps : Array Value}
theorem Inv.grown2 {t' : Nat} {more : Array Value} {c' : Addr} {oc : Obj} (I : Inv X pins σ H s) (hT : H Pt = some (.tbl ps)) (k : ∀ b u, b ≠ Pt → s.heap.get? b = some u → h'.get? b = some u) (hp : h'.get? Pt = some (PySem.W.tabObj (ps ++ more))) (hc : s.heap.objs.size ≤ c') (hoc : h'.get? c' = some oc) :
    Inv X pins σ (upd (upd H Pt (.tbl (ps ++ more))) c' (cdX c' oc)) { s with heap := h', toks := t' } := by
  have nc : H c' = none := I.hok.fresh hc
  have ncp : c' ≠ Pt := fun z => by rw [z, hT] at nc; cases nc
  have nP : ∀ b u, H b = some u → (∀ z, u ≠ .tbl z) → b ≠ Pt := fun b u e n z => by rw [z, hT] at e; cases e; exact n _ rfl
  have nC : ∀ b u, H b = some u → b ≠ c' := fun b u e z => by rw [z, nc] at e; cases e
  have n0 : ∀ b, H b = none → b ≠ Pt := fun b e z => by rw [z, hT] at e; cases e
  have old : ∀ b o, s.heap.get? b = some o → b ≠ c' := fun b o e z => absurd (Heap.lt_size e) (by rw [z]; exact Nat.not_lt.mpr hc)
  refine I.un ⟨fun b o e n _ _ => k b o (n0 b n) e, fun b o e n _ _ => ⟨o.slots, k b o (n0 b n) e⟩, fun b o e n _ => by rw [upd_ne (old b o e), upd_ne (n0 b n)]; exact n, fun b o e _ => ?_, fun b xs e => by rw [upd_ne (nC b _ e), upd_ne (nP b _ e fun _ => by simp)]; exact e, fun b o u e => by rw [upd_ne (nC b _ e), upd_ne (nP b _ e fun _ => by simp)]; exact e, fun b qs e => ?_⟩ fun b u e => ?_
  · by_cases hb : b = Pt
    · exact ⟨_, hb ▸ hp⟩
    · exact ⟨o, k b o hb e⟩
  · rw [upd_ne (nC b _ e)]
    by_cases hb : b = Pt
    · subst hb
      rw [hT] at e
      cases e
      exact ⟨more, upd_same⟩
    · exact ⟨#[], by rw [upd_ne hb, e]; simp⟩
  · by_cases hbc : b = c'
    · subst hbc
      rw [upd_same] at e
      cases e
      exact cdX_ok hoc
    rw [upd_ne hbc] at e
    by_cases hb : b = Pt
    · subst hb
      rw [upd_same] at e
      cases e
      exact hp
    · rw [upd_ne hb] at e
      refine (I.hok b u e).stay (fun c v hc q => k c v ?_ q) (fun c q => ?_) fun c xs q => ?_
      · rcases hc with z | z
        · rw [z]; exact hb
        · exact nP _ _ z fun _ => by simp
      · rw [upd_ne (nC _ _ q), upd_ne (nP _ _ q fun _ => by simp)]; exact q
      · rw [upd_ne (nC _ _ q), upd_ne (nP _ _ q fun _ => by simp)]; exact q
end
noncomputable def tDef2 (Pt : Addr) (i : Nat) (pos : Pos) (qn : Str) (u : Addr → Addr → Obj → Value → Value → TS) : TS := fun D σ H => ∃ ps : Array Value, H Pt = some (.tbl ps) ∧ TriplesOk ps.toList ∧
  ((codeAmong pos ps.toList = none ∧ ∀ (f c' : Addr) (oc : Obj) (doc ctv : Value), CdOf qn oc → H f = none → H c' = none → f ≠ c' → u f c' oc doc ctv D (σ.set i (some (.ref f))) (upd (upd H Pt (.tbl (ps ++ #[rawInt pos.line, rawInt pos.col, .ref c']))) c' (cdX c' oc))) ∨
   (∃ (c' : Addr) (oc : Obj), codeAmong pos ps.toList = some (.ref c') ∧ H c' = some (cdX c' oc) ∧ CdOf qn oc ∧ ∀ (f : Addr) (doc ctv : Value), H f = none → u f c' oc doc ctv D (σ.set i (some (.ref f))) H))
theorem pss_def2 {X : Cx} {name : Str} {params : Arguments} {body : List Stmt} {scope : Scope} {pos : Pos} {rest : List Stmt} {clos : List (Str × Addr)} {c Pt : Addr} {i : Nat} {u : Addr → Addr → Obj → Value → Value → TS}
    (hd0 : params.defaults = []) (hk0 : params.kw_defaults = []) (ha : annTrees params none X.env = []) (hcode : X.env.code = .ref c) (LT : LawTab X.base X.mg c Pt) (hcl : closureFor scope X.env = pure clos)
    (hN : X.N.Nodup) (hi : X.N[i]? = some name) (hx : Loc X.env.scope name) (hf : X.fn name = true ∨ X.env.scope.names.lookup name = some .local)
    (hrest : ∀ f c' oc doc ctv, CdOf (qualnameIn X.env name name) oc → PSs (X.pinned [(f, PySem.W.fnMade name (qualnameIn X.env name name) params body scope clos doc ((X.mg "__name__").getD .none) c' ctv)]) rest (u f c' oc doc ctv)) :
    PSs X (.FunctionDef name params body [] none [] scope none name pos :: rest) (tDef2 Pt i pos (qualnameIn X.env name name) u) := by
  intro pins s σ H D I h
  obtain ⟨ps, hT, ht, q⟩ := h
  have hP : s.heap.get? Pt = some (PySem.W.tabObj ps) := I.hok Pt _ hT
  have hgs := I.mod.glob.keeps I.bk
  obtain ⟨bm, ob, b1, b2, b3, b4, b5, b6⟩ := LT.bm
  have b3 := I.bk _ _ b3
  have hgP : mainGlobals ≠ Pt := fun q => by
    obtain ⟨o, es, ep, e, hd, _⟩ := hgs
    rw [q, hP] at e; cases e; cases hd
  have hbP : bm ≠ Pt := fun q => by rw [q, hP] at b3; cases b3; cases b4
  have hbG : bm ≠ mainGlobals := fun q => by
    obtain ⟨o, es, ep, e, hd, _⟩ := hgs
    rw [q, e] at b3; cases b3; rw [hd] at b6; cases b6
  refine wpAny_execs_cons (PySem.W.nestDef_K hd0 hk0 ha ?_)
  rcases q with ⟨hnf, q⟩ | ⟨c', oc, hnf, hcx, hco, q⟩
  · refine PySem.W.makeFunction_K (mg := X.mg) hcl I.ok.glob hgs hcode (LT.hd.keeps I.bk) hP ht hnf hgP ⟨bm, ob, b1, b2, hbG, hbP, b3, b4, b5, b6⟩ fun c' ctv doc h' tk hx' hge hlt hrec htb => ?_
    have sz : s.heap.objs.size ≤ h'.objs.size := Nat.le_trans hge (Nat.le_of_lt hlt)
    obtain ⟨c₂, oc, vs, t, e2, hoc, hdv, hv⟩ := hrec
    cases e2
    have J := I.grown2 (h' := h'.push (PySem.W.fnMade name (qualnameIn X.env name name) params body scope clos doc ((X.mg "__name__").getD .none) c' ctv)) (t' := tk) hT (fun b u hb e => Heap.get?_push_of_some _ (hx' b u hb e)) (Heap.get?_push_of_some _ htb) hge (Heap.get?_push_of_some _ hoc)
    have nf : H h'.objs.size = none := I.hok.fresh sz
    have nc : H c' = none := I.hok.fresh hge
    have nfp : h'.objs.size ≠ Pt := fun z => by rw [z, hT] at nf; cases nf
    have nfc : h'.objs.size ≠ c' := Nat.ne_of_gt hlt
    have Lf : h'.objs.size ≠ X.env.locals := Nat.ne_of_gt (Nat.lt_of_lt_of_le I.lt sz)
    have J2 : Inv X ([(h'.objs.size, PySem.W.fnMade name (qualnameIn X.env name name) params body scope clos doc ((X.mg "__name__").getD .none) c' ctv)] ++ pins) σ (upd (upd H Pt (.tbl (ps ++ #[rawInt pos.line, rawInt pos.col, .ref c']))) c' (cdX c' oc)) _ := J.pins_of fun p hp => by
      rcases List.mem_append.mp hp with z | z
      · rw [List.mem_singleton.mp z]
        exact ⟨Heap.get?_push_size _ rfl, by rw [upd_ne nfc, upd_ne nfp]; exact nf, Lf, I.nofs sz, fun v => by simp⟩
      · exact J.pin p (List.mem_append_right _ z)
    refine store_ok2 (v := .ref h'.objs.size) (u := .ref h'.objs.size) J2 hN hi hx rfl (fun s2 J3 _ => ?_) hf
    refine thn (hrest h'.objs.size c' oc doc ctv ⟨vs, t, hdv, hv⟩ pins s2 _ _ D J3.toPinned (q _ _ oc doc ctv ⟨vs, t, hdv, hv⟩ nf nc (Nat.ne_of_gt hlt))) fun fl s3 h3 => h3.unpin
  · refine PySem.W.makeFunction_hit (mg := X.mg) hcl I.ok.glob hgs hcode (LT.hd.keeps I.bk) hP ht hnf ⟨bm, ob, b1, b2, hbG, hbP, b3, b4, b5, b6⟩ fun ctv doc h' tk hk sz => ?_
    have J : Inv X pins σ H { s with heap := h'.push (PySem.W.fnMade name (qualnameIn X.env name name) params body scope clos doc ((X.mg "__name__").getD .none) c' ctv), toks := tk } := I.kept fun b u e => Heap.get?_push_of_some _ (hk b u e)
    have nf : H h'.objs.size = none := I.hok.fresh sz
    have Lf : h'.objs.size ≠ X.env.locals := Nat.ne_of_gt (Nat.lt_of_lt_of_le I.lt sz)
    have J2 : Inv X ([(h'.objs.size, PySem.W.fnMade name (qualnameIn X.env name name) params body scope clos doc ((X.mg "__name__").getD .none) c' ctv)] ++ pins) σ H _ := J.pins_of fun p hp => by
      rcases List.mem_append.mp hp with z | z
      · rw [List.mem_singleton.mp z]
        exact ⟨Heap.get?_push_size _ rfl, nf, Lf, I.nofs sz, fun v => by simp⟩
      · exact J.pin p (List.mem_append_right _ z)
    refine store_ok2 (v := .ref h'.objs.size) (u := .ref h'.objs.size) J2 hN hi hx rfl (fun s2 J3 _ => ?_) hf
    refine thn (hrest h'.objs.size c' oc doc ctv hco pins s2 _ _ D J3.toPinned (q _ doc ctv nf)) fun fl s3 h3 => h3.unpin
end L2

set_option Elab.async false
set_option linter.all false
set_option maxRecDepth 100000
set_option maxHeartbeats 4000000
namespace L2
open PySem PySem.Spec PyProof.Rows
theorem clo_fn2 {P : Program} {w : World} {K : PySem.W.Frag} {mg : Str → Option Value} {base : Heap} {k : Nat} {f c' : Addr} {name qual : Str} {params : Arguments} {body : List Stmt} {scope : Scope} {clos : List (Str × Addr)} {doc pm ctv : Value} {ps fns : List Str} {fvs : List V} {sp : Sp}
    (hf : base.get? f = some (PySem.W.fnMade name qual params body scope clos doc pm c' ctv)) (hcd : ∀ vs H Q E, sp vs H Q E → ∃ oc, H c' = some (cdX c' oc) ∧ CdOf qual oc) (S : CloScope ps fns scope) (hc : CloOk base scope clos fns fvs) (len : ∀ vs H Q E, sp vs H Q E → vs.length = ps.length)
    (hbody : ∀ (A : Around) (outer : List Env) (s : Shared) (H : Hp) (vs : List V) (Q : VK) (E : XK), Room k (A.deeper (PySem.W.envX qual scope s.heap.objs.size f (.ref c') clos)) → sp vs H Q E →
      ∃ t, PSs (cloCx P w K mg base (ps ++ fns) qual scope f (.ref c') clos A outer s H E) body t ∧ t { nx := fun _ H' => Q .non H', rt := Q } (vs.map some ++ fvs.map some) H) :
    FnOk P w K mg base CX0 (k + 1) f (PySem.W.fnX name qual params body scope clos .none .none doc pm none (.ref c') ctv) ps sp := by
  refine ⟨len, fun A outer s H args us vs Q E hr e0 hb r hsp => ?_⟩
  have hl := len _ _ _ _ hsp
  have ul : us.length = ps.length := by rw [← r.length]; exact hl
  have lim : s.heap.NoLimit := e0.mod.nolimit.keeps fun b o e => (e0.bs b o e).1
  have bk : ∀ b o, base.get? b = some o → s.heap.get? b = some o := fun b o e => (e0.bs b o e).1
  have ndP : ps.Nodup := S.nd.sublist (List.sublist_append_left _ _)
  have hcd' : s.heap.CodeRec (.ref c') qual := by
    obtain ⟨oc, h1, vs', t, h2, h3⟩ := hcd _ _ _ _ hsp
    exact ⟨c', oc, vs', t, rfl, cdX_of e0.hok h1, h2, h3⟩
  refine codeAny_call_function hr.depth (bk _ _ hf) rfl S.co S.gen rfl hcd' (hb _ _ _ _ ?_)
  refine wpAny_newFunctionEnv S.nocell (fun y hy => ?_) (fun h₁ hns hsb => ?_) S.kind
  · exact S.par y.1 (List.of_mem_zip hy).1
  have hk₁ : ∀ b u, s.heap.get? b = some u → h₁.get? b = some u := fun b u e => hsb.extBut b u (Nat.ne_of_lt (Heap.lt_size e)) (Heap.get?_push_of_some _ e)
  refine ⟨lim.keeps hk₁, codeAny_func ?_⟩
  obtain ⟨t, ht, hq⟩ := hbody A outer s H vs Q E (hr.deeper _) hsp
  have cellk : ∀ c v, base.IsCell c v → h₁.IsCell c v := fun c v ⟨o, ho, hd⟩ => ⟨o, hk₁ _ _ (bk _ _ ho), hd⟩
  have I : Inv (cloCx P w K mg base (ps ++ fns) qual scope f (.ref c') clos A outer s H E) [] (vs.map some ++ fvs.map some) H { s with heap := h₁, toks := s.toks + (ps.zip us).length } := by
    have noA : ∀ b : Addr, b ∉ (cloCx P w K mg base (ps ++ fns) qual scope f (.ref c') clos A outer s H E).ex := fun b z => absurd (show b ∈ ([] : List Addr) from z) (by simp)
    refine ⟨⟨e0.mod, S.kind, rfl, rfl, Nat.le_refl _, hc.inj, fun y hy => ?_, fun y c z _ => (by cases z), fun _ => hr.hd, Around.frames_deeper e0.frames, .inr ⟨rfl, rfl⟩, fun b z => absurd z (noA b), e0.bs, e0.bsz, fun b _ _ => noA b, fun b z => absurd z (noA b), e0.funs, e0.frf⟩,
      rfl, e0.bare, Un.kept hk₁, ⟨_, hns, fun i y v h1 h2 h3 => ?_⟩, fun y c h => ?_, e0.hok.fresh (Nat.le_refl _), fun y c h => ?_, fun p hp => absurd (show p ∈ ([] : List (Addr × Obj)) from hp) (by simp), e0.hok.kept hk₁, ?_⟩
    · have hy : scope.names.lookup y = some .cell ∨ scope.names.lookup y = some .free := hy
      rcases hy with hy | hy
      · exact absurd rfl (S.nocell _ (mem_of_lookup' hy))
      · exact hc.has y hy
    · have h1 : (ps ++ fns)[i]? = some y := h1
      by_cases ci : i < ps.length
      · rw [List.getElem?_append_left ci] at h1
        rw [List.getElem?_append_left (by rw [List.length_map]; omega), List.getElem?_map] at h2
        cases e : vs[i]? with
        | none => rw [e] at h2; cases h2
        | some a =>
          rw [e] at h2
          cases h2
          obtain ⟨u, hu, rv⟩ := r.get e
          exact ⟨u, rv, .inl ⟨S.par y (List.mem_of_getElem? h1), zip_rev_lookup ndP ul h1 hu⟩⟩
      · rw [List.getElem?_append_right (by omega)] at h1
        rw [List.getElem?_append_right (by rw [List.length_map]; omega), List.length_map, List.getElem?_map, hl] at h2
        cases e : fvs[i - ps.length]? with
        | none => rw [e] at h2; cases h2
        | some a =>
          rw [e] at h2
          cases h2
          obtain ⟨c, u, k1, k2, k3⟩ := hc.val _ y v h1 e
          exact ⟨u, k3, .inr ⟨.inr (S.fre y (List.mem_of_getElem? h1)), c, k1, cellk _ _ k2⟩⟩
    · obtain ⟨v, hv⟩ := hc.cell y c h
      exact ⟨v, cellk _ _ hv⟩
    · obtain ⟨v, o, ho, _⟩ := hc.cell y c h
      exact (e0.bs c o ho).2
    · show _ = (ps ++ fns).length
      rw [List.length_append, List.length_append, List.length_map, List.length_map, hl, hc.len]
  refine wpAny_mono (ht [] _ _ H _ I hq) (fun fl s' hs => ?_) fun e s' hs => hs
  have fin : ∀ {σ' : St} {H' : Hp} {v : V} {u : Value}, Inv (cloCx P w K mg base (ps ++ fns) qual scope f (.ref c') clos A outer s H E) [] σ' H' s' → RelV v u → Q v H' → CE outer P w H s Q u s' :=
    fun {σ' H' v u} J rv q => ⟨v, H', J.os, J.bare, J.base, J.hok, rv, q⟩
  cases fl with
  | ret u =>
    obtain ⟨v, σ', H', J, rv, q⟩ := hs
    exact fin J rv q
  | next =>
    obtain ⟨σ', H', J, q⟩ := hs
    exact fin (v := V.non) (u := Value.none) J rfl q
  | brk =>
    obtain ⟨_, _, _, q⟩ := hs
    exact False.elim q
  | cont =>
    obtain ⟨_, _, _, q⟩ := hs
    exact False.elim q
section
variable {X : Cx} {k : Nat} {f : Addr} {fd : FuncData} {ps : List Str} {e : Expr} {es : List Expr} {t : TA} {pos p : Pos} {x : Str}
noncomputable def tCallBB (X : Cx) (k : Nat) (f : Addr) (fd : FuncData) (ps : List Str) (t : TA) : TE := fun σ H Q => t σ H fun vs H1 => ∃ sp : Sp, (∀ pins s, Inv X pins σ H1 s → FnOk X.prog X.w X.K X.mg (bigB s.heap H1 X.stack) CX0 k f fd ps sp) ∧ sp vs H1 Q E0
theorem pe_callBB (hr : Room k X.A) (hg : Gl X x) (hm : X.mg x = some (.ref f)) (hk : PySem.W.keepIn X.K (.ref f) = true) (hb : Binds X.K fd ps []) (ha : PA X (e :: es) t)
    (hdb : (x == ("__debug__" : Str)) = false := by decide) (he : starEach (e :: es) X.env = (false, eval e X.env) :: starEach es X.env := by rfl) (hpl : (backTo pos (starEach es X.env)).any (·.1) = false := by rfl) :
    PE X (.Call (.Name x p) (e :: es) [] pos) (tCallBB X k f fd ps t) := by
  intro pins s σ H Q I h
  refine wpAny_Call_Name_kw (ld_glob I hg hm ?_ hdb)
  refine PySem.W.callWith_K (h₀ := X.base) I.ok.mod.kin hk (thn (ha pos pins s σ H _ I h) fun us s1 ⟨vs, H1, I1, r, sp, F, q⟩ => ⟨I1.kIn, ?_⟩) he hpl
  have F := F pins s1 I1
  have hl : us.length = ps.length := by rw [← r.length]; exact F.len _ _ _ _ q
  have hb2 := hb s1 us I1.kIn (by rw [List.append_nil]; exact hl)
  rw [List.append_nil] at hb2
  exact run_fnB F hr hb2 I1 r q
end
section
variable {P : Program} {w : World} {K : PySem.W.Frag} {mg : Str → Option Value} {base : Heap}
theorem Fun.okXT {x qual : Str} {st : Stmt} {f c Pt : Addr} {fd : FuncData} {N ps : List Str} {k : Nat} {sp : Sp} (F : Fun K x qual st f fd) (hn : PySem.W.nsIn K mainGlobals x = some (some (.ref f))) (ht : PySem.W.tabIn K x = some (c, Pt)) (S : FnScope N ps (defScope st)) (len : ∀ vs H Q E, sp vs H Q E → vs.length = ps.length)
    (hbody : ∀ (A : Around) (outer : List Env) (s : Shared) (H : Hp) (vs : List V) (Q : VK) (E : XK), Room k (A.deeper (envOfC qual (defScope st) s.heap.objs.size f (.ref c))) → sp vs H Q E →
      ∃ t, PSs (cxOf (CX1 P w) P w K mg base N qual (defScope st) f (.ref c) A outer s H E) (defBody st) t ∧ t { nx := fun _ H' => Q .non H', rt := Q } (start N vs) H) : FnOk P w K mg base (CX1 P w) (k + 1) f fd ps sp := by
  obtain ⟨oc, od, kV, doc, pm, an, cdv, ct, osl, rfl, lk, hcd⟩ := F.ex
  have e : cdv = .ref c := by
    unfold PySem.W.tabIn at ht
    rw [hn] at ht
    dsimp only at ht
    rw [lk] at ht
    dsimp only at ht
    split at ht
    · split at ht
      · split at ht
        · cases ht; rfl
        · cases ht
      · cases ht
    · cases ht
  subst e
  exact fn_of lk hcd S len fun A outer s H vs Q E hr hsp => hbody A outer s H vs Q E hr hsp
end
end L2

set_option linter.all false
namespace Fo
variable {W : Type}
end Fo

set_option linter.all false
namespace Pw
variable {T S : Type}
end Pw

set_option linter.all false
namespace Fo
variable {W : Type}
theorem split_one {d : Nat} : ∀ (G G2 B B2 : List (Bo W)), G ++ B = G2 ++ B2 → (∀ c ∈ G, d < c.sh) → (∀ c ∈ G2, d < c.sh) → HeadSh B d → HeadSh B2 d → G = G2 ∧ B = B2
  | [], [], B, B2, e, _, _, _, _ => ⟨rfl, e⟩
  | [], c :: G2, B, B2, e, _, h2, hB, _ => by
    have h := h2 c List.mem_cons_self
    have : c.sh = d := hB c (by have e : B = c :: (G2 ++ B2) := e; rw [e]; rfl)
    omega
  | c :: G, [], B, B2, e, h1, _, _, hB => by
    have h := h1 c List.mem_cons_self
    have : c.sh = d := hB c (by have e : c :: (G ++ B) = B2 := e; rw [← e]; rfl)
    omega
  | c :: G, c2 :: G2, B, B2, e, h1, h2, hB, hB2 => by
    have e : c :: (G ++ B) = c2 :: (G2 ++ B2) := e
    obtain ⟨e1, e2⟩ := List.cons.inj e
    obtain ⟨r1, r2⟩ := split_one G G2 B B2 e2 (fun x hx => h1 x (List.mem_cons_of_mem _ hx)) (fun x hx => h2 x (List.mem_cons_of_mem _ hx)) hB hB2
    exact ⟨by rw [e1, r1], r2⟩
theorem is_one : ∀ (f g : F W) (B : List (Bo W)) (d : Nat), Is f B d → Is g B d → f = g
  | .nil, .nil, B, d, _, _ => rfl
  | .nil, .leaf k pl r, B, d, hf, hg => by
    obtain ⟨b, B', e, _⟩ := hg
    have hf : B = [] := hf
    rw [hf] at e
    cases e
  | .nil, .node c w s r, B, d, hf, hg => by
    obtain ⟨b, G, B', e, _⟩ := hg
    have hf : B = [] := hf
    rw [hf] at e
    cases e
  | .leaf k pl r, .nil, B, d, hf, hg => by
    obtain ⟨b, B', e, _⟩ := hf
    have hg : B = [] := hg
    rw [hg] at e
    cases e
  | .leaf k pl r, .leaf k2 pl2 r2, B, d, hf, hg => by
    obtain ⟨b, B', rfl, rfl, rfl, _, _, h5⟩ := hf
    obtain ⟨b2, B2, e, rfl, rfl, _, _, g5⟩ := hg
    obtain ⟨rfl, rfl⟩ := List.cons.inj e
    rw [is_one r r2 _ d h5 g5]
  | .leaf k pl r, .node c w s r2, B, d, hf, hg => by
    obtain ⟨b, B', rfl, _, _, hl, _, _⟩ := hf
    obtain ⟨b2, G, B2, e, hw, _⟩ := hg
    have e : b :: B' = b2 :: (G ++ B2) := e
    obtain ⟨rfl, _⟩ := List.cons.inj e
    have := (List.getElem?_eq_some_iff.mp hw).1
    omega
  | .node c w s r, .nil, B, d, hf, hg => by
    obtain ⟨b, G, B', e, _⟩ := hf
    have hg : B = [] := hg
    rw [hg] at e
    cases e
  | .node c w s r2, .leaf k pl r, B, d, hg, hf => by
    obtain ⟨b, B', rfl, _, _, hl, _, _⟩ := hf
    obtain ⟨b2, G, B2, e, hw, _⟩ := hg
    have e : b :: B' = b2 :: (G ++ B2) := e
    obtain ⟨rfl, _⟩ := List.cons.inj e
    have := (List.getElem?_eq_some_iff.mp hw).1
    omega
  | .node c w s r, .node c2 w2 s2 r2, B, d, hf, hg => by
    obtain ⟨b, G, B', rfl, hw, hG, hh, hs, hr⟩ := hf
    obtain ⟨b2, G2, B2, e, hw2, hG2, hh2, hs2, hr2⟩ := hg
    have e : b :: (G ++ B') = b2 :: (G2 ++ B2) := e
    obtain ⟨rfl, e'⟩ := List.cons.inj e
    obtain ⟨rfl, rfl⟩ := split_one G G2 B' B2 e' hG hG2 hh hh2
    rw [hw] at hw2
    obtain ⟨rfl, rfl⟩ := Prod.mk.inj (Option.some.inj hw2)
    rw [is_one s s2 _ _ hs hs2, is_one r r2 _ _ hr hr2]
end Fo

set_option linter.all false
namespace Fo
variable {W : Type}
noncomputable def sz : F W → Nat
  | .nil => 0
  | .leaf _ _ r => sz r + 1
  | .node _ _ s r => sz s + sz r
noncomputable def cnt : F W → Nat
  | .nil => 0
  | .leaf _ _ r => cnt r + 1
  | .node _ _ _ r => cnt r + 1
noncomputable def good : F W → Prop
  | .nil => True
  | .leaf _ _ r => good r
  | .node _ _ s r => 0 < sz s ∧ good s ∧ good r
noncomputable def lv : List (Bool × W) → Nat → F W → List (Bo W)
  | _, _, .nil => []
  | ws, s, .leaf k pl r => ⟨k, s, ws, pl⟩ :: lv ws ws.length r
  | ws, s, .node c w f r => lv (ws ++ [(c, w)]) s f ++ lv ws ws.length r
theorem lv_len : ∀ (f : F W) (ws : List (Bool × W)) (s : Nat), (lv ws s f).length = sz f
  | .nil, _, _ => rfl
  | .leaf k pl r, ws, s => by show (lv ws ws.length r).length + 1 = _; rw [lv_len r]; rfl
  | .node c w f r, ws, s => by show (lv (ws ++ [(c, w)]) s f ++ lv ws ws.length r).length = _; rw [List.length_append, lv_len f, lv_len r]; rfl
theorem lv_head : ∀ (f : F W) (ws : List (Bool × W)) (s : Nat), good f → HeadSh (lv ws s f) s
  | .nil, _, _, _ => fun c h => by cases h
  | .leaf k pl r, ws, s, _ => fun c h => by cases h; rfl
  | .node c w f r, ws, s, g => by
    have h := lv_head f (ws ++ [(c, w)]) s g.2.1
    have l := lv_len f (ws ++ [(c, w)]) s
    have p := g.1
    show HeadSh (lv (ws ++ [(c, w)]) s f ++ lv ws ws.length r) s
    cases e : lv (ws ++ [(c, w)]) s f with
    | nil => rw [e] at l; rw [← l] at p; exact absurd p (Nat.lt_irrefl 0)
    | cons b G => rw [e] at h; exact h
theorem lv_ways : ∀ (f : F W) (ws : List (Bool × W)) (s : Nat) (b : Bo W), b ∈ lv ws s f → b.ways.take ws.length = ws ∧ ws.length ≤ b.ways.length
  | .nil, _, _, b, h => by cases h
  | .leaf k pl r, ws, s, b, h => by
    rcases List.mem_cons.mp h with e | e
    · rw [e]; exact ⟨List.take_length, Nat.le_refl _⟩
    · exact lv_ways r ws _ b e
  | .node c w f r, ws, s, b, h => by
    rcases List.mem_append.mp h with e | e
    · obtain ⟨h1, h2⟩ := lv_ways f (ws ++ [(c, w)]) s b e
      rw [List.length_append, List.length_singleton] at h1 h2
      refine ⟨?_, by omega⟩
      have : (b.ways.take (ws.length + 1)).take ws.length = (ws ++ [(c, w)]).take ws.length := by rw [h1]
      rw [List.take_take, Nat.min_eq_left (by omega), List.take_left'] at this
      · exact this
      · rfl
    · exact lv_ways r ws _ b e
theorem lv_tail : ∀ (f : F W) (ws : List (Bool × W)) (s : Nat), good f → ∀ b ∈ (lv ws s f).tail, ws.length ≤ b.sh
  | .nil, _, _, _, b, h => by cases h
  | .leaf k pl r, ws, s, g, b, h => by
    have h : b ∈ lv ws ws.length r := h
    have hh := lv_head r ws ws.length g
    cases e : lv ws ws.length r with
    | nil => rw [e] at h; cases h
    | cons c B =>
      rw [e] at h
      rcases List.mem_cons.mp h with z | z
      · rw [z, hh c (by rw [e]; rfl)]; exact Nat.le_refl _
      · exact lv_tail r ws ws.length g b (by rw [e]; exact z)
  | .node c w f r, ws, s, g, b, h => by
    have h : b ∈ (lv (ws ++ [(c, w)]) s f ++ lv ws ws.length r).tail := h
    have l := lv_len f (ws ++ [(c, w)]) s
    have p := g.1
    cases e : lv (ws ++ [(c, w)]) s f with
    | nil => rw [e] at l; rw [← l] at p; exact absurd p (Nat.lt_irrefl 0)
    | cons x G =>
      rw [e] at h
      rcases List.mem_append.mp (show b ∈ G ++ lv ws ws.length r from h) with z | z
      · have := lv_tail f (ws ++ [(c, w)]) s g.2.1 b (by rw [e]; exact z)
        rw [List.length_append, List.length_singleton] at this
        omega
      · have hh := lv_head r ws ws.length g.2.2
        cases e2 : lv ws ws.length r with
        | nil => rw [e2] at z; cases z
        | cons y B =>
          rw [e2] at z
          rcases List.mem_cons.mp z with q | q
          · rw [q, hh y (by rw [e2]; rfl)]; exact Nat.le_refl _
          · exact lv_tail r ws ws.length g.2.2 b (by rw [e2]; exact q)
theorem lv_is : ∀ (f : F W) (ws : List (Bool × W)) (s : Nat), good f → Is f (lv ws s f) ws.length
  | .nil, _, _, _ => rfl
  | .leaf k pl r, ws, s, g => ⟨_, _, rfl, rfl, rfl, rfl, lv_head r ws _ g, lv_is r ws _ g⟩
  | .node c w f r, ws, s, g => by
    have l := lv_len f (ws ++ [(c, w)]) s
    have p := g.1
    have i1 := lv_is f (ws ++ [(c, w)]) s g.2.1
    have t1 := lv_tail f (ws ++ [(c, w)]) s g.2.1
    have w1 := lv_ways f (ws ++ [(c, w)]) s
    show Is (.node c w f r) (lv (ws ++ [(c, w)]) s f ++ lv ws ws.length r) ws.length
    cases e : lv (ws ++ [(c, w)]) s f with
    | nil => rw [e] at l; rw [← l] at p; exact absurd p (Nat.lt_irrefl 0)
    | cons b G =>
      rw [e] at i1 t1 w1
      rw [List.length_append, List.length_singleton] at i1
      refine ⟨b, G, _, rfl, ?_, fun x hx => ?_, lv_head r ws _ g.2.2, i1, lv_is r ws _ g.2.2⟩
      · have := (w1 b List.mem_cons_self).1
        rw [List.length_append, List.length_singleton] at this
        have e2 : (b.ways.take (ws.length + 1))[ws.length]? = (ws ++ [(c, w)])[ws.length]? := by rw [this]
        rw [List.getElem?_take_of_lt (Nat.lt_succ_self _), List.getElem?_append_right (Nat.le_refl _), Nat.sub_self] at e2
        exact e2
      · have := t1 x hx
        rw [List.length_append, List.length_singleton] at this
        omega
theorem Ok.left {X Y : List (Bo W)} (h : Ok (X ++ Y)) : Ok X := ⟨fun b hb => h.sh b (List.mem_append_left _ hb), fun i b c h1 h2 => h.ln i b c (by rw [List.getElem?_append_left (List.getElem?_eq_some_iff.mp h1).1]; exact h1) (by rw [List.getElem?_append_left (List.getElem?_eq_some_iff.mp h2).1]; exact h2)⟩
theorem Ok.right {X Y : List (Bo W)} (h : Ok (X ++ Y)) : Ok Y := ⟨fun b hb => h.sh b (List.mem_append_right _ hb), fun i b c h1 h2 => h.ln (X.length + i) b c (by rw [List.getElem?_append_right (by omega), Nat.add_sub_cancel_left]; exact h1) (by rw [List.getElem?_append_right (by omega), Nat.add_assoc, Nat.add_sub_cancel_left]; exact h2)⟩
theorem is_lv : ∀ (f : F W) (B : List (Bo W)) (ws : List (Bool × W)) (s : Nat), Is f B ws.length → Ok B → (∀ b ∈ B, b.ways.take ws.length = ws) → HeadSh B s → B = lv ws s f ∧ good f
  | .nil, B, ws, s, h, _, _, _ => ⟨h, trivial⟩
  | .leaf k pl r, B, ws, s, h, ok, hw, hs => by
    obtain ⟨b, B', rfl, rfl, rfl, hl, hh, hr⟩ := h
    obtain ⟨e, g⟩ := is_lv r B' ws ws.length hr (Ok.right (X := [b]) ok) (fun x hx => hw x (List.mem_cons_of_mem _ hx)) hh
    refine ⟨?_, g⟩
    have w1 := hw b List.mem_cons_self
    rw [List.take_of_length_le (Nat.le_of_eq hl)] at w1
    have s1 := hs b rfl
    show b :: B' = ⟨b.k, s, ws, b.pl⟩ :: lv ws ws.length r
    rw [← e, ← s1, ← w1]
  | .node c w f r, B, ws, s, h, ok, hw, hs => by
    obtain ⟨b, G, B', rfl, hc, hG, hh, hf, hr⟩ := h
    have hd : ws.length < b.ways.length := (List.getElem?_eq_some_iff.mp hc).1
    have b1 : b.ways.take (ws.length + 1) = ws ++ [(c, w)] := by
      rw [List.take_succ, hc, hw b List.mem_cons_self]
      rfl
    have okb := ok.left
    have al : ∀ (i : Nat) (x : Bo W), (b :: G)[i]? = some x → x.ways.take (ws.length + 1) = ws ++ [(c, w)] := by
      intro i
      induction i with
      | zero => intro x hx; cases hx; exact b1
      | succ i ih =>
        intro x hx
        have l2 := (List.getElem?_eq_some_iff.mp hx).1
        have hy : (b :: G)[i]? = some (b :: G)[i] := List.getElem?_eq_getElem (by omega)
        have y1 := ih _ hy
        have xs := hG x (List.mem_of_getElem? (i := i) hx)
        have e := (okb.ln i _ x hy hx).2
        have e2 : (x.ways.take x.sh).take (ws.length + 1) = ((b :: G)[i].ways.take x.sh).take (ws.length + 1) := by rw [e]
        rw [List.take_take, List.take_take, Nat.min_eq_left (by omega)] at e2
        rw [e2]; exact y1
    have lw : (ws ++ [(c, w)]).length = ws.length + 1 := by rw [List.length_append]; rfl
    obtain ⟨e1, g1⟩ := is_lv f (b :: G) (ws ++ [(c, w)]) s (by rw [lw]; exact hf) okb (fun x hx => by
      obtain ⟨i, hi⟩ := List.mem_iff_getElem?.mp hx
      rw [lw]
      exact al i x hi) hs
    obtain ⟨e2, g2⟩ := is_lv r B' ws ws.length hr ok.right (fun x hx => hw x (List.mem_append_right _ hx)) hh
    refine ⟨?_, ?_, g1, g2⟩
    · show b :: G ++ B' = lv (ws ++ [(c, w)]) s f ++ lv ws ws.length r
      rw [← e1, ← e2]
    · have := congrArg List.length e1
      rw [lv_len] at this
      rw [← this]
      exact Nat.succ_pos _
theorem ok_app {X Y : List (Bo W)} (hX : Ok X) (hY : Ok Y) (hj : ∀ x y, X.getLast? = some x → Y.head? = some y → y.sh ≤ x.ways.length ∧ y.ways.take y.sh = x.ways.take y.sh) : Ok (X ++ Y) := by
  refine ⟨fun b hb => (List.mem_append.mp hb).elim (hX.sh b) (hY.sh b), fun i b c h1 h2 => ?_⟩
  by_cases c1 : i + 1 < X.length
  · rw [List.getElem?_append_left (by omega)] at h1
    rw [List.getElem?_append_left c1] at h2
    exact hX.ln i b c h1 h2
  · by_cases c2 : i < X.length
    · have ei : i = X.length - 1 := by omega
      rw [List.getElem?_append_left c2] at h1
      rw [List.getElem?_append_right (by omega), show i + 1 - X.length = 0 by omega] at h2
      refine hj b c ?_ ?_
      · rw [List.getLast?_eq_getElem?, ← ei]; exact h1
      · rw [List.head?_eq_getElem?]; exact h2
    · rw [List.getElem?_append_right (by omega)] at h1
      rw [List.getElem?_append_right (by omega), show i + 1 - X.length = (i - X.length) + 1 by omega] at h2
      exact hY.ln _ b c h1 h2
theorem ok_lv : ∀ (f : F W) (ws : List (Bool × W)) (s : Nat), good f → s ≤ ws.length → Ok (lv ws s f)
  | .nil, _, _, _, _ => ⟨fun b hb => (by cases hb), fun i b c h => (by simp [lv] at h)⟩
  | .leaf k pl r, ws, s, g, h => by
    refine ok_app (X := [⟨k, s, ws, pl⟩]) ⟨fun b hb => ?_, fun i b c h1 h2 => (by simp at h2)⟩ (ok_lv r ws _ g (Nat.le_refl _)) fun x y hx hy => ?_
    · rw [List.mem_singleton.mp hb]; exact h
    · cases hx
      have := lv_head r ws ws.length g y hy
      have m : y ∈ lv ws ws.length r := List.mem_of_mem_head? hy
      rw [this]
      refine ⟨Nat.le_refl _, ?_⟩
      show y.ways.take ws.length = ws.take ws.length
      rw [(lv_ways r ws _ y m).1, List.take_length]
  | .node c w f r, ws, s, g, h => by
    refine ok_app (ok_lv f (ws ++ [(c, w)]) s g.2.1 (by rw [List.length_append]; omega)) (ok_lv r ws _ g.2.2 (Nat.le_refl _)) fun x y hx hy => ?_
    have := lv_head r ws ws.length g.2.2 y hy
    have m : y ∈ lv ws ws.length r := List.mem_of_mem_head? hy
    have mx : x ∈ lv (ws ++ [(c, w)]) s f := List.mem_of_mem_getLast? hx
    obtain ⟨x1, x2⟩ := lv_ways f (ws ++ [(c, w)]) s x mx
    rw [List.length_append, List.length_singleton] at x1 x2
    rw [this]
    refine ⟨by omega, ?_⟩
    rw [(lv_ways r ws _ y m).1]
    have : (x.ways.take (ws.length + 1)).take ws.length = (ws ++ [(c, w)]).take ws.length := by rw [x1]
    rw [List.take_take, Nat.min_eq_left (by omega), List.take_left' rfl] at this
    exact this.symm
noncomputable def lk : F W → Nat → List Int → Option (Nat × Nat × Option ((Bool × W) × F W))
  | _, _, [] => none
  | .nil, _, _ :: _ => none
  | .leaf _ _ r, n, j :: q => if j = 0 then (if q = [] then some (n, n + 1, none) else none) else lk r (n + 1) ((j - 1) :: q)
  | .node c w s r, n, j :: q => if j = 0 then (if q = [] then some (n, n + sz s, some ((c, w), s)) else lk s n q) else lk r (n + sz s) ((j - 1) :: q)
noncomputable abbrev Gp := List Int × Nat × Nat × Bool
noncomputable def gr : F W → List Int → Int → Nat → List Gp
  | .nil, _, _, _ => []
  | .leaf _ _ r, p, j, n => (p ++ [j], n, n + 1, false) :: gr r p (j + 1) (n + 1)
  | .node _ _ s r, p, j, n => (p ++ [j], n, n + sz s, true) :: (gr s (p ++ [j]) 0 n ++ gr r p (j + 1) (n + sz s))
theorem gr_paths : ∀ (f : F W) (p : List Int) (j : Int) (n : Nat) (g : Gp), g ∈ gr f p j n → ∃ i q, j ≤ i ∧ g.1 = p ++ i :: q
  | .nil, _, _, _, _, h => by cases h
  | .leaf _ _ r, p, j, n, g, h => by
    rcases List.mem_cons.mp h with e | e
    · exact ⟨j, [], Int.le_refl _, by rw [e]⟩
    · obtain ⟨i, q, h1, h2⟩ := gr_paths r p (j + 1) (n + 1) g e
      exact ⟨i, q, by omega, h2⟩
  | .node c w s r, p, j, n, g, h => by
    rcases List.mem_cons.mp h with e | e
    · exact ⟨j, [], Int.le_refl _, by rw [e]⟩
    · rcases List.mem_append.mp e with e | e
      · obtain ⟨i, q, h1, h2⟩ := gr_paths s (p ++ [j]) 0 n g e
        exact ⟨j, i :: q, Int.le_refl _, by rw [h2, List.append_assoc]; rfl⟩
      · obtain ⟨i, q, h1, h2⟩ := gr_paths r p (j + 1) _ g e
        exact ⟨i, q, by omega, h2⟩
theorem path_ne {p : List Int} {i k : Int} {q r : List Int} (h : i ≠ k) : p ++ i :: q ≠ p ++ k :: r := fun e => h (by
  have := List.append_cancel_left e
  cases this; rfl)
noncomputable def fnd (G : List Gp) (t : List Int) : Option Gp := G.find? fun g => decide (g.1 = t)
theorem fnd_none {G : List Gp} {t : List Int} (h : ∀ g ∈ G, g.1 ≠ t) : fnd G t = none := by
  unfold fnd
  rw [List.find?_eq_none]
  intro g hg
  simpa using h g hg
theorem fnd_cons {g : Gp} {G : List Gp} {t : List Int} : fnd (g :: G) t = if g.1 = t then some g else fnd G t := by
  unfold fnd
  rw [List.find?_cons]
  by_cases c : g.1 = t
  · rw [if_pos c, decide_eq_true c]
  · rw [if_neg c, decide_eq_false c]
theorem fnd_app {G R : List Gp} {t : List Int} : fnd (G ++ R) t = (fnd G t).or (fnd R t) := by
  unfold fnd
  rw [List.find?_append]
theorem lk_nil (f : F W) (n : Nat) : lk f n [] = none := by cases f <;> rfl
theorem fnd_gr : ∀ (f : F W) (p : List Int) (j : Int) (n : Nat) (i : Int) (q : List Int), fnd (gr f p j n) (p ++ (j + i) :: q) = (lk f n (i :: q)).map fun r => (p ++ (j + i) :: q, r.1, r.2.1, r.2.2.isSome)
  | .nil, p, j, n, i, q => rfl
  | .leaf k pl r, p, j, n, i, q => by
    have ih := fnd_gr r p (j + 1) (n + 1) (i - 1) q
    rw [show j + 1 + (i - 1) = j + i by omega] at ih
    show fnd ((p ++ [j], n, n + 1, false) :: gr r p (j + 1) (n + 1)) _ = (if i = 0 then (if q = [] then some (n, n + 1, none) else none) else lk r (n + 1) ((i - 1) :: q)).map _
    rw [fnd_cons]
    by_cases c : i = 0
    · subst c
      rw [if_pos rfl]
      by_cases cq : q = []
      · subst cq
        rw [if_pos rfl, if_pos (by rw [Int.add_zero])]
        show some (p ++ [j], n, n + 1, false) = some (p ++ [j + 0], n, n + 1, false)
        rw [Int.add_zero]
      · rw [if_neg cq, if_neg]
        · refine fnd_none fun g hg => ?_
          obtain ⟨i', q', h1, h2⟩ := gr_paths r p (j + 1) (n + 1) g hg
          rw [h2]
          exact path_ne (by omega)
        · intro e
          have := congrArg List.length (List.append_cancel_left e)
          rw [List.length_singleton, List.length_cons] at this
          exact cq (List.eq_nil_of_length_eq_zero (by omega))
    · rw [if_neg c, if_neg (path_ne (by omega)), ih]
  | .node c w s r, p, j, n, i, q => by
    have ih := fnd_gr r p (j + 1) (n + sz s) (i - 1) q
    rw [show j + 1 + (i - 1) = j + i by omega] at ih
    show fnd ((p ++ [j], n, n + sz s, true) :: (gr s (p ++ [j]) 0 n ++ gr r p (j + 1) (n + sz s))) _ = (if i = 0 then (if q = [] then some (n, n + sz s, some ((c, w), s)) else lk s n q) else lk r (n + sz s) ((i - 1) :: q)).map _
    have nr : i = 0 → fnd (gr r p (j + 1) (n + sz s)) (p ++ (j + i) :: q) = none := fun e => fnd_none fun g hg => by
      obtain ⟨i', q', h1, h2⟩ := gr_paths r p (j + 1) _ g hg
      rw [h2]
      exact path_ne (by omega)
    rw [fnd_cons, fnd_app]
    by_cases c1 : i = 0
    · rw [if_pos c1, nr c1]
      by_cases cq : q = []
      · subst cq
        rw [if_pos rfl, if_pos (by rw [c1, Int.add_zero]), c1]
        show some (p ++ [j], n, n + sz s, true) = some (p ++ [j + 0], n, n + sz s, true)
        rw [Int.add_zero]
      · rw [if_neg cq, if_neg]
        · cases q with
          | nil => exact absurd rfl cq
          | cons i' q' =>
            have ih2 := fnd_gr s (p ++ [j]) 0 n i' q'
            rw [Int.zero_add, List.append_assoc] at ih2
            rw [c1, Int.add_zero]
            rw [show p ++ j :: i' :: q' = p ++ ([j] ++ i' :: q') from rfl, ih2, Option.or_none]
        · intro e
          have := congrArg List.length (List.append_cancel_left e)
          rw [List.length_singleton, List.length_cons] at this
          exact cq (List.eq_nil_of_length_eq_zero (by omega))
    · rw [if_neg c1, if_neg (path_ne (by omega)), ih]
      rw [fnd_none (G := gr s (p ++ [j]) 0 n), Option.none_or]
      intro g hg
      obtain ⟨i', q', h1, h2⟩ := gr_paths s (p ++ [j]) 0 n g hg
      rw [h2, List.append_assoc]
      exact path_ne (by omega)
end Fo

set_option linter.all false
namespace Fo
variable {W : Type}
noncomputable def tk : Nat → F W → F W
  | 0, _ => .nil
  | _ + 1, .nil => .nil
  | n + 1, .leaf k pl r => .leaf k pl (tk n r)
  | n + 1, .node c w s r => .node c w s (tk n r)
noncomputable def dr : Nat → F W → F W
  | 0, f => f
  | _ + 1, .nil => .nil
  | n + 1, .leaf _ _ r => dr n r
  | n + 1, .node _ _ _ r => dr n r
theorem app_nil : ∀ f : F W, app f .nil = f
  | .nil => rfl
  | .leaf k pl r => by show F.leaf k pl (app r .nil) = _; rw [app_nil r]
  | .node c w s r => by show F.node c w s (app r .nil) = _; rw [app_nil r]
theorem cnt_app : ∀ (f g : F W), cnt (app f g) = cnt f + cnt g
  | .nil, g => (Nat.zero_add _).symm
  | .leaf k pl r, g => by show cnt (app r g) + 1 = cnt r + 1 + cnt g; rw [cnt_app r g]; omega
  | .node c w s r, g => by show cnt (app r g) + 1 = cnt r + 1 + cnt g; rw [cnt_app r g]; omega
theorem good_app : ∀ (f g : F W), good f → good g → good (app f g)
  | .nil, g, _, h => h
  | .leaf k pl r, g, a, h => good_app r g a h
  | .node c w s r, g, a, h => ⟨a.1, a.2.1, good_app r g a.2.2 h⟩
theorem lv_app : ∀ (f g : F W) (ws : List (Bool × W)) (s : Nat), 0 < cnt f → lv ws s (app f g) = lv ws s f ++ lv ws ws.length g
  | .nil, g, ws, s, h => absurd h (Nat.lt_irrefl 0)
  | .leaf k pl r, g, ws, s, _ => by
    show _ :: lv ws ws.length (app r g) = _ :: (lv ws ws.length r ++ lv ws ws.length g)
    cases r with
    | nil => rfl
    | leaf k' pl' r' => rw [lv_app (.leaf k' pl' r') g ws ws.length (Nat.succ_pos _)]
    | node c w s' r' => rw [lv_app (.node c w s' r') g ws ws.length (Nat.succ_pos _)]
  | .node c w f' r, g, ws, s, _ => by
    show lv (ws ++ [(c, w)]) s f' ++ lv ws ws.length (app r g) = (lv (ws ++ [(c, w)]) s f' ++ lv ws ws.length r) ++ lv ws ws.length g
    rw [List.append_assoc]
    cases r with
    | nil => rfl
    | leaf k' pl' r' => rw [lv_app (.leaf k' pl' r') g ws ws.length (Nat.succ_pos _)]
    | node c w s' r' => rw [lv_app (.node c w s' r') g ws ws.length (Nat.succ_pos _)]
noncomputable def pt : F W → List Int → Nat → F W → F W
  | f, [], _, _ => f
  | .nil, _ :: _, _, _ => .nil
  | .leaf k pl r, j :: q, m, o => if j = 0 then (if q = [] then app o (dr m (.leaf k pl r)) else .leaf k pl r) else .leaf k pl (pt r ((j - 1) :: q) m o)
  | .node c w s r, j :: q, m, o => if j = 0 then (if q = [] then app o (dr m (.node c w s r)) else .node c w (pt s q m o) r) else .node c w s (pt r ((j - 1) :: q) m o)
theorem gr_app : ∀ (f g : F W) (p : List Int) (j : Int) (n : Nat), gr (app f g) p j n = gr f p j n ++ gr g p (j + (cnt f : Int)) (n + sz f)
  | .nil, g, p, j, n => by show gr g p j n = gr g p (j + ((0 : Nat) : Int)) (n + 0); rw [Int.natCast_zero, Int.add_zero, Nat.add_zero]
  | .leaf k pl r, g, p, j, n => by
    show _ :: gr (app r g) p (j + 1) (n + 1) = _ :: (gr r p (j + 1) (n + 1) ++ gr g p (j + ((cnt r + 1 : Nat) : Int)) (n + (sz r + 1)))
    rw [gr_app r g, show j + 1 + (cnt r : Int) = j + ((cnt r + 1 : Nat) : Int) by omega, show n + 1 + sz r = n + (sz r + 1) by omega]
  | .node c w s r, g, p, j, n => by
    show _ :: (gr s (p ++ [j]) 0 n ++ gr (app r g) p (j + 1) (n + sz s)) = _ :: ((gr s (p ++ [j]) 0 n ++ gr r p (j + 1) (n + sz s)) ++ gr g p (j + ((cnt r + 1 : Nat) : Int)) (n + (sz s + sz r)))
    rw [gr_app r g, List.append_assoc, show j + 1 + (cnt r : Int) = j + ((cnt r + 1 : Nat) : Int) by omega, show n + sz s + sz r = n + (sz s + sz r) by omega]
theorem is_len : ∀ (f : F W) (B : List (Bo W)) (d : Nat), Is f B d → B.length = sz f
  | .nil, B, d, h => by cases (show B = [] from h); rfl
  | .leaf k pl r, B, d, h => by
    obtain ⟨b, B', rfl, _, _, _, _, hr⟩ := h
    rw [List.length_cons, is_len r B' d hr]
    rfl
  | .node c w s r, B, d, h => by
    obtain ⟨b, G, B', rfl, _, _, _, hs, hr⟩ := h
    rw [List.length_append, is_len s _ _ hs, is_len r B' d hr]
    rfl
theorem gr_mem : ∀ (f : F W) (p : List Int) (j : Int) (n : Nat) (g : Gp), g ∈ gr f p j n → g.1 ≠ [] := fun f p j n g h e => by
  obtain ⟨i, q, _, h2⟩ := gr_paths f p j n g h
  rw [h2] at e
  simp at e
end Fo

set_option linter.all false
namespace Fo
variable {W : Type}
theorem lk_step : ∀ (f : F W) (n : Nat) (j : Int) (q : List Int) (x : Nat × Nat × Option ((Bool × W) × F W)), lk f n (j :: q) = some x → ∃ k : Nat, j = (k : Int) ∧ k < cnt f ∧ (q = [] ∨ ∃ c w s n', dr k f = .node c w s (dr (k + 1) f) ∧ lk s n' q = some x)
  | .nil, n, j, q, x, h => by cases h
  | .leaf k pl r, n, j, q, x, h => by
    have h : (if j = 0 then (if q = [] then some (n, n + 1, none) else none) else lk r (n + 1) ((j - 1) :: q)) = some x := h
    by_cases c : j = 0
    · rw [if_pos c] at h
      by_cases cq : q = []
      · exact ⟨0, c, Nat.succ_pos _, .inl cq⟩
      · rw [if_neg cq] at h; cases h
    · rw [if_neg c] at h
      obtain ⟨i, h1, h2, h3⟩ := lk_step r (n + 1) (j - 1) q x h
      exact ⟨i + 1, by omega, Nat.succ_lt_succ h2, h3⟩
  | .node cc w s r, n, j, q, x, h => by
    have h : (if j = 0 then (if q = [] then some (n, n + sz s, some ((cc, w), s)) else lk s n q) else lk r (n + sz s) ((j - 1) :: q)) = some x := h
    by_cases c : j = 0
    · rw [if_pos c] at h
      by_cases cq : q = []
      · exact ⟨0, c, Nat.succ_pos _, .inl cq⟩
      · rw [if_neg cq] at h
        exact ⟨0, c, Nat.succ_pos _, .inr ⟨cc, w, s, n, rfl, h⟩⟩
    · rw [if_neg c] at h
      obtain ⟨i, h1, h2, h3⟩ := lk_step r (n + sz s) (j - 1) q x h
      exact ⟨i + 1, by omega, Nat.succ_lt_succ h2, h3⟩
theorem pt_one : ∀ (f : F W) (k m : Nat) (o : F W), k < cnt f → pt f [(k : Int)] m o = app (tk k f) (app o (dr (k + m) f))
  | .nil, k, m, o, h => absurd h (Nat.not_lt_zero _)
  | .leaf a pl r, 0, m, o, _ => by
    show (if (0 : Int) = 0 then (if ([] : List Int) = [] then app o (dr m (.leaf a pl r)) else _) else _) = app o (dr (0 + m) (.leaf a pl r))
    rw [if_pos rfl, if_pos rfl, Nat.zero_add]
  | .node c w s r, 0, m, o, _ => by
    show (if (0 : Int) = 0 then (if ([] : List Int) = [] then app o (dr m (.node c w s r)) else _) else _) = app o (dr (0 + m) (.node c w s r))
    rw [if_pos rfl, if_pos rfl, Nat.zero_add]
  | .leaf a pl r, k + 1, m, o, h => by
    have e : pt (.leaf a pl r) [((k + 1 : Nat) : Int)] m o = .leaf a pl (pt r [((k + 1 : Nat) : Int) - 1] m o) := if_neg (by omega)
    rw [e, show ((k + 1 : Nat) : Int) - 1 = (k : Int) by omega, pt_one r k m o (Nat.lt_of_succ_lt_succ h), show k + 1 + m = (k + m) + 1 by omega]
    rfl
  | .node c w s r, k + 1, m, o, h => by
    have e : pt (.node c w s r) [((k + 1 : Nat) : Int)] m o = .node c w s (pt r [((k + 1 : Nat) : Int) - 1] m o) := if_neg (by omega)
    rw [e, show ((k + 1 : Nat) : Int) - 1 = (k : Int) by omega, pt_one r k m o (Nat.lt_of_succ_lt_succ h), show k + 1 + m = (k + m) + 1 by omega]
    rfl
theorem pt_more : ∀ (f : F W) (k m : Nat) (o : F W) (i : Int) (q : List Int) (c : Bool) (w : W) (s : F W), dr k f = .node c w s (dr (k + 1) f) → pt f ((k : Int) :: i :: q) m o = app (tk k f) (.node c w (pt s (i :: q) m o) (dr (k + 1) f))
  | .nil, k, m, o, i, q, c, w, s, h => by cases k <;> cases h
  | .leaf a pl r, 0, m, o, i, q, c, w, s, h => by cases h
  | .node c' w' s' r, 0, m, o, i, q, c, w, s, h => by
    have h : F.node c' w' s' r = .node c w s r := h
    cases h
    rfl
  | .leaf a pl r, k + 1, m, o, i, q, c, w, s, h => by
    have e : pt (.leaf a pl r) (((k + 1 : Nat) : Int) :: i :: q) m o = .leaf a pl (pt r ((((k + 1 : Nat) : Int) - 1) :: i :: q) m o) := if_neg (by omega)
    rw [e, show ((k + 1 : Nat) : Int) - 1 = (k : Int) by omega, pt_more r k m o i q c w s h]
    rfl
  | .node c' w' s' r, k + 1, m, o, i, q, c, w, s, h => by
    have e : pt (.node c' w' s' r) (((k + 1 : Nat) : Int) :: i :: q) m o = .node c' w' s' (pt r ((((k + 1 : Nat) : Int) - 1) :: i :: q) m o) := if_neg (by omega)
    rw [e, show ((k + 1 : Nat) : Int) - 1 = (k : Int) by omega, pt_more r k m o i q c w s h]
    rfl
theorem lk_out : ∀ (f : F W) (n : Nat) (j : Int) (q : List Int), (j < 0 ∨ (cnt f : Int) ≤ j) → lk f n (j :: q) = none
  | .nil, n, j, q, _ => rfl
  | .leaf k pl r, n, j, q, h => by
    have h : j < 0 ∨ ((cnt r + 1 : Nat) : Int) ≤ j := h
    show (if j = 0 then (if q = [] then some (n, n + 1, none) else none) else lk r (n + 1) ((j - 1) :: q)) = none
    rw [if_neg (by omega)]
    exact lk_out r (n + 1) (j - 1) q (by omega)
  | .node c w s r, n, j, q, h => by
    have h : j < 0 ∨ ((cnt r + 1 : Nat) : Int) ≤ j := h
    show (if j = 0 then (if q = [] then some (n, n + sz s, some ((c, w), s)) else lk s n q) else lk r (n + sz s) ((j - 1) :: q)) = none
    rw [if_neg (by omega)]
    exact lk_out r (n + sz s) (j - 1) q (by omega)
theorem lk_down : ∀ (f : F W) (n k : Nat) (q : List Int), k < cnt f →
    (∃ a pl r, dr k f = .leaf a pl r ∧ (q ≠ [] → lk f n ((k : Int) :: q) = none) ∧ (q = [] → ∃ x y, lk f n ((k : Int) :: q) = some (x, y, none))) ∨
    (∃ c w s r, dr k f = .node c w s r ∧ (q ≠ [] → ∃ n', lk f n ((k : Int) :: q) = lk s n' q) ∧ (q = [] → ∃ x y, lk f n ((k : Int) :: q) = some (x, y, some ((c, w), s))))
  | .nil, n, k, q, h => absurd h (Nat.not_lt_zero _)
  | .leaf a pl r, n, 0, q, _ => by
    refine .inl ⟨a, pl, r, rfl, fun z => ?_, fun z => ⟨n, n + 1, ?_⟩⟩
    · show (if (0 : Int) = 0 then (if q = [] then some (n, n + 1, none) else none) else _) = none
      rw [if_pos rfl, if_neg z]
    · show (if (0 : Int) = 0 then (if q = [] then some (n, n + 1, none) else none) else _) = _
      rw [if_pos rfl, if_pos z]
  | .node c w s r, n, 0, q, _ => by
    refine .inr ⟨c, w, s, r, rfl, fun z => ⟨n, ?_⟩, fun z => ⟨n, n + sz s, ?_⟩⟩
    · show (if (0 : Int) = 0 then (if q = [] then some (n, n + sz s, some ((c, w), s)) else lk s n q) else _) = _
      rw [if_pos rfl, if_neg z]
    · show (if (0 : Int) = 0 then (if q = [] then some (n, n + sz s, some ((c, w), s)) else lk s n q) else _) = _
      rw [if_pos rfl, if_pos z]
  | .leaf a pl r, n, k + 1, q, h => by
    have e : lk (.leaf a pl r) n (((k + 1 : Nat) : Int) :: q) = lk r (n + 1) ((k : Int) :: q) := by
      show (if ((k + 1 : Nat) : Int) = 0 then _ else lk r (n + 1) ((((k + 1 : Nat) : Int) - 1) :: q)) = _
      rw [if_neg (by omega), show ((k + 1 : Nat) : Int) - 1 = (k : Int) by omega]
    rw [e]
    exact lk_down r (n + 1) k q (Nat.lt_of_succ_lt_succ h)
  | .node c w s r, n, k + 1, q, h => by
    have e : lk (.node c w s r) n (((k + 1 : Nat) : Int) :: q) = lk r (n + sz s) ((k : Int) :: q) := by
      show (if ((k + 1 : Nat) : Int) = 0 then _ else lk r (n + sz s) ((((k + 1 : Nat) : Int) - 1) :: q)) = _
      rw [if_neg (by omega), show ((k + 1 : Nat) : Int) - 1 = (k : Int) by omega]
    rw [e]
    exact lk_down r (n + sz s) k q (Nat.lt_of_succ_lt_succ h)
end Fo

set_option linter.all false
namespace Fo
variable {A : Type}
noncomputable def cmn : List Int → List Int → Nat
  | a :: l, b :: m => if a = b then cmn l m + 1 else 0
  | _, _ => 0
structure Ahead (o : List A) (p : List Int) (op : List A) (pa : List Int) (c : Nat) : Prop where
  lo : c ≤ op.length
  lp : c ≤ p.length
  tp : p.take c = pa.take c
  to : o.take c = op.take c
  ne : c = p.length ∨ ∃ x y, p[c]? = some x ∧ pa[c]? = some y ∧ x < y
theorem Ahead.new {op : List A} {pa : List Int} {x : Int} (h : pa.length = op.length) : Ahead op pa op (pa ++ [x]) pa.length :=
  ⟨Nat.le_of_eq h, Nat.le_refl _, by rw [List.take_left' rfl, List.take_length], rfl, .inl rfl⟩
theorem Ahead.open {o op : List A} {p pa : List Int} {c : Nat} {w : A} (h : Ahead o p op pa c) (l : pa.length = op.length + 1) : Ahead o p (op ++ [w]) (pa ++ [0]) c := by
  have := h.lo
  refine ⟨by rw [List.length_append]; omega, h.lp, ?_, ?_, ?_⟩
  · rw [List.take_append_of_le_length (by omega)]; exact h.tp
  · rw [List.take_append_of_le_length h.lo]; exact h.to
  · rcases h.ne with e | ⟨x, y, h1, h2, h3⟩
    · exact .inl e
    · exact .inr ⟨x, y, h1, by rw [List.getElem?_append_left (by omega)]; exact h2, h3⟩
theorem Ahead.close {o op : List A} {p pa : List Int} {c : Nat} {w : A} {u v : Int} (h : Ahead o p (op ++ [w]) (pa ++ [u] ++ [v]) c) (l : pa.length = op.length) : ∃ c', Ahead o p op (pa ++ [u + 1]) c' := by
  have lo := h.lo
  rw [List.length_append, List.length_singleton] at lo
  by_cases e : c ≤ op.length
  · refine ⟨c, e, h.lp, ?_, ?_, ?_⟩
    · rw [h.tp, List.append_assoc, List.take_append_of_le_length (by omega), List.take_append_of_le_length (by omega)]
    · rw [h.to, List.take_append_of_le_length e]
    · rcases h.ne with z | ⟨x, y, h1, h2, h3⟩
      · exact .inl z
      · by_cases e2 : c < pa.length
        · refine .inr ⟨x, y, h1, ?_, h3⟩
          rw [List.append_assoc, List.getElem?_append_left e2] at h2
          rw [List.getElem?_append_left e2]
          exact h2
        · have ec : c = pa.length := by omega
          refine .inr ⟨x, u + 1, h1, ?_, ?_⟩
          · rw [List.getElem?_append_right (by omega), ec, Nat.sub_self]; rfl
          · rw [List.append_assoc, List.getElem?_append_right (by omega), ec, Nat.sub_self] at h2
            cases h2
            omega
  · have ec : c = op.length + 1 := by omega
    have lp := h.lp
    refine ⟨op.length, Nat.le_refl _, by omega, ?_, ?_, ?_⟩
    · have := congrArg (List.take op.length) h.tp
      rw [List.take_take, List.take_take, Nat.min_eq_left (by omega), List.append_assoc, List.take_append_of_le_length (by omega)] at this
      rw [this, List.take_append_of_le_length (by omega)]
    · have := congrArg (List.take op.length) h.to
      rw [List.take_take, List.take_take, Nat.min_eq_left (by omega), List.take_append_of_le_length (by omega)] at this
      rw [this]
    · have e3 : (p.take c)[op.length]? = ((pa ++ [u] ++ [v]).take c)[op.length]? := by rw [h.tp]
      rw [List.getElem?_take_of_lt (by omega), List.getElem?_take_of_lt (by omega), List.append_assoc, List.getElem?_append_right (by omega), l, Nat.sub_self] at e3
      refine .inr ⟨u, u + 1, e3, ?_, by omega⟩
      rw [List.getElem?_append_right (by omega), l, Nat.sub_self]; rfl
theorem cmn_at : ∀ (l m : List Int) (c : Nat), c ≤ l.length → c ≤ m.length → l.take c = m.take c → (c = l.length ∨ c = m.length ∨ ∃ x y, l[c]? = some x ∧ m[c]? = some y ∧ x ≠ y) → cmn l m = c
  | [], m, 0, _, _, _, _ => by cases m <;> rfl
  | a :: l, [], 0, _, _, _, _ => rfl
  | a :: l, b :: m, 0, _, _, _, h => by
    rcases h with z | z | ⟨x, y, h1, h2, h3⟩
    · cases z
    · cases z
    · cases h1; cases h2
      exact if_neg h3
  | [], m, c + 1, h, _, _, _ => absurd h (by simp)
  | a :: l, [], c + 1, _, h, _, _ => absurd h (by simp)
  | a :: l, b :: m, c + 1, h1, h2, h3, h4 => by
    rw [List.take_succ_cons, List.take_succ_cons] at h3
    have e1 : a = b := (List.cons.inj h3).1
    have e2 := (List.cons.inj h3).2
    show (if a = b then cmn l m + 1 else 0) = c + 1
    rw [if_pos e1, cmn_at l m c (Nat.le_of_succ_le_succ h1) (Nat.le_of_succ_le_succ h2) e2]
    rcases h4 with z | z | ⟨x, y, g1, g2, g3⟩
    · exact .inl (Nat.succ.inj z)
    · exact .inr (.inl (Nat.succ.inj z))
    · exact .inr (.inr ⟨x, y, g1, g2, g3⟩)
end Fo

set_option Elab.async false
set_option linter.all false
set_option maxRecDepth 100000
set_option maxHeartbeats 4000000
namespace L2
open PySem PySem.Spec PyProof.Rows
theorem ninj30 {m n : Nat} (h : V.int (m : Int) = V.int (n : Int)) : m = n := by injection h with h; omega
noncomputable def GpAt (H : Hp) (x : V) (g : Fo.Gp) : Prop := ∃ t p, x = .ref t ∧ H t = some (.tup [.ref p, .int (g.2.1 : Int), .int (g.2.2.1 : Int), .bl g.2.2.2]) ∧ H p = some (.tup (g.1.map V.int))
theorem GpAt.tk {H H' : Hp} {x : V} {g : Fo.Gp} (k : TK H H') (h : GpAt H x g) : GpAt H' x g := let ⟨t, p, a, b, c⟩ := h; ⟨t, p, a, k _ _ b, k _ _ c⟩
theorem GpAt.over {H H' : Hp} {x : V} {g : Fo.Gp} (h : GpAt H x g) (e : Same H H') : GpAt H' x g := h.tk (Same.tk e)
noncomputable def GpsAt (H : Hp) (l : Addr) (G : List Fo.Gp) : Prop := ∃ xs, H l = some (.lst xs) ∧ All2 (GpAt H) xs G
theorem GpsAt.over {H H' : Hp} {l : Addr} {G : List Fo.Gp} (h : GpsAt H l G) (e : Same H H') : GpsAt H' l G := let ⟨xs, a, b⟩ := h; ⟨xs, e _ _ a, b.mono fun _ _ z => z.over e⟩
noncomputable def spGroups87 (n : Nat) : Sp := fun vs H Q _ => ∃ (l p : Addr) (PP : List Int) (first m : Nat) (B : List Bgh), vs = [.ref l, .ref p, .int (first : Int)] ∧ BosAt H l B ∧ H p = some (.tup (PP.map V.int)) ∧ From B PP.length m ∧ m < n ∧ PP.length + m ≤ 10 ∧ ∀ (r : Addr) (H' : Hp) (f : Frs), Same H H' → H r = none → GpsAt H' r (Fo.gr f PP 0 first) → Fo.Is f B PP.length → (Fo.gr f PP 0 first).length ≤ B.length * (m + 1) → Q (.ref r) H'
theorem cutV_m1 (xs : List V) : cutV xs none (some (-1)) = xs.dropLast := by
  unfold cutV
  have e0 : HT.sIx xs.length 0 none = 0 := rfl
  have e1 : HT.sIx xs.length xs.length (some (-1)) = xs.length - 1 := by
    unfold HT.sIx
    simp
    omega
  rw [e0, e1, List.drop_zero, Nat.sub_zero, List.dropLast_eq_take]
theorem dropLast_map {α β : Type} (f : α → β) (l : List α) : (l.map f).dropLast = l.dropLast.map f := by
  rw [List.dropLast_eq_take, List.dropLast_eq_take, List.map_take, List.length_map]
theorem cut_end (ns : List Int) : cutV (ns.map V.int) none (some (-1)) = ns.dropLast.map V.int := by
  rw [cutV_m1, dropLast_map]
noncomputable abbrev intT (i : Int) : Tr := .v (.int i)
theorem eq_ints : ∀ l m : List Int, eqTs (l.map intT) (m.map intT) = decide (l = m)
  | [], [] => by rw [List.map_nil, eqTs]; rfl
  | [], _ :: _ => by rw [List.map_nil, List.map_cons, eqTs] <;> simp
  | _ :: _, [] => by rw [List.map_nil, List.map_cons, eqTs] <;> simp
  | i :: l, j :: m => by
    rw [List.map_cons, List.map_cons, eqTs, eq_ints l m, eqT]
    show ((i == j) && decide (l = m)) = _
    by_cases c : i = j
    · subst c
      simp
    · simp [c]
theorem sim_ints : ∀ l m : List Int, simTs (l.map intT) (m.map intT) = true
  | [], [] => by simp [simTs]
  | [], _ :: _ => by simp [simTs]
  | _ :: _, [] => by simp [simTs]
  | i :: l, j :: m => by rw [List.map_cons, List.map_cons, simTs, sim_ints l m, simT]; rfl
theorem dep_ints : ∀ l : List Int, depTs (l.map intT) = 0
  | [] => by rw [List.map_nil, depTs]
  | i :: l => by rw [List.map_cons, depTs, dep_ints l, depT]; rfl
theorem trs_ints {K : PySem.W.Frag} {H : Hp} : ∀ l : List Int, TrsIs K H (l.map V.int) (l.map intT)
  | [] => .nil
  | _ :: l => .cons (.flat rfl) (trs_ints l)
theorem tup_ints {K : PySem.W.Frag} {H : Hp} {p : Addr} {l : List Int} (h : H p = some (.tup (l.map V.int))) : TrIs K H (.ref p) (.tup (l.map intT)) := .tup (SqT.of h) (trs_ints l)
theorem eqT_ints (l m : List Int) : eqT (.tup (l.map intT)) (.tup (m.map intT)) = decide (l = m) := by rw [eqT, eq_ints]
theorem simT_ints (l m : List Int) : simT (.tup (l.map intT)) (.tup (m.map intT)) = true := by rw [simT, sim_ints]
theorem depT_ints (l : List Int) : depT (.tup (l.map intT)) ≤ 60 := by rw [depT, dep_ints]; decide
noncomputable def atG (G : List Fo.Gp) (t : List Int) : Fo.Gp := (Fo.fnd G t).getD (t, 0, 0, false)
noncomputable def spAt87 : Sp := fun vs H Q _ => ∃ (g p : Addr) (G : List Fo.Gp) (PP : List Int), vs = [.ref g, .ref p] ∧ GpsAt H g G ∧ H p = some (.tup (PP.map V.int)) ∧ ∀ (x : V) (H' : Hp), Same H H' → GpAt H' x (atG G PP) → Q x H'
theorem fnd_at {G : List Fo.Gp} {t : List Int} {i : Nat} {g : Fo.Gp} (h : G[i]? = some g) (e : g.1 = t) (hb : ∀ j x, j < i → G[j]? = some x → x.1 ≠ t) : Fo.fnd G t = some g := by
  induction G generalizing i with
  | nil => cases h
  | cons y G ih =>
    rw [Fo.fnd_cons]
    cases i with
    | zero => cases h; rw [if_pos e]
    | succ i =>
      rw [if_neg (hb 0 y (Nat.succ_pos _) rfl)]
      exact ih h fun j x hj hx => hb (j + 1) x (Nat.succ_lt_succ hj) hx
theorem cutTo {xs : List V} {k : Nat} (h : k ≤ xs.length) : cutV xs none (some (k : Int)) = xs.take k := by
  unfold cutV
  have e0 : HT.sIx xs.length 0 none = 0 := rfl
  have e1 : HT.sIx xs.length xs.length (some ((k : Nat) : Int)) = min k xs.length := HT.sIx_nat ..
  rw [e0, e1, List.drop_zero, Nat.sub_zero, Nat.min_eq_left h]
theorem cutFrom (xs : List V) (k : Nat) : cutV xs (some (k : Int)) none = xs.drop k := by
  unfold cutV
  have e0 : HT.sIx xs.length 0 (some ((k : Nat) : Int)) = min k xs.length := HT.sIx_nat ..
  have e1 : HT.sIx xs.length xs.length none = xs.length := rfl
  rw [e0, e1]
  by_cases c : k ≤ xs.length
  · rw [Nat.min_eq_left c, List.take_of_length_le (by rw [List.length_drop]; omega)]
  · rw [Nat.min_eq_right (by omega), Nat.sub_self, List.take_zero, List.drop_eq_nil_of_le (by omega)]
theorem FoAt.len {H : Hp} : ∀ {f : Frs} {xs : List V}, FoAt H xs f → xs.length = Fo.cnt f
  | .nil, xs, h => by rw [show xs = [] from h]; rfl
  | .leaf k pl r, xs, h => by
    obtain ⟨t, p, ys, rfl, _, _, d⟩ := h
    rw [List.length_cons, FoAt.len d]; rfl
  | .node c w s r, xs, h => by
    obtain ⟨t, p, zs, ys, rfl, _, _, _, g⟩ := h
    rw [List.length_cons, FoAt.len g]; rfl
theorem FoAt.take {H : Hp} : ∀ (k : Nat) {f : Frs} {xs : List V}, FoAt H xs f → FoAt H (xs.take k) (Fo.tk k f)
  | 0, f, xs, h => by rw [List.take_zero]; cases f <;> rfl
  | k + 1, .nil, xs, h => by rw [show xs = [] from h]; rfl
  | k + 1, .leaf _ _ r, xs, h => by
    obtain ⟨t, p, ys, rfl, b, c, d⟩ := h
    exact ⟨t, p, ys.take k, rfl, b, c, FoAt.take k d⟩
  | k + 1, .node _ _ s r, xs, h => by
    obtain ⟨t, p, zs, ys, rfl, b, c, d, g⟩ := h
    exact ⟨t, p, zs, ys.take k, rfl, b, c, d, FoAt.take k g⟩
theorem FoAt.drop {H : Hp} : ∀ (k : Nat) {f : Frs} {xs : List V}, FoAt H xs f → FoAt H (xs.drop k) (Fo.dr k f)
  | 0, f, xs, h => by rw [List.drop_zero]; cases f <;> exact h
  | k + 1, .nil, xs, h => by rw [show xs = [] from h]; rfl
  | k + 1, .leaf _ _ r, xs, h => by
    obtain ⟨t, p, ys, rfl, b, c, d⟩ := h
    exact FoAt.drop k d
  | k + 1, .node _ _ s r, xs, h => by
    obtain ⟨t, p, zs, ys, rfl, b, c, d, g⟩ := h
    exact FoAt.drop k g
noncomputable def wid : Frs → Nat
  | .nil => 0
  | .leaf _ _ r => wid r + 1
  | .node _ _ s r => wid s + wid r + 1
theorem cnt_wid : ∀ f : Frs, Fo.cnt f ≤ wid f
  | .nil => Nat.le_refl _
  | .leaf _ _ r => Nat.succ_le_succ (cnt_wid r)
  | .node _ _ s r => by have := cnt_wid r; show Fo.cnt r + 1 ≤ wid s + wid r + 1; omega
theorem wid_dr : ∀ (k : Nat) (f : Frs), wid (Fo.dr k f) ≤ wid f
  | 0, f => by cases f <;> exact Nat.le_refl _
  | k + 1, .nil => Nat.le_refl _
  | k + 1, .leaf _ _ r => Nat.le_trans (wid_dr k r) (Nat.le_succ _)
  | k + 1, .node _ _ s r => by have := wid_dr k r; show wid (Fo.dr k r) ≤ wid s + wid r + 1; omega
noncomputable def spPut87 (n : Nat) : Sp := fun vs H Q _ => ∃ (it pa ot : Addr) (f o : Frs) (path : List Int) (m N : Nat) (x : Nat × Nat × Option (Way × Frs)), vs = [.ref it, .ref pa, .int (m : Int), .ref ot] ∧ FoT H it f ∧ H pa = some (.tup (path.map V.int)) ∧ FoT H ot o ∧ Fo.lk f N path = some x ∧ path.length ≤ n ∧ path.length ≤ 100 ∧ wid f ≤ 100 ∧ Fo.cnt o ≤ 100 ∧ ∀ (r : Addr) (H' : Hp), Same H H' → FoT H' r (Fo.pt f path m o) → Q (.ref r) H'
noncomputable def spSweepAt (C : Addr) : Sp := fun vs H Q E => ∃ (pl pa : Addr) (f : Frs) (path : List Int), vs = [.ref pl, .ref pa] ∧ FoT H pl f ∧ H pa = some (.tup (path.map V.int)) ∧ (∀ (a b : Nat) (c : Bool) (w : Str) (s : Frs) (t p : Addr) (H' : Hp), Fo.lk f 0 path = some (a, b, some ((c, w), s)) → Same H H' → H' t = some (.tup [.str "sweep", .bl c, .str w, .ref p]) → FoT H' p s → Q (.ref t) H') ∧
  ((∀ (a b : Nat) (x : Way × Frs), Fo.lk f 0 path ≠ some (a, b, some x)) → ∀ (x : Addr) (H' : Hp), Same H H' → H' x = some (exC x C none) → E (.ref x) none H')
noncomputable def Way87 (H : Hp) (f : Frs) (path : List Int) (i : Nat) (it : Addr) (g : Frs) (ov : Option V) : Prop :=
  (i = 0 ∧ ov = some .non ∧ g = f) ∨
  (∃ t c w, ov = some (.ref t) ∧ H t = some (.tup [.str "sweep", .bl c, .str w, .ref it]) ∧ (path.drop i ≠ [] → ∃ n, Fo.lk f 0 path = Fo.lk g n (path.drop i)) ∧ (path.drop i = [] → ∃ a b, Fo.lk f 0 path = some (a, b, some ((c, w), g)))) ∨
  (∃ t k p, ov = some (.ref t) ∧ H t = some (.tup [.str "deed", .int k, .ref p]) ∧ g = .nil ∧ (path.drop i ≠ [] → Fo.lk f 0 path = none) ∧ (path.drop i = [] → ∃ a b, Fo.lk f 0 path = some (a, b, none)))
theorem Way87.lk {H : Hp} {f : Frs} {path : List Int} {i : Nat} {it : Addr} {g : Frs} {ov : Option V} (h : Way87 H f path i it g ov) (n : path.drop i ≠ []) : ∃ n, Fo.lk f 0 path = Fo.lk g n (path.drop i) := by
  rcases h with ⟨rfl, _, rfl⟩ | ⟨_, _, _, _, _, h, _⟩ | ⟨_, _, _, _, _, rfl, h, _⟩
  · exact ⟨0, by rw [List.drop_zero]⟩
  · exact h n
  · refine ⟨0, ?_⟩
    rw [h n]
    cases e : path.drop i with
    | nil => exact absurd e n
    | cons _ _ => rfl
theorem wid_lk : ∀ (f : Frs) (n : Nat) (path : List Int) (a b : Nat) (cw : Way) (s : Frs), Fo.lk f n path = some (a, b, some (cw, s)) → wid s ≤ wid f
  | f, n, [], a, b, cw, s, h => by rw [Fo.lk_nil] at h; cases h
  | .nil, n, j :: q, a, b, cw, s, h => by cases h
  | .leaf k pl r, n, j :: q, a, b, cw, s, h => by
    have h : (if j = 0 then (if q = [] then some (n, n + 1, none) else none) else Fo.lk r (n + 1) ((j - 1) :: q)) = some (a, b, some (cw, s)) := h
    by_cases c : j = 0
    · rw [if_pos c] at h
      split at h <;> cases h
    · rw [if_neg c] at h
      exact Nat.le_succ_of_le (wid_lk r (n + 1) _ a b cw s h)
  | .node c w f r, n, j :: q, a, b, cw, s, h => by
    have h : (if j = 0 then (if q = [] then some (n, n + Fo.sz f, some ((c, w), f)) else Fo.lk f n q) else Fo.lk r (n + Fo.sz f) ((j - 1) :: q)) = some (a, b, some (cw, s)) := h
    show wid s ≤ wid f + wid r + 1
    by_cases cj : j = 0
    · rw [if_pos cj] at h
      by_cases cq : q = []
      · rw [if_pos cq] at h
        cases h
        omega
      · rw [if_neg cq] at h
        have := wid_lk f n q a b cw s h
        omega
    · rw [if_neg cj] at h
      have := wid_lk r (n + Fo.sz f) _ a b cw s h
      omega
theorem last_of {path : List Int} (h : path ≠ []) : ∃ p j, path = p ++ [j] ∧ path.dropLast = p ∧ atI (path.map V.int) (-1) = some (.int j) := by
  obtain ⟨n, hn⟩ : ∃ n, path.length = n + 1 := ⟨path.length - 1, by have := List.length_pos_iff.mpr h; omega⟩
  obtain ⟨p, j, rfl, hl⟩ := snoc_of hn
  refine ⟨p, j, rfl, List.dropLast_concat, ?_⟩
  rw [List.map_append]
  exact atI_last _ _
theorem atG_gr (f : Frs) {path : List Int} (h : path ≠ []) : atG (Fo.gr f [] 0 0) path = match Fo.lk f 0 path with
    | some (a, b, o) => (path, a, b, o.isSome)
    | none => (path, 0, 0, false) := by
  cases path with
  | nil => exact absurd rfl h
  | cons i q =>
    have e := Fo.fnd_gr f [] 0 0 i q
    rw [Int.zero_add, List.nil_append] at e
    unfold atG
    rw [e]
    cases Fo.lk f 0 (i :: q) with
    | none => rfl
    | some x => rfl
theorem gp_cases {f : Frs} {path : List Int} (h : path ≠ []) : (∃ a b cw s, Fo.lk f 0 path = some (a, b, some (cw, s)) ∧ atG (Fo.gr f [] 0 0) path = (path, a, b, true)) ∨ ((∀ a b x, Fo.lk f 0 path ≠ some (a, b, some x)) ∧ ∃ a b, atG (Fo.gr f [] 0 0) path = (path, a, b, false)) := by
  rw [atG_gr f h]
  cases Fo.lk f 0 path with
  | none => exact .inr ⟨(fun a b x z => by cases z), 0, 0, rfl⟩
  | some y =>
    obtain ⟨a, b, o⟩ := y
    cases o with
    | none => exact .inr ⟨(fun a b x z => by cases z), a, b, rfl⟩
    | some x => exact .inl ⟨a, b, x.1, x.2, rfl, rfl⟩
noncomputable def spKinds87 (n : Nat) : Sp := fun vs H Q _ => ∃ (it : Addr) (f : Frs), vs = [.ref it] ∧ FoT H it f ∧ dep f ≤ n ∧ Q (.bl true) H
noncomputable def prT (p : Int × Int) : Tr := .tup [.v (.int p.1), .v (.int p.2)]
noncomputable def frT : Frs → List Tr
  | .nil => []
  | .leaf k pl r => .tup [.v (.str "deed"), .v (.int k), .tup (pl.map prT)] :: frT r
  | .node c w s r => .tup [.v (.str "sweep"), .v (.bl c), .v (.str w), .tup (frT s)] :: frT r
theorem prs_tr {K : PySem.W.Frag} {H : Hp} : ∀ {xs : List V} {ps : List (Int × Int)}, All2 (PrAt H) xs ps → TrsIs K H xs (ps.map prT)
  | [], [], _ => .nil
  | [], _ :: _, g => absurd g.1 (by simp)
  | _ :: _, [], g => absurd g.1 (by simp)
  | x :: xs, p :: ps, g => by
    obtain ⟨t, rfl, e⟩ := g.2 0 x p rfl rfl
    exact .cons (.tup (SqT.of e) (.cons (.flat rfl) (.cons (.flat rfl) .nil))) (prs_tr ⟨Nat.succ.inj g.1, fun i y b p q => g.2 (i + 1) y b p q⟩)
theorem FoAt.tr {K : PySem.W.Frag} {H : Hp} : ∀ {f : Frs} {xs : List V}, FoAt H xs f → TrsIs K H xs (frT f)
  | .nil, xs, h => by rw [show xs = [] from h]; exact .nil
  | .leaf k pl r, xs, h => by
    obtain ⟨t, p, ys, rfl, ht, ⟨ps, hp, ap⟩, hr⟩ := h
    exact .cons (.tup (SqT.of ht) (.cons (.flat rfl) (.cons (.flat rfl) (.cons (.tup (SqT.of hp) (prs_tr ap)) .nil)))) (FoAt.tr hr)
  | .node c w s r, xs, h => by
    obtain ⟨t, p, zs, ys, rfl, ht, hp, hs, hr⟩ := h
    exact .cons (.tup (SqT.of ht) (.cons (.flat rfl) (.cons (.flat rfl) (.cons (.flat rfl) (.cons (.tup (SqT.of hp) (FoAt.tr hs)) .nil))))) (FoAt.tr hr)
theorem prs_dep : ∀ ps : List (Int × Int), depTs (ps.map prT) ≤ 1
  | [] => by rw [List.map_nil, depTs]; decide
  | p :: ps => by
    have := prs_dep ps
    rw [List.map_cons, depTs]
    have : depT (prT p) = 1 := by unfold prT; rw [depT, depTs, depTs, depTs, depT, depT]; rfl
    omega
theorem frT_dep : ∀ f : Frs, depTs (frT f) ≤ 2 * dep f + 1
  | .nil => by rw [frT, depTs]; exact Nat.zero_le _
  | .leaf k pl r => by
    have h1 := frT_dep r
    have h2 := prs_dep pl
    have h3 := dep_pos r
    rw [frT, depTs]
    have : depT (.tup [.v (.str "deed"), .v (.int k), .tup (pl.map prT)]) ≤ 3 := by
      rw [depT, depTs, depTs, depTs, depTs, depT, depT, depT]
      omega
    show max _ _ ≤ 2 * dep r + 1
    omega
  | .node c w s r => by
    have h1 := frT_dep r
    have h2 := frT_dep s
    rw [frT, depTs]
    have : depT (.tup [.v (.str "sweep"), .v (.bl c), .v (.str w), .tup (frT s)]) ≤ depTs (frT s) + 2 := by
      rw [depT, depTs, depTs, depTs, depTs, depTs, depT, depT, depT, depT]
      omega
    show max _ _ ≤ 2 * max (1 + dep s) (dep r) + 1
    omega
theorem FoT.tr {K : PySem.W.Frag} {H : Hp} {p : Addr} {f : Frs} (h : FoT H p f) : TrIs K H (.ref p) (.tup (frT f)) := let ⟨_, e, g⟩ := h; .tup (SqT.of e) g.tr
theorem frT_dep60 {f : Frs} (h : dep f ≤ 20) : depT (.tup (frT f)) ≤ 60 := by
  have := frT_dep f
  rw [depT]
  omega
noncomputable def OpAt (H : Hp) (x : V) (w : Way) : Prop := ∃ t, x = .ref t ∧ H t = some (.tup [.str w.2, .bl w.1])
theorem OpAt.over {H H' : Hp} {x : V} {w : Way} (h : OpAt H x w) (e : Same H H') : OpAt H' x w := let ⟨t, a, b⟩ := h; ⟨t, a, e _ _ b⟩
noncomputable def whl (ws : List Way) : List Way := ws.filter fun w => !w.1
theorem whl_snoc {ws : List Way} {i : Nat} {w : Way} (h : ws[i]? = some w) : whl (ws.take (i + 1)) = whl (ws.take i) ++ (if w.1 = true then [] else [w]) := by
  unfold whl
  rw [take_snoc h, List.filter_append, List.filter_cons]
  cases w.1 <;> rfl
theorem whl_pos {ws : List Way} {w : Way} (h : w ∈ ws) (c : w.1 = false) : 0 < (whl ws).length := by
  refine List.length_pos_of_mem (a := w) ?_
  unfold whl
  rw [List.mem_filter]
  exact ⟨h, by rw [c]; rfl⟩
noncomputable def gpT (g : Fo.Gp) : Tr := .tup [.tup (g.1.map intT), .v (.int (g.2.1 : Int)), .v (.int (g.2.2.1 : Int)), .v (.bl g.2.2.2)]
theorem GpAt.tr {K : PySem.W.Frag} {H : Hp} {x : V} {g : Fo.Gp} (h : GpAt H x g) : TrIs K H x (gpT g) := by
  obtain ⟨t, p, rfl, e, hp⟩ := h
  exact .tup (SqT.of e) (.cons (tup_ints hp) (.cons (.flat rfl) (.cons (.flat rfl) (.cons (.flat rfl) .nil))))
theorem gps_tr {K : PySem.W.Frag} {H : Hp} : ∀ {xs : List V} {G : List Fo.Gp}, All2 (GpAt H) xs G → TrsIs K H xs (G.map gpT)
  | [], [], _ => .nil
  | [], _ :: _, g => absurd g.1 (by simp)
  | _ :: _, [], g => absurd g.1 (by simp)
  | x :: xs, a :: as, g => .cons (g.2 0 x a rfl rfl).tr (gps_tr ⟨Nat.succ.inj g.1, fun i y b p q => g.2 (i + 1) y b p q⟩)
theorem gps_dep : ∀ G : List Fo.Gp, depTs (G.map gpT) ≤ 2
  | [] => by rw [List.map_nil, depTs]; decide
  | g :: G => by
    have := gps_dep G
    have h : depT (gpT g) ≤ 2 := by
      have h0 : depT (.tup (g.1.map intT)) = 1 := by rw [depT, dep_ints]
      unfold gpT
      rw [depT, depTs, depTs, depTs, depTs, depTs, h0, depT, depT, depT]
      decide
    rw [List.map_cons, depTs]
    omega
noncomputable def PathOk (P : List Int) : Prop := P ≠ [] ∧ P.length ≤ 7
noncomputable def spPath87 : Sp := fun vs H Q _ => ∃ (g fi : Addr) (c wy : Int) (G F' : List Fo.Gp), vs = [.ref g, .ref fi, .int c, .int wy] ∧ GpsAt H g G ∧ 0 < G.length ∧ (∀ x ∈ G, PathOk x.1) ∧ GpsAt H fi F' ∧ (∀ x ∈ F', PathOk x.1) ∧ ∀ (r : Addr) (H' : Hp) (P : List Int), Same H H' → H' r = some (.tup (P.map V.int)) → P ≠ [] → P.length ≤ 8 → Q (.ref r) H'
theorem pick_gp {H : Hp} {xs : List V} {G : List Fo.Gp} (h : All2 (GpAt H) xs G) (c : Int) (hp : 0 < xs.length) : ∃ (t p : Addr) (gg : Fo.Gp), atI xs (c % (xs.length : Int)) = some (.ref t) ∧ gg ∈ G ∧ H t = some (.tup [.ref p, .int (gg.2.1 : Int), .int (gg.2.2.1 : Int), .bl gg.2.2.2]) ∧ H p = some (.tup (gg.1.map V.int)) := by
  have j0 := Int.emod_nonneg c (show (xs.length : Int) ≠ 0 by omega)
  have j1 := Int.emod_lt_of_pos c (show (0 : Int) < (xs.length : Int) by omega)
  obtain ⟨k, ek⟩ : ∃ k : Nat, c % (xs.length : Int) = (k : Int) := ⟨(c % (xs.length : Int)).toNat, by omega⟩
  have hk : k < xs.length := by omega
  have hx : xs[k]? = some xs[k] := List.getElem?_eq_getElem hk
  obtain ⟨gg, hgg, t, p, e, ht, hpp⟩ := h.get' hx
  rw [e] at hx
  rw [ek]
  exact ⟨t, p, gg, atI_nat hx, List.mem_of_getElem? hgg, ht, hpp⟩
theorem gr_wid : ∀ (f : Frs) (p : List Int) (j : Int) (n : Nat), (Fo.gr f p j n).length = wid f
  | .nil, _, _, _ => rfl
  | .leaf _ _ r, p, j, n => by show (Fo.gr r p (j + 1) (n + 1)).length + 1 = wid r + 1; rw [gr_wid r]
  | .node _ _ s r, p, j, n => by
    show (Fo.gr s (p ++ [j]) 0 n ++ Fo.gr r p (j + 1) (n + Fo.sz s)).length + 1 = wid s + wid r + 1
    rw [List.length_append, gr_wid s, gr_wid r]
theorem gr_plen : ∀ (f : Frs) (p : List Int) (j : Int) (n : Nat) (g : Fo.Gp), g ∈ Fo.gr f p j n → g.1.length ≤ p.length + dep f
  | .nil, _, _, _, _, h => by cases h
  | .leaf k pl r, p, j, n, g, h => by
    have d := dep_pos r
    show g.1.length ≤ p.length + dep r
    rcases List.mem_cons.mp h with e | e
    · rw [e, List.length_append, List.length_singleton]; omega
    · exact gr_plen r p (j + 1) (n + 1) g e
  | .node c w s r, p, j, n, g, h => by
    have d := dep_pos r
    show g.1.length ≤ p.length + max (1 + dep s) (dep r)
    rcases List.mem_cons.mp h with e | e
    · rw [e, List.length_append, List.length_singleton]; omega
    · rcases List.mem_append.mp e with e | e
      · have := gr_plen s (p ++ [j]) 0 n g e
        rw [List.length_append, List.length_singleton] at this
        omega
      · have := gr_plen r p (j + 1) (n + Fo.sz s) g e
        omega
end L2

set_option Elab.async false
set_option linter.all false
set_option maxRecDepth 100000
set_option maxHeartbeats 4000000
namespace L2
open PySem PySem.Spec PyProof.Rows
structure Row87 where
  op : List Way
  pa : List Int
  x : Int
noncomputable def OpsAt (H : Hp) (l : Addr) (ws : List Way) : Prop := ∃ xs, H l = some (.lst xs) ∧ All2 (OpAt H) xs ws
theorem OpsAt.over {H H' : Hp} {l : Addr} {ws : List Way} (h : OpsAt H l ws) (e : Same H H') : OpsAt H' l ws := let ⟨xs, a, b⟩ := h; ⟨xs, e _ _ a, b.mono fun _ _ z => z.over e⟩
noncomputable def StAt (H : Hp) (v : V) (r : Row87) : Prop := ∃ t o p, v = .ref t ∧ H t = some (.tup [.ref o, .ref p, .int r.x]) ∧ OpsAt H o r.op ∧ H p = some (.lst (r.pa.map V.int))
theorem StAt.over {H H' : Hp} {v : V} {r : Row87} (h : StAt H v r) (e : Same H H') : StAt H' v r := let ⟨t, o, p, a, b, c, d⟩ := h; ⟨t, o, p, a, e _ _ b, c.over e, e _ _ d⟩
noncomputable def StsAt (H : Hp) (l : Addr) (S : List Row87) : Prop := ∃ xs, H l = some (.lst xs) ∧ All2 (StAt H) xs S
structure StOk (S : List Row87) : Prop where
  ln : ∀ r ∈ S, r.pa.length = r.op.length ∧ r.op.length ≤ 6
  ah : ∀ i a b, S[i]? = some a → S[i + 1]? = some b → ∃ c y, Fo.Ahead a.op a.pa b.op (b.pa ++ [y]) c
  sz : S.length ≤ 6
structure Cur87 (S : List Row87) (op : List Way) (pa : List Int) : Prop where
  ok : StOk S
  pl : pa.length = op.length + 1
  ol : op.length ≤ 6
  o6 : op.length = 6 → 0 < (whl op).length
  la : ∀ a, S.getLast? = some a → ∃ c, Fo.Ahead a.op a.pa op pa c
theorem cur_start87 : Cur87 [] [] [0] := ⟨⟨fun r h => (by cases h), fun i a b h => (by simp at h), Nat.zero_le _⟩, rfl, Nat.zero_le _, fun h => (by cases h), fun a h => (by cases h)⟩
theorem whl_app (a b : List Way) : whl (a ++ b) = whl a ++ whl b := List.filter_append ..
theorem cur_open87 {S : List Row87} {op : List Way} {pa : List Int} {w : Way} (h : Cur87 S op pa) (l : op.length < 6) (hw : op.length = 5 → (whl op).length = 0 → w.1 = false) : Cur87 S (op ++ [w]) (pa ++ [0]) := by
  refine ⟨h.ok, by rw [List.length_append, List.length_append, h.pl]; rfl, by rw [List.length_append]; exact l, fun e => ?_, fun a ha => ?_⟩
  · rw [List.length_append, List.length_singleton] at e
    rw [whl_app, List.length_append]
    rcases Nat.eq_zero_or_pos (whl op).length with z | z
    · have := hw (by omega) z
      have := whl_pos (ws := [w]) (List.mem_singleton.mpr rfl) this
      omega
    · omega
  · obtain ⟨c, hc⟩ := h.la a ha
    exact ⟨c, hc.open h.pl⟩
theorem cur_close87 {S : List Row87} {op : List Way} {pa : List Int} {w : Way} {u v : Int} (h : Cur87 S (op ++ [w]) (pa ++ [u] ++ [v])) : Cur87 S op (pa ++ [u + 1]) := by
  have pl := h.pl
  have ol := h.ol
  rw [List.length_append, List.length_append, List.length_append, List.length_singleton, List.length_singleton, List.length_singleton] at pl
  rw [List.length_append, List.length_singleton] at ol
  refine ⟨h.ok, by rw [List.length_append, List.length_singleton]; omega, by omega, fun e => by omega, fun a ha => ?_⟩
  obtain ⟨c, hc⟩ := h.la a ha
  exact hc.close (by omega)
theorem cur_row87 {S : List Row87} {op : List Way} {pa : List Int} {y x : Int} (h : Cur87 S op (pa ++ [y])) (l : S.length ≤ 5) : Cur87 (S ++ [⟨op, pa, x⟩]) op (pa ++ [y + 1]) := by
  have pl := h.pl
  rw [List.length_append, List.length_singleton] at pl
  refine ⟨⟨fun r hr => ?_, fun i a b ha hb => ?_, by rw [List.length_append, List.length_singleton]; omega⟩, by rw [List.length_append, List.length_singleton]; omega, h.ol, h.o6, fun a ha => ?_⟩
  · rcases List.mem_append.mp hr with z | z
    · exact h.ok.ln r z
    · rw [List.mem_singleton.mp z]
      exact ⟨by show pa.length = op.length; omega, h.ol⟩
  · have lb := (List.getElem?_eq_some_iff.mp hb).1
    rw [List.length_append, List.length_singleton] at lb
    rw [List.getElem?_append_left (by omega)] at ha
    by_cases c : i + 1 < S.length
    · rw [List.getElem?_append_left c] at hb
      exact h.ok.ah i a b ha hb
    · have e : i + 1 = S.length := by omega
      rw [List.getElem?_append_right (by omega), e, Nat.sub_self] at hb
      cases hb
      have : S.getLast? = some a := by rw [List.getLast?_eq_getElem?, ← e]; exact ha
      obtain ⟨c, hc⟩ := h.la a this
      exact ⟨c, y, hc⟩
  · rw [List.getLast?_concat] at ha
    cases ha
    exact ⟨_, Fo.Ahead.new (by show pa.length = op.length; omega)⟩
structure Nst (H : Hp) (l o pt : Addr) (op : List Way) (pa : List Int) (S : List Row87) : Prop where
  rows : ∃ vs, H l = some (.lst vs) ∧ All2 (StAt (wo H l)) vs S
  op : OpsAt (wo H l) o op
  pa : wo H l pt = some (.lst (pa.map V.int))
theorem Nst.over {H H' : Hp} {l o pt : Addr} {op : List Way} {pa : List Int} {S : List Row87} (h : Nst H l o pt op pa S) (e : Same H H') : Nst H' l o pt op pa S := by
  obtain ⟨vs, h0, h1⟩ := h.rows
  exact ⟨⟨vs, e _ _ h0, h1.mono fun _ _ z => z.over (wo_mono e)⟩, h.op.over (wo_mono e), wo_mono e _ _ h.pa⟩
theorem Nst.start {H : Hp} {o pt l : Addr} (h1 : H o = none) (h2 : (upd H o (.lst [])) pt = none) (h3 : (upd (upd H o (.lst [])) pt (.lst [.int 0])) l = none) : Nst (upd (upd (upd H o (.lst [])) pt (.lst [.int 0])) l (.lst [])) l o pt [] [0] [] := by
  have c1 : (upd (upd H o (.lst [])) pt (.lst [.int 0])) o = some (.lst []) := (same_new h2 _) _ _ upd_same
  have c2 : (upd (upd H o (.lst [])) pt (.lst [.int 0])) pt = some (.lst [.int 0]) := upd_same
  have s3 := same_new h3 (.lst [])
  refine ⟨⟨[], upd_same, .nil⟩, ⟨[], ?_, .nil⟩, ?_⟩
  · rw [wo_ne (ne_of_none c1 h3)]; exact s3 _ _ c1
  · rw [wo_ne (ne_of_none c2 h3)]; exact s3 _ _ c2
theorem Nst.newPath {H : Hp} {l o pt : Addr} {op : List Way} {pa pa' : List Int} {S : List Row87} (h : Nst H l o pt op pa S) {p : Addr} (hp : H p = none) : Nst (upd H p (.lst (pa'.map V.int))) l o p op pa' S := by
  have n := h.over (same_new hp (.lst (pa'.map V.int)))
  obtain ⟨vs, h0, _⟩ := h.rows
  exact ⟨n.rows, n.op, by rw [wo_ne (ne_of_none h0 hp).symm]; exact upd_same⟩
theorem Nst.newOpen {H : Hp} {l o pt : Addr} {op op' : List Way} {pa : List Int} {S : List Row87} (h : Nst H l o pt op pa S) {p : Addr} {vs' : List V} (hp : H p = none) (hv : All2 (OpAt (wo H l)) vs' op') : Nst (upd H p (.lst vs')) l p pt op' pa S := by
  have n := h.over (same_new hp (.lst vs'))
  obtain ⟨vs, h0, _⟩ := h.rows
  exact ⟨n.rows, ⟨vs', by rw [wo_ne (ne_of_none h0 hp).symm]; exact upd_same, hv.mono fun _ _ z => z.over (wo_mono (same_new hp _))⟩, n.pa⟩
theorem Nst.add {H : Hp} {l o pt : Addr} {op : List Way} {pa pa' : List Int} {S : List Row87} {x : Int} (h : Nst H l o pt op pa S) {t1 t2 : Addr} (h1 : H t1 = none) (h2 : (upd H t1 (.lst (pa'.map V.int))) t2 = none) : ∃ vs, (upd (upd H t1 (.lst (pa'.map V.int))) t2 (.tup [.ref o, .ref t1, .int x])) l = some (.lst vs) ∧ vs.length = S.length ∧ Nst (upd (upd (upd H t1 (.lst (pa'.map V.int))) t2 (.tup [.ref o, .ref t1, .int x])) l (.lst (vs ++ [.ref t2]))) l o pt op pa (S ++ [⟨op, pa', x⟩]) := by
  have s1 := same_new h1 (.lst (pa'.map V.int))
  have s2 := same_new h2 (.tup [.ref o, .ref t1, .int x])
  have n := h.over (s1.trans s2)
  have ct1 : (upd (upd H t1 (.lst (pa'.map V.int))) t2 (.tup [.ref o, .ref t1, .int x])) t1 = some (.lst (pa'.map V.int)) := s2 _ _ upd_same
  have ct2 : (upd (upd H t1 (.lst (pa'.map V.int))) t2 (.tup [.ref o, .ref t1, .int x])) t2 = some (.tup [.ref o, .ref t1, .int x]) := upd_same
  obtain ⟨vs0, h0, _⟩ := h.rows
  have n1 : t1 ≠ l := (ne_of_none h0 h1).symm
  have n2 : t2 ≠ l := (ne_of_none (s1 _ _ h0) h2).symm
  generalize upd (upd H t1 (.lst (pa'.map V.int))) t2 (.tup [.ref o, .ref t1, .int x]) = H2 at n ct1 ct2
  obtain ⟨vs, g0, g1⟩ := n.rows
  refine ⟨vs, g0, g1.1, ⟨vs ++ [.ref t2], upd_same, ?_⟩, by rw [wo_upd]; exact n.op, by rw [wo_upd]; exact n.pa⟩
  rw [wo_upd]
  exact g1.snoc ⟨t2, o, t1, rfl, by rw [wo_ne n2]; exact ct2, n.op, by rw [wo_ne n1]; exact ct1⟩
theorem Nst.all {H : Hp} {l o pt : Addr} {op : List Way} {pa : List Int} {S : List Row87} (h : Nst H l o pt op pa S) : StsAt H l S := by
  obtain ⟨vs, h0, h1⟩ := h.rows
  exact ⟨vs, h0, h1.mono fun _ _ z => z.over wo_same⟩
theorem ops_tree {K : PySem.W.Frag} {H : Hp} : ∀ {xs : List V} {ws : List Way}, All2 (OpAt H) xs ws → TrsIs K H xs (ws.map fun w => .tup [.v (.str w.2), .v (.bl w.1)])
  | [], [], _ => .nil
  | [], _ :: _, g => absurd g.1 (by simp)
  | _ :: _, [], g => absurd g.1 (by simp)
  | x :: xs, w :: ws, g => by
    obtain ⟨t, rfl, e⟩ := g.2 0 x w rfl rfl
    exact .cons (.tup (SqT.of e) (.cons (.flat rfl) (.cons (.flat rfl) .nil))) (ops_tree ⟨Nat.succ.inj g.1, fun i y b p q => g.2 (i + 1) y b p q⟩)
theorem ops_dep : ∀ ws : List Way, depTs (ws.map fun w => .tup [.v (.str w.2), .v (.bl w.1)]) ≤ 1
  | [] => by rw [List.map_nil, depTs]; decide
  | w :: ws => by
    have := ops_dep ws
    rw [List.map_cons, depTs]
    have : depT (.tup [.v (.str w.2), .v (.bl w.1)]) = 1 := by rw [depT, depTs, depTs, depTs, depT, depT]; rfl
    omega
theorem All2.unsnoc {α : Type} {R : V → α → Prop} {xs : List V} {as : List α} {a : α} (h : All2 R xs (as ++ [a])) : ∃ ys y, xs = ys ++ [y] ∧ All2 R ys as ∧ R y a := by
  have l := h.1
  rw [List.length_append, List.length_singleton] at l
  obtain ⟨ys, y, rfl, hl⟩ := snoc_of l
  refine ⟨ys, y, rfl, ⟨hl, fun i x b p q => h.2 i x b (by rw [List.getElem?_append_left (List.getElem?_eq_some_iff.mp p).1]; exact p) (by rw [List.getElem?_append_left (List.getElem?_eq_some_iff.mp q).1]; exact q)⟩, ?_⟩
  exact h.2 as.length y a (by rw [← hl, List.getElem?_append_right (Nat.le_refl _), Nat.sub_self]; rfl) (by rw [List.getElem?_append_right (Nat.le_refl _), Nat.sub_self]; rfl)
theorem snoc_cases {α : Type} {l : List α} {x y : α} {i : Nat} (h : (l ++ [x])[i]? = some y) : (l[i]? = some y ∧ i < l.length) ∨ (i = l.length ∧ y = x) := by
  by_cases c : i < l.length
  · rw [List.getElem?_append_left c] at h
    exact .inl ⟨h, c⟩
  · have := (List.getElem?_eq_some_iff.mp h).1
    rw [List.length_append, List.length_singleton] at this
    have e : i = l.length := by omega
    rw [List.getElem?_append_right (by omega), e, Nat.sub_self] at h
    cases h
    exact .inr ⟨e, rfl⟩
structure LvB (S : List Row87) (B : List Bgh) : Prop where
  ws : ∀ (i : Nat) (r : Row87) (b : Bgh), S[i]? = some r → B[i]? = some b → b.ways = r.op
  sh : ∀ (i : Nat) (r r' : Row87) (b : Bgh), S[i]? = some r → S[i + 1]? = some r' → B[i + 1]? = some b → b.sh = Fo.cmn r'.pa r.pa
  s0 : ∀ b : Bgh, B[0]? = some b → b.sh = 0
  pl : ∀ b ∈ B, b.pl.length = b.ways.length
theorem cmn_nil : ∀ l : List Int, Fo.cmn l [] = 0
  | [] => rfl
  | _ :: _ => rfl
theorem cmn_row {a b : Row87} {c : Nat} {y : Int} (la : a.pa.length = a.op.length) (lb : b.pa.length = b.op.length) (h : Fo.Ahead a.op a.pa b.op (b.pa ++ [y]) c) : Fo.cmn b.pa a.pa = c := by
  have lo := h.lo
  refine Fo.cmn_at b.pa a.pa c (by omega) h.lp ?_ ?_
  · rw [h.tp, List.take_append_of_le_length (by omega)]
  · rcases h.ne with z | ⟨x, y', h1, h2, h3⟩
    · exact .inr (.inl z)
    · by_cases e : c = b.pa.length
      · exact .inl e
      · rw [List.getElem?_append_left (by omega)] at h2
        exact .inr (.inr ⟨y', x, h2, h1, by omega⟩)
theorem lvb_from {S : List Row87} {B : List Bgh} (ok : StOk S) (l : B.length = S.length) (h : LvB S B) : From B 0 6 := by
  have row : ∀ (i : Nat) (b : Bgh), B[i]? = some b → ∃ r : Row87, S[i]? = some r ∧ b.ways = r.op ∧ r ∈ S := fun i b hb => by
    have lb := (List.getElem?_eq_some_iff.mp hb).1
    have il : i < S.length := by omega
    have hr : S[i]? = some S[i] := List.getElem?_eq_getElem il
    exact ⟨_, hr, h.ws i _ b hr hb, List.mem_of_getElem? hr⟩
  have memr : ∀ b ∈ B, b.ways.length ≤ 6 := fun b hb => by
    obtain ⟨i, hi⟩ := List.mem_iff_getElem?.mp hb
    obtain ⟨r, _, e, m⟩ := row i b hi
    rw [e]
    exact (ok.ln r m).2
  refine ⟨⟨fun b hb => ?_, fun i b c hb hc => ?_⟩, fun _ _ _ => Nat.zero_le _, fun _ _ => Nat.zero_le _, fun b hb => by have := memr b hb; omega, fun b hb => by rw [h.pl b hb]; exact memr b hb, by rw [l]; exact ok.sz⟩
  · obtain ⟨i, hi⟩ := List.mem_iff_getElem?.mp hb
    cases i with
    | zero => rw [h.s0 b hi]; exact Nat.zero_le _
    | succ i =>
      obtain ⟨r', hr', e, m⟩ := row (i + 1) b hi
      have il : i < S.length := by have := (List.getElem?_eq_some_iff.mp hr').1; omega
      have hr : S[i]? = some S[i] := List.getElem?_eq_getElem il
      obtain ⟨c, y, A⟩ := ok.ah i _ r' hr hr'
      rw [h.sh i _ r' b hr hr' hi, cmn_row (ok.ln _ (List.mem_of_getElem? hr)).1 (ok.ln _ m).1 A, e]
      exact A.lo
  · obtain ⟨r, hr, e, m⟩ := row i b hb
    obtain ⟨r', hr', e', m'⟩ := row (i + 1) c hc
    obtain ⟨k, y, A⟩ := ok.ah i r r' hr hr'
    have lr := (ok.ln _ m).1
    rw [h.sh i r r' c hr hr' hc, cmn_row lr (ok.ln _ m').1 A, e, e']
    exact ⟨by have := A.lp; omega, A.to.symm⟩
theorem MB.min2 : MB (fun xs H Q => ∃ i j : Int, xs = [V.int i, V.int j] ∧ Q (V.int (if j < i then j else i)) H) := fun vs H Q Q' hq ⟨i, j, a, b⟩ => ⟨i, j, a, hq _ _ b⟩
structure Pln (f : Frs) (B : List Bgh) : Prop where
  is : Fo.Is f B 0
  eq : B = Fo.lv [] 0 f
  gd : Fo.good f
  fr : From B 0 6
theorem Pln.of {f : Frs} {B : List Bgh} (hI : Fo.Is f B 0) (hF : From B 0 6) (h0 : ∀ b : Bgh, B.head? = some b → b.sh = 0) : Pln f B := by
  obtain ⟨h1, h2⟩ := Fo.is_lv f B [] 0 hI hF.ok (fun b _ => by simp) h0
  exact ⟨hI, h1, h2, hF⟩
theorem Pln.dep {f : Frs} {B : List Bgh} (h : Pln f B) : dep f ≤ 7 := dep_of f B 0 6 h.is h.fr.hi
theorem Pln.pathOk {f : Frs} {B : List Bgh} (h : Pln f B) (g : Fo.Gp) (hg : g ∈ Fo.gr f [] 0 0) : PathOk g.1 := by
  have := gr_plen f [] 0 0 g hg
  rw [List.length_nil] at this
  exact ⟨Fo.gr_mem f [] 0 0 g hg, by have := h.dep; omega⟩
theorem Pln.pos {f : Frs} {B : List Bgh} (h : Pln f B) (n : B ≠ []) : 0 < (Fo.gr f [] 0 0).length := by
  cases f with
  | nil => exact absurd h.is n
  | leaf k pl r => exact Nat.succ_pos _
  | node c w s r => exact Nat.succ_pos _
end L2

set_option linter.all false
namespace Fo
variable {W : Type}
theorem put_lv : ∀ (f : F W) (n : Nat) (path : List Int) (a b : Nat) (cw : Bool × W) (s : F W) (ws : List (Bool × W)) (st : Nat), good f → lk f n path = some (a, b, some (cw, s)) →
    ∃ (u : List (Bool × W)) (st' : Nat) (X Y : List (Bo W)), u.length + 1 = ws.length + path.length ∧ a = n + X.length ∧ b = a + sz s ∧ good s ∧ 0 < sz s ∧ lv ws st f = X ++ lv (u ++ [cw]) st' s ++ Y ∧
      ∀ o : F W, 0 < cnt o → lv ws st (pt f path 1 o) = X ++ lv u st' o ++ Y ∧ (good o → 0 < sz o → good (pt f path 1 o))
  | f, n, [], a, b, cw, s, ws, st, _, h => by rw [lk_nil] at h; cases h
  | .nil, n, j :: q, a, b, cw, s, ws, st, _, h => by cases h
  | .leaf k pl r, n, j :: q, a, b, cw, s, ws, st, g, h => by
    have h : (if j = 0 then (if q = [] then some (n, n + 1, none) else none) else lk r (n + 1) ((j - 1) :: q)) = some (a, b, some (cw, s)) := h
    by_cases c : j = 0
    · rw [if_pos c] at h
      split at h <;> cases h
    · rw [if_neg c] at h
      obtain ⟨u, st', X, Y, h1, h2, h3, h4, h5, h6, h7⟩ := put_lv r (n + 1) ((j - 1) :: q) a b cw s ws ws.length g h
      refine ⟨u, st', ⟨k, st, ws, pl⟩ :: X, Y, h1, by rw [List.length_cons]; omega, h3, h4, h5, ?_, fun o ho => ?_⟩
      · show (⟨k, st, ws, pl⟩ : Bo W) :: lv ws ws.length r = _
        rw [h6]; rfl
      · have e : pt (.leaf k pl r) (j :: q) 1 o = .leaf k pl (pt r ((j - 1) :: q) 1 o) := if_neg c
        rw [e]
        refine ⟨?_, fun go so => (h7 o ho).2 go so⟩
        show (⟨k, st, ws, pl⟩ : Bo W) :: lv ws ws.length (pt r ((j - 1) :: q) 1 o) = _
        rw [(h7 o ho).1]; rfl
  | .node cc w f r, n, j :: q, a, b, cw, s, ws, st, g, h => by
    have h : (if j = 0 then (if q = [] then some (n, n + sz f, some ((cc, w), f)) else lk f n q) else lk r (n + sz f) ((j - 1) :: q)) = some (a, b, some (cw, s)) := h
    by_cases c : j = 0
    · rw [if_pos c] at h
      by_cases cq : q = []
      · rw [if_pos cq] at h
        cases h
        subst cq
        refine ⟨ws, st, [], lv ws ws.length r, rfl, rfl, rfl, g.2.1, g.1, rfl, fun o ho => ?_⟩
        have e : pt (.node cc w f r) [j] 1 o = app o r := by
          show (if j = 0 then (if ([] : List Int) = [] then app o (dr 1 (.node cc w f r)) else _) else _) = _
          rw [if_pos c, if_pos rfl]
          cases r <;> rfl
        rw [e, List.nil_append]
        exact ⟨lv_app o r ws st ho, fun go _ => good_app o r go g.2.2⟩
      · rw [if_neg cq] at h
        obtain ⟨u, st', X, Y, h1, h2, h3, h4, h5, h6, h7⟩ := put_lv f n q a b cw s (ws ++ [(cc, w)]) st g.2.1 h
        refine ⟨u, st', X, Y ++ lv ws ws.length r, by rw [h1, List.length_append, List.length_singleton, List.length_cons]; omega, h2, h3, h4, h5, ?_, fun o ho => ?_⟩
        · show lv (ws ++ [(cc, w)]) st f ++ lv ws ws.length r = _
          rw [h6, List.append_assoc]
        · have e : pt (.node cc w f r) (j :: q) 1 o = .node cc w (pt f q 1 o) r := by
            show (if j = 0 then (if q = [] then _ else F.node cc w (pt f q 1 o) r) else _) = _
            rw [if_pos c, if_neg cq]
          rw [e]
          obtain ⟨z1, z2⟩ := h7 o ho
          refine ⟨?_, fun go so => ⟨?_, z2 go so, g.2.2⟩⟩
          · show lv (ws ++ [(cc, w)]) st (pt f q 1 o) ++ lv ws ws.length r = _
            rw [z1, List.append_assoc]
          · have := congrArg List.length z1
            rw [lv_len, List.length_append, List.length_append, lv_len] at this
            omega
    · rw [if_neg c] at h
      obtain ⟨u, st', X, Y, h1, h2, h3, h4, h5, h6, h7⟩ := put_lv r (n + sz f) ((j - 1) :: q) a b cw s ws ws.length g.2.2 h
      refine ⟨u, st', lv (ws ++ [(cc, w)]) st f ++ X, Y, h1, by rw [List.length_append, lv_len]; omega, h3, h4, h5, ?_, fun o ho => ?_⟩
      · show lv (ws ++ [(cc, w)]) st f ++ lv ws ws.length r = _
        rw [h6]; simp only [List.append_assoc]
      · have e : pt (.node cc w f r) (j :: q) 1 o = .node cc w f (pt r ((j - 1) :: q) 1 o) := if_neg c
        rw [e]
        obtain ⟨z1, z2⟩ := h7 o ho
        refine ⟨?_, fun go so => ⟨g.1, g.2.1, z2 go so⟩⟩
        show lv (ws ++ [(cc, w)]) st f ++ lv ws ws.length (pt r ((j - 1) :: q) 1 o) = _
        rw [z1]; simp only [List.append_assoc]
theorem lv_set : ∀ (f : F W) (u v : List (Bool × W)) (x y : Bool × W) (st : Nat), lv (u ++ [y] ++ v) st f = (lv (u ++ [x] ++ v) st f).map fun b => { b with ways := b.ways.set u.length y }
  | .nil, _, _, _, _, _ => rfl
  | .leaf k pl r, u, v, x, y, st => by
    have el : (u ++ [y] ++ v).length = (u ++ [x] ++ v).length := by simp only [List.length_append, List.length_singleton]
    have es : (u ++ [x] ++ v).set u.length y = u ++ [y] ++ v := by
      rw [List.append_assoc, List.set_append_right _ _ (Nat.le_refl _), Nat.sub_self]
      simp
    show (⟨k, st, u ++ [y] ++ v, pl⟩ : Bo W) :: lv (u ++ [y] ++ v) (u ++ [y] ++ v).length r = (⟨k, st, (u ++ [x] ++ v).set u.length y, pl⟩ : Bo W) :: (lv (u ++ [x] ++ v) (u ++ [x] ++ v).length r).map _
    rw [es, el, lv_set r u v x y]
  | .node c w s r, u, v, x, y, st => by
    have el : (u ++ [y] ++ v).length = (u ++ [x] ++ v).length := by simp only [List.length_append, List.length_singleton]
    show lv (u ++ [y] ++ v ++ [(c, w)]) st s ++ lv (u ++ [y] ++ v) (u ++ [y] ++ v).length r = (lv (u ++ [x] ++ v ++ [(c, w)]) st s ++ lv (u ++ [x] ++ v) (u ++ [x] ++ v).length r).map _
    rw [List.map_append, el, List.append_assoc _ v, List.append_assoc _ v, lv_set s u (v ++ [(c, w)]) x y, lv_set r u v x y]
end Fo

set_option Elab.async false
set_option linter.all false
set_option maxRecDepth 100000
set_option maxHeartbeats 4000000
namespace L2
open PySem PySem.Spec PyProof.Rows
theorem passes_no {X : Cx} : PassesK X (fun _ => E0) := fun _ _ _ _ _ _ _ h => by
  obtain ⟨_, _, _, _, _, _, _, _, _, _, _, _, _, _, _, _, z⟩ := h
  exact z.elim
noncomputable def chB (φ : Bgh → Bgh) (a b : Nat) (B : List Bgh) : List Bgh := B.take a ++ ((B.drop a).take (b - a)).map φ ++ B.drop b
theorem chB_eq {φ : Bgh → Bgh} {X G Y : List Bgh} {a b : Nat} (ha : a = X.length) (hb : b = a + G.length) : chB φ a b (X ++ G ++ Y) = X ++ G.map φ ++ Y := by
  subst ha; subst hb
  have e1 : (X ++ G ++ Y).take X.length = X := by rw [List.append_assoc]; exact List.take_left' rfl
  have e2 : (X ++ G ++ Y).drop X.length = G ++ Y := by rw [List.append_assoc]; exact List.drop_left' rfl
  have e3 : (X ++ G ++ Y).drop (X.length + G.length) = Y := List.drop_left' (by rw [List.length_append])
  unfold chB
  rw [e1, e2, e3, Nat.add_sub_cancel_left, List.take_left' rfl]
theorem chB_get {φ : Bgh → Bgh} {B : List Bgh} {a b : Nat} (h1 : a ≤ b) (h2 : b ≤ B.length) : (chB φ a b B).length = B.length := by
  unfold chB
  rw [List.length_append, List.length_append, List.length_map, List.length_take, List.length_take, List.length_drop, List.length_drop]
  omega
theorem chB_succ {φ : Bgh → Bgh} {B : List Bgh} {a i : Nat} {b : Bgh} (h1 : a ≤ i) (hb : B[i]? = some b) : chB φ a (i + 1) B = (chB φ a i B).set i (φ b) := by
  have hi := (List.getElem?_eq_some_iff.mp hb).1
  have hd : (B.drop a)[i - a]? = some b := by rw [List.getElem?_drop, show a + (i - a) = i by omega]; exact hb
  unfold chB
  rw [show i + 1 - a = (i - a) + 1 by omega, take_snoc hd, List.map_append, List.drop_eq_getElem_cons hi, ← List.append_assoc]
  have l1 : (B.take a ++ ((B.drop a).take (i - a)).map φ).length = i := by
    rw [List.length_append, List.length_map, List.length_take, List.length_take, List.length_drop]; omega
  rw [List.set_append_right _ _ (by omega), l1, Nat.sub_self]
  show _ = _ ++ (φ b :: B.drop (i + 1))
  rw [List.append_assoc]
  rfl
theorem chB_none {φ : Bgh → Bgh} {B : List Bgh} {a : Nat} : chB φ a a B = B := by
  unfold chB
  rw [Nat.sub_self, List.take_zero, List.map_nil, List.append_nil, List.take_append_drop]
theorem All2.set' {α : Type} {R : V → α → Prop} {xs : List V} {as : List α} {x : V} {a : α} (h : All2 R xs as) (i : Nat) (g : R x a) : All2 R (xs.set i x) (as.set i a) := by
  refine ⟨by rw [List.length_set, List.length_set, h.1], fun j y b p q => ?_⟩
  by_cases c : i = j
  · subst c
    have l1 := (List.getElem?_eq_some_iff.mp p).1
    have l2 := (List.getElem?_eq_some_iff.mp q).1
    rw [List.length_set] at l1 l2
    rw [List.getElem?_set_self l1] at p
    rw [List.getElem?_set_self l2] at q
    cases p; cases q
    exact g
  · rw [List.getElem?_set_ne c] at p q
    exact h.2 j y b p q
theorem WaysAt.wo {H : Hp} {l fo : Addr} {ws : List Way} {zs : List V} (h : WaysAt H l ws) (n : l ≠ fo) (hz : H fo = some (.lst zs)) : WaysAt (L2.wo H fo) l ws := by
  obtain ⟨xs, h1, h2⟩ := h
  refine ⟨xs, by rw [wo_ne n]; exact h1, h2.mono fun x v z => ?_⟩
  obtain ⟨t, rfl, h⟩ := z
  exact ⟨t, rfl, by rw [wo_ne (tup_ne h hz)]; exact h⟩
theorem PrsAt.wo {H : Hp} {l fo : Addr} {ps : List (Int × Int)} {zs : List V} (h : PrsAt H l ps) (n : l ≠ fo) (hz : H fo = some (.lst zs)) : PrsAt (L2.wo H fo) l ps := by
  obtain ⟨xs, h1, h2⟩ := h
  refine ⟨xs, by rw [wo_ne n]; exact h1, h2.mono fun x v z => ?_⟩
  obtain ⟨t, rfl, h⟩ := z
  exact ⟨t, rfl, by rw [wo_ne (tup_ne h hz)]; exact h⟩
theorem lk_put {W : Type} : ∀ (f : Fo.F W) (n : Nat) (path : List Int) (a b : Nat) (x : (Bool × W) × Fo.F W) (cw : Bool × W) (s : Fo.F W), Fo.lk f n path = some (a, b, some x) → Fo.sz s = Fo.sz x.2 → Fo.lk (Fo.pt f path 1 (.node cw.1 cw.2 s .nil)) n path = some (a, b, some (cw, s)) ∧ ∀ o : Fo.F W, 0 < Fo.cnt o → Fo.pt (Fo.pt f path 1 (.node cw.1 cw.2 s .nil)) path 1 o = Fo.pt f path 1 o
  | f, n, [], a, b, x, cw, s, h, _ => by rw [Fo.lk_nil] at h; cases h
  | .nil, n, j :: q, a, b, x, cw, s, h, _ => by cases h
  | .leaf k pl r, n, j :: q, a, b, x, cw, s, h, hs => by
    have h : (if j = 0 then (if q = [] then some (n, n + 1, none) else none) else Fo.lk r (n + 1) ((j - 1) :: q)) = some (a, b, some x) := h
    by_cases c : j = 0
    · rw [if_pos c] at h
      split at h <;> cases h
    · rw [if_neg c] at h
      obtain ⟨i1, i2⟩ := lk_put r (n + 1) ((j - 1) :: q) a b x cw s h hs
      have e : ∀ (r : Fo.F W) (o : Fo.F W), Fo.pt (.leaf k pl r) (j :: q) 1 o = .leaf k pl (Fo.pt r ((j - 1) :: q) 1 o) := fun r o => if_neg c
      rw [e]
      refine ⟨?_, fun o ho => by rw [e, e, i2 o ho]⟩
      show (if j = 0 then _ else Fo.lk (Fo.pt r ((j - 1) :: q) 1 (.node cw.1 cw.2 s .nil)) (n + 1) ((j - 1) :: q)) = _
      rw [if_neg c]; exact i1
  | .node cc w f r, n, j :: q, a, b, x, cw, s, h, hs => by
    have h : (if j = 0 then (if q = [] then some (n, n + Fo.sz f, some ((cc, w), f)) else Fo.lk f n q) else Fo.lk r (n + Fo.sz f) ((j - 1) :: q)) = some (a, b, some x) := h
    by_cases c : j = 0
    · rw [if_pos c] at h
      by_cases cq : q = []
      · rw [if_pos cq] at h
        cases h
        subst cq
        have d1 : ∀ (c : Bool) (w : W) (s r : Fo.F W), Fo.dr 1 (.node c w s r) = r := fun c w s r => by cases r <;> rfl
        have e : ∀ (c' : Bool) (w' : W) (s' : Fo.F W) (o : Fo.F W), Fo.pt (.node c' w' s' r) [j] 1 o = Fo.app o r := fun c' w' s' o => by
          show (if j = 0 then (if ([] : List Int) = [] then Fo.app o (Fo.dr 1 (.node c' w' s' r)) else _) else _) = _
          rw [if_pos c, if_pos rfl, d1]
        rw [e]
        refine ⟨?_, fun o _ => by rw [e]; exact e ..⟩
        show (if j = 0 then (if ([] : List Int) = [] then some (n, n + Fo.sz s, some ((cw.1, cw.2), s)) else _) else _) = _
        rw [if_pos c, if_pos rfl, hs]
      · rw [if_neg cq] at h
        obtain ⟨i1, i2⟩ := lk_put f n q a b x cw s h hs
        have e : ∀ (f : Fo.F W) (o : Fo.F W), Fo.pt (.node cc w f r) (j :: q) 1 o = .node cc w (Fo.pt f q 1 o) r := fun f o => by
          show (if j = 0 then (if q = [] then _ else Fo.F.node cc w (Fo.pt f q 1 o) r) else _) = _
          rw [if_pos c, if_neg cq]
        rw [e]
        refine ⟨?_, fun o ho => by rw [e, e, i2 o ho]⟩
        show (if j = 0 then (if q = [] then _ else Fo.lk (Fo.pt f q 1 (.node cw.1 cw.2 s .nil)) n q) else _) = _
        rw [if_pos c, if_neg cq]; exact i1
    · rw [if_neg c] at h
      obtain ⟨i1, i2⟩ := lk_put r (n + Fo.sz f) ((j - 1) :: q) a b x cw s h hs
      have e : ∀ (r : Fo.F W) (o : Fo.F W), Fo.pt (.node cc w f r) (j :: q) 1 o = .node cc w f (Fo.pt r ((j - 1) :: q) 1 o) := fun r o => if_neg c
      rw [e]
      refine ⟨?_, fun o ho => by rw [e, e, i2 o ho]⟩
      show (if j = 0 then _ else Fo.lk (Fo.pt r ((j - 1) :: q) 1 (.node cw.1 cw.2 s .nil)) (n + Fo.sz f) ((j - 1) :: q)) = _
      rw [if_neg c]; exact i1
noncomputable def TL (H H' : Hp) : Prop := ∀ b o, H b = some o → (∀ z, o ≠ .tbl z) → H' b = some o
theorem TL.tk {H H' : Hp} (h : TL H H') : TK H H' := fun b xs e => h b _ e fun _ => by simp
theorem TL.l {H H' : Hp} (h : TL H H') {b : Addr} {xs : List V} (e : H b = some (.lst xs)) : H' b = some (.lst xs) := h b _ e fun _ => by simp
theorem WaysAt.tl {H H' : Hp} {l : Addr} {ws : List Way} (h : WaysAt H l ws) (e : TL H H') : WaysAt H' l ws := let ⟨xs, a, b⟩ := h; ⟨xs, e.l a, b.mono fun _ _ z => let ⟨t, a, b⟩ := z; ⟨t, a, e.tk _ _ b⟩⟩
theorem PrsAt.tl {H H' : Hp} {l : Addr} {ps : List (Int × Int)} (h : PrsAt H l ps) (e : TL H H') : PrsAt H' l ps := let ⟨xs, a, b⟩ := h; ⟨xs, e.l a, b.mono fun _ _ z => let ⟨t, a, b⟩ := z; ⟨t, a, e.tk _ _ b⟩⟩
theorem BoAt.tl {H H' : Hp} {x : V} {b : Bgh} (h : BoAt H x b) (e : TL H H') : BoAt H' x b := let ⟨t, w, p, a, b, c, d⟩ := h; ⟨t, w, p, a, e.tk _ _ b, c.tl e, d.tl e⟩
theorem BosAt.tl {H H' : Hp} {l : Addr} {B : List Bgh} (h : BosAt H l B) (e : TL H H') : BosAt H' l B := let ⟨xs, a, b⟩ := h; ⟨xs, e.l a, b.mono fun _ _ z => z.tl e⟩
theorem FoT.tl {H H' : Hp} {p : Addr} {f : Frs} (h : FoT H p f) (e : TL H H') : FoT H' p f := let ⟨xs, a, b⟩ := h; ⟨xs, e.tk _ _ a, FoAt.tk e.tk b⟩
end L2

set_option Elab.async false
set_option linter.all false
set_option maxRecDepth 100000
set_option maxHeartbeats 4000000
namespace L2
open PySem PySem.Spec PyProof.Rows
end L2

set_option Elab.async false
set_option linter.all false
set_option maxRecDepth 100000
set_option maxHeartbeats 4000000
namespace L2
open PySem PySem.Spec PyProof.Rows
section
variable {X : Cx}
end
theorem outs4 {ρ : List (Option Nat)} {σ : St} (o o' p p' : Option V) : Outs (none :: none :: none :: none :: ρ) σ (o :: o' :: p :: p' :: inSt ρ σ) := by
  refine ⟨by unfold inSt; simp, fun j v e => ?_⟩
  cases j with
  | zero => rw [inSt_cons] at e; simp at e
  | succ j =>
    rw [inSt_cons, inSt_cons] at e
    cases j with
    | zero => simp at e
    | succ j =>
      rw [inSt_cons] at e
      cases j with
      | zero => simp at e
      | succ j =>
        rw [inSt_cons] at e
        cases j with
        | zero => simp at e
        | succ j => simpa using e
end L2

set_option Elab.async false
set_option linter.all false
set_option maxRecDepth 100000
set_option maxHeartbeats 4000000
namespace L2
open PySem PySem.Spec PyProof.Rows
noncomputable def PlS : Frs → Prop
  | .nil => True
  | .leaf _ pl r => pl.length ≤ 6 ∧ PlS r
  | .node _ _ s r => PlS s ∧ PlS r
theorem lk_sub : ∀ (f : Frs) (n : Nat) (path : List Int) (a b : Nat) (cw : Way) (s : Frs), Fo.lk f n path = some (a, b, some (cw, s)) → dep s + path.length ≤ dep f ∧ Fo.sz s ≤ Fo.sz f ∧ (PlS f → PlS s)
  | f, n, [], a, b, cw, s, h => by rw [Fo.lk_nil] at h; cases h
  | .nil, n, i :: q, a, b, cw, s, h => by cases h
  | .leaf k pl r, n, i :: q, a, b, cw, s, h => by
    have h : (if i = 0 then (if q = [] then some (n, n + 1, none) else none) else Fo.lk r (n + 1) ((i - 1) :: q)) = some (a, b, some (cw, s)) := h
    by_cases c : i = 0
    · rw [if_pos c] at h
      split at h <;> cases h
    · rw [if_neg c] at h
      obtain ⟨h1, h2, h3⟩ := lk_sub r (n + 1) ((i - 1) :: q) a b cw s h
      exact ⟨h1, Nat.le_succ_of_le h2, fun z => h3 z.2⟩
  | .node cc w f r, n, i :: q, a, b, cw, s, h => by
    have h : (if i = 0 then (if q = [] then some (n, n + Fo.sz f, some ((cc, w), f)) else Fo.lk f n q) else Fo.lk r (n + Fo.sz f) ((i - 1) :: q)) = some (a, b, some (cw, s)) := h
    by_cases c : i = 0
    · rw [if_pos c] at h
      by_cases cq : q = []
      · rw [if_pos cq] at h
        cases h
        subst cq
        refine ⟨?_, Nat.le_add_right _ _, fun z => z.1⟩
        show dep f + 1 ≤ max (1 + dep f) (dep r)
        omega
      · rw [if_neg cq] at h
        obtain ⟨h1, h2, h3⟩ := lk_sub f n q a b cw s h
        refine ⟨?_, Nat.le_trans h2 (Nat.le_add_right _ _), fun z => h3 z.1⟩
        show dep s + (q.length + 1) ≤ max (1 + dep f) (dep r)
        omega
    · rw [if_neg c] at h
      obtain ⟨h1, h2, h3⟩ := lk_sub r (n + Fo.sz f) ((i - 1) :: q) a b cw s h
      refine ⟨?_, Nat.le_trans h2 (Nat.le_add_left _ _), fun z => h3 z.2⟩
      show dep s + (q.length + 1) ≤ max (1 + dep f) (dep r)
      have h1 : dep s + (q.length + 1) ≤ dep r := h1
      omega
theorem wid_app : ∀ f g : Frs, wid (Fo.app f g) = wid f + wid g
  | .nil, g => by show wid g = 0 + wid g; omega
  | .leaf k pl r, g => by show wid (Fo.app r g) + 1 = wid r + 1 + wid g; rw [wid_app r g]; omega
  | .node c w s r, g => by show wid s + wid (Fo.app r g) + 1 = wid s + wid r + 1 + wid g; rw [wid_app r g]; omega
theorem wid_pt : ∀ (f : Frs) (n : Nat) (path : List Int) (a b : Nat) (x : Way × Frs) (o : Frs), Fo.lk f n path = some (a, b, some x) → wid (Fo.pt f path 1 o) + (wid x.2 + 1) = wid f + wid o
  | f, n, [], a, b, x, _, h => by rw [Fo.lk_nil] at h; cases h
  | .nil, n, j :: q, a, b, x, _, h => by cases h
  | .leaf k pl r, n, j :: q, a, b, x, o, h => by
    have h : (if j = 0 then (if q = [] then some (n, n + 1, none) else none) else Fo.lk r (n + 1) ((j - 1) :: q)) = some (a, b, some x) := h
    by_cases c : j = 0
    · rw [if_pos c] at h
      split at h <;> cases h
    · rw [if_neg c] at h
      have e : Fo.pt (.leaf k pl r) (j :: q) 1 o = .leaf k pl (Fo.pt r ((j - 1) :: q) 1 o) := if_neg c
      rw [e]
      have := wid_pt r (n + 1) ((j - 1) :: q) a b x o h
      show wid (Fo.pt r ((j - 1) :: q) 1 o) + 1 + (wid x.2 + 1) = wid r + 1 + wid o
      omega
  | .node cc w f r, n, j :: q, a, b, x, o, h => by
    have h : (if j = 0 then (if q = [] then some (n, n + Fo.sz f, some ((cc, w), f)) else Fo.lk f n q) else Fo.lk r (n + Fo.sz f) ((j - 1) :: q)) = some (a, b, some x) := h
    by_cases c : j = 0
    · rw [if_pos c] at h
      by_cases cq : q = []
      · rw [if_pos cq] at h
        cases h
        subst cq
        have e : Fo.pt (.node cc w f r) [j] 1 o = Fo.app o r := by
          show (if j = 0 then (if ([] : List Int) = [] then Fo.app o (Fo.dr 1 (.node cc w f r)) else _) else _) = _
          rw [if_pos c, if_pos rfl]
          cases r <;> rfl
        rw [e, wid_app]
        show wid o + wid r + (wid f + 1) = wid f + wid r + 1 + wid o
        omega
      · rw [if_neg cq] at h
        have e : Fo.pt (.node cc w f r) (j :: q) 1 o = .node cc w (Fo.pt f q 1 o) r := by
          show (if j = 0 then (if q = [] then _ else Fo.F.node cc w (Fo.pt f q 1 o) r) else _) = _
          rw [if_pos c, if_neg cq]
        rw [e]
        have := wid_pt f n q a b x o h
        show wid (Fo.pt f q 1 o) + wid r + 1 + (wid x.2 + 1) = wid f + wid r + 1 + wid o
        omega
    · rw [if_neg c] at h
      have e : Fo.pt (.node cc w f r) (j :: q) 1 o = .node cc w f (Fo.pt r ((j - 1) :: q) 1 o) := if_neg c
      rw [e]
      have := wid_pt r (n + Fo.sz f) ((j - 1) :: q) a b x o h
      show wid f + wid (Fo.pt r ((j - 1) :: q) 1 o) + 1 + (wid x.2 + 1) = wid f + wid r + 1 + wid o
      omega
theorem cutTo2 (xs : List V) (k : Nat) : cutV xs none (some (k : Int)) = xs.take k := by
  unfold cutV
  have e0 : HT.sIx xs.length 0 none = 0 := rfl
  have e1 : HT.sIx xs.length xs.length (some ((k : Nat) : Int)) = min k xs.length := HT.sIx_nat ..
  rw [e0, e1, List.drop_zero, Nat.sub_zero]
  by_cases c : k ≤ xs.length
  · rw [Nat.min_eq_left c]
  · rw [Nat.min_eq_right (by omega), List.take_length, List.take_of_length_le (by omega)]
theorem app_assoc' : ∀ f g h : Frs, Fo.app (Fo.app f g) h = Fo.app f (Fo.app g h)
  | .nil, _, _ => rfl
  | .leaf k pl r, g, h => by show Fo.F.leaf k pl (Fo.app (Fo.app r g) h) = .leaf k pl (Fo.app r (Fo.app g h)); rw [app_assoc' r g h]
  | .node c w s r, g, h => by show Fo.F.node c w s (Fo.app (Fo.app r g) h) = .node c w s (Fo.app r (Fo.app g h)); rw [app_assoc' r g h]
theorem deeds_sz : ∀ (f : Frs) (p : List Int) (j : Nat), (Fo.deedsF f p j).length = Fo.sz f
  | .nil, _, _ => rfl
  | .leaf k pl r, p, j => by show (Fo.deedsF r p (j + 1)).length + 1 = Fo.sz r + 1; rw [deeds_sz r]
  | .node c w s r, p, j => by show (Fo.deedsF s (p ++ [(j : Int)]) 0 ++ Fo.deedsF r p (j + 1)).length = Fo.sz s + Fo.sz r; rw [List.length_append, deeds_sz s, deeds_sz r]
noncomputable def TbOk (Pt : Addr) (pos : Pos) (qn : Str) (H : Hp) : Prop := H Pt = some (.tbl #[]) ∨ ∃ (c' : Addr) (oc : Obj), H Pt = some (.tbl #[rawInt pos.line, rawInt pos.col, .ref c']) ∧ H c' = some (cdX c' oc) ∧ CdOf qn oc
theorem TbOk.over {Pt : Addr} {pos : Pos} {qn : Str} {H H' : Hp} (h : TbOk Pt pos qn H) (e : Same H H') : TbOk Pt pos qn H' := by
  rcases h with h | ⟨c, oc, h1, h2, h3⟩
  · exact .inl (e _ _ h)
  · exact .inr ⟨c, oc, e _ _ h1, e _ _ h2, h3⟩
theorem Same.tl {H H' : Hp} (e : Same H H') : TL H H' := fun b o h _ => e b o h
theorem TL.trans {H H1 H2 : Hp} (a : TL H H1) (b : TL H1 H2) : TL H H2 := fun x o h n => b x o (a x o h n) n
noncomputable def Cd (c' : Addr) (qn : Str) (H : Hp) : Prop := ∃ oc, H c' = some (cdX c' oc) ∧ CdOf qn oc
theorem Cd.over {c' : Addr} {qn : Str} {H H' : Hp} (h : Cd c' qn H) (e : Same H H') : Cd c' qn H' := let ⟨oc, a, b⟩ := h; ⟨oc, e _ _ a, b⟩
theorem gp_both (f : Frs) {path : List Int} (h : path ≠ []) : ∃ (a b : Nat) (fl : Bool), atG (Fo.gr f [] 0 0) path = (path, a, b, fl) ∧ ((fl = true ∧ ∃ cw s, Fo.lk f 0 path = some (a, b, some (cw, s))) ∨ (fl = false ∧ ∀ a b x, Fo.lk f 0 path ≠ some (a, b, some x))) := by
  rcases gp_cases (f := f) h with ⟨a, b, cw, s, h1, h2⟩ | ⟨h1, a, b, h2⟩
  · exact ⟨a, b, true, h2, .inl ⟨rfl, cw, s, h1⟩⟩
  · exact ⟨a, b, false, h2, .inr ⟨rfl, h1⟩⟩
theorem gr_lk : ∀ (f : Frs) (p : List Int) (j : Int) (n : Nat) (g : Fo.Gp), g ∈ Fo.gr f p j n → ∃ (i : Nat) (q : List Int) (o : Option (Way × Frs)), g.1 = p ++ (j + (i : Int)) :: q ∧ Fo.lk f n ((i : Int) :: q) = some (g.2.1, g.2.2.1, o) ∧ o.isSome = g.2.2.2
  | .nil, _, _, _, _, h => by cases h
  | .leaf k pl r, p, j, n, g, h => by
    rcases List.mem_cons.mp h with e | e
    · subst e
      exact ⟨0, [], none, by show p ++ [j] = p ++ [j + ((0 : Nat) : Int)]; rw [show j + ((0 : Nat) : Int) = j by omega], rfl, rfl⟩
    · obtain ⟨i, q, o, h1, h2, h3⟩ := gr_lk r p (j + 1) (n + 1) g e
      refine ⟨i + 1, q, o, by rw [h1, show j + 1 + (i : Int) = j + ((i + 1 : Nat) : Int) by omega], ?_, h3⟩
      show (if ((i + 1 : Nat) : Int) = 0 then _ else Fo.lk r (n + 1) ((((i + 1 : Nat) : Int) - 1) :: q)) = _
      rw [if_neg (by omega), show ((i + 1 : Nat) : Int) - 1 = (i : Int) by omega]
      exact h2
  | .node c w s r, p, j, n, g, h => by
    rcases List.mem_cons.mp h with e | e
    · subst e
      exact ⟨0, [], some ((c, w), s), by show p ++ [j] = p ++ [j + ((0 : Nat) : Int)]; rw [show j + ((0 : Nat) : Int) = j by omega], rfl, rfl⟩
    · rcases List.mem_append.mp e with e | e
      · obtain ⟨i, q, o, h1, h2, h3⟩ := gr_lk s (p ++ [j]) 0 n g e
        refine ⟨0, (i : Int) :: q, o, ?_, ?_, h3⟩
        · rw [h1, List.append_assoc, show (0 : Int) + (i : Int) = (i : Int) by omega, show j + ((0 : Nat) : Int) = j by omega]
          rfl
        · show (if ((0 : Nat) : Int) = 0 then (if (i : Int) :: q = [] then _ else Fo.lk s n ((i : Int) :: q)) else _) = _
          rw [if_pos (by omega), if_neg (by simp)]
          exact h2
      · obtain ⟨i, q, o, h1, h2, h3⟩ := gr_lk r p (j + 1) (n + Fo.sz s) g e
        refine ⟨i + 1, q, o, by rw [h1, show j + 1 + (i : Int) = j + ((i + 1 : Nat) : Int) by omega], ?_, h3⟩
        show (if ((i + 1 : Nat) : Int) = 0 then _ else Fo.lk r (n + Fo.sz s) ((((i + 1 : Nat) : Int) - 1) :: q)) = _
        rw [if_neg (by omega), show ((i + 1 : Nat) : Int) - 1 = (i : Int) by omega]
        exact h2
theorem gr_lk0 {f : Frs} {g : Fo.Gp} (h : g ∈ Fo.gr f [] 0 0) (hb : g.2.2.2 = true) : ∃ cw s, Fo.lk f 0 g.1 = some (g.2.1, g.2.2.1, some (cw, s)) := by
  obtain ⟨i, q, o, h1, h2, h3⟩ := gr_lk f [] 0 0 g h
  rw [List.nil_append, Int.zero_add] at h1
  rw [hb] at h3
  cases o with
  | none => cases h3
  | some x => exact ⟨x.1, x.2, by rw [h1, h2]⟩
end L2

set_option Elab.async false
set_option linter.all false
set_option maxRecDepth 100000
set_option maxHeartbeats 4000000
namespace L2
open PySem PySem.Spec PyProof.Rows
theorem law_callTs {P : Program} {w : World} {K : PySem.W.Frag} {mg mb : Str → Option Value} {CX : CXT} {k : Nat} {fa a : Addr} {ts : List (Addr × Addr)} {fd : FuncData} {x : Str} {sp : Sp} {s₁ : Shared} {vs : List Value} {ns : List Int}
    (KX : K.In s₁.heap) (hns : s₁.heap.Ns mainGlobals mg) (hb : s₁.heap.Ns builtinsNs mb) (hbb : ∀ x : Str, x ≠ "__name__" → mb x = bootBuiltins x) (hlim : s₁.heap.NoLimit) (hg : s₁.gens = #[])
    (hC : ∀ x ∈ ts, PySem.W.CodeHd s₁.heap x.1 x.2) (hP : ∀ x ∈ ts, s₁.heap.get? x.2 = some (PySem.W.tabObj #[])) (hKP : ∀ x ∈ ts, K.lookup x.2 = none)
    (ha : s₁.heap.get? a = some { cls := .type "list", data := .seq vs.toArray }) (hi : IntsAre vs ns) (hl : ns.length ≤ sizeLine) (hr : Room k callerA)
    (hbm : ∃ bm ob, mg "__builtins__" = some (.ref bm) ∧ bm ≠ builtinsNs ∧ s₁.heap.get? bm = some ob ∧ ob.cls = .type "module" ∧ ob.dict = some builtinsNs ∧ ob.data = .plain)
    (F : ∀ base : Heap, K.In base → base.Ns mainGlobals mg → (∀ x ∈ ts, LawTab base mg x.1 x.2) → FnOk P w K mg base CX k fa fd [x] sp) (hbind : ∀ (s : Shared) (u : Value), BindsTo s fd ⟨[u], []⟩ [(x, u)])
    (hsp : ∀ H : Hp, (∀ x ∈ ts, H x.2 = some (.tbl #[])) → SqL K H a (ns.map V.int) → sp [.ref a] H (fun v _ => v = .bl true) fun _ _ _ => False)
    (hCX : ∀ H e s', CX [] H s₁ (fun _ _ _ => False) e s' → False) :
    codeAny (model P w) callerA (.call (.ref fa) ⟨[.ref a], []⟩) (fun r s' => r = .ok (.ret (.bool true)) ∧ OldK s₁.heap s'.heap ∧ s'.os = s₁.os ∧ AllBare s'.gens) s₁ := by
  have rv := vals_ints hi
  have lenV := hi.length
  obtain ⟨Ps, hPs⟩ : ∃ Ps : List Addr, Ps = ts.map (·.2) := ⟨_, rfl⟩
  have memP : ∀ b ∈ Ps, ∃ x ∈ ts, x.2 = b := fun b h => by rw [hPs] at h; exact List.mem_map.mp h
  have hPm : ∀ x ∈ ts, x.2 ∈ Ps := fun x h => by rw [hPs]; exact List.mem_map.mpr ⟨x, h, rfl⟩
  have hPb : ∀ b ∈ Ps, s₁.heap.get? b = some (PySem.W.tabObj #[]) := fun b h => by obtain ⟨x, h1, rfl⟩ := memP b h; exact hP x h1
  have hKb : ∀ b ∈ Ps, K.lookup b = none := fun b h => by obtain ⟨x, h1, rfl⟩ := memP b h; exact hKP x h1
  have naP : a ∉ Ps := fun z => by have := hPb a z; rw [ha] at this; cases this
  have core : ∀ H : Hp, (∀ b, H b = none ∨ (∃ o xs, H b = some (.frz o (.lst xs))) ∨ b ∈ Ps) → (∀ b ∈ Ps, H b = some (.tbl #[])) → SqL K H a (ns.map V.int) → HOk P w H s₁.heap → (∀ b, H b ≠ none → b = a ∨ b ∈ Ps) → (H a ≠ none → K.lookup a = none) →
      codeAny (model P w) callerA (.call (.ref fa) ⟨[.ref a], []⟩) (fun r s' => r = .ok (.ret (.bool true)) ∧ OldK s₁.heap s'.heap ∧ s'.os = s₁.os ∧ AllBare s'.gens) s₁ := by
    intro H hO hT hS hok hA hK
    have base_of : ∀ {b : Addr} {o : Obj}, s₁.heap.get? b = some o → H b = none → (hidT s₁.heap H).get? b = some o := fun e n => hidT_get e n
    have noA : ∀ {b : Addr} {o : Obj}, s₁.heap.get? b = some o → o.cls ≠ .none → o.cls ≠ .type "list" → H b = none := fun {b o} e d1 d2 => by
      cases q : H b with
      | none => rfl
      | some u =>
        rcases hA b (by rw [q]; simp) with e' | e'
        · subst e'
          rw [ha] at e; cases e
          exact absurd rfl d2
        · rw [hPb b e'] at e; cases e
          exact absurd rfl d1
    have noD : ∀ {b : Addr} {o : Obj} {es : Array DictEntry} {ep : Nat}, s₁.heap.get? b = some o → o.data = .dict es ep → H b = none := fun {b o es ep} e d => by
      cases q : H b with
      | none => rfl
      | some u =>
        rcases hA b (by rw [q]; simp) with e' | e'
        · subst e'
          rw [ha] at e; cases e
          have d' : Data.seq vs.toArray _ = Data.dict es ep := d
          cases d'
        · rw [hPb b e'] at e; cases e
          have d' : Data.fields #[] = Data.dict es ep := d
          cases d'
    have nsK : ∀ {b : Addr} {m : Str → Option Value}, s₁.heap.Ns b m → (hidT s₁.heap H).Ns b m := fun {b m} ⟨o, es, ep, e, d, r⟩ => ⟨o, es, ep, base_of e (noD e d), d, r⟩
    have hKb : K.In (hidT s₁.heap H) := fun b o e => base_of (KX b o e) (by
      cases q : H b with
      | none => rfl
      | some u =>
        rcases hA b (by rw [q]; simp) with e' | e'
        · subst e'
          rw [hK (by rw [q]; simp)] at e; cases e
        · rw [hKb b e'] at e; cases e)
    have hM : Mod K mg (hidT s₁.heap H) := ⟨hKb, nsK hns, ⟨mb, nsK hb, hbb⟩, let ⟨mc, h1, h2⟩ := hlim; ⟨mc, nsK h1, h2⟩⟩
    have hLT : ∀ x ∈ ts, LawTab (hidT s₁.heap H) mg x.1 x.2 := fun x hx => by
      refine ⟨?_, let ⟨bm, ob, b1, b2, b3, b4, r⟩ := hbm; ⟨bm, ob, b1, b2, base_of b3 (noA b3 (by rw [b4]; nofun) (by rw [b4]; decide)), b4, r⟩⟩
      obtain ⟨o, vs', file, tf, flags, tg, inF, text, tt, e1, e2, r⟩ := hC x hx
      exact ⟨o, vs', file, tf, flags, tg, inF, text, tt, base_of e1 (noA e1 (by rw [e2]; nofun) (by rw [e2]; decide)), e2, r⟩
    have e0 : Env0 P w K mg (hidT s₁.heap H) callerA [] s₁ H := ⟨rfl, hM, fun b o e => of_hidT e, Nat.le_of_eq (hidT_size _ _), trivial, fun b hb => absurd (show b ∈ ([] : List Addr) from hb) (by simp), hok, .of_eq hg⟩
    refine codeAny_mono ((F _ hKb (nsK hns) hLT).run callerA [] s₁ H ⟨[.ref a], []⟩ [.ref a] [.ref a] _ _ hr e0 (hbind s₁ (.ref a)) (.cons rfl .nil) (hsp H (fun x hx => hT _ (hPm x hx)) hS)) fun r s' h => ?_
    cases r with
    | error e => exact (hCX H e s' h).elim
    | ok fl =>
      cases fl with
      | next => exact False.elim h
      | brk => exact False.elim h
      | cont => exact False.elim h
      | ret u =>
        obtain ⟨v, H', os, bare, un, hok', r', q⟩ := h
        have q' : v = .bl true := q
        subst q'
        obtain rfl : u = Value.bool true := r'
        have kp : ∀ b o, b ∉ Ps → s₁.heap.get? b = some o → s'.heap.get? b = some o := fun b o nb e => by
          cases q : H b with
          | none => exact un.keep b o e q (by intro z; exact absurd (show b ∈ ([] : List Addr) from z) (by simp)) (by simp)
          | some u =>
            rcases hO b with z | ⟨ob, xs, z⟩ | z
            · rw [q] at z; cases z
            · have z2 := un.frzs b ob _ z
              obtain ⟨e1, _⟩ := hok b _ z
              obtain ⟨e2, _⟩ := hok' b _ z2
              rw [e] at e1; cases e1
              exact e2
            · exact absurd z nb
        have grown : ∀ b ∈ Ps, ∃ more, s'.heap.get? b = some (PySem.W.tabObj (#[] ++ more)) := fun b hb => by
          obtain ⟨more, hm⟩ := un.tbls b _ (hT b hb)
          exact ⟨more, hok' b _ hm⟩
        refine ⟨rfl, ⟨fun b o e => ?_, fun b o e => ?_⟩, os, bare⟩
        · by_cases hb : b ∈ Ps
          · obtain ⟨more, hP'⟩ := grown b hb
            obtain ⟨x, hx, rfl⟩ := memP b hb
            rw [hP x hx] at e
            cases e
            exact .inr (.inl ⟨((hC x hx).tab (hP x hx)).isCodeTable, rfl, #[], more, rfl, hP'⟩)
          · exact .inl (kp b o hb e)
        · by_cases hb : b ∈ Ps
          · obtain ⟨more, hP'⟩ := grown b hb
            exact ⟨_, hP'⟩
          · exact ⟨o, kp b o hb e⟩
  have okT : ∀ (H : Hp) (b : Addr), b ∈ Ps → ObjOk P w H s₁.heap b (.tbl #[]) := fun H b hb => hPb b hb
  cases hk : K.lookup a with
  | some o =>
    have e := KX a o hk
    rw [ha] at e
    cases e
    refine core (fun b => if b ∈ Ps then some (.tbl #[]) else none) (fun b => ?_) (fun b hb => if_pos hb) (.inr ⟨_, vs.toArray, _, hk, rfl, rfl, rfl, by rw [List.size_toArray, lenV]; exact hl, by simpa using rv⟩) (fun b u z => ?_) (fun b z => ?_) fun z => absurd (if_neg naP) z
    · by_cases hb : b ∈ Ps
      · exact .inr (.inr hb)
      · exact .inl (if_neg hb)
    · by_cases hb : b ∈ Ps
      · have z' := (if_pos hb).symm.trans z
        cases z'
        exact okT _ b hb
      · have z' := (if_neg hb).symm.trans z
        cases z'
    · by_cases hb : b ∈ Ps
      · exact .inr hb
      · exact absurd (if_neg hb) z
  | none =>
    refine core (fun b => if b ∈ Ps then some (.tbl #[]) else if b = a then some (.frz { cls := .type "list", data := .seq vs.toArray } (.lst (ns.map V.int))) else none) (fun b => ?_) (fun b hb => if_pos hb) (.inl (.inr ⟨{ cls := .type "list", data := .seq vs.toArray }, (if_neg naP).trans (if_pos rfl)⟩)) (fun b u z => ?_) (fun b z => ?_) fun _ => hk
    · by_cases hp : b ∈ Ps
      · exact .inr (.inr hp)
      · by_cases hb : b = a
        · exact .inr (.inl ⟨_, _, (if_neg hp).trans (if_pos hb)⟩)
        · exact .inl ((if_neg hp).trans (if_neg hb))
    · by_cases hp : b ∈ Ps
      · have z' := (if_pos hp).symm.trans z
        cases z'
        exact okT _ b hp
      · by_cases hb : b = a
        · have z' := ((if_neg hp).trans (if_pos hb)).symm.trans z
          cases z'
          subst hb
          exact ⟨ha, by rw [List.length_map]; exact hl, vs, _, rv, ha⟩
        · have z' := ((if_neg hp).trans (if_neg hb)).symm.trans z
          cases z'
    · by_cases hp : b ∈ Ps
      · exact .inr hp
      · by_cases hb : b = a
        · exact .inl hb
        · exact absurd ((if_neg hp).trans (if_neg hb)) z
noncomputable def spLawTs (K : PySem.W.Frag) (Ps : List Addr) : Sp := fun vs H Q _ => ∃ (a : Addr) (ns : List Int), vs = [.ref a] ∧ SqL K H a (ns.map V.int) ∧ ns.length ≤ 63 ∧ (∀ P ∈ Ps, H P = some (.tbl #[])) ∧ ∀ H', Q (.bl true) H'
theorem law_walkTs {l : PySem.W.OpenLaw} {q : Program} {loose : List Str} {XP : (Str → Option Value) → Heap → Prop} {YP : World → Heap → Prop} {d : DefRec} {K : Params → PySem.W.Frag} {x : Str} (nms : List Str) (k : Nat) (hk : k ≤ 200) (hn : l.most = some 63) (hdf : d.params.defaults = [])
    (hrec : (nms.all fun n2 => ((recsOf q).find? (fun e => e.name == n2)).isSome) = true)
    (hY : ∀ (w : World) (h : Heap), YP w h → (K w.params).In h)
    (F : ∀ (w : World) (mg : Str → Option Value) (fa : Addr) (h : Heap), (K w.params).In h → h.Ns mainGlobals mg → mg d.name = some (.ref fa) →
      ∃ (fd : FuncData) (ts : List (Addr × Addr)), (∀ x ∈ ts, (∃ n2 ∈ nms, PySem.W.tabIn (K w.params) n2 = some x) ∧ (K w.params).lookup x.2 = none) ∧ (∀ (s : Shared) (u : Value), BindsTo s fd ⟨[u], []⟩ [(x, u)]) ∧ ∀ base : Heap, (K w.params).In base → base.Ns mainGlobals mg → (∀ x ∈ ts, LawTab base mg x.1 x.2) → FnOk l.prog w (K w.params) mg base CX0 k fa fd [x] (spLawTs (K w.params) (ts.map (·.2)))) :
    PySem.W.WalkO q loose XP YP l.row.toRowW d [] (fun f vs => PySem.call f vs) := by
  refine Att.attach_call hn hdf fun w s₀ s₁ mg mb fa o pm cd doc a vs ns G Y ho hd hcd hmg hobj hints hlen hg => ?_
  have KX := hY w _ Y
  obtain ⟨fd, ts, ht, hb, hF⟩ := F w mg fa _ KX G.T.g hmg
  have tab : ∀ x ∈ ts, PySem.W.CodeHd s₁.heap x.1 x.2 ∧ s₁.heap.get? x.2 = some (PySem.W.tabObj #[]) := fun x hx => by
    obtain ⟨⟨n2, h1, h2⟩, _⟩ := ht x hx
    obtain ⟨d2, hd2⟩ := Option.isSome_iff_exists.mp (List.all_eq_true.mp hrec n2 h1)
    exact PySem.W.tab_of G.T KX hd2 h2
  have hr : Room k callerA := ⟨rfl, by have : callerA.depth + 605 < recursionLimit := by decide
                                       omega, by have : callerA.units + 3400 < cLine := by decide
                                                 omega, rfl⟩
  exact law_callTs KX G.T.g G.T.b G.T.builtins G.T.nolimit hg (fun x hx => (tab x hx).1) (fun x hx => (tab x hx).2) (fun x hx => (ht x hx).2) hobj hints (Nat.le_trans hlen (by decide)) hr G.T.bmain hF hb (fun H hT hS => ⟨a, ns, rfl, hS, hlen, fun P hP => by obtain ⟨x, hx, rfl⟩ := List.mem_map.mp hP; exact hT x hx, fun _ => rfl⟩) fun _ _ _ z => z
end L2

set_option linter.all false
namespace Fo
variable {W : Type}
theorem pt_back : ∀ (f : F W) (n : Nat) (path : List Int) (a b : Nat) (cw : Bool × W) (s : F W), lk f n path = some (a, b, some (cw, s)) → pt f path 1 (.node cw.1 cw.2 s .nil) = f
  | f, n, [], a, b, cw, s, h => by rw [lk_nil] at h; cases h
  | .nil, n, j :: q, a, b, cw, s, h => by cases h
  | .leaf k pl r, n, j :: q, a, b, cw, s, h => by
    have h : (if j = 0 then (if q = [] then some (n, n + 1, none) else none) else lk r (n + 1) ((j - 1) :: q)) = some (a, b, some (cw, s)) := h
    by_cases c : j = 0
    · rw [if_pos c] at h
      split at h <;> cases h
    · rw [if_neg c] at h
      have e : ∀ o, pt (.leaf k pl r) (j :: q) 1 o = .leaf k pl (pt r ((j - 1) :: q) 1 o) := fun o => if_neg c
      rw [e, pt_back r (n + 1) ((j - 1) :: q) a b cw s h]
  | .node cc w f r, n, j :: q, a, b, cw, s, h => by
    have h : (if j = 0 then (if q = [] then some (n, n + sz f, some ((cc, w), f)) else lk f n q) else lk r (n + sz f) ((j - 1) :: q)) = some (a, b, some (cw, s)) := h
    by_cases c : j = 0
    · rw [if_pos c] at h
      by_cases cq : q = []
      · rw [if_pos cq] at h
        cases h
        subst cq
        show (if j = 0 then (if ([] : List Int) = [] then app (F.node cc w f .nil) (dr 1 (.node cc w f r)) else _) else _) = _
        rw [if_pos c, if_pos rfl]
        cases r <;> rfl
      · rw [if_neg cq] at h
        show (if j = 0 then (if q = [] then _ else F.node cc w (pt f q 1 (.node cw.1 cw.2 s .nil)) r) else _) = _
        rw [if_pos c, if_neg cq, pt_back f n q a b cw s h]
    · rw [if_neg c] at h
      have e : ∀ o, pt (.node cc w f r) (j :: q) 1 o = .node cc w f (pt r ((j - 1) :: q) 1 o) := fun o => if_neg c
      rw [e, pt_back r (n + sz f) ((j - 1) :: q) a b cw s h]
end Fo

set_option Elab.async false
set_option linter.all false
set_option maxRecDepth 100000
set_option maxHeartbeats 4000000
namespace L2
open PySem PySem.Spec PyProof.Rows
noncomputable def PlR (m : Nat) : Frs → Prop
  | .nil => True
  | .leaf _ pl r => (m ≤ pl.length ∧ pl.length ≤ 6) ∧ PlR m r
  | .node _ _ s r => PlR m s ∧ PlR m r
theorem plr_lv (m : Nat) : ∀ (f : Frs) (ws : List Way) (st : Nat), (∀ b ∈ Fo.lv ws st f, m ≤ b.pl.length ∧ b.pl.length ≤ 6) → PlR m f
  | .nil, _, _, _ => trivial
  | .leaf k pl r, ws, st, h => ⟨h _ List.mem_cons_self, plr_lv m r ws _ fun b hb => h b (List.mem_cons_of_mem _ hb)⟩
  | .node c w s r, ws, st, h => ⟨plr_lv m s _ _ fun b hb => h b (List.mem_append_left _ hb), plr_lv m r _ _ fun b hb => h b (List.mem_append_right _ hb)⟩
noncomputable def But1 (Pt : Addr) (H H' : Hp) : Prop := ∀ b o, b ≠ Pt → H b = some o → H' b = some o
theorem But1.over {Pt : Addr} {H H1 H2 : Hp} (a : But1 Pt H H1) (e : Same H1 H2) : But1 Pt H H2 := fun b o n h => e _ _ (a b o n h)
theorem But1.pre {Pt : Addr} {H H1 H2 : Hp} (e : Same H H1) (a : But1 Pt H1 H2) : But1 Pt H H2 := fun b o n h => a b o n (e _ _ h)
theorem tDef2_go2 {Pt : Addr} {i : Nat} {pos : Pos} {qn : Str} {u : Addr → Addr → Obj → Value → Value → TS} {D : Ends} {σ : St} {H : Hp} (hT : TbOk Pt pos qn H)
    (k : ∀ (f c' : Addr) (oc : Obj) (doc ctv : Value) (H' : Hp), TL H H' → But1 Pt H H' → TbOk Pt pos qn H' → Cd c' qn H' → u f c' oc doc ctv D (σ.set i (some (.ref f))) H') : tDef2 Pt i pos qn u D σ H := by
  rcases hT with h | ⟨c', oc, h1, h2, h3⟩
  · refine ⟨#[], h, trivial, .inl ⟨rfl, fun f c' oc doc ctv ho nf nc nfc => ?_⟩⟩
    have ncp : Pt ≠ c' := fun z => by rw [← z, h] at nc; cases nc
    refine k f c' oc doc ctv _ (fun b o hb n => ?_) (fun b o n hb => ?_) (.inr ⟨c', oc, ?_, upd_same, ho⟩) ⟨oc, upd_same, ho⟩
    · rw [upd_ne (fun z => by rw [z, nc] at hb; cases hb), upd_ne (fun z => by rw [z, h] at hb; cases hb; exact n _ rfl)]
      exact hb
    · rw [upd_ne (fun z => by rw [z, nc] at hb; cases hb), upd_ne n]
      exact hb
    · rw [upd_ne ncp, upd_same, Array.empty_append]
  · exact ⟨_, h1, trivial, .inr ⟨c', oc, by simp [codeAmong, rawInt], h2, h3, fun f doc ctv nf => k f c' oc doc ctv H (fun b o hb _ => hb) (fun b o _ hb => hb) (.inr ⟨c', oc, h1, h2, h3⟩) ⟨oc, h2, h3⟩⟩⟩
theorem TbOk.but {Pt P2 : Addr} {pos : Pos} {qn : Str} {H H' : Hp} (h : TbOk Pt pos qn H) (n : Pt ≠ P2) (e : But1 P2 H H') (hP : ∃ ps, H P2 = some (.tbl ps)) : TbOk Pt pos qn H' := by
  obtain ⟨ps, hP⟩ := hP
  rcases h with h | ⟨c, oc, h1, h2, h3⟩
  · exact .inl (e _ _ n h)
  · refine .inr ⟨c, oc, e _ _ n h1, e _ _ (fun z => ?_) h2, h3⟩
    rw [z, hP] at h2
    cases h2
theorem TbOk.tbl {Pt : Addr} {pos : Pos} {qn : Str} {H : Hp} (h : TbOk Pt pos qn H) : ∃ ps, H Pt = some (.tbl ps) := by
  rcases h with h | ⟨c, oc, h1, _⟩
  · exact ⟨_, h⟩
  · exact ⟨_, h1⟩
end L2

set_option Elab.async false
set_option linter.all false
set_option maxRecDepth 100000
set_option maxHeartbeats 4000000
namespace L2
open PySem PySem.Spec PyProof.Rows
noncomputable def KDict (P : Program) (w : World) (K : PySem.W.Frag) (a : Addr) (kvs : List (Key × V)) : Prop :=
  (a == sysModules) = false ∧ ∀ h : Heap, K.In h → ∃ vs, KV kvs vs ∧ h.DictOf (mixKind P w) a vs
noncomputable def tKGet (P : Program) (w : World) (K : PySem.W.Frag) (td ty : TE) : TE := fun σ H Q => td σ H fun x H1 => ty σ H1 fun y H2 => ∃ a kvs k v, x = .ref a ∧ KDict P w K a kvs ∧ y = kV k ∧ valV kvs k = some v ∧ Q v H2
theorem pe_kget {X : Cx} {o i : Expr} {pos : Pos} {td ty : TE} (ho : PE X o td) (hi : PE X i ty) (hs : NoSl i) : PE X (.Subscript o i pos) (tKGet X.prog X.w X.K td ty) := by
  intro pins s σ H Q I h
  refine subD_of PySem.F.slot_dict_getitem.lookup hs (thn (ho pins s σ H _ I h) fun u s1 ⟨x, H1, I1, rx, q1⟩ => thn (hi pins s1 σ H1 _ I1 q1) fun iv s2 ⟨y, H2, I2, ry, a, kvs, k, v, ex, g, ey, l, q2⟩ => ?_)
  subst ex ey
  obtain rfl : u = Value.ref a := rx
  obtain ⟨vs, rel, dd⟩ := g.2 s2.heap I2.kIn
  obtain ⟨w', hw, rw'⟩ := RelO.some_of (v := v) (o := valueAt vs k) (by rw [← l]; exact rel.val k)
  exact ⟨dd.typeIs, wpAny_getItem_of (kV_is ry) dd.mapOf hw ⟨v, H2, I2.tok _, rw', q2⟩⟩
noncomputable def tKNotIn (P : Program) (w : World) (K : PySem.W.Frag) (ty td : TE) : TE := fun σ H Q => ty σ H fun y H1 => td σ H1 fun x H2 => ∃ a kvs k, x = .ref a ∧ KDict P w K a kvs ∧ y = kV k ∧ Q (.bl (!(valV kvs k).isSome)) H2
theorem pc_knotin {X : Cx} {i o : Expr} {ty td : TE} (hi : PE X i ty) (ho : PE X o td) : PC X .NotIn i o (tKNotIn X.prog X.w X.K ty td) := by
  intro pins s σ H Q I h
  refine thn (hi pins s σ H _ I h) fun iv s1 ⟨y, H1, I1, ry, q1⟩ => thn (ho pins s1 σ H1 _ I1 q1) fun u s2 ⟨x, H2, I2, rx, a, kvs, k, ex, g, ey, q2⟩ => ?_
  subst ex ey
  obtain rfl : u = Value.ref a := rx
  obtain ⟨vs, rel, dd⟩ := g.2 s2.heap I2.kIn
  refine wpAny_notIn_of (kV_is ry) g.1 dd.mapOf ?_
  rw [← (rel.val k).isSome_eq]
  exact ⟨.bl (!(valV kvs k).isSome), H2, I2.tok _, rfl, q2⟩
theorem kdict2s {P : Program} {w : World} {K : PySem.W.Frag} {u : Addr} {ep : Nat} {x0 x1 y0 y1 : Str} {h0 h1 : Int} {t0 t1 s0 s1 : Tok}
    (q : K.lookup u = some ⟨.type "dict", none, .dict #[⟨h0, .str x0 t0, .str y0 s0⟩, ⟨h1, .str x1 t1, .str y1 s1⟩] ep, #[]⟩) (e0 : h0 = hashStr w x0) (e1 : h1 = hashStr w x1) (sm : (u == sysModules) = false)
    (nd : [x0, x1].Nodup) : KDict P w K u [(.inr x0, .str y0), (.inr x1, .str y1)] := ⟨sm, fun h X => by
  subst e0 e1
  have is : ∀ (x : Str) (t : Tok), (mixKind P w).is (.inr x) (.str x t) = true := fun x t => kV_is (k := .inr x) ⟨t, rfl⟩
  refine ⟨[(.inr x0, .str y0 s0), (.inr x1, .str y1 s1)], .cons ⟨rfl, ⟨_, rfl⟩⟩ (.cons ⟨rfl, ⟨_, rfl⟩⟩ .nil), _, _, _, X _ _ q, ⟨rfl, rfl, rfl⟩, rfl, fun e he => ?_, .cons (is _ _) rfl (.cons (is _ _) rfl .nil), ?_⟩
  · simp only [List.mem_toArray, List.mem_cons, List.not_mem_nil, or_false] at he
    rcases he with rfl | rfl
    · exact ⟨.inr x0, is _ _, rfl⟩
    · exact ⟨.inr x1, is _ _, rfl⟩
  · simp only [List.map_cons, List.map_nil, List.nodup_cons, List.mem_cons, List.not_mem_nil, or_false, not_or, Sum.inr.injEq, not_false_eq_true, List.nodup_nil, and_true] at nd ⊢
    exact nd⟩
noncomputable def W3 (ws : List Way) : Prop := ∀ w ∈ ws, w.2 ∈ ways3
theorem way3m (x : Int) : ∃ w : Str, atI [V.str "up", V.str "down", V.str "any"] (x % 3) = some (.str w) ∧ w ∈ ways3 := by
  have h0 := Int.emod_nonneg x (show (3 : Int) ≠ 0 by decide)
  have h1 := Int.emod_lt_of_pos x (show (0 : Int) < 3 by decide)
  have : x % 3 = 0 ∨ x % 3 = 1 ∨ x % 3 = 2 := by omega
  rcases this with e | e | e <;> rw [e]
  · exact ⟨_, rfl, List.mem_cons_self⟩
  · exact ⟨_, rfl, List.mem_cons_of_mem _ List.mem_cons_self⟩
  · exact ⟨_, rfl, List.mem_cons_of_mem _ (List.mem_cons_of_mem _ List.mem_cons_self)⟩
structure W3S (op : List Way) (S : List Row87) : Prop where
  o : W3 op
  s : ∀ r ∈ S, W3 r.op
theorem W3S.open {op : List Way} {S : List Row87} {w : Way} (h : W3S op S) (hw : w.2 ∈ ways3) : W3S (op ++ [w]) S := ⟨fun x hx => by
  rcases List.mem_append.mp hx with z | z
  · exact h.o x z
  · rw [List.mem_singleton.mp z]; exact hw, h.s⟩
theorem W3S.close {op : List Way} {S : List Row87} {w : Way} (h : W3S (op ++ [w]) S) : W3S op S := ⟨fun x hx => h.o x (List.mem_append_left _ hx), h.s⟩
theorem W3S.row {op : List Way} {S : List Row87} {pa : List Int} {x : Int} (h : W3S op S) : W3S op (S ++ [⟨op, pa, x⟩]) := ⟨h.o, fun r hr => by
  rcases List.mem_append.mp hr with z | z
  · exact h.s r z
  · rw [List.mem_singleton.mp z]; exact h.o⟩
noncomputable def ShB (ps : List (Int × Int)) : Prop := ∀ p ∈ ps, -(10 ^ 18) ≤ p.2 ∧ p.2 ≤ 10 ^ 18
theorem numZ_b18 (c : Int) : -(10 ^ 18) ≤ numZ c (10 ^ (18 : Int).toNat) ∧ numZ c (10 ^ (18 : Int).toNat) ≤ 10 ^ 18 := by
  have e : (10 : Int) ^ (18 : Int).toNat = 1000000000000000000 := by decide
  have e2 : (10 : Int) ^ 18 = 1000000000000000000 := by decide
  rw [e, e2]
  unfold numZ
  split <;> omega
noncomputable def spPlaces88 : Sp := fun vs H Q _ => ∃ (o : Addr) (c : Int) (xs : List V) (ws : List Way), vs = [.ref o, .int c] ∧ H o = some (.lst xs) ∧ All2 (OpAt H) xs ws ∧ ws.length ≤ 6 ∧ ∀ (r : Addr) (H' : Hp) (ps : List (Int × Int)), Same H H' → H r = none → PrsAt H' r ps → ps.length = ws.length → ShB ps → Q (.ref r) H'
noncomputable def spSteps88 : Sp := fun vs H Q _ => ∃ (l : Addr) (ns : List Int), vs = [.ref l] ∧ H l = some (.lst (ns.map V.int)) ∧ ns.length ≤ 100 ∧ ∀ (r : Addr) (H' : Hp) (S : List Row87), Same H H' → StsAt H' r S → StOk S → S ≠ [] → (∀ r ∈ S, W3 r.op) → Q (.ref r) H'
noncomputable def numF (turn : Int) (n j : Nat) : Int := if turn % 2 = 1 then (n : Int) - 1 - ((j : Int) + turn / 2) % (n : Int) else ((j : Int) + turn / 2) % (n : Int)
theorem numF_inj {turn : Int} {n i j : Nat} (hi : i < n) (hj : j < n) (e : numF turn n i = numF turn n j) : i = j := by
  have e2 : ((i : Int) + turn / 2) % (n : Int) = ((j : Int) + turn / 2) % (n : Int) := by
    unfold numF at e
    split at e <;> omega
  have h1 := Int.emod_add_mul_ediv ((i : Int) + turn / 2) (n : Int)
  have h2 := Int.emod_add_mul_ediv ((j : Int) + turn / 2) (n : Int)
  rw [e2] at h1
  have h3 : (i : Int) - (j : Int) = (n : Int) * (((i : Int) + turn / 2) / (n : Int) - ((j : Int) + turn / 2) / (n : Int)) := by
    rw [Int.mul_sub]; omega
  generalize ((i : Int) + turn / 2) / (n : Int) - ((j : Int) + turn / 2) / (n : Int) = d at h3
  rcases Int.lt_trichotomy d 0 with z | z | z
  · have : (n : Int) * d ≤ (n : Int) * (-1) := Int.mul_le_mul_of_nonneg_left (by omega) (by omega)
    omega
  · rw [z] at h3; omega
  · have : (n : Int) * 1 ≤ (n : Int) * d := Int.mul_le_mul_of_nonneg_left (by omega) (by omega)
    omega
noncomputable def KNd (B : List Bgh) : Prop := ∀ (i j : Nat) (b c : Bgh), B[i]? = some b → B[j]? = some c → b.k = c.k → i = j
noncomputable def spLeaves88 : Sp := fun vs H Q _ => ∃ (l : Addr) (ns : List Int) (turn : Int), vs = [.ref l, .int turn] ∧ H l = some (.lst (ns.map V.int)) ∧ ns.length ≤ 100 ∧ ∀ (r : Addr) (H' : Hp) (B : List Bgh), Same H H' → BosAt H' r B → From B 0 6 → B ≠ [] → (∀ b, B.head? = some b → b.sh = 0) → (∀ b ∈ B, b.pl.length = b.ways.length) → (∀ b ∈ B, W3 b.ways) → KNd B → (∀ b ∈ B, ShB b.pl) → Q (.ref r) H'
noncomputable def wayB (L : Nat) (w : Str) (b : Bgh) : Bgh := { b with ways := b.ways.set L ((b.ways.getD L (false, "")).1, w) }
theorem Pln.way {f : Frs} {B : List Bgh} {path : List Int} {a b : Nat} {cw : Way} {s : Frs} (w : Str) (h : Pln f B) (e : Fo.lk f 0 path = some (a, b, some (cw, s))) : Pln (Fo.pt f path 1 (.node cw.1 w s .nil)) (chB (wayB (path.length - 1) w) a b B) ∧ a < b ∧ b ≤ B.length ∧ (∀ (k : Nat) (c : Bgh), a ≤ k → k < b → B[k]? = some c → path.length - 1 < c.ways.length ∧ c.ways[path.length - 1]? = some cw) := by
  obtain ⟨u, st', X, Y, h1, h2, h3, h4, h5, h6, h7⟩ := Fo.put_lv f 0 path a b cw s [] 0 h.gd e
  rw [Nat.zero_add] at h2
  rw [List.length_nil, Nat.zero_add] at h1
  have hL : path.length - 1 = u.length := by omega
  obtain ⟨z1, z2⟩ := h7 (.node cw.1 w s .nil) (Nat.succ_pos _)
  have gd : Fo.good (Fo.pt f path 1 (.node cw.1 w s .nil)) := z2 ⟨h5, h4, trivial⟩ (by show 0 < Fo.sz s + 0; omega)
  have e1 : Fo.lv u st' (.node cw.1 w s .nil) = Fo.lv (u ++ [(cw.1, w)]) st' s := by show Fo.lv (u ++ [(cw.1, w)]) st' s ++ [] = _; rw [List.append_nil]
  have gl : (Fo.lv (u ++ [cw]) st' s).length = Fo.sz s := Fo.lv_len ..
  have gw : ∀ c ∈ Fo.lv (u ++ [cw]) st' s, c.ways.take (u.length + 1) = u ++ [cw] ∧ u.length + 1 ≤ c.ways.length := fun c hc => by
    have := Fo.lv_ways s (u ++ [cw]) st' c hc
    rwa [List.length_append, List.length_singleton] at this
  have gL : ∀ c ∈ Fo.lv (u ++ [cw]) st' s, c.ways[u.length]? = some cw := fun c hc => by
    have e3 : (c.ways.take (u.length + 1))[u.length]? = (u ++ [cw])[u.length]? := by rw [(gw c hc).1]
    rw [List.getElem?_take_of_lt (Nat.lt_succ_self _), List.getElem?_append_right (Nat.le_refl _), Nat.sub_self] at e3
    exact e3
  have e2 : Fo.lv (u ++ [(cw.1, w)]) st' s = (Fo.lv (u ++ [cw]) st' s).map (wayB u.length w) := by
    have := Fo.lv_set s u [] cw (cw.1, w) st'
    rw [List.append_nil, List.append_nil] at this
    rw [this]
    refine List.map_congr_left fun c hc => ?_
    unfold wayB
    rw [List.getD_eq_getElem?_getD, gL c hc]
    rfl
  have eB : B = X ++ Fo.lv (u ++ [cw]) st' s ++ Y := by rw [h.eq]; exact h6
  have eB' : chB (wayB (path.length - 1) w) a b B = Fo.lv [] 0 (Fo.pt f path 1 (.node cw.1 w s .nil)) := by
    rw [z1, e1, e2, hL, eB, chB_eq h2 (by rw [gl]; exact h3)]
  have bl : b ≤ B.length := by rw [eB, List.length_append, List.length_append, gl]; omega
  refine ⟨?_, by omega, bl, fun k c k1 k2 hc => ?_⟩
  · rw [eB']
    refine ⟨Fo.lv_is _ [] 0 gd, rfl, gd, ?_⟩
    have ok := Fo.ok_lv _ [] 0 gd (Nat.zero_le _)
    have mem : ∀ c ∈ Fo.lv [] 0 (Fo.pt f path 1 (.node cw.1 w s .nil)), ∃ d ∈ B, c.ways.length = d.ways.length ∧ c.pl = d.pl := fun c hc => by
      rw [← eB', eB, hL, chB_eq h2 (by rw [gl]; exact h3)] at hc
      rw [eB]
      rcases List.mem_append.mp hc with hc | hc
      · rcases List.mem_append.mp hc with hc | hc
        · exact ⟨c, List.mem_append_left _ (List.mem_append_left _ hc), rfl, rfl⟩
        · obtain ⟨d, hd, rfl⟩ := List.mem_map.mp hc
          exact ⟨d, List.mem_append_left _ (List.mem_append_right _ hd), by unfold wayB; exact List.length_set .., rfl⟩
      · exact ⟨c, List.mem_append_right _ hc, rfl, rfl⟩
    refine ⟨ok, fun _ _ _ => Nat.zero_le _, fun _ _ => Nat.zero_le _, fun c hc => ?_, fun c hc => ?_, ?_⟩
    · obtain ⟨d, hd, e3, _⟩ := mem c hc
      rw [e3]; exact h.fr.hi d hd
    · obtain ⟨d, hd, _, e3⟩ := mem c hc
      rw [e3]; exact h.fr.pl d hd
    · rw [← eB', chB_get (by omega) bl]; exact h.fr.len
  · rw [eB, List.append_assoc, List.getElem?_append_right (by omega), List.getElem?_append_left (by rw [gl]; omega)] at hc
    have m := List.mem_of_getElem? hc
    have := (gw c m).2
    rw [hL]
    exact ⟨by omega, gL c m⟩
end L2

set_option Elab.async false
set_option linter.all false
set_option maxRecDepth 100000
set_option maxHeartbeats 4000000
namespace L2
open PySem PySem.Spec PyProof.Rows
noncomputable def wpk (g : Int → List (Int × Int) → List (Int × Int)) : Frs → Frs
  | .nil => .nil
  | .leaf k pl r => .leaf k (g k pl) (wpk g r)
  | .node c w s r => .node c w (wpk g s) (wpk g r)
theorem sz_wpk (g : Int → List (Int × Int) → List (Int × Int)) : ∀ f : Frs, Fo.sz (wpk g f) = Fo.sz f
  | .nil => rfl
  | .leaf k pl r => by show Fo.sz (wpk g r) + 1 = Fo.sz r + 1; rw [sz_wpk g r]
  | .node c w s r => by show Fo.sz (wpk g s) + Fo.sz (wpk g r) = Fo.sz s + Fo.sz r; rw [sz_wpk g s, sz_wpk g r]
theorem wid_wpk (g : Int → List (Int × Int) → List (Int × Int)) : ∀ f : Frs, wid (wpk g f) = wid f
  | .nil => rfl
  | .leaf k pl r => by show wid (wpk g r) + 1 = wid r + 1; rw [wid_wpk g r]
  | .node c w s r => by show wid (wpk g s) + wid (wpk g r) + 1 = wid s + wid r + 1; rw [wid_wpk g s, wid_wpk g r]
theorem good_wpk (g : Int → List (Int × Int) → List (Int × Int)) : ∀ f : Frs, Fo.good f → Fo.good (wpk g f)
  | .nil, _ => trivial
  | .leaf k pl r, h => good_wpk g r h
  | .node c w s r, h => ⟨by rw [sz_wpk]; exact h.1, good_wpk g s h.2.1, good_wpk g r h.2.2⟩
theorem lv_wpk (g : Int → List (Int × Int) → List (Int × Int)) : ∀ (f : Frs) (ws : List Way) (st : Nat), Fo.lv ws st (wpk g f) = (Fo.lv ws st f).map fun b => { b with pl := g b.k b.pl }
  | .nil, _, _ => rfl
  | .leaf k pl r, ws, st => by
    show (⟨k, st, ws, g k pl⟩ : Bgh) :: Fo.lv ws ws.length (wpk g r) = (⟨k, st, ws, g k pl⟩ : Bgh) :: (Fo.lv ws ws.length r).map _
    rw [lv_wpk g r]
  | .node c w s r, ws, st => by
    show Fo.lv (ws ++ [(c, w)]) st (wpk g s) ++ Fo.lv ws ws.length (wpk g r) = (Fo.lv (ws ++ [(c, w)]) st s ++ Fo.lv ws ws.length r).map _
    rw [List.map_append, lv_wpk g s, lv_wpk g r]
noncomputable def mvL (L : Nat) (v : Int) (pl : List (Int × Int)) : List (Int × Int) := pl.set L ((pl.getD L (0, 0)).1, v)
noncomputable def mvG (k : Int) (L : Nat) (v : Int) (k' : Int) (pl : List (Int × Int)) : List (Int × Int) := if k' = k then mvL L v pl else pl
noncomputable def mvB (L : Nat) (v : Int) (b : Bgh) : Bgh := { b with pl := mvL L v b.pl }
noncomputable def mvF (f : Frs) (path : List Int) (cw : Way) (k v : Int) (s : Frs) : Frs := Fo.pt f path 1 (.node cw.1 cw.2 (wpk (mvG k (path.length - 1) v) s) .nil)
noncomputable def PlK (k : Int) (L : Nat) (v : Int) : Frs → Prop
  | .nil => True
  | .leaf k' pl r => (k' = k → L < pl.length ∧ (pl.getD L (0, 0)).2 = v) ∧ PlK k L v r
  | .node _ _ s r => PlK k L v s ∧ PlK k L v r
theorem plk_lv (k : Int) (L : Nat) (v : Int) : ∀ (f : Frs) (ws : List Way) (st : Nat), (∀ b ∈ Fo.lv ws st f, b.k = k → L < b.pl.length ∧ (b.pl.getD L (0, 0)).2 = v) → PlK k L v f
  | .nil, _, _, _ => trivial
  | .leaf k' pl r, ws, st, h => ⟨h _ List.mem_cons_self, plk_lv k L v r ws _ fun b hb => h b (List.mem_cons_of_mem _ hb)⟩
  | .node c w s r, ws, st, h => ⟨plk_lv k L v s _ _ fun b hb => h b (List.mem_append_left _ hb), plk_lv k L v r _ _ fun b hb => h b (List.mem_append_right _ hb)⟩
theorem mvL_back {L : Nat} {v v0 : Int} {pl : List (Int × Int)} (h : L < pl.length) (e : (pl.getD L (0, 0)).2 = v0) : mvL L v0 (mvL L v pl) = pl := by
  unfold mvL
  have h1 : (pl.set L ((pl.getD L (0, 0)).1, v)).getD L (0, 0) = ((pl.getD L (0, 0)).1, v) := by
    rw [List.getD_eq_getElem?_getD, List.getElem?_set_self h]; rfl
  rw [h1, List.set_set, ← e]
  have h2 : pl[L]? = some (pl.getD L (0, 0)) := by rw [List.getD_eq_getElem?_getD, List.getElem?_eq_getElem h]; rfl
  show pl.set L (pl.getD L (0, 0)) = pl
  refine List.ext_getElem? fun j => ?_
  by_cases c : L = j
  · subst c
    rw [List.getElem?_set_self h, h2]
  · rw [List.getElem?_set_ne c]
theorem wpk_back (k : Int) (L : Nat) (v v0 : Int) : ∀ f : Frs, PlK k L v0 f → wpk (mvG k L v0) (wpk (mvG k L v) f) = f
  | .nil, _ => rfl
  | .leaf k' pl r, h => by
    show Fo.F.leaf k' (mvG k L v0 k' (mvG k L v k' pl)) (wpk (mvG k L v0) (wpk (mvG k L v) r)) = _
    rw [wpk_back k L v v0 r h.2]
    unfold mvG
    by_cases c : k' = k
    · rw [if_pos c, if_pos c, mvL_back (h.1 c).1 (h.1 c).2]
    · rw [if_neg c, if_neg c]
  | .node c w s r, h => by
    show Fo.F.node c w (wpk (mvG k L v0) (wpk (mvG k L v) s)) (wpk (mvG k L v0) (wpk (mvG k L v) r)) = _
    rw [wpk_back k L v v0 s h.1, wpk_back k L v v0 r h.2]
theorem mv_back {f : Frs} {path : List Int} {a b : Nat} {cw : Way} {s : Frs} {k v v0 : Int} (e : Fo.lk f 0 path = some (a, b, some (cw, s))) (h : PlK k (path.length - 1) v0 s) :
    Fo.lk (mvF f path cw k v s) 0 path = some (a, b, some (cw, wpk (mvG k (path.length - 1) v) s)) ∧ mvF (mvF f path cw k v s) path cw k v0 (wpk (mvG k (path.length - 1) v) s) = f ∧ wid (mvF f path cw k v s) = wid f := by
  obtain ⟨h1, h2⟩ := lk_put f 0 path a b (cw, s) cw (wpk (mvG k (path.length - 1) v) s) e (sz_wpk _ s)
  have h3 := wid_pt f 0 path a b (cw, s) (.node cw.1 cw.2 (wpk (mvG k (path.length - 1) v) s) .nil) e
  have w' := wid_wpk (mvG k (path.length - 1) v) s
  refine ⟨h1, ?_, ?_⟩
  · unfold mvF
    have := h2 (.node cw.1 cw.2 (wpk (mvG k (path.length - 1) v0) (wpk (mvG k (path.length - 1) v) s)) .nil) (Nat.succ_pos _)
    rw [wpk_back k (path.length - 1) v v0 s h] at this ⊢
    rw [this]
    exact Fo.pt_back f 0 path a b cw _ e
  · have h3 : wid (mvF f path cw k v s) + (wid s + 1) = wid f + (wid (wpk (mvG k (path.length - 1) v) s) + 0 + 1) := h3
    omega
theorem chB_one {φ : Bgh → Bgh} {B : List Bgh} {i : Nat} {c : Bgh} (h : B[i]? = some c) : chB φ i (i + 1) B = B.set i (φ c) := by
  have := chB_succ (φ := φ) (a := i) (Nat.le_refl i) h
  rw [this, chB_none]
structure MvL (f : Frs) (B : List Bgh) (path : List Int) (a b : Nat) (cw : Way) (s : Frs) : Prop where
  ab : a < b
  bB : b ≤ B.length
  gw : ∀ (i : Nat) (c : Bgh), a ≤ i → i < b → B[i]? = some c → path.length - 1 < c.ways.length
  plr : PlR path.length s
  to : ∀ en ∈ Fo.deedsF s [] 0, ∃ i c, a ≤ i ∧ i < b ∧ B[i]? = some c ∧ c.k = en.k ∧ c.pl = en.pl
  from' : ∀ (i : Nat) (c : Bgh), a ≤ i → i < b → B[i]? = some c → ∃ en ∈ Fo.deedsF s [] 0, en.k = c.k ∧ en.pl = c.pl
  pln : ∀ (i : Nat) (c : Bgh) (v : Int), a ≤ i → i < b → B[i]? = some c → Pln (mvF f path cw c.k v s) (chB (mvB (path.length - 1) v) i (i + 1) B)
  plk : ∀ (i : Nat) (c : Bgh), a ≤ i → i < b → B[i]? = some c → PlK c.k (path.length - 1) (c.pl.getD (path.length - 1) (0, 0)).2 s
theorem Pln.mv {f : Frs} {B : List Bgh} {path : List Int} {a b : Nat} {cw : Way} {s : Frs} (h : Pln f B) (lw : ∀ b ∈ B, b.pl.length = b.ways.length) (nd : KNd B) (pne : path ≠ []) (e : Fo.lk f 0 path = some (a, b, some (cw, s))) : MvL f B path a b cw s := by
  obtain ⟨u, st', X, Y, h1, h2, h3, h4, h5, h6, h7⟩ := Fo.put_lv f 0 path a b cw s [] 0 h.gd e
  rw [Nat.zero_add] at h2
  rw [List.length_nil, Nat.zero_add] at h1
  have p1 := List.length_pos_iff.mpr pne
  have hL : path.length - 1 = u.length := by omega
  have gl : (Fo.lv (u ++ [cw]) st' s).length = Fo.sz s := Fo.lv_len ..
  have gw : ∀ c ∈ Fo.lv (u ++ [cw]) st' s, u.length + 1 ≤ c.ways.length := fun c hc => by
    have := (Fo.lv_ways s (u ++ [cw]) st' c hc).2
    rwa [List.length_append, List.length_singleton] at this
  have eB : B = X ++ Fo.lv (u ++ [cw]) st' s ++ Y := by rw [h.eq]; exact h6
  have inG : ∀ (k : Nat) (c : Bgh), a ≤ k → k < b → B[k]? = some c → (Fo.lv (u ++ [cw]) st' s)[k - a]? = some c := fun k c k1 k2 hc => by
    rw [eB, List.append_assoc, List.getElem?_append_right (by omega), List.getElem?_append_left (by rw [gl]; omega), ← h2] at hc
    exact hc
  have ofG : ∀ (j : Nat) (c : Bgh), (Fo.lv (u ++ [cw]) st' s)[j]? = some c → B[a + j]? = some c := fun j c hc => by
    have jl := (List.getElem?_eq_some_iff.mp hc).1
    rw [eB, List.append_assoc, List.getElem?_append_right (by omega), List.getElem?_append_left (by omega), show a + j - X.length = j by omega]
    exact hc
  have mG : ∀ c ∈ Fo.lv (u ++ [cw]) st' s, c ∈ B := fun c hc => by rw [eB]; exact List.mem_append_left _ (List.mem_append_right _ hc)
  have dm := Fo.deeds_map s (Fo.lv (u ++ [cw]) st' s) _ [] 0 (Fo.lv_is s (u ++ [cw]) st' h4)
  have bl : b ≤ B.length := by rw [eB, List.length_append, List.length_append, gl]; omega
  have plr : PlR path.length s := plr_lv _ s (u ++ [cw]) st' fun c hc => by
    have := gw c hc
    have := lw c (mG c hc)
    have := h.fr.pl c (mG c hc)
    omega
  refine ⟨by omega, bl, fun i c k1 k2 hc => by have := gw c (List.mem_of_getElem? (inG i c k1 k2 hc)); omega, plr, fun en hen => ?_, fun i c k1 k2 hc => ?_, fun i c v k1 k2 hc => ?_, fun i c k1 k2 hc => ?_⟩
  · have : (en.k, en.pl) ∈ (Fo.lv (u ++ [cw]) st' s).map fun b => (b.k, b.pl) := by rw [← dm]; exact List.mem_map.mpr ⟨en, hen, rfl⟩
    obtain ⟨c, hc, ec⟩ := List.mem_map.mp this
    obtain ⟨j, hj⟩ := List.mem_iff_getElem?.mp hc
    have jl := (List.getElem?_eq_some_iff.mp hj).1
    exact ⟨a + j, c, by omega, by omega, ofG j c hj, (Prod.mk.inj ec).1, (Prod.mk.inj ec).2⟩
  · have : (c.k, c.pl) ∈ (Fo.deedsF s [] 0).map fun e => (e.k, e.pl) := by rw [dm]; exact List.mem_map.mpr ⟨c, List.mem_of_getElem? (inG i c k1 k2 hc), rfl⟩
    obtain ⟨en, hen, ec⟩ := List.mem_map.mp this
    exact ⟨en, hen, (Prod.mk.inj ec).1, (Prod.mk.inj ec).2⟩
  · obtain ⟨z1, z2⟩ := h7 (.node cw.1 cw.2 (wpk (mvG c.k u.length v) s) .nil) (Nat.succ_pos _)
    have szp := sz_wpk (mvG c.k u.length v) s
    have gd : Fo.good (mvF f path cw c.k v s) := by
      unfold mvF
      rw [hL]
      exact z2 ⟨by rw [szp]; exact h5, good_wpk _ s h4, trivial⟩ (by show 0 < Fo.sz (wpk (mvG c.k u.length v) s) + 0; omega)
    have e1 : Fo.lv u st' (.node cw.1 cw.2 (wpk (mvG c.k u.length v) s) .nil) = (Fo.lv (u ++ [cw]) st' s).map fun b => { b with pl := mvG c.k u.length v b.k b.pl } := by
      show Fo.lv (u ++ [(cw.1, cw.2)]) st' (wpk (mvG c.k u.length v) s) ++ [] = _
      rw [List.append_nil, lv_wpk]
    have gi := inG i c k1 k2 hc
    have il := (List.getElem?_eq_some_iff.mp gi).1
    have e2 : ((Fo.lv (u ++ [cw]) st' s).map fun b => ({ b with pl := mvG c.k u.length v b.k b.pl } : Bgh)) = (Fo.lv (u ++ [cw]) st' s).set (i - a) (mvB u.length v c) := by
      refine List.ext_getElem? fun j => ?_
      rw [List.getElem?_map]
      by_cases cj : i - a = j
      · subst cj
        rw [List.getElem?_set_self il, gi]
        show some ({ c with pl := mvG c.k u.length v c.k c.pl } : Bgh) = _
        unfold mvG mvB
        rw [if_pos rfl]
      · rw [List.getElem?_set_ne cj]
        cases ej : (Fo.lv (u ++ [cw]) st' s)[j]? with
        | none => rfl
        | some d =>
          have jl := (List.getElem?_eq_some_iff.mp ej).1
          have : d.k ≠ c.k := fun z => by
            have := nd (a + j) i d c (ofG j d ej) hc z
            omega
          show some ({ d with pl := mvG c.k u.length v d.k d.pl } : Bgh) = some d
          unfold mvG
          rw [if_neg this]
    have eB' : chB (mvB (path.length - 1) v) i (i + 1) B = Fo.lv [] 0 (mvF f path cw c.k v s) := by
      unfold mvF
      rw [hL, z1, e1, e2, chB_one hc, eB, List.append_assoc, List.set_append_right _ _ (by omega), List.set_append_left _ _ (by omega), ← h2, ← List.append_assoc]
    have ok := Fo.ok_lv _ [] 0 gd (Nat.zero_le _)
    have mem : ∀ d ∈ chB (mvB (path.length - 1) v) i (i + 1) B, ∃ d' ∈ B, d.ways = d'.ways ∧ d.pl.length = d'.pl.length := fun d hd => by
      rw [chB_one hc] at hd
      rcases List.mem_or_eq_of_mem_set hd with z | z
      · exact ⟨d, z, rfl, rfl⟩
      · rw [z]
        exact ⟨c, List.mem_of_getElem? hc, rfl, by unfold mvB mvL; exact List.length_set ..⟩
    refine ⟨by rw [eB']; exact Fo.lv_is _ [] 0 gd, eB', gd, by rw [eB']; exact ok, fun _ _ _ => Nat.zero_le _, fun _ _ => Nat.zero_le _, fun d hd => ?_, fun d hd => ?_, by rw [chB_one hc, List.length_set]; exact h.fr.len⟩
    · obtain ⟨d', h1, h2, _⟩ := mem d hd
      rw [h2]; exact h.fr.hi d' h1
    · obtain ⟨d', h1, _, h2⟩ := mem d hd
      rw [h2]; exact h.fr.pl d' h1
  · refine plk_lv _ _ _ s (u ++ [cw]) st' fun d hd ek => ?_
    obtain ⟨j, hj⟩ := List.mem_iff_getElem?.mp hd
    have := nd (a + j) i d c (ofG j d hj) hc ek
    have hd2 := ofG j d hj
    rw [this, hc] at hd2
    cases hd2
    have := gw c hd
    have := lw c (mG c hd)
    exact ⟨by omega, rfl⟩
theorem zip_look {α : Type} : ∀ {ns : List Str} {cs : List α}, ns.Nodup → ∀ {j : Nat} {x : Str} {c : α}, ns[j]? = some x → cs[j]? = some c → (ns.zip cs).lookup x = some c
  | [], _, _, j, x, c, h, _ => by cases h
  | _ :: _, [], _, j, x, c, _, h => by cases h
  | n :: ns, d :: cs, nd, 0, x, c, h1, h2 => by
    cases h1; cases h2
    rw [List.zip_cons_cons, List.lookup_cons, beq_self_eq_true]
  | n :: ns, d :: cs, nd, j + 1, x, c, h1, h2 => by
    rw [List.nodup_cons] at nd
    have ne : (x == n) = false := beq_eq_false_iff_ne.mpr fun z => nd.1 (by rw [← z]; exact List.mem_of_getElem? h1)
    rw [List.zip_cons_cons, List.lookup_cons, ne]
    exact zip_look nd.2 h1 h2
theorem cloN {base : Heap} {scope : Scope} {ns : List Str} {cs : List Addr} {vs : List V} {us : List Value} (cl : cs.length = ns.length) (vl : vs.length = ns.length) (ul : us.length = ns.length) (hf : ∀ y ∈ scope.names, y.2 = .free → y.1 ∈ ns) (nd : ns.Nodup) (cd : cs.Nodup)
    (hc : ∀ (j : Nat) (c : Addr) (u : Value), cs[j]? = some c → us[j]? = some u → base.IsCell c (some u)) (rv : ∀ (j : Nat) (v : V) (u : Value), vs[j]? = some v → us[j]? = some u → RelV v u) : CloOk base scope (ns.zip cs) ns vs := by
  have one : ∀ x c', (ns.zip cs).lookup x = some c' → ∃ j, ns[j]? = some x ∧ cs[j]? = some c' := fun x c' h => by
    obtain ⟨j, hj⟩ := List.mem_iff_getElem?.mp (mem_of_lookup' h)
    rw [List.getElem?_zip_eq_some] at hj
    exact ⟨j, hj⟩
  refine ⟨vl, fun j x v h1 h2 => ?_, fun x c' h => ?_, fun x y c' h1 h2 => ?_, fun x h => ?_⟩
  · have jl := (List.getElem?_eq_some_iff.mp h1).1
    have hcj : cs[j]? = some cs[j] := List.getElem?_eq_getElem (by omega)
    have huj : us[j]? = some us[j] := List.getElem?_eq_getElem (by omega)
    exact ⟨_, _, zip_look nd h1 hcj, hc j _ _ hcj huj, rv j _ _ h2 huj⟩
  · obtain ⟨j, h1, h2⟩ := one x c' h
    have jl := (List.getElem?_eq_some_iff.mp h1).1
    have huj : us[j]? = some us[j] := List.getElem?_eq_getElem (by omega)
    exact ⟨_, hc j _ _ h2 huj⟩
  · obtain ⟨i, a1, a2⟩ := one x c' h1
    obtain ⟨j, b1, b2⟩ := one y c' h2
    have il := (List.getElem?_eq_some_iff.mp a2)
    have jl := (List.getElem?_eq_some_iff.mp b2)
    have : i = j := (List.getElem_inj cd).mp (il.2.trans jl.2.symm)
    subst this
    exact Option.some.inj (a1.symm.trans b1)
  · obtain ⟨j, hj⟩ := List.mem_iff_getElem?.mp (hf _ (mem_of_lookup' h) rfl)
    have jl := (List.getElem?_eq_some_iff.mp hj).1
    exact ⟨_, zip_look nd hj (List.getElem?_eq_getElem (show j < cs.length by omega))⟩
noncomputable def oth (w : Str) : Option Str := if w = "up" then some "down" else if w = "down" then some "up" else none
noncomputable def spTurned (C : Addr) : Sp := fun vs H Q E => ∃ (pl pa : Addr) (f : Frs) (path : List Int), vs = [.ref pl, .ref pa] ∧ FoT H pl f ∧ H pa = some (.tup (path.map V.int)) ∧ path.length ≤ 10 ∧ wid f ≤ 100 ∧
  (∀ (a b : Nat) (c : Bool) (w w2 : Str) (s : Frs), Fo.lk f 0 path = some (a, b, some ((c, w), s)) → oth w = some w2 → ∀ (r : Addr) (H' : Hp), Same H H' → FoT H' r (Fo.pt f path 1 (.node c w2 s .nil)) → Q (.ref r) H') ∧
  ((∀ (a b : Nat) (c : Bool) (w : Str) (s : Frs), Fo.lk f 0 path = some (a, b, some ((c, w), s)) → oth w = none) → ∀ (x : Addr) (H' : Hp), Same H H' → H' x = some (exC x C none) → E (.ref x) none H')
noncomputable def spTurn (C : Addr) : Sp := fun vs H Q _ => ∃ (pl pa : Addr) (f : Frs) (path : List Int), vs = [.ref pl, .ref pa] ∧ FoT H pl f ∧ H pa = some (.tup (path.map V.int)) ∧ path.length ≤ 10 ∧ wid f ≤ 100 ∧
  (∀ (a b : Nat) (c : Bool) (w w2 : Str) (s : Frs), Fo.lk f 0 path = some (a, b, some ((c, w), s)) → oth w = some w2 → ∀ (r : Addr) (H' : Hp), Same H H' → FoT H' r (Fo.pt f path 1 (.node c w2 s .nil)) → Q (.ref r) H') ∧
  ((∀ (a b : Nat) (c : Bool) (w : Str) (s : Frs), Fo.lk f 0 path = some (a, b, some ((c, w), s)) → oth w = none) → ∀ (H' : Hp), Same H H' → Q .non H')
noncomputable def fk (k : Int) (s : Frs) : Option Fo.En := (Fo.deedsF s [] 0).find? fun e => decide (e.k = k)
noncomputable def shE (L : Nat) (e : Fo.En) : Int := (e.pl.getD L (0, 0)).2
noncomputable def spMoved (C Pt : Addr) (pos : Pos) (qn : Str) : Sp := fun vs H Q E => ∃ (pl pa : Addr) (f : Frs) (path : List Int) (k n : Int), vs = [.ref pl, .ref pa, .int k, .int n] ∧ FoT H pl f ∧ H pa = some (.tup (path.map V.int)) ∧ path ≠ [] ∧ path.length ≤ 10 ∧ wid f ≤ 100 ∧ dep f ≤ 7 ∧ Fo.sz f ≤ 100 ∧ TbOk Pt pos qn H ∧ (∀ (a b : Nat) (cw : Way) (s : Frs), Fo.lk f 0 path = some (a, b, some (cw, s)) → PlR path.length s) ∧
  (∀ (a b : Nat) (cw : Way) (s : Frs) (en : Fo.En), Fo.lk f 0 path = some (a, b, some (cw, s)) → fk k s = some en → (shE (path.length - 1) en + n).natAbs ≤ 10 ^ 18 → ∀ (r : Addr) (H' : Hp), TL H H' → But1 Pt H H' → TbOk Pt pos qn H' → FoT H' r (mvF f path cw k (shE (path.length - 1) en + n) s) → Q (.ref r) H') ∧
  ((∀ (a b : Nat) (cw : Way) (s : Frs) (en : Fo.En), Fo.lk f 0 path = some (a, b, some (cw, s)) → fk k s = some en → ¬ (shE (path.length - 1) en + n).natAbs ≤ 10 ^ 18) → ∀ (x : Addr) (H' : Hp), Same H H' → H' x = some (exC x C none) → E (.ref x) none H')
noncomputable def spMove (Pt : Addr) (pos : Pos) (qn : Str) : Sp := fun vs H Q _ => ∃ (pl pa : Addr) (f : Frs) (path : List Int) (k n : Int), vs = [.ref pl, .ref pa, .int k, .int n] ∧ FoT H pl f ∧ H pa = some (.tup (path.map V.int)) ∧ path ≠ [] ∧ path.length ≤ 10 ∧ wid f ≤ 100 ∧ dep f ≤ 7 ∧ Fo.sz f ≤ 100 ∧ TbOk Pt pos qn H ∧ (∀ (a b : Nat) (cw : Way) (s : Frs), Fo.lk f 0 path = some (a, b, some (cw, s)) → PlR path.length s) ∧
  (∀ (a b : Nat) (cw : Way) (s : Frs) (en : Fo.En), Fo.lk f 0 path = some (a, b, some (cw, s)) → fk k s = some en → (shE (path.length - 1) en + n).natAbs ≤ 10 ^ 18 → ∀ (r : Addr) (H' : Hp), TL H H' → But1 Pt H H' → TbOk Pt pos qn H' → FoT H' r (mvF f path cw k (shE (path.length - 1) en + n) s) → Q (.ref r) H') ∧
  ((∀ (a b : Nat) (cw : Way) (s : Frs) (en : Fo.En), Fo.lk f 0 path = some (a, b, some (cw, s)) → fk k s = some en → ¬ (shE (path.length - 1) en + n).natAbs ≤ 10 ^ 18) → ∀ (H' : Hp), Same H H' → Q .non H')
structure KeptS (C : Hp → Prop) : Prop where
  k : ∀ H H', Same H H' → C H → C H'
noncomputable def spChgK (C : Hp → Prop) (φ : Int → List (Int × Int) → List (Int × Int)) (m : Nat) : Sp := fun vs H Q _ => ∃ (k : Int) (pl : Addr) (ps : List (Int × Int)), vs = [.int k, .ref pl] ∧ PrsT H pl ps ∧ m ≤ ps.length ∧ ps.length ≤ 100 ∧ C H ∧ ∀ (r : Addr) (H' : Hp), Same H H' → PrsT H' r (φ k ps) → Q (.ref r) H'
structure CkOk (P : Program) (w : World) (K : PySem.W.Frag) (mg : Str → Option Value) (base : Heap) (g : Addr) (C : Hp → Prop) (φ : Int → List (Int × Int) → List (Int × Int)) (m : Nat) : Prop where
  ok : ∃ (gd : FuncData) (ps : List Str), FnOk P w K mg base CX0 2 g gd ps (spChgK C φ m) ∧ PySem.W.FnAt g base ∧ ∀ (s : Shared) (us : List Value), us.length = ps.length → BindsTo s gd ⟨us, []⟩ (ps.zip us)
noncomputable def spWithK (n : Nat) (g : Addr) (C : Hp → Prop) (φ : Int → List (Int × Int) → List (Int × Int)) (m : Nat) : Sp := fun vs H Q _ => ∃ (it : Addr) (f : Frs), vs = [.ref it, .ref g] ∧ FoT H it f ∧ dep f ≤ n ∧ wid f ≤ 100 ∧ PlR m f ∧ C H ∧ ∀ (r : Addr) (H' : Hp), Same H H' → FoT H' r (wpk φ f) → Q (.ref r) H'
end L2

set_option Elab.async false
set_option linter.all false
set_option maxRecDepth 100000
set_option maxHeartbeats 4000000
namespace L2
open PySem PySem.Spec PyProof.Rows
noncomputable def spChgI (C : Hp → Prop) (φ : Bgh → Bgh) (OK : Bgh → Prop) : Sp := fun vs H Q _ => ∃ (wl pl : Addr) (b : Bgh), vs = [.ref wl, .ref pl] ∧ wl ≠ pl ∧ WaysAt H wl b.ways ∧ PrsAt H pl b.pl ∧ OK b ∧ b.ways.length ≤ 100 ∧ b.pl.length ≤ 100 ∧ C H ∧ ∀ (r : Addr) (H' : Hp), (∀ x o, x ≠ wl → x ≠ pl → H x = some o → H' x = some o) → WaysAt H' wl (φ b).ways → PrsAt H' pl (φ b).pl → H' r = some (.tup [.ref wl, .ref pl]) → Q (.ref r) H'
structure CiOk (P : Program) (w : World) (K : PySem.W.Frag) (mg : Str → Option Value) (base : Heap) (g : Addr) (C : Hp → Prop) (φ : Bgh → Bgh) (OK : Bgh → Prop) : Prop where
  ok : ∃ (gd : FuncData) (ps : List Str), FnOk P w K mg base CX0 2 g gd ps (spChgI C φ OK) ∧ PySem.W.FnAt g base ∧ ∀ (s : Shared) (us : List Value), us.length = ps.length → BindsTo s gd ⟨us, []⟩ (ps.zip us)
noncomputable def spChangedI (g : Addr) (C : Hp → Prop) (φ : Bgh → Bgh) (OK : Bgh → Prop) : Sp := fun vs H Q _ => ∃ (l one : Addr) (B : List Bgh) (gp : Fo.Gp), vs = [.ref l, .ref one, .ref g] ∧ BosAt H l B ∧ GpAt H (.ref one) gp ∧ gp.2.1 ≤ gp.2.2.1 ∧ gp.2.2.1 ≤ B.length ∧ B.length ≤ 100 ∧ C H ∧ (∀ (k : Nat) (b : Bgh), gp.2.1 ≤ k → k < gp.2.2.1 → B[k]? = some b → OK b) ∧ (∀ b ∈ B, b.ways.length ≤ 100 ∧ b.pl.length ≤ 100) ∧ ∀ (r : Addr) (H' : Hp), Same H H' → BosAt H' r (chB φ gp.2.1 gp.2.2.1 B) → Q (.ref r) H'
noncomputable def spTurnedL (Pt : Addr) (pos : Pos) (qn : Str) : Sp := fun vs H Q _ => ∃ (l : Addr) (x : V) (B : List Bgh) (f : Frs) (path : List Int), vs = [.ref l, x] ∧ BosAt H l B ∧ GpAt H x (atG (Fo.gr f [] 0 0) path) ∧ path ≠ [] ∧ path.length ≤ 10 ∧ Pln f B ∧ (∀ b ∈ B, W3 b.ways) ∧ TbOk Pt pos qn H ∧
  (∀ (a b : Nat) (c : Bool) (w w2 : Str) (s : Frs), Fo.lk f 0 path = some (a, b, some ((c, w), s)) → oth w = some w2 → ∀ (r : Addr) (H' : Hp), TL H H' → But1 Pt H H' → FoT H' r (Fo.pt f path 1 (.node c w2 s .nil)) → Q (.ref r) H') ∧
  ((∀ (a b : Nat) (c : Bool) (w : Str) (s : Frs), Fo.lk f 0 path = some (a, b, some ((c, w), s)) → oth w = none) → Q .non H)
noncomputable def spMovedL (Pt : Addr) (pos : Pos) (qn : Str) : Sp := fun vs H Q _ => ∃ (l : Addr) (x : V) (k n : Int) (B : List Bgh) (f : Frs) (path : List Int), vs = [.ref l, x, .int k, .int n] ∧ BosAt H l B ∧ GpAt H x (atG (Fo.gr f [] 0 0) path) ∧ path ≠ [] ∧ path.length ≤ 10 ∧ Pln f B ∧ (∀ b ∈ B, b.pl.length = b.ways.length) ∧ KNd B ∧ TbOk Pt pos qn H ∧
  (∀ (a b : Nat) (cw : Way) (s : Frs) (en : Fo.En), Fo.lk f 0 path = some (a, b, some (cw, s)) → fk k s = some en → (shE (path.length - 1) en + n).natAbs ≤ 10 ^ 18 → ∀ (r : Addr) (H' : Hp), TL H H' → But1 Pt H H' → FoT H' r (mvF f path cw k (shE (path.length - 1) en + n) s) → Q (.ref r) H') ∧
  ((∀ (a b : Nat) (cw : Way) (s : Frs) (en : Fo.En), Fo.lk f 0 path = some (a, b, some (cw, s)) → fk k s = some en → ¬ (shE (path.length - 1) en + n).natAbs ≤ 10 ^ 18) → Q .non H)
noncomputable def spBy88 : Sp := fun vs H Q _ => ∃ (c : Int) (l : Addr) (x : V) (k : Int) (B : List Bgh) (f : Frs) (path : List Int), vs = [.int c, .ref l, x, .int k] ∧ BosAt H l B ∧ GpAt H x (atG (Fo.gr f [] 0 0) path) ∧ path ≠ [] ∧ path.length ≤ 10 ∧ Pln f B ∧ (∀ b ∈ B, b.pl.length = b.ways.length) ∧ ∀ n : Int, Q (.int n) H
noncomputable def spAlike88 : Sp := fun vs H Q _ => (vs = [.non, .non] ∧ Q (.bl true) H) ∨ ∃ (r d : Addr) (f : Frs), vs = [.ref r, .ref d] ∧ FoT H r f ∧ FoT H d f ∧ dep f ≤ 7 ∧ Q (.bl true) H
theorem MvL.fk_some {f : Frs} {B : List Bgh} {path : List Int} {a b : Nat} {cw : Way} {s : Frs} (M : MvL f B path a b cw s) (nd : KNd B) {i : Nat} {c : Bgh} (h1 : a ≤ i) (h2 : i < b) (hc : B[i]? = some c) : ∃ en, fk c.k s = some en ∧ en.k = c.k ∧ en.pl = c.pl := by
  obtain ⟨e0, he0, ek0, ep0⟩ := M.from' i c h1 h2 hc
  have : (fk c.k s).isSome = true := by
    unfold fk
    rw [List.find?_isSome]
    exact ⟨e0, he0, decide_eq_true ek0⟩
  obtain ⟨en, hen⟩ := Option.isSome_iff_exists.mp this
  have hk : en.k = c.k := of_decide_eq_true (p := en.k = c.k) (List.find?_some (p := fun e : Fo.En => decide (e.k = c.k)) hen)
  obtain ⟨i', c', _, _, hc', k', p'⟩ := M.to en (List.mem_of_find?_eq_some hen)
  have := nd i' i c' c hc' hc (k'.trans hk)
  subst this
  rw [hc'] at hc
  cases hc
  exact ⟨en, hen, hk, p'.symm⟩
theorem MvL.fk_none {f : Frs} {B : List Bgh} {path : List Int} {a b : Nat} {cw : Way} {s : Frs} {k : Int} (M : MvL f B path a b cw s) (h : ∀ i c, a ≤ i → i < b → B[i]? = some c → c.k ≠ k) : fk k s = none := by
  cases e : fk k s with
  | none => rfl
  | some en =>
    have hk : en.k = k := of_decide_eq_true (p := en.k = k) (List.find?_some (p := fun e : Fo.En => decide (e.k = k)) e)
    obtain ⟨i', c', h1, h2, hc', k', _⟩ := M.to en (List.mem_of_find?_eq_some e)
    exact absurd (k'.trans hk) (h i' c' h1 h2 hc')
theorem oth3 {w : Str} (h : w ∈ ways3) : (w = "any" ∧ oth w = none) ∨ (w ≠ "any" ∧ oth w = some (if w = ("up" : Str) then ("down" : Str) else ("up" : Str))) := by
  unfold ways3 at h
  simp only [List.mem_cons, List.not_mem_nil, or_false] at h
  rcases h with rfl | rfl | rfl
  · exact .inr ⟨by decide, by decide⟩
  · exact .inr ⟨by decide, by decide⟩
  · exact .inl ⟨rfl, by decide⟩
theorem plr_deeds {m : Nat} : ∀ (f : Frs) (p : List Int) (j : Nat), PlR m f → ∀ en ∈ Fo.deedsF f p j, m ≤ en.pl.length ∧ en.pl.length ≤ 6
  | .nil, _, _, _, en, h => by cases h
  | .leaf k pl r, p, j, hp, en, h => by
    rcases List.mem_cons.mp h with z | z
    · subst z; exact hp.1
    · exact plr_deeds r p (j + 1) hp.2 en z
  | .node c w s r, p, j, hp, en, h => by
    rcases List.mem_append.mp h with z | z
    · exact plr_deeds s _ 0 hp.1 en z
    · exact plr_deeds r p (j + 1) hp.2 en z
theorem fk_filter (k : Int) (s : Frs) : ((Fo.deedsF s [] 0).filter fun e => decide (e.k = k)).head? = fk k s := List.head?_filter ..
theorem filter_take {α : Type} {p : α → Bool} {l : List α} {i : Nat} {x : α} (h : l[i]? = some x) : (l.take (i + 1)).filter p = (l.take i).filter p ++ (if p x = true then [x] else []) := by
  rw [take_snoc h, List.filter_append]
  congr 1
  cases hp : p x <;> simp [List.filter, hp]
theorem simE (l : List Int) : simT (.lst (l.map intT)) (.lst []) = true := by cases l <;> simp [simT, simTs]
theorem eqE (l : List Int) : eqT (.lst (l.map intT)) (.lst []) = l.isEmpty := by cases l <;> simp [eqT, eqTs]
theorem abs18 (i : Int) : (1000000000000000000 : Int) < (if i < 0 then -i else i) ↔ 10 ^ 18 < i.natAbs := by
  have : (10 : Nat) ^ 18 = 1000000000000000000 := by decide
  rw [this]
  split <;> omega
theorem valV_oth (w : Str) : valV ([(.inr "up", .str "down"), (.inr "down", .str "up")] : List (Key × V)) (Sum.inr w : Key) = (oth w).map V.str := by
  unfold oth
  by_cases h1 : w = "up"
  · subst h1; decide +kernel
  · by_cases h2 : w = "down"
    · subst h2; decide +kernel
    · rw [if_neg h1, if_neg h2]
      unfold valV
      simp [List.find?, Ne.symm h1, Ne.symm h2, h1, h2]
theorem oth_oth {w w2 : Str} (h : oth w = some w2) : oth w2 = some w := by
  unfold oth at h
  split at h
  · next e => cases h; rw [e]; decide
  · split at h
    · next e => cases h; rw [e]; decide
    · cases h
theorem lk_bd : ∀ (f : Frs) (n : Nat) (path : List Int) (a b : Nat) (o : Option (Way × Frs)), Fo.good f → Fo.lk f n path = some (a, b, o) → n ≤ a ∧ a < b ∧ b ≤ n + Fo.sz f
  | f, n, [], a, b, o, _, h => by rw [Fo.lk_nil] at h; cases h
  | .nil, n, j :: q, a, b, o, _, h => by cases h
  | .leaf k pl r, n, j :: q, a, b, o, g, h => by
    unfold Fo.lk at h
    show n ≤ a ∧ a < b ∧ b ≤ n + (Fo.sz r + 1)
    split at h
    · split at h
      · injection h with h
        injection h with h1 h2
        injection h2 with h2 h3
        omega
      · cases h
    · have := lk_bd r (n + 1) _ a b o g h
      omega
  | .node c w s r, n, j :: q, a, b, o, g, h => by
    unfold Fo.lk at h
    show n ≤ a ∧ a < b ∧ b ≤ n + (Fo.sz s + Fo.sz r)
    have gs : 0 < Fo.sz s := g.1
    split at h
    · split at h
      · injection h with h
        injection h with h1 h2
        injection h2 with h2 h3
        omega
      · have := lk_bd s n q a b o g.2.1 h
        omega
    · have := lk_bd r (n + Fo.sz s) _ a b o g.2.2 h
      omega
theorem gp_all {f : Frs} {B : List Bgh} {path : List Int} (N : Pln f B) (h : path ≠ []) : ∃ (a b : Nat) (fl : Bool), atG (Fo.gr f [] 0 0) path = (path, a, b, fl) ∧ a ≤ b ∧ b ≤ B.length ∧ ((fl = true ∧ ∃ cw s, Fo.lk f 0 path = some (a, b, some (cw, s))) ∨ (fl = false ∧ ∀ a b x, Fo.lk f 0 path ≠ some (a, b, some x))) := by
  have bl : B.length = Fo.sz f := by rw [N.eq, Fo.lv_len]
  rw [atG_gr f h]
  cases e : Fo.lk f 0 path with
  | none => exact ⟨0, 0, false, rfl, Nat.le_refl _, Nat.zero_le _, .inr ⟨rfl, fun _ _ _ z => by cases z⟩⟩
  | some x =>
    obtain ⟨a, b, o⟩ := x
    obtain ⟨h1, h2, h3⟩ := lk_bd f 0 path a b o N.gd e
    cases o with
    | none => exact ⟨a, b, false, rfl, by omega, by omega, .inr ⟨rfl, fun _ _ _ z => by cases z⟩⟩
    | some y => exact ⟨a, b, true, rfl, by omega, by omega, .inl ⟨rfl, y.1, y.2, rfl⟩⟩
theorem at_ix {f : Frs} {B : List Bgh} {path : List Int} (N : Pln f B) (ne : B ≠ []) (h : path ≠ []) (c : Int) : ∃ (a b : Nat) (fl : Bool), atG (Fo.gr f [] 0 0) path = (path, a, b, fl) ∧ ∃ i : Nat, i < B.length ∧ (0 : Int) < (if (b : Int) - (a : Int) > 1 then (b : Int) - (a : Int) else 1) ∧ (a : Int) + c % (if (b : Int) - (a : Int) > 1 then (b : Int) - (a : Int) else 1) = (i : Int) := by
  have bl : B.length = Fo.sz f := by rw [N.eq, Fo.lv_len]
  have b0 := List.length_pos_iff.mpr ne
  rw [atG_gr f h]
  cases e : Fo.lk f 0 path with
  | none =>
    refine ⟨0, 0, false, rfl, 0, b0, by decide, ?_⟩
    show (0 : Int) + c % (if ((0 : Nat) : Int) - ((0 : Nat) : Int) > 1 then ((0 : Nat) : Int) - ((0 : Nat) : Int) else 1) = 0
    rw [if_neg (by decide)]
    omega
  | some x =>
    obtain ⟨a, b, o⟩ := x
    obtain ⟨h1, h2, h3⟩ := lk_bd f 0 path a b o N.gd e
    have ej : (if (b : Int) - (a : Int) > 1 then (b : Int) - (a : Int) else 1) = (b : Int) - (a : Int) := by split <;> omega
    refine ⟨a, b, o.isSome, rfl, a + (c % ((b : Int) - (a : Int))).toNat, ?_, ?_, ?_⟩
    · have := Int.emod_lt_of_pos c (show (0 : Int) < (b : Int) - (a : Int) by omega)
      omega
    · rw [ej]; omega
    · have := Int.emod_nonneg c (show (b : Int) - (a : Int) ≠ 0 by omega)
      rw [ej]
      omega
theorem turn_back {f : Frs} {path : List Int} {a b : Nat} {c : Bool} {w : Str} {s : Frs} (w2 : Str) (e : Fo.lk f 0 path = some (a, b, some ((c, w), s))) :
    Fo.lk (Fo.pt f path 1 (.node c w2 s .nil)) 0 path = some (a, b, some ((c, w2), s)) ∧ Fo.pt (Fo.pt f path 1 (.node c w2 s .nil)) path 1 (.node c w s .nil) = f ∧ wid (Fo.pt f path 1 (.node c w2 s .nil)) = wid f := by
  obtain ⟨h1, h2⟩ := lk_put f 0 path a b ((c, w), s) (c, w2) s e rfl
  have h3 := wid_pt f 0 path a b ((c, w), s) (.node c w2 s .nil) e
  refine ⟨h1, ?_, ?_⟩
  · have := h2 (.node c w s .nil) (Nat.succ_pos _)
    exact this.trans (Fo.pt_back f 0 path a b (c, w) s e)
  · have h3 : wid (Fo.pt f path 1 (.node c w2 s .nil)) + (wid s + 1) = wid f + (wid s + 0 + 1) := h3
    omega
theorem deeds_wpk (g : Int → List (Int × Int) → List (Int × Int)) : ∀ (f : Frs) (p : List Int) (j : Nat), Fo.deedsF (wpk g f) p j = (Fo.deedsF f p j).map fun e => { e with pl := g e.k e.pl }
  | .nil, _, _ => rfl
  | .leaf k pl r, p, j => by
    show (⟨k, g k pl, p ++ [(j : Int)]⟩ : Fo.En) :: Fo.deedsF (wpk g r) p (j + 1) = _
    rw [deeds_wpk g r]
    rfl
  | .node c w s r, p, j => by
    show Fo.deedsF (wpk g s) (p ++ [(j : Int)]) 0 ++ Fo.deedsF (wpk g r) p (j + 1) = (Fo.deedsF s (p ++ [(j : Int)]) 0 ++ Fo.deedsF r p (j + 1)).map _
    rw [List.map_append, deeds_wpk g s, deeds_wpk g r]
theorem fk_wpk {k : Int} {L : Nat} {v : Int} {s : Frs} {en : Fo.En} (h : fk k s = some en) (hL : L < en.pl.length) : ∃ e2, fk k (wpk (mvG k L v) s) = some e2 ∧ shE L e2 = v := by
  have hk : en.k = k := of_decide_eq_true (p := en.k = k) (List.find?_some (p := fun e : Fo.En => decide (e.k = k)) h)
  refine ⟨{ en with pl := mvG k L v en.k en.pl }, ?_, ?_⟩
  · unfold fk
    rw [deeds_wpk, List.find?_map]
    show ((Fo.deedsF s [] 0).find? (fun e => decide (e.k = k))).map _ = _
    have h : (Fo.deedsF s [] 0).find? (fun e => decide (e.k = k)) = some en := h
    rw [h]
    rfl
  · unfold shE mvG mvL
    rw [if_pos hk]
    show ((en.pl.set L ((en.pl.getD L (0, 0)).1, v)).getD L (0, 0)).2 = v
    rw [List.getD_eq_getElem?_getD, List.getElem?_set_self hL]
    rfl
theorem plr_wpk {m : Nat} {k : Int} {L : Nat} {v : Int} : ∀ s : Frs, PlR m s → PlR m (wpk (mvG k L v) s)
  | .nil, _ => trivial
  | .leaf k' pl r, h => by
    have e : (mvG k L v k' pl).length = pl.length := by
      unfold mvG mvL
      split
      · exact List.length_set ..
      · rfl
    refine ⟨?_, plr_wpk r h.2⟩
    rw [e]
    exact h.1
  | .node c w s r, h => ⟨plr_wpk s h.1, plr_wpk r h.2⟩
theorem MvL.back {f : Frs} {B : List Bgh} {path : List Int} {a b : Nat} {cw : Way} {s : Frs} {k : Int} {en : Fo.En} (M : MvL f B path a b cw s) (N : Pln f B) (lw : ∀ b ∈ B, b.pl.length = b.ways.length) (shb : ∀ b ∈ B, ShB b.pl) (e : Fo.lk f 0 path = some (a, b, some (cw, s))) (hf : fk k s = some en) (v : Int) :
    Fo.lk (mvF f path cw k v s) 0 path = some (a, b, some (cw, wpk (mvG k (path.length - 1) v) s)) ∧ mvF (mvF f path cw k v s) path cw k (shE (path.length - 1) en) (wpk (mvG k (path.length - 1) v) s) = f ∧ wid (mvF f path cw k v s) = wid f ∧ (∃ B', Pln (mvF f path cw k v s) B') ∧ (shE (path.length - 1) en).natAbs ≤ 10 ^ 18 ∧ PlR path.length (wpk (mvG k (path.length - 1) v) s) ∧ ∃ e2, fk k (wpk (mvG k (path.length - 1) v) s) = some e2 ∧ shE (path.length - 1) e2 = v := by
  have hk : en.k = k := of_decide_eq_true (p := en.k = k) (List.find?_some (p := fun e : Fo.En => decide (e.k = k)) hf)
  obtain ⟨i, c, i1, i2, hc, ck, cp⟩ := M.to en (List.mem_of_find?_eq_some hf)
  have gw := M.gw i c i1 i2 hc
  have mc := List.mem_of_getElem? hc
  have ll := lw c mc
  have ck' : c.k = k := ck.trans hk
  have pk := M.plk i c i1 i2 hc
  have pn := M.pln i c v i1 i2 hc
  rw [ck'] at pk pn
  rw [cp] at pk ll
  obtain ⟨h1, h2, h3⟩ := mv_back (v := v) e pk
  refine ⟨h1, h2, h3, ⟨_, pn⟩, ?_, plr_wpk s M.plr, fk_wpk hf (by omega)⟩
  have hm : en.pl.getD (path.length - 1) (0, 0) ∈ c.pl := by
    rw [cp, List.getD_eq_getElem?_getD, List.getElem?_eq_getElem (show path.length - 1 < en.pl.length by omega)]
    exact List.getElem_mem _
  have := shb c mc _ hm
  have e18 : (10 : Int) ^ 18 = 1000000000000000000 := by decide
  have e18' : (10 : Nat) ^ 18 = 1000000000000000000 := by decide
  unfold shE
  rw [e18']
  rw [e18] at this
  omega
end L2

set_option Elab.async false
set_option linter.all false
set_option maxRecDepth 100000
set_option maxHeartbeats 4000000

namespace Fw
open PySem L2


noncomputable def top (i : Nat) : Stmt := PySem.Challenge.pw_furrow_k88_turned_and_moved.main.body.getD i (.Pass ⟨0, 0, 0, 0⟩)
noncomputable abbrev s_sweep_at : Stmt := top 8
noncomputable abbrev s_put_at : Stmt := top 9
noncomputable abbrev s_deeds_within : Stmt := top 5
noncomputable abbrev s_with_places : Stmt := top 10
noncomputable abbrev s_turned : Stmt := top 11
noncomputable abbrev s_moved : Stmt := top 12
noncomputable abbrev s_l_cell_at : Stmt := top 14
noncomputable abbrev s_l_whole : Stmt := top 15
noncomputable abbrev s_l_stream : Stmt := top 16
noncomputable abbrev s_l_number : Stmt := top 17
noncomputable abbrev s_l_steps : Stmt := top 18
noncomputable abbrev s_l_places : Stmt := top 19
noncomputable abbrev s_l_leaves : Stmt := top 20
noncomputable abbrev s_l_items : Stmt := top 21
noncomputable abbrev s_l_groups : Stmt := top 22
noncomputable abbrev s_l_at : Stmt := top 23
noncomputable abbrev s_l_path : Stmt := top 25
noncomputable abbrev s_l_kinds : Stmt := top 26
noncomputable abbrev s_l_changed : Stmt := top 27
noncomputable abbrev s_l_turned : Stmt := top 28
noncomputable abbrev s_l_moved : Stmt := top 29
noncomputable abbrev s_l_turn : Stmt := top 30
noncomputable abbrev s_l_move : Stmt := top 31
noncomputable abbrev s_l_alike : Stmt := top 32
noncomputable abbrev s_l_by : Stmt := top 33
noncomputable abbrev s_law : Stmt := top 34
theorem sc_sweep_at : FnScope ["plan", "path", "items", "item", "number"] ["plan", "path"] (defScope s_sweep_at) := ⟨rfl, rfl, rfl, by decide +kernel, rfl, by decide +kernel, by decide +kernel⟩
theorem sc_put_at : FnScope ["items", "path", "many", "others", "at", "inner"] ["items", "path", "many", "others"] (defScope s_put_at) := ⟨rfl, rfl, rfl, by decide +kernel, rfl, by decide +kernel, by decide +kernel⟩
theorem sc_deeds_within : FnScope ["items", "path", "cuts", "found", "number", "item", "here"] ["items", "path", "cuts"] (defScope s_deeds_within) := ⟨rfl, rfl, rfl, by decide +kernel, rfl, by decide +kernel, by decide +kernel⟩
theorem sc_with_places : FnScope ["items", "change", "found", "item"] ["items", "change"] (defScope s_with_places) := ⟨rfl, rfl, rfl, by decide +kernel, rfl, by decide +kernel, by decide +kernel⟩
theorem sc_turned : FnScope ["plan", "path", "sweep"] ["plan", "path"] (defScope s_turned) := ⟨rfl, rfl, rfl, by decide +kernel, rfl, by decide +kernel, by decide +kernel⟩
theorem sc_moved : FnScope ["plan", "path", "k", "n", "sweep", "at", "shifts", "change"] ["plan", "path", "k", "n"] (defScope s_moved) := ⟨rfl, rfl, rfl, by decide +kernel, rfl, by decide +kernel, by decide +kernel⟩
theorem sc_l_cell_at : FnScope ["_law_script", "_law_k"] ["_law_script", "_law_k"] (defScope s_l_cell_at) := ⟨rfl, rfl, rfl, by decide +kernel, rfl, by decide +kernel, by decide +kernel⟩
theorem sc_l_whole : FnScope ["_law_found"] ["_law_found"] (defScope s_l_whole) := ⟨rfl, rfl, rfl, by decide +kernel, rfl, by decide +kernel, by decide +kernel⟩
theorem sc_l_stream : FnScope ["_law_cell", "_law_many", "_law_found", "_law_number_here", "_law_k"] ["_law_cell", "_law_many"] (defScope s_l_stream) := ⟨rfl, rfl, rfl, by decide +kernel, rfl, by decide +kernel, by decide +kernel⟩
theorem sc_l_number : FnScope ["_law_cell", "_law_far"] ["_law_cell", "_law_far"] (defScope s_l_number) := ⟨rfl, rfl, rfl, by decide +kernel, rfl, by decide +kernel, by decide +kernel⟩
theorem sc_l_steps : FnScope ["_law_cells", "_law_opened", "_law_path_here", "_law_found", "_law_cell", "_law_whole_here", "_law_x", "_law_way", "_law_is_cut"] ["_law_cells"] (defScope s_l_steps) := ⟨rfl, rfl, rfl, by decide +kernel, rfl, by decide +kernel, by decide +kernel⟩
theorem sc_l_places : FnScope ["_law_opened", "_law_cell", "_law_xs", "_law_whole_here", "_law_seen", "_law_found", "_law_k", "_law_at_here"] ["_law_opened", "_law_cell"] (defScope s_l_places) := ⟨rfl, rfl, rfl, by decide +kernel, rfl, by decide +kernel, by decide +kernel⟩
theorem sc_l_leaves : FnScope ["_law_cells", "_law_turn_here", "_law_steps_here", "_law_found", "_law_last", "_law_k", "_law_number_here", "_law_opened", "_law_path_here", "_law_cell", "_law_share", "_law_ways"] ["_law_cells", "_law_turn_here"] (defScope s_l_leaves) := ⟨rfl, rfl, rfl, by decide +kernel, rfl, by decide +kernel, by decide +kernel⟩
theorem sc_l_items : FnScope ["_law_leaves_here", "_law_depth", "_law_items_here", "_law_at_here", "_law_upto", "_law_number_here", "_law_share", "_law_ways", "_law_places_here", "_law_inner"] ["_law_leaves_here", "_law_depth"] (defScope s_l_items) := ⟨rfl, rfl, rfl, by decide +kernel, rfl, by decide +kernel, by decide +kernel⟩
theorem sc_l_groups : FnScope ["_law_leaves_here", "_law_path_here", "_law_first", "_law_found", "_law_at_here", "_law_many", "_law_upto", "_law_here"] ["_law_leaves_here", "_law_path_here", "_law_first"] (defScope s_l_groups) := ⟨rfl, rfl, rfl, by decide +kernel, rfl, by decide +kernel, by decide +kernel⟩
theorem sc_l_at : FnScope ["_law_groups_here", "_law_path_here", "_law_one"] ["_law_groups_here", "_law_path_here"] (defScope s_l_at) := ⟨rfl, rfl, rfl, by decide +kernel, rfl, by decide +kernel, by decide +kernel⟩
theorem sc_l_path : FnScope ["_law_groups_here", "_law_fit", "_law_cell", "_law_way", "_law_path_here", "_law_at_here"] ["_law_groups_here", "_law_fit", "_law_cell", "_law_way"] (defScope s_l_path) := ⟨rfl, rfl, rfl, by decide +kernel, rfl, by decide +kernel, by decide +kernel⟩
theorem sc_l_kinds : FnScope ["_law_items_here", "_law_item", "_law_loop", "_law_shift"] ["_law_items_here"] (defScope s_l_kinds) := ⟨rfl, rfl, rfl, by decide +kernel, rfl, by decide +kernel, by decide +kernel⟩
theorem sc_l_changed : FnScope ["_law_leaves_here", "_law_one", "_law_change", "_law_found", "_law_k", "_law_number_here", "_law_share", "_law_ways", "_law_places_here"] ["_law_leaves_here", "_law_one", "_law_change"] (defScope s_l_changed) := ⟨rfl, rfl, rfl, by decide +kernel, rfl, by decide +kernel, by decide +kernel⟩
theorem sc_l_turned : FnScope ["_law_leaves_here", "_law_one", "_law_level", "_law_change"] ["_law_leaves_here", "_law_one"] (defScope s_l_turned) := ⟨rfl, rfl, rfl, by decide +kernel, rfl, by decide +kernel, by decide +kernel⟩
theorem sc_l_moved : FnScope ["_law_leaves_here", "_law_one", "_law_k", "_law_n", "_law_level", "_law_at_here", "_law_loop", "_law_shift", "_law_change"] ["_law_leaves_here", "_law_one", "_law_k", "_law_n"] (defScope s_l_moved) := ⟨rfl, rfl, rfl, by decide +kernel, rfl, by decide +kernel, by decide +kernel⟩
theorem sc_l_turn : FnScope ["_law_plan", "_law_path_here", "_law_found"] ["_law_plan", "_law_path_here"] (defScope s_l_turn) := ⟨rfl, rfl, rfl, by decide +kernel, rfl, by decide +kernel, by decide +kernel⟩
theorem sc_l_move : FnScope ["_law_plan", "_law_path_here", "_law_k", "_law_n", "_law_found"] ["_law_plan", "_law_path_here", "_law_k", "_law_n"] (defScope s_l_move) := ⟨rfl, rfl, rfl, by decide +kernel, rfl, by decide +kernel, by decide +kernel⟩
theorem sc_l_alike : FnScope ["_law_found", "_law_due"] ["_law_found", "_law_due"] (defScope s_l_alike) := ⟨rfl, rfl, rfl, by decide +kernel, rfl, by decide +kernel, by decide +kernel⟩
theorem sc_l_by : FnScope ["_law_cell", "_law_leaves_here", "_law_one", "_law_k", "_law_shift", "_law_at_here", "_law_edge"] ["_law_cell", "_law_leaves_here", "_law_one", "_law_k"] (defScope s_l_by) := ⟨rfl, rfl, rfl, by decide +kernel, rfl, by decide +kernel, by decide +kernel⟩
theorem sc_law : FnScope ["_law_script", "_law_leaves_here", "_law_plan", "_law_groups_here", "_law_fit", "_law_path_here", "_law_one", "_law_cell", "_law_k", "_law_n", "_law_found"] ["_law_script"] (defScope s_law) := ⟨rfl, rfl, rfl, by decide +kernel, rfl, by decide +kernel, by decide +kernel⟩
theorem c_l_places_0 : compB (mkSc [(".0", .local), ("_law_one", .local)]) (defScope s_l_places) ["_law_opened", "_law_cell", "_law_xs", "_law_whole_here", "_law_seen", "_law_found", "_law_k", "_law_at_here"] ["_law_one"] [none] = true := by decide +kernel
theorem c_l_places_0n : (["_law_one"] : List Str).Nodup := by decide +kernel
theorem c_l_steps_0 : compB (mkSc [(".0", .local), ("_law_one", .local)]) (defScope s_l_steps) ["_law_cells", "_law_opened", "_law_path_here", "_law_found", "_law_cell", "_law_whole_here", "_law_x", "_law_way", "_law_is_cut"] ["_law_one"] [none] = true := by decide +kernel
theorem c_l_steps_0n : (["_law_one"] : List Str).Nodup := by decide +kernel
theorem c_l_leaves_0 : compB (mkSc [(".0", .local), ("_law_way", .local), ("_law_is_cut", .local)]) (defScope s_l_leaves) ["_law_cells", "_law_turn_here", "_law_steps_here", "_law_found", "_law_last", "_law_k", "_law_number_here", "_law_opened", "_law_path_here", "_law_cell", "_law_share", "_law_ways"] ["_law_way", "_law_is_cut"] [none, none] = true := by decide +kernel
theorem c_l_leaves_0n : (["_law_way", "_law_is_cut"] : List Str).Nodup := by decide +kernel
theorem c_moved_0 : compB (mkSc [(".0", .local), ("number", .local), ("places", .local), ("where", .local), ("cuts", .local), ("at", .free), ("k", .free), ("n", .free)]) (defScope s_moved) ["plan", "path", "k", "n", "sweep", "at", "shifts", "change"] ["number", "places", "where", "cuts", "at", "k", "n"] [none, none, none, none, some 5, some 2, some 3] = true := by decide +kernel
theorem c_moved_0n : (["number", "places", "where", "cuts", "at", "k", "n"] : List Str).Nodup := by decide +kernel
theorem c_law_0 : compB (mkSc [(".0", .local), ("_law_one", .local), ("len", .globalImplicit), ("_law_leaves_here", .free)]) (defScope s_law) ["_law_script", "_law_leaves_here", "_law_plan", "_law_groups_here", "_law_fit", "_law_path_here", "_law_one", "_law_cell", "_law_k", "_law_n", "_law_found"] ["_law_one", "_law_leaves_here"] [none, some 1] = true := by decide +kernel
theorem c_law_0n : (["_law_one", "_law_leaves_here"] : List Str).Nodup := by decide +kernel
structure Ad where
  f_sweep_at : Addr
  d_sweep_at : FuncData
  f_put_at : Addr
  d_put_at : FuncData
  f_deeds_within : Addr
  d_deeds_within : FuncData
  f_with_places : Addr
  d_with_places : FuncData
  f_turned : Addr
  d_turned : FuncData
  f_moved : Addr
  d_moved : FuncData
  f_l_cell_at : Addr
  d_l_cell_at : FuncData
  f_l_whole : Addr
  d_l_whole : FuncData
  f_l_stream : Addr
  d_l_stream : FuncData
  f_l_number : Addr
  d_l_number : FuncData
  f_l_steps : Addr
  d_l_steps : FuncData
  f_l_places : Addr
  d_l_places : FuncData
  f_l_leaves : Addr
  d_l_leaves : FuncData
  f_l_items : Addr
  d_l_items : FuncData
  f_l_groups : Addr
  d_l_groups : FuncData
  f_l_at : Addr
  d_l_at : FuncData
  f_l_path : Addr
  d_l_path : FuncData
  f_l_kinds : Addr
  d_l_kinds : FuncData
  f_l_changed : Addr
  d_l_changed : FuncData
  f_l_turned : Addr
  d_l_turned : FuncData
  f_l_moved : Addr
  d_l_moved : FuncData
  f_l_turn : Addr
  d_l_turn : FuncData
  f_l_move : Addr
  d_l_move : FuncData
  f_l_alike : Addr
  d_l_alike : FuncData
  f_l_by : Addr
  d_l_by : FuncData
  f_law : Addr
  d_law : FuncData
  c_FurrowError : Addr
  c_NoTurning : Addr
  u_MOST_SHIFT : Value
  u_OTHER_WAYS : Addr
  c_tab : Addr
  p_tab : Addr
  c_tab2 : Addr
  p_tab2 : Addr
  c_tab3 : Addr
  p_tab3 : Addr
structure Tx (w : World) (K : PySem.W.Frag) (mg : Str → Option Value) (a : Ad) : Prop where
  F_sweep_at : Fun K "sweep_at" "sweep_at" s_sweep_at a.f_sweep_at a.d_sweep_at
  b_sweep_at : Binds K a.d_sweep_at ["plan", "path"] []
  m_sweep_at : mg "sweep_at" = some (.ref a.f_sweep_at)
  F_put_at : Fun K "put_at" "put_at" s_put_at a.f_put_at a.d_put_at
  b_put_at : Binds K a.d_put_at ["items", "path", "many", "others"] []
  m_put_at : mg "put_at" = some (.ref a.f_put_at)
  F_deeds_within : Fun K "deeds_within" "deeds_within" s_deeds_within a.f_deeds_within a.d_deeds_within
  b_deeds_within : Binds K a.d_deeds_within ["items", "path", "cuts"] []
  m_deeds_within : mg "deeds_within" = some (.ref a.f_deeds_within)
  F_with_places : Fun K "with_places" "with_places" s_with_places a.f_with_places a.d_with_places
  b_with_places : Binds K a.d_with_places ["items", "change"] []
  m_with_places : mg "with_places" = some (.ref a.f_with_places)
  F_turned : Fun K "turned" "turned" s_turned a.f_turned a.d_turned
  b_turned : Binds K a.d_turned ["plan", "path"] []
  m_turned : mg "turned" = some (.ref a.f_turned)
  F_moved : Fun K "moved" "moved" s_moved a.f_moved a.d_moved
  b_moved : Binds K a.d_moved ["plan", "path", "k", "n"] []
  m_moved : mg "moved" = some (.ref a.f_moved)
  F_l_cell_at : Fun K "_law_cell_at" "_law_cell_at" s_l_cell_at a.f_l_cell_at a.d_l_cell_at
  b_l_cell_at : Binds K a.d_l_cell_at ["_law_script", "_law_k"] []
  m_l_cell_at : mg "_law_cell_at" = some (.ref a.f_l_cell_at)
  F_l_whole : Fun K "_law_whole" "_law_whole" s_l_whole a.f_l_whole a.d_l_whole
  b_l_whole : Binds K a.d_l_whole ["_law_found"] []
  m_l_whole : mg "_law_whole" = some (.ref a.f_l_whole)
  F_l_stream : Fun K "_law_stream" "_law_stream" s_l_stream a.f_l_stream a.d_l_stream
  b_l_stream : Binds K a.d_l_stream ["_law_cell", "_law_many"] []
  m_l_stream : mg "_law_stream" = some (.ref a.f_l_stream)
  F_l_number : Fun K "_law_number" "_law_number" s_l_number a.f_l_number a.d_l_number
  b_l_number : Binds K a.d_l_number ["_law_cell", "_law_far"] []
  m_l_number : mg "_law_number" = some (.ref a.f_l_number)
  F_l_steps : Fun K "_law_steps" "_law_steps" s_l_steps a.f_l_steps a.d_l_steps
  b_l_steps : Binds K a.d_l_steps ["_law_cells"] []
  m_l_steps : mg "_law_steps" = some (.ref a.f_l_steps)
  F_l_places : Fun K "_law_places" "_law_places" s_l_places a.f_l_places a.d_l_places
  b_l_places : Binds K a.d_l_places ["_law_opened", "_law_cell"] []
  m_l_places : mg "_law_places" = some (.ref a.f_l_places)
  F_l_leaves : Fun K "_law_leaves" "_law_leaves" s_l_leaves a.f_l_leaves a.d_l_leaves
  b_l_leaves : Binds K a.d_l_leaves ["_law_cells", "_law_turn_here"] []
  m_l_leaves : mg "_law_leaves" = some (.ref a.f_l_leaves)
  F_l_items : Fun K "_law_items" "_law_items" s_l_items a.f_l_items a.d_l_items
  b_l_items : Binds K a.d_l_items ["_law_leaves_here", "_law_depth"] []
  m_l_items : mg "_law_items" = some (.ref a.f_l_items)
  F_l_groups : Fun K "_law_groups" "_law_groups" s_l_groups a.f_l_groups a.d_l_groups
  b_l_groups : Binds K a.d_l_groups ["_law_leaves_here", "_law_path_here", "_law_first"] []
  m_l_groups : mg "_law_groups" = some (.ref a.f_l_groups)
  F_l_at : Fun K "_law_at" "_law_at" s_l_at a.f_l_at a.d_l_at
  b_l_at : Binds K a.d_l_at ["_law_groups_here", "_law_path_here"] []
  m_l_at : mg "_law_at" = some (.ref a.f_l_at)
  F_l_path : Fun K "_law_path" "_law_path" s_l_path a.f_l_path a.d_l_path
  b_l_path : Binds K a.d_l_path ["_law_groups_here", "_law_fit", "_law_cell", "_law_way"] []
  m_l_path : mg "_law_path" = some (.ref a.f_l_path)
  F_l_kinds : Fun K "_law_kinds" "_law_kinds" s_l_kinds a.f_l_kinds a.d_l_kinds
  b_l_kinds : Binds K a.d_l_kinds ["_law_items_here"] []
  m_l_kinds : mg "_law_kinds" = some (.ref a.f_l_kinds)
  F_l_changed : Fun K "_law_changed" "_law_changed" s_l_changed a.f_l_changed a.d_l_changed
  b_l_changed : Binds K a.d_l_changed ["_law_leaves_here", "_law_one", "_law_change"] []
  m_l_changed : mg "_law_changed" = some (.ref a.f_l_changed)
  F_l_turned : Fun K "_law_turned" "_law_turned" s_l_turned a.f_l_turned a.d_l_turned
  b_l_turned : Binds K a.d_l_turned ["_law_leaves_here", "_law_one"] []
  m_l_turned : mg "_law_turned" = some (.ref a.f_l_turned)
  F_l_moved : Fun K "_law_moved" "_law_moved" s_l_moved a.f_l_moved a.d_l_moved
  b_l_moved : Binds K a.d_l_moved ["_law_leaves_here", "_law_one", "_law_k", "_law_n"] []
  m_l_moved : mg "_law_moved" = some (.ref a.f_l_moved)
  F_l_turn : Fun K "_law_turn" "_law_turn" s_l_turn a.f_l_turn a.d_l_turn
  b_l_turn : Binds K a.d_l_turn ["_law_plan", "_law_path_here"] []
  m_l_turn : mg "_law_turn" = some (.ref a.f_l_turn)
  F_l_move : Fun K "_law_move" "_law_move" s_l_move a.f_l_move a.d_l_move
  b_l_move : Binds K a.d_l_move ["_law_plan", "_law_path_here", "_law_k", "_law_n"] []
  m_l_move : mg "_law_move" = some (.ref a.f_l_move)
  F_l_alike : Fun K "_law_alike" "_law_alike" s_l_alike a.f_l_alike a.d_l_alike
  b_l_alike : Binds K a.d_l_alike ["_law_found", "_law_due"] []
  m_l_alike : mg "_law_alike" = some (.ref a.f_l_alike)
  F_l_by : Fun K "_law_by" "_law_by" s_l_by a.f_l_by a.d_l_by
  b_l_by : Binds K a.d_l_by ["_law_cell", "_law_leaves_here", "_law_one", "_law_k"] []
  m_l_by : mg "_law_by" = some (.ref a.f_l_by)
  F_law : Fun K "law" "law" s_law a.f_law a.d_law
  b_law : Binds K a.d_law ["_law_script"] []
  m_law : mg "law" = some (.ref a.f_law)
  mc_FurrowError : mg "FurrowError" = some (.ref a.c_FurrowError)
  xi_FurrowError : XI K a.c_FurrowError
  ct_FurrowError : ∃ N, ∀ h, K.In h → EX.ClsT h a.c_FurrowError N (([] : List Addr).map Value.ref ++ EX.bmVE)
  xm_FurrowError : XMk0 K a.c_FurrowError
  mc_NoTurning : mg "NoTurning" = some (.ref a.c_NoTurning)
  xi_NoTurning : XI K a.c_NoTurning
  ct_NoTurning : ∃ N, ∀ h, K.In h → EX.ClsT h a.c_NoTurning N (([a.c_FurrowError] : List Addr).map Value.ref ++ EX.bmVE)
  xm_NoTurning : XMk0 K a.c_NoTurning
  xnd : ([a.c_FurrowError, a.c_NoTurning] : List Addr).Nodup
  xb : XB K a.c_FurrowError
  z_abs : mg "abs" = none
  z_bool : mg "bool" = none
  z_enumerate : mg "enumerate" = none
  z_int : mg "int" = none
  z_isinstance : mg "isinstance" = none
  z_len : mg "len" = none
  z_list : mg "list" = none
  z_max : mg "max" = none
  z_min : mg "min" = none
  z_range : mg "range" = none
  z_tuple : mg "tuple" = none
  g_MOST_SHIFT : mg "MOST_SHIFT" = some a.u_MOST_SHIFT
  r_MOST_SHIFT : RelV (.int 1000000000000000000) a.u_MOST_SHIFT
  g_OTHER_WAYS : mg "OTHER_WAYS" = some (.ref a.u_OTHER_WAYS)
  r_OTHER_WAYS : RelV (.ref a.u_OTHER_WAYS) (.ref a.u_OTHER_WAYS)
  d_OTHER_WAYS : ∀ P : Program, KDict P w K a.u_OTHER_WAYS [(.inr "up", .str "down"), (.inr "down", .str "up")]
  nl : PySem.W.nsIn K mainGlobals "moved" = some (some (.ref a.f_moved))
  tb : PySem.W.tabIn K "moved" = some (a.c_tab, a.p_tab)
  np : K.lookup a.p_tab = none
  nl2 : PySem.W.nsIn K mainGlobals "_law_turned" = some (some (.ref a.f_l_turned))
  tb2 : PySem.W.tabIn K "_law_turned" = some (a.c_tab2, a.p_tab2)
  np2 : K.lookup a.p_tab2 = none
  pd1_2 : a.p_tab ≠ a.p_tab2
  nl3 : PySem.W.nsIn K mainGlobals "_law_moved" = some (some (.ref a.f_l_moved))
  tb3 : PySem.W.tabIn K "_law_moved" = some (a.c_tab3, a.p_tab3)
  np3 : K.lookup a.p_tab3 = none
  pd1_3 : a.p_tab ≠ a.p_tab3
  pd2_3 : a.p_tab2 ≠ a.p_tab3
noncomputable abbrev n_change : Stmt := (defBody s_moved).getD 4 (.Pass ⟨0, 0, 0, 0⟩)
noncomputable abbrev pos_change : Pos := match n_change with | .FunctionDef _ _ _ _ _ _ _ _ _ p => p | _ => ⟨0, 0, 0, 0⟩
theorem cs_change : CloScope ["number", "places"] ["shifts", "k", "at"] (defScope n_change) := ⟨rfl, rfl, rfl, by decide +kernel, by decide +kernel, by decide +kernel, by decide +kernel⟩
theorem fr_change : ∀ y ∈ (defScope n_change).names, y.2 = .free → y.1 ∈ (["shifts", "k", "at"] : List Str) := by decide +kernel
theorem bd_change {qual : Str} {clos : List (Str × Addr)} {doc pm cdv ct : Value} {us : List Value} (h : us.length = 2) : bindArgs (PySem.W.fnX "change" qual (defArgs n_change) (defBody n_change) (defScope n_change) clos .none .none doc pm none cdv ct) ⟨us, []⟩ = pure ((["number", "places"] : List Str).zip us) := by
  obtain ⟨u, v, rfl⟩ : ∃ u v, us = [u, v] := by
    cases us with
    | nil => cases h
    | cons u us => cases us with
      | nil => cases h
      | cons v us => cases us with
        | nil => exact ⟨u, v, rfl⟩
        | cons _ _ => simp at h
  rfl
noncomputable abbrev qn_change : Str := "moved.<locals>.change"
noncomputable abbrev n_lchg : Stmt := (defBody s_l_turned).getD 2 (.Pass ⟨0, 0, 0, 0⟩)
noncomputable abbrev pos_lchg : Pos := match n_lchg with | .FunctionDef _ _ _ _ _ _ _ _ _ p => p | _ => ⟨0, 0, 0, 0⟩
theorem cs_lchg : CloScope ["_law_ways", "_law_places_here"] ["_law_level"] (defScope n_lchg) := ⟨rfl, rfl, rfl, by decide +kernel, by decide +kernel, by decide +kernel, by decide +kernel⟩
theorem fr_lchg : ∀ y ∈ (defScope n_lchg).names, y.2 = .free → y.1 ∈ (["_law_level"] : List Str) := by decide +kernel
theorem bd_lchg {qual : Str} {clos : List (Str × Addr)} {doc pm cdv ct : Value} {us : List Value} (h : us.length = 2) : bindArgs (PySem.W.fnX "_law_change" qual (defArgs n_lchg) (defBody n_lchg) (defScope n_lchg) clos .none .none doc pm none cdv ct) ⟨us, []⟩ = pure ((["_law_ways", "_law_places_here"] : List Str).zip us) := by
  obtain ⟨u, v, rfl⟩ : ∃ u v, us = [u, v] := by
    cases us with
    | nil => cases h
    | cons u us => cases us with
      | nil => cases h
      | cons v us => cases us with
        | nil => exact ⟨u, v, rfl⟩
        | cons _ _ => simp at h
  rfl
noncomputable abbrev qn_lchg : Str := "_law_turned.<locals>._law_change"
noncomputable abbrev n_mchg : Stmt := match (defBody s_l_moved).getD 1 (.Pass ⟨0, 0, 0, 0⟩) with | .For _ _ b _ _ => (match b.getD 0 (.Pass ⟨0, 0, 0, 0⟩) with | .If _ b2 _ _ => b2.getD 2 (.Pass ⟨0, 0, 0, 0⟩) | _ => (.Pass ⟨0, 0, 0, 0⟩)) | _ => (.Pass ⟨0, 0, 0, 0⟩)
noncomputable abbrev pos_mchg : Pos := match n_mchg with | .FunctionDef _ _ _ _ _ _ _ _ _ p => p | _ => ⟨0, 0, 0, 0⟩
theorem cs_mchg : CloScope ["_law_ways", "_law_places_here"] ["_law_shift", "_law_n", "_law_loop", "_law_level"] (defScope n_mchg) := ⟨rfl, rfl, rfl, by decide +kernel, by decide +kernel, by decide +kernel, by decide +kernel⟩
theorem fr_mchg : ∀ y ∈ (defScope n_mchg).names, y.2 = .free → y.1 ∈ (["_law_shift", "_law_n", "_law_loop", "_law_level"] : List Str) := by decide +kernel
theorem bd_mchg {qual : Str} {clos : List (Str × Addr)} {doc pm cdv ct : Value} {us : List Value} (h : us.length = 2) : bindArgs (PySem.W.fnX "_law_change" qual (defArgs n_mchg) (defBody n_mchg) (defScope n_mchg) clos .none .none doc pm none cdv ct) ⟨us, []⟩ = pure ((["_law_ways", "_law_places_here"] : List Str).zip us) := by
  obtain ⟨u, v, rfl⟩ : ∃ u v, us = [u, v] := by
    cases us with
    | nil => cases h
    | cons u us => cases us with
      | nil => cases h
      | cons v us => cases us with
        | nil => exact ⟨u, v, rfl⟩
        | cons _ _ => simp at h
  rfl
noncomputable abbrev qn_mchg : Str := "_law_moved.<locals>._law_change"
section
variable {P : Program} {w : World} {K : PySem.W.Frag} {mg : Str → Option Value} {base : Heap} {a : Ad}
theorem ok_cell_at (T : Tx w K mg a) : FnOk P w K mg base CX0 1 a.f_l_cell_at a.d_l_cell_at ["_law_script", "_law_k"] (spCell K) := by
  refine T.F_l_cell_at.ok sc_l_cell_at (fun vs H Q E h => ?_) (fun cdv A outer s H vs Q E hr h => ?_)
  · obtain ⟨_, _, _, rfl, _⟩ := h; rfl
  obtain ⟨p, ns, k, rfl, hS, h0, q⟩ := h
  refine ⟨_, (@pss_cons _ _ _ _ _ (@ps_if _ _ _ _ _ _ _ _ (@pt_cmpR _ _ _ _ _ _ _ _ op_lt (pv 1) (@pe_callB _ _ _ _ _ _ _ _ _ call_len_seq (by rfl) T.z_len bt_len (@pa_cons _ _ _ _ _ (pv 0) pa_nil (by rfl)) (by decide) (by decide) (by rfl) (by rfl)) (@nomark _ _ (by decide) (by decide))) (@pss_one _ _ _ (@ps_ret _ _ _ _ (@pe_ix _ _ _ _ _ _ _ ix_list (pv 0) (pv 1) (fun _ _ => rfl)))) pss_nil) (@pss_one _ _ _ (@ps_ret _ _ _ _ pe_int))), ?_⟩
  have hl : (ns.map V.int).length = ns.length := List.length_map _
  refine ⟨_, rfl, _, rfl, p, _, rfl, .inl hS, _, _, rfl, rfl, _, rfl, ?_⟩
  refine ite2 (fun c => ?_) (fun c => ?_)
  · have c' := dT c
    rw [hl] at c'
    exact ⟨_, rfl, _, rfl, p, _, _, _, rfl, rfl, hS, cell_in h0 c', q⟩
  · have c' := dF c
    rw [hl] at c'
    rw [cell_out c'] at q
    exact q

theorem ok_whole (T : Tx w K mg a) : FnOk P w K mg base CX0 1 a.f_l_whole a.d_l_whole ["_law_found"] spWhole := by
  refine T.F_l_whole.ok sc_l_whole (fun vs H Q E h => ?_) (fun cdv A outer s H vs Q E hr h => ?_)
  · obtain ⟨_, rfl, _⟩ := h; rfl
  obtain ⟨x, rfl, hx, q⟩ := h
  refine ⟨_, (@pss_one _ _ _ (@ps_ret _ _ _ _ (@pe_and _ _ _ _ _ _ _ (@pe_callB _ _ _ _ _ _ _ _ _ call_isi (by rfl) T.z_isinstance bt_isinstance (@pa_cons _ _ _ _ _ (pv 0) (@pa_cons _ _ _ _ _ (@pe_bltn _ _ (.ty "int") _ _ (by rfl) T.z_int bt_int rfl (by decide) (by decide)) pa_nil (by rfl)) (by rfl)) (by decide) (by decide) (by rfl) (by rfl)) (@pe_one _ _ _ _ _ (@pe_not _ _ _ _ (@pe_callB _ _ _ _ _ _ _ _ _ call_isi (by rfl) T.z_isinstance bt_isinstance (@pa_cons _ _ _ _ _ (pv 0) (@pa_cons _ _ _ _ _ (@pe_bltn _ _ (.ty "bool") _ _ (by rfl) T.z_bool bt_bool rfl (by decide) (by decide)) pa_nil (by rfl)) (by rfl)) (by decide) (by decide) (by rfl) (by rfl))))))), ?_⟩
  cases x with
  | int i => exact ⟨_, rfl, _, _, _, _, _, rfl, rfl, .int i, rfl, _, rfl, _, rfl, _, _, _, _, _, rfl, rfl, .int i, rfl, _, rfl, q⟩
  | bl b => exact ⟨_, rfl, _, _, _, _, _, rfl, rfl, .bl b, rfl, _, rfl, _, rfl, _, _, _, _, _, rfl, rfl, .bl b, rfl, _, rfl, q⟩
  | non => exact ⟨_, rfl, _, _, _, _, _, rfl, rfl, .non, rfl, _, rfl, q⟩
  | str z => exact ⟨_, rfl, _, _, _, _, _, rfl, rfl, .str z, rfl, _, rfl, q⟩
  | _ => cases hx

theorem ok_stream (T : Tx w K mg a) : FnOk P w K mg base CX0 1 a.f_l_stream a.d_l_stream ["_law_cell", "_law_many"] spStream := by
  refine T.F_l_stream.ok sc_l_stream (fun vs H Q E h => ?_) (fun cdv A outer s H vs Q E hr h => ?_)
  · obtain ⟨_, _, rfl, _⟩ := h; rfl
  obtain ⟨c, n, rfl, h0, h1, q⟩ := h
  refine ⟨_, (@pss_cons _ _ _ _ _ (@ps_set _ _ (2) _ _ _ _ sc_l_stream.nd rfl (Or.inl rfl) (@pe_lst _ _ _ _ pa_nil) (by rfl) (by first | exact .inl rfl | exact .inr rfl | assumption)) (@pss_cons _ _ _ _ _ (@ps_set _ _ (3) _ _ _ _ sc_l_stream.nd rfl (Or.inl rfl) (@pe_op _ _ _ _ _ _ _ _ op_add (@pe_op _ _ _ _ _ _ _ _ op_mod (pv 0) pe_int) pe_int) (by rfl) (by first | exact .inl rfl | exact .inr rfl | assumption)) (@pss_cons _ _ _ _ _ (@ps_for _ _ _ _ _ _ _ _ PassesOwn.never rfl (@pi_range1 _ _ _ _ _ _ (by rfl) T.z_range (@pa_cons _ _ _ _ _ (@pe_op _ _ _ _ _ _ _ _ op_add (pv 1) pe_int) pa_nil (by rfl)) (by rfl)) (pg_name (i := 4) sc_l_stream.nd rfl (Or.inl rfl)) (@pss_cons _ _ _ _ _ (@ps_set _ _ (3) _ _ _ _ sc_l_stream.nd rfl (Or.inl rfl) (@pe_op _ _ _ _ _ _ _ _ op_mod (@pe_op _ _ _ _ _ _ _ _ op_add (@pe_op _ _ _ _ _ _ _ _ op_add (@pe_op _ _ _ _ _ _ _ _ op_mul (pv 3) (pv 3)) (@pe_op _ _ _ _ _ _ _ _ op_mul pe_int (pv 3))) (pv 4)) pe_int) (by rfl) (by first | exact .inl rfl | exact .inr rfl | assumption)) (@pss_one _ _ _ (@ps_expr _ _ _ _ (@pe_bm _ _ _ _ _ _ _ _ _ _ _ _ PySem.F.plainAttrs_list PySem.F.slot_list_append PySem.F.type_list_append mt_append (pv 2) (@pa_cons _ _ _ _ _ (pv 3) pa_nil (by rfl)) (by rfl) (by rfl) (by rfl) (by rfl) (by rfl)) (by rfl)))) (by intro _ ; rfl)) (@pss_one _ _ _ (@ps_ret _ _ _ _ (@pe_slice _ _ _ _ _ _ _ _ _ _ sl_list (pv 2) (@po_some _ _ _ pe_int) po_none)))))), ?_⟩
  refine ⟨szl (by show 0 ≤ 1000000; decide), fun l hl => ?_⟩
  refine ⟨_, rfl, _, _, rfl, rfl, (by show (0 : Int) < 2147483647; decide), _, _, rfl, rfl, ?_⟩
  refine ⟨_, rfl, _, _, rfl, rfl, n + 1, rfl, by omega, by omega, ?_⟩
  refine for_range (lo := 0) (n := (n + 1).toNat) (fun i σ' H' => (∃ o1, σ' = [some (.int c), some (.int n), some (.ref l), some (.int (lastS (seedS c) 0 i)), o1]) ∧ Same H H' ∧ H' l = some (.lst ((seqS (seedS c) 0 i).map V.int))) ?_ (fun i σ' H' hi p => ?_) (fun σ' H' p => ?_)
  · exact ⟨⟨_, rfl⟩, same_new hl _, upd_same⟩
  · obtain ⟨⟨o1, rfl⟩, hs, hH⟩ := p
    obtain ⟨b0, b1⟩ := last_bound c i
    have bb := step_bound b0 b1
    have e1 : (lastS (seedS c) 0 i * lastS (seedS c) 0 i + 48271 * lastS (seedS c) 0 i + (0 + (i : Int))) % 2147483647 = lastS (seedS c) 0 (i + 1) := by rw [lastS_succ]; rfl
    have hz : ((seqS (seedS c) 0 i).map V.int).length < sizeLine := by rw [List.length_map, seqS_len]; exact szlt (by omega)
    refine ⟨_, rfl, _, rfl, _, _, rfl, rfl, .inl bb, _, rfl, _, _, rfl, rfl, .inl ⟨by decide, by decide⟩, _, _, rfl, rfl, _, rfl, _, _, rfl, rfl, _, _, rfl, rfl, (by show (0 : Int) < 2147483647; decide), ?_⟩
    refine ⟨_, rfl, .inl ⟨rfl, _, SqL.of hH⟩, _, rfl, l, _, _, rfl, rfl, hH, hz, ⟨_, congrArg (fun v => [some (V.int c), some (V.int n), some (V.ref l), some (V.int v), some (V.int (0 + (i : Int)))]) e1⟩, ?_, ?_⟩
    · exact fun b o e => by rw [upd_ne (ne_of_none e hl)]; exact hs b o e
    · rw [upd_same, seqS_snoc, List.map_append]
      show some (HO.lst (_ ++ [V.int _])) = _
      rw [e1]; rfl
  · obtain ⟨⟨o1, rfl⟩, hs, hH⟩ := p
    refine ⟨_, rfl, _, rfl, l, _, rfl, SqL.of hH, fun r hr' => ?_⟩
    rw [cutV_1]
    refine q r _ (hs.trans (same_new hr' _)) ?_
    rw [upd_same]
    unfold strm
    rw [show (n + 1).toNat = n.toNat + 1 by omega]

theorem ok_number (T : Tx w K mg a) : FnOk P w K mg base CX0 1 a.f_l_number a.d_l_number ["_law_cell", "_law_far"] spNumber := by
  refine T.F_l_number.ok sc_l_number (fun vs H Q E h => ?_) (fun cdv A outer s H vs Q E hr h => ?_)
  · obtain ⟨_, _, rfl, _⟩ := h; rfl
  obtain ⟨c, far, rfl, h0, h1, q⟩ := h
  refine ⟨_, (@pss_cons _ _ _ _ _ (@ps_if _ _ _ _ _ _ _ _ (@pt_cmpR _ _ _ _ _ _ _ _ op_eq (@pe_op _ _ _ _ _ _ _ _ op_mod (pv 0) pe_int) pe_int (@nomark _ _ (by decide) (by decide))) (@pss_one _ _ _ (@ps_ret _ _ _ _ (@pe_op _ _ _ _ _ _ _ _ op_sub (@pe_op _ _ _ _ _ _ _ _ op_mod (@pe_op _ _ _ _ _ _ _ _ op_fdiv (pv 0) pe_int) pe_int) pe_int))) pss_nil) (@pss_one _ _ _ (@ps_ret _ _ _ _ (@pe_op _ _ _ _ _ _ _ _ op_sub (@pe_op _ _ _ _ _ _ _ _ op_mod (@pe_op _ _ _ _ _ _ _ _ op_fdiv (pv 0) pe_int) (@pe_op _ _ _ _ _ _ _ _ op_add (@pe_op _ _ _ _ _ _ _ _ op_mul pe_int (pv 1)) pe_int)) (pv 1))))), ?_⟩
  have key : (V.int (c % 3) = V.int 0) ↔ c % 3 = 0 := ⟨fun e => V.int.inj e, fun e => by rw [e]⟩
  refine ⟨_, rfl, _, _, rfl, rfl, (by show (0 : Int) < 3; decide), rfl, _, rfl, ?_⟩
  refine ite2 (fun cc => ?_) (fun cc => ?_)
  · refine ⟨_, rfl, _, _, rfl, rfl, ⟨by decide, by decide⟩, _, _, rfl, rfl, (by show (0 : Int) < 7; decide), _, _, rfl, rfl, ?_⟩
    unfold numZ at q
    rw [if_pos (key.mp (dT cc))] at q
    exact q
  · refine ⟨_, rfl, _, _, rfl, rfl, ⟨by decide, by decide⟩, _, rfl, _, _, rfl, rfl, .inl ⟨by decide, by decide⟩, _, _, rfl, rfl, _, _, rfl, rfl, (by show (0 : Int) < 2 * far + 1; omega), _, rfl, _, _, rfl, rfl, ?_⟩
    unfold numZ at q
    rw [if_neg (fun z => dF cc (key.mpr z))] at q
    exact q

theorem ok_items87 (T : Tx w K mg a) : ∀ n : Nat, FnOk P w K mg base CX0 (n + 2) a.f_l_items a.d_l_items ["_law_leaves_here", "_law_depth"] (spItems n)
  | 0 => by
    have no : ∀ vs H Q E, ¬ spItems 0 vs H Q E := fun vs H Q E h => by
      obtain ⟨l, d, m, B, _, _, _, hm, _⟩ := h
      omega
    exact ⟨fun vs H Q E h => absurd h (no vs H Q E), fun A outer s H args us vs Q E _ _ _ _ h => absurd h (no vs H Q E)⟩
  | n + 1 => by
    have G_l_items := ok_items87 T n
    refine T.F_l_items.ok sc_l_items (fun vs H Q E h => ?_) (fun cdv A outer s H vs Q E hr h => ?_)
    · obtain ⟨_, _, _, _, rfl, _⟩ := h; rfl
    obtain ⟨l, d, mm, B, rfl, ⟨xs0, hl, hB⟩, hF, hmn, hd, q⟩ := h
    refine ⟨_, (@pss_cons _ _ _ _ _ (@ps_set _ _ (2) _ _ _ _ sc_l_items.nd rfl (Or.inl rfl) (@pe_lst _ _ _ _ pa_nil) (by rfl) (by first | exact .inl rfl | exact .inr rfl | assumption)) (@pss_cons _ _ _ _ _ (@ps_set _ _ (3) _ _ _ _ sc_l_items.nd rfl (Or.inl rfl) pe_int (by rfl) (by first | exact .inl rfl | exact .inr rfl | assumption)) (@pss_cons _ _ _ _ _ (@ps_while _ _ _ _ _ _ PassesOwn.never (@pt_cmpR _ _ _ _ _ _ _ _ op_lt (pv 3) (@pe_callB _ _ _ _ _ _ _ _ _ call_len_seq (by rfl) T.z_len bt_len (@pa_cons _ _ _ _ _ (pv 0) pa_nil (by rfl)) (by decide) (by decide) (by rfl) (by rfl)) (@nomark _ _ (by decide) (by decide))) (@pss_cons _ _ _ _ _ (@ps_set _ _ (4) _ _ _ _ sc_l_items.nd rfl (Or.inl rfl) (@pe_op _ _ _ _ _ _ _ _ op_add (pv 3) pe_int) (by rfl) (by first | exact .inl rfl | exact .inr rfl | assumption)) (@pss_cons _ _ _ _ _ (@ps_asg _ _ _ _ _ _ (@pe_ix _ _ _ _ _ _ _ ix_list (pv 0) (pv 3) (fun _ _ => rfl)) (pg_tup rfl (pgs_cons (pg_name (i := 5) sc_l_items.nd rfl (Or.inl rfl)) (pgs_cons (pg_name (i := 6) sc_l_items.nd rfl (Or.inl rfl)) (pgs_cons (pg_name (i := 7) sc_l_items.nd rfl (Or.inl rfl)) (pgs_cons (pg_name (i := 8) sc_l_items.nd rfl (Or.inl rfl)) pgs_nil))))) (by rfl) (by rfl) (by rfl)) (@pss_cons _ _ _ _ _ (@ps_if _ _ _ _ _ _ _ _ (@pt_cmpR _ _ _ _ _ _ _ _ op_eq (@pe_callB _ _ _ _ _ _ _ _ _ call_len_seq (by rfl) T.z_len bt_len (@pa_cons _ _ _ _ _ (pv 7) pa_nil (by rfl)) (by decide) (by decide) (by rfl) (by rfl)) (pv 1) (@nomark _ _ (by decide) (by decide))) (@pss_one _ _ _ (@ps_expr _ _ _ _ (@pe_bm _ _ _ _ _ _ _ _ _ _ _ _ PySem.F.plainAttrs_list PySem.F.slot_list_append PySem.F.type_list_append mt_append (pv 2) (@pa_cons _ _ _ _ _ (@pe_tupq _ _ _ _ _ (@paq_cons _ _ _ _ _ pe_str (@paq_cons _ _ _ _ _ (pv 5) (@paq_cons _ _ _ _ _ (@pe_callTy _ _ _ _ _ _ _ _ _ call_tuple_of (by rfl) T.z_tuple bt_tuple (@pa_cons _ _ _ _ _ (pv 8) pa_nil (by rfl)) (by decide) (by decide) (by rfl) (by rfl)) paq_nil star_K) star_N) star_C)) pa_nil (by rfl)) (by rfl) (by rfl) (by rfl) (by rfl) (by rfl)) (by rfl))) (@pss_cons _ _ _ _ _ (@ps_while _ _ _ _ _ _ PassesOwn.never ((@pw_and _ _ _ _ _ _ _ (@pt_cmpR _ _ _ _ _ _ _ _ op_lt (pv 4) (@pe_callB _ _ _ _ _ _ _ _ _ call_len_seq (by rfl) T.z_len bt_len (@pa_cons _ _ _ _ _ (pv 0) pa_nil (by rfl)) (by decide) (by decide) (by rfl) (by rfl)) (@nomark _ _ (by decide) (by decide))) (@pw_and1 _ _ _ _ (@pt_cmpR _ _ _ _ _ _ _ _ op_gt (@pe_ix _ _ _ _ _ _ _ ix_tup (@pe_ix _ _ _ _ _ _ _ ix_list (pv 0) (pv 4) (fun _ _ => rfl)) pe_int (fun _ _ => rfl)) (pv 1) (@nomark _ _ (by decide) (by decide)))))).pt (@pss_one _ _ _ (@ps_set _ _ (4) _ _ _ _ sc_l_items.nd rfl (Or.inl rfl) (@pe_op _ _ _ _ _ _ _ _ op_add (pv 4) pe_int) (by rfl) (by first | exact .inl rfl | exact .inr rfl | assumption)))) (@pss_cons _ _ _ _ _ (@ps_set _ _ (9) _ _ _ _ sc_l_items.nd rfl (Or.inl rfl) (@pe_call _ _ _ _ _ _ _ _ _ _ _ _ _ _ _ _ G_l_items (hr.mono (by omega)) (by rfl) T.m_l_items T.F_l_items.kp T.b_l_items .nil pass0 (@pa_cons _ _ _ _ _ (@pe_slice _ _ _ _ _ _ _ _ _ _ sl_list (pv 0) (@po_some _ _ _ (pv 3)) (@po_some _ _ _ (pv 4))) (@pa_cons _ _ _ _ _ (@pe_op _ _ _ _ _ _ _ _ op_add (pv 1) pe_int) pa_nil (by rfl)) (by rfl)) (by decide) (by rfl) (by rfl)) (by rfl) (by first | exact .inl rfl | exact .inr rfl | assumption)) (@pss_one _ _ _ (@ps_expr _ _ _ _ (@pe_bm _ _ _ _ _ _ _ _ _ _ _ _ PySem.F.plainAttrs_list PySem.F.slot_list_append PySem.F.type_list_append mt_append (pv 2) (@pa_cons _ _ _ _ _ (@pe_tupq _ _ _ _ _ (@paq_cons _ _ _ _ _ pe_str (@paq_cons _ _ _ _ _ (@pe_ix _ _ _ _ _ _ _ ix_tup (@pe_ix _ _ _ _ _ _ _ ix_list (pv 7) (pv 1) (fun _ _ => rfl)) pe_int (fun _ _ => rfl)) (@paq_cons _ _ _ _ _ (@pe_ix _ _ _ _ _ _ _ ix_tup (@pe_ix _ _ _ _ _ _ _ ix_list (pv 7) (pv 1) (fun _ _ => rfl)) pe_int (fun _ _ => rfl)) (@paq_cons _ _ _ _ _ (pv 9) paq_nil star_N) star_S) star_S) star_C)) pa_nil (by rfl)) (by rfl) (by rfl) (by rfl) (by rfl) (by rfl)) (by rfl)))))) (@pss_one _ _ _ (@ps_set _ _ (3) _ _ _ _ sc_l_items.nd rfl (Or.inl rfl) (pv 4) (by rfl) (by first | exact .inl rfl | exact .inr rfl | assumption))))))) (@pss_one _ _ _ (@ps_ret _ _ _ _ (@pe_callTy _ _ _ _ _ _ _ _ _ call_tuple_of (by rfl) T.z_tuple bt_tuple (@pa_cons _ _ _ _ _ (pv 2) pa_nil (by rfl)) (by decide) (by decide) (by rfl) (by rfl))))))), ?_⟩
    have xl := hB.1
    have Bl := hF.len
    refine ⟨szl (by show 0 ≤ 1000000; decide), fun it hit => ?_⟩
    have e1 := same_new hit (.lst [])
    have hit1 : (upd H it (.lst [])) it = some (.lst []) := upd_same
    dsimp only [gName]
    generalize upd H it (.lst []) = H1 at e1 hit1
    show tSeq (tWhile _ _) (tRet _) _ _ _
    refine seq_any (fun σ' H' => ∃ (xs : List V) (f : Frs) (o3 o4 o5 o6 o7 o8 o9 : Option V), σ' = [some (.ref l), some (.int (d : Int)), some (.ref it), o3, o4, o5, o6, o7, o8, o9] ∧ Same H H' ∧ H' it = some (.lst xs) ∧ FoAt H' xs f ∧ Fo.Is f B d ∧ xs.length ≤ 1000) (fun σ' H' pp => ?_) (fun nx => ?_)
    · obtain ⟨xs, f, o3, o4, o5, o6, o7, o8, o9, rfl, e, hx, hf, hI, xl⟩ := pp
      refine ⟨_, rfl, it, _, rfl, .inl ⟨SqL.of hx, fun t ht => ?_⟩⟩
      have s1 := same_new ht (.tup xs)
      exact q t _ f (e.trans s1) ⟨xs, upd_same, FoAt.over s1 hf⟩ hI
    refine while_ix (B.length + 1) (fun j σ' H' => ∃ (at' : Nat) (xs : List V) (f : Frs) (o4 o5 o6 o7 o8 o9 : Option V), σ' = [some (.ref l), some (.int (d : Int)), some (.ref it), some (.int (at' : Int)), o4, o5, o6, o7, o8, o9] ∧ Same H H' ∧ H' it = some (.lst xs) ∧ FoAt H' xs f ∧ Fo.Is f (B.take at') d ∧ at' ≤ B.length ∧ j ≤ at' ∧ xs.length ≤ at' ∧ (0 < at' → ∀ c, B[at']? = some c → c.sh = d)) ⟨0, [], .nil, none, none, none, none, none, none, rfl, e1, hit1, rfl, rfl, Nat.zero_le _, Nat.le_refl _, Nat.le_refl _, fun z => absurd z (Nat.lt_irrefl _)⟩ (fun j σ' H' hj pp => ?_) (MT.test (ME.op (MR.i0 _) (ME.var _) (ME.cb MB.len (MA.cons (ME.var _) MA.nil))))
    obtain ⟨at', xs, f, o4, o5, o6, o7, o8, o9, rfl, e, hx, hf, hI, hat, hja, xsl, hhd⟩ := pp
    have hl' := e _ _ hl
    refine ⟨_, rfl, _, rfl, l, _, rfl, .inl (SqL.of hl'), _, _, rfl, rfl, _, rfl, ?_⟩
    refine ite2 (fun c => ?_) (fun c => ?_)
    rotate_left
    · have c := dF c
      have : at' = B.length := by omega
      subst this
      rw [List.take_length] at hI
      exact nx _ _ ⟨xs, f, _, _, _, _, _, _, _, rfl, e, hx, hf, hI, by omega⟩
    have c := dT c
    have hlt : at' < B.length := by rw [xl] at c; exact Int.ofNat_lt.mp c
    refine ⟨by omega, ?_⟩
    have Ba : B[at']? = some B[at'] := List.getElem?_eq_getElem hlt
    generalize hb : B[at'] = b at Ba
    obtain ⟨x0, hx0, hbo⟩ := hB.get Ba
    obtain ⟨t, w0, p0, rfl, ht, ⟨wx, hw, haw⟩, ⟨px, hp, hap⟩⟩ := hbo.over e
    have at0 : atI xs0 (at' : Int) = some (.ref t) := atI_nat hx0
    have wxl := haw.1
    have memb : b ∈ B := List.mem_of_getElem? Ba
    refine ⟨_, rfl, _, _, rfl, rfl, ?_⟩
    dsimp only [gName]
    refine ⟨_, rfl, _, rfl, l, _, _, _, rfl, rfl, SqL.of hl', at0, t, _, rfl, SqT.of ht, rfl, _, _, rfl, _, _, rfl, _, _, rfl, _, _, rfl, rfl, ?_⟩
    dsimp only [gName]
    change tSeq _ _ _ [some (.ref l), some (.int (d : Int)), some (.ref it), some (.int (at' : Int)), some (.int ((at' : Int) + 1)), some (.int b.k), some (.int (b.sh : Int)), some (.ref w0), some (.ref p0), o9] _
    refine seq_any (fun σ' H' => ∃ (m : Nat) (xs : List V) (f : Frs) (o9 : Option V), σ' = [some (.ref l), some (.int (d : Int)), some (.ref it), some (.int (at' : Int)), some (.int (m : Int)), some (.int b.k), some (.int (b.sh : Int)), some (.ref w0), some (.ref p0), o9] ∧ Same H H' ∧ H' it = some (.lst xs) ∧ FoAt H' xs f ∧ Fo.Is f (B.take m) d ∧ at' < m ∧ m ≤ B.length ∧ xs.length ≤ m ∧ (∀ c, B[m]? = some c → c.sh = d)) (fun σ' H2 pp => ?_) (fun nx2 => ?_)
    · obtain ⟨m, xs2, f2, o9', rfl, e2, hx2, hf2, hI2, hm1, hm2, xl2, hh2⟩ := pp
      exact ⟨_, rfl, m, xs2, f2, _, _, _, _, _, _, rfl, e2, hx2, hf2, hI2, hm2, by omega, xl2, fun _ => hh2⟩
    refine ⟨_, rfl, w0, _, rfl, .inl (SqL.of hw), _, rfl, rfl, _, rfl, ?_⟩
    rw [wxl]
    by_cases cd : b.ways.length = d
    · refine iteE (v := true) (decide_eq_true (congrArg (fun n : Nat => V.int (n : Int)) cd)) (iteT ?_)
      refine ⟨_, rfl, .inl ⟨rfl, _, SqL.of hx⟩, _, rfl, _, rfl, p0, _, rfl, .inl ⟨SqL.of hp, fun pt hpt => ⟨szl (by show 3 ≤ 1000000; decide), fun r hr => ?_⟩⟩⟩
      have s1 := (same_new hpt (.tup px)).trans (same_new hr (.tup [V.str "deed", V.int b.k, V.ref pt]))
      have hr1 : (upd (upd H' pt (.tup px)) r (.tup [V.str "deed", V.int b.k, V.ref pt])) r = some (.tup [V.str "deed", V.int b.k, V.ref pt]) := upd_same
      have hpt1 : (upd (upd H' pt (.tup px)) r (.tup [V.str "deed", V.int b.k, V.ref pt])) pt = some (.tup px) := (same_new hr _) _ _ upd_same
      generalize upd (upd H' pt (.tup px)) r (.tup [V.str "deed", V.int b.k, V.ref pt]) = H2 at s1 hr1 hpt1
      have hx2 := s1 _ _ hx
      refine ⟨it, _, _, rfl, rfl, hx2, szlt (by omega), ?_⟩
      have tk : TK H2 (upd H2 it (.lst (xs ++ [V.ref r]))) := TK.upd hx2
      refine nx2 _ _ ⟨at' + 1, xs ++ [.ref r], Fo.app f (.leaf b.k b.pl .nil), _, rfl, fun a o ha => by rw [upd_ne (ne_of_none ha hit)]; exact s1 _ _ (e _ _ ha), upd_same, ?_, ?_, Nat.lt_succ_self _, hlt, by rw [List.length_append, List.length_singleton]; omega, fun c hc => ?_⟩
      · exact FoAt.tk tk (FoAt.app (FoAt.over s1 hf) ⟨r, pt, [], rfl, hr1, ⟨px, hpt1, hap.mono fun x v z => z.over s1⟩, rfl⟩)
      · rw [take_snoc Ba]
        refine is_app hI (Fo.Is.leaf1 cd) (fun z c hc => ?_)
        cases hc
        exact hhd (by rcases Nat.eq_zero_or_pos at' with z0 | z0; exact absurd (by rw [z0]; rfl) z; exact z0) b Ba
      · have h1 := (hF.ok.ln at' b c Ba hc).1
        have h2 := hF.sh at' c hc
        omega
    · refine iteE (v := false) (decide_eq_false fun z => cd (ninj30 z)) (iteF ?_)
      have hlo := hF.lo b memb
      have hhi := hF.hi b memb
      obtain ⟨mn, rfl⟩ : ∃ k, mm = k + 1 := ⟨mm - 1, by omega⟩
      refine seq_any (fun σ' H2 => H2 = H' ∧ ∃ (m : Nat), σ' = [some (.ref l), some (.int (d : Int)), some (.ref it), some (.int (at' : Int)), some (.int (m : Int)), some (.int b.k), some (.int (b.sh : Int)), some (.ref w0), some (.ref p0), o9] ∧ at' < m ∧ m ≤ B.length ∧ (∀ i c, at' < i → i < m → B[i]? = some c → d < c.sh) ∧ (∀ c, B[m]? = some c → c.sh ≤ d)) (fun σ' H2 pp => ?_) (fun nx3 => ?_)
      rotate_left
      · refine while_ix B.length (fun j σ' H2 => H2 = H' ∧ ∃ (m : Nat), σ' = [some (.ref l), some (.int (d : Int)), some (.ref it), some (.int (at' : Int)), some (.int (m : Int)), some (.int b.k), some (.int (b.sh : Int)), some (.ref w0), some (.ref p0), o9] ∧ m = at' + 1 + j ∧ m ≤ B.length ∧ (∀ i c, at' < i → i < m → B[i]? = some c → d < c.sh)) ⟨rfl, at' + 1, rfl, rfl, hlt, fun i c h1 h2 => absurd h2 (Nat.not_lt.mpr h1)⟩ (fun j σ' H2 hj pp => ?_) (MT.and (MT.test (ME.op (MR.i0 _) (ME.var _) (ME.cb MB.len (MA.cons (ME.var _) MA.nil)))) (MT.test (ME.op (MR.i0 _) (ME.op (MR.ixT _) (ME.op (MR.ixL _) (ME.var _) (ME.var _)) (ME.c _)) (ME.var _))))
        obtain ⟨rfl, m, rfl, hm, hmB, hG⟩ := pp
        refine ⟨_, rfl, _, rfl, l, _, rfl, .inl (SqL.of hl'), _, _, rfl, rfl, _, rfl, ?_⟩
        refine ite2 (fun c => ?_) (fun c => nx3 _ _ ⟨rfl, m, rfl, by omega, hmB, hG, fun c' hc' => ?_⟩)
        · have c := dT c
          have hmlt : m < B.length := by rw [xl] at c; exact Int.ofNat_lt.mp c
          have Bm : B[m]? = some B[m] := List.getElem?_eq_getElem hmlt
          obtain ⟨x1, hx1, hbo1⟩ := hB.get Bm
          obtain ⟨t1, w1, p1, rfl, ht1, _, _⟩ := hbo1.over e
          refine ⟨_, rfl, _, rfl, l, _, _, _, rfl, rfl, SqL.of hl', atI_nat hx1, t1, _, 1, _, rfl, rfl, SqT.of ht1, rfl, _, rfl, _, _, rfl, rfl, _, rfl, ?_⟩
          refine ite2 (fun c => ?_) (fun c => nx3 _ _ ⟨rfl, m, rfl, by omega, hmB, hG, fun c' hc' => ?_⟩)
          · have c := dT c
            refine ⟨by omega, _, rfl, _, _, rfl, rfl, rfl, m + 1, rfl, by omega, hmlt, fun i c' h1 h2 h3 => ?_⟩
            by_cases z : i = m
            · subst z
              rw [Bm] at h3
              cases h3
              omega
            · exact hG i c' h1 (by omega) h3
          · have c := dF c
            rw [Bm] at hc'
            cases hc'
            omega
        · have c := dF c
          have := (List.getElem?_eq_some_iff.mp hc').1
          omega
      obtain ⟨rfl, m, rfl, hm1, hm2, hG, hend⟩ := pp
      have hwd : d < b.ways.length := Nat.lt_of_le_of_ne hlo (Ne.symm cd)
      have Wd : b.ways[d]? = some b.ways[d] := List.getElem?_eq_getElem hwd
      obtain ⟨xw, hxw, tw, rfl, htw⟩ := haw.get Wd
      have cy : cutV xs0 (some (at' : Int)) (some (m : Int)) = (xs0.drop at').take (m - at') := by
        have : cutV xs0 (some (at' : Int)) (some (m : Int)) = (xs0.drop (at' : Int).toNat).take ((m : Int).toNat - (at' : Int).toNat) := cut_mid xs0 (Int.natCast_nonneg _) (Int.natCast_nonneg _) (by rw [xl]; exact Int.ofNat_le.mpr hm2) (Int.ofNat_le.mpr (Nat.le_of_lt hm1))
        rw [this, Int.toNat_natCast, Int.toNat_natCast]
      refine ⟨_, rfl, _, rfl, _, rfl, _, rfl, _, rfl, l, _, rfl, SqL.of hl', fun sl hsl => ?_⟩
      have s1 := same_new hsl (.lst (cutV xs0 (some (at' : Int)) (some (m : Int))))
      have hsl1 : (upd H2 sl (.lst (cutV xs0 (some (at' : Int)) (some (m : Int))))) sl = some (.lst ((xs0.drop at').take (m - at'))) := by rw [← cy]; exact upd_same
      generalize upd H2 sl (.lst (cutV xs0 (some (at' : Int)) (some (m : Int)))) = H3 at s1 hsl1
      refine ⟨_, rfl, _, _, rfl, rfl, sl, d + 1, mn, (B.drop at').take (m - at'), rfl, ⟨_, hsl1, ((hB.mono fun x v z => z.over (e.trans s1)).drop at').take (m - at')⟩, hF.group Ba cd hm1 hG, by omega, by omega, fun r H4 f' e4 hf' hI' => ?_⟩
      dsimp only [gName]
      have ew := s1.trans e4
      refine ⟨_, rfl, .inl ⟨rfl, _, SqL.of (ew _ _ hx)⟩, _, rfl, _, rfl, w0, _, _, _, rfl, rfl, SqL.of (ew _ _ hw), atI_nat hxw, tw, _, 0, _, rfl, rfl, SqT.of (ew _ _ htw), rfl, _, rfl, _, rfl, w0, _, _, _, rfl, rfl, SqL.of (ew _ _ hw), atI_nat hxw, tw, _, 1, _, rfl, rfl, SqT.of (ew _ _ htw), rfl, _, rfl, szl (by show 4 ≤ 1000000; decide), fun r2 hr2 => ?_⟩
      have s5 := same_new hr2 (.tup [V.str "sweep", V.bl (b.ways[d]).1, V.str (b.ways[d]).2, V.ref r])
      have hr5 : (upd H4 r2 (.tup [V.str "sweep", V.bl (b.ways[d]).1, V.str (b.ways[d]).2, V.ref r])) r2 = some (.tup [V.str "sweep", V.bl (b.ways[d]).1, V.str (b.ways[d]).2, V.ref r]) := upd_same
      have e5 := (s1.trans e4).trans s5
      have hf5 := hf'.over s5
      generalize upd H4 r2 (.tup [V.str "sweep", V.bl (b.ways[d]).1, V.str (b.ways[d]).2, V.ref r]) = H5 at e5 hr5 hf5
      have hx5 := e5 _ _ hx
      refine ⟨it, _, _, rfl, rfl, hx5, szlt (by omega), ?_⟩
      have tk : TK H5 (upd H5 it (.lst (xs ++ [V.ref r2]))) := TK.upd hx5
      obtain ⟨zs, hz1, hz2⟩ := hf5
      refine nx2 _ _ ⟨m, xs ++ [.ref r2], Fo.app f (.node (b.ways[d]).1 (b.ways[d]).2 f' .nil), _, rfl, fun a o ha => by rw [upd_ne (ne_of_none ha hit)]; exact e5 _ _ (e _ _ ha), upd_same, ?_, ?_, hm1, hm2, by rw [List.length_append, List.length_singleton]; omega, fun c hc => ?_⟩
      · exact FoAt.tk tk (FoAt.app (FoAt.over e5 hf) ⟨r2, r, zs, [], rfl, hr5, hz1, hz2, rfl⟩)
      · rw [← take_slice B (Nat.le_of_lt hm1)]
        have sl1 : (B.drop at').take (m - at') = b :: (B.drop (at' + 1)).take (m - at' - 1) := by
          rw [List.drop_eq_getElem_cons hlt, hb]
          obtain ⟨k, hk⟩ : ∃ k, m - at' = k + 1 := ⟨m - at' - 1, by omega⟩
          rw [hk]
          rfl
        rw [sl1] at hI' ⊢
        refine is_app hI (Fo.Is.node1 Wd (fun c hc => ?_) hI') (fun z c hc => ?_)
        · obtain ⟨i, hi⟩ := List.mem_iff_getElem?.mp hc
          have l2 := (List.getElem?_eq_some_iff.mp hi).1
          rw [List.length_take] at l2
          rw [List.getElem?_take_of_lt (by omega), List.getElem?_drop] at hi
          exact hG (at' + 1 + i) c (by omega) (by omega) hi
        · cases hc
          exact hhd (by rcases Nat.eq_zero_or_pos at' with z0 | z0; exact absurd (by rw [z0]; rfl) z; exact z0) b Ba
      · have h1 := hend c hc
        have h2 := hF.sh (m - 1) c (by rw [show m - 1 + 1 = m by omega]; exact hc)
        omega

theorem ok_groups87 (T : Tx w K mg a) : ∀ n : Nat, FnOk P w K mg base CX0 (n + 2) a.f_l_groups a.d_l_groups ["_law_leaves_here", "_law_path_here", "_law_first"] (spGroups87 n)
  | 0 => by
    have no : ∀ vs H Q E, ¬ spGroups87 0 vs H Q E := fun vs H Q E h => by
      obtain ⟨l, p, PP, first, m, B, _, _, _, _, hm, _⟩ := h
      omega
    exact ⟨fun vs H Q E h => absurd h (no vs H Q E), fun A outer s H args us vs Q E _ _ _ _ h => absurd h (no vs H Q E)⟩
  | n + 1 => by
    have G_l_groups := ok_groups87 T n
    refine T.F_l_groups.ok sc_l_groups (fun vs H Q E h => ?_) (fun cdv A outer s H vs Q E hr h => ?_)
    · obtain ⟨_, _, _, _, _, _, rfl, _⟩ := h; rfl
    obtain ⟨l, p, PP, first, mm, B, rfl, ⟨xs0, hl, hB⟩, hp, hF, hmn, hd, q⟩ := h
    refine ⟨_, (@pss_cons _ _ _ _ _ (@ps_set _ _ (3) _ _ _ _ sc_l_groups.nd rfl (Or.inl rfl) (@pe_lst _ _ _ _ pa_nil) (by rfl) (by first | exact .inl rfl | exact .inr rfl | assumption)) (@pss_cons _ _ _ _ _ (@ps_set _ _ (4) _ _ _ _ sc_l_groups.nd rfl (Or.inl rfl) pe_int (by rfl) (by first | exact .inl rfl | exact .inr rfl | assumption)) (@pss_cons _ _ _ _ _ (@ps_set _ _ (5) _ _ _ _ sc_l_groups.nd rfl (Or.inl rfl) pe_int (by rfl) (by first | exact .inl rfl | exact .inr rfl | assumption)) (@pss_cons _ _ _ _ _ (@ps_while _ _ _ _ _ _ PassesOwn.never (@pt_cmpR _ _ _ _ _ _ _ _ op_lt (pv 4) (@pe_callB _ _ _ _ _ _ _ _ _ call_len_seq (by rfl) T.z_len bt_len (@pa_cons _ _ _ _ _ (pv 0) pa_nil (by rfl)) (by decide) (by decide) (by rfl) (by rfl)) (@nomark _ _ (by decide) (by decide))) (@pss_cons _ _ _ _ _ (@ps_set _ _ (6) _ _ _ _ sc_l_groups.nd rfl (Or.inl rfl) (@pe_op _ _ _ _ _ _ _ _ op_add (pv 4) pe_int) (by rfl) (by first | exact .inl rfl | exact .inr rfl | assumption)) (@pss_cons _ _ _ _ _ (@ps_set _ _ (7) _ _ _ _ sc_l_groups.nd rfl (Or.inl rfl) (@pe_op _ _ _ _ _ _ _ _ op_catH (pv 1) (@pe_tup _ _ _ _ _ (@pa_cons _ _ _ _ _ (pv 5) pa_nil (by rfl)))) (by rfl) (by first | exact .inl rfl | exact .inr rfl | assumption)) (@pss_cons _ _ _ _ _ (@ps_if _ _ _ _ _ _ _ _ (@pt_cmpR _ _ _ _ _ _ _ _ op_eq (@pe_callB _ _ _ _ _ _ _ _ _ call_len_seq (by rfl) T.z_len bt_len (@pa_cons _ _ _ _ _ (@pe_ix _ _ _ _ _ _ _ ix_tup (@pe_ix _ _ _ _ _ _ _ ix_list (pv 0) (pv 4) (fun _ _ => rfl)) pe_int (fun _ _ => rfl)) pa_nil (by rfl)) (by decide) (by decide) (by rfl) (by rfl)) (@pe_callB _ _ _ _ _ _ _ _ _ call_len_seq (by rfl) T.z_len bt_len (@pa_cons _ _ _ _ _ (pv 1) pa_nil (by rfl)) (by decide) (by decide) (by rfl) (by rfl)) (@nomark _ _ (by decide) (by decide))) (@pss_one _ _ _ (@ps_expr _ _ _ _ (@pe_bm _ _ _ _ _ _ _ _ _ _ _ _ PySem.F.plainAttrs_list PySem.F.slot_list_append PySem.F.type_list_append mt_append (pv 3) (@pa_cons _ _ _ _ _ (@pe_tupq _ _ _ _ _ (@paq_cons _ _ _ _ _ (pv 7) (@paq_cons _ _ _ _ _ (@pe_op _ _ _ _ _ _ _ _ op_add (pv 2) (pv 4)) (@paq_cons _ _ _ _ _ (@pe_op _ _ _ _ _ _ _ _ op_add (pv 2) (pv 6)) (@paq_cons _ _ _ _ _ pe_bl paq_nil star_C) star_B) star_B) star_N)) pa_nil (by rfl)) (by rfl) (by rfl) (by rfl) (by rfl) (by rfl)) (by rfl))) (@pss_cons _ _ _ _ _ (@ps_while _ _ _ _ _ _ PassesOwn.never ((@pw_and _ _ _ _ _ _ _ (@pt_cmpR _ _ _ _ _ _ _ _ op_lt (pv 6) (@pe_callB _ _ _ _ _ _ _ _ _ call_len_seq (by rfl) T.z_len bt_len (@pa_cons _ _ _ _ _ (pv 0) pa_nil (by rfl)) (by decide) (by decide) (by rfl) (by rfl)) (@nomark _ _ (by decide) (by decide))) (@pw_and1 _ _ _ _ (@pt_cmpR _ _ _ _ _ _ _ _ op_gt (@pe_ix _ _ _ _ _ _ _ ix_tup (@pe_ix _ _ _ _ _ _ _ ix_list (pv 0) (pv 6) (fun _ _ => rfl)) pe_int (fun _ _ => rfl)) (@pe_callB _ _ _ _ _ _ _ _ _ call_len_seq (by rfl) T.z_len bt_len (@pa_cons _ _ _ _ _ (pv 1) pa_nil (by rfl)) (by decide) (by decide) (by rfl) (by rfl)) (@nomark _ _ (by decide) (by decide)))))).pt (@pss_one _ _ _ (@ps_set _ _ (6) _ _ _ _ sc_l_groups.nd rfl (Or.inl rfl) (@pe_op _ _ _ _ _ _ _ _ op_add (pv 6) pe_int) (by rfl) (by first | exact .inl rfl | exact .inr rfl | assumption)))) (@pss_cons _ _ _ _ _ (@ps_expr _ _ _ _ (@pe_bm _ _ _ _ _ _ _ _ _ _ _ _ PySem.F.plainAttrs_list PySem.F.slot_list_append PySem.F.type_list_append mt_append (pv 3) (@pa_cons _ _ _ _ _ (@pe_tupq _ _ _ _ _ (@paq_cons _ _ _ _ _ (pv 7) (@paq_cons _ _ _ _ _ (@pe_op _ _ _ _ _ _ _ _ op_add (pv 2) (pv 4)) (@paq_cons _ _ _ _ _ (@pe_op _ _ _ _ _ _ _ _ op_add (pv 2) (pv 6)) (@paq_cons _ _ _ _ _ pe_bl paq_nil star_C) star_B) star_B) star_N)) pa_nil (by rfl)) (by rfl) (by rfl) (by rfl) (by rfl) (by rfl)) (by rfl)) (@pss_one _ _ _ (@ps_expr _ _ _ _ (@pe_bm _ _ _ _ _ _ _ _ _ _ _ _ PySem.F.plainAttrs_list PySem.F.slot_list_extend PySem.F.type_list_extend mt_extend (pv 3) (@pa_cons _ _ _ _ _ (@pe_call _ _ _ _ _ _ _ _ _ _ _ _ _ _ _ _ G_l_groups (hr.mono (by omega)) (by rfl) T.m_l_groups T.F_l_groups.kp T.b_l_groups .nil pass0 (@pa_cons _ _ _ _ _ (@pe_slice _ _ _ _ _ _ _ _ _ _ sl_list (pv 0) (@po_some _ _ _ (pv 4)) (@po_some _ _ _ (pv 6))) (@pa_cons _ _ _ _ _ (pv 7) (@pa_cons _ _ _ _ _ (@pe_op _ _ _ _ _ _ _ _ op_add (pv 2) (pv 4)) pa_nil (by rfl)) (by rfl)) (by rfl)) (by decide) (by rfl) (by rfl)) pa_nil (by rfl)) (by rfl) (by rfl) (by rfl) (by rfl) (by rfl)) (by rfl)))))) (@pss_cons _ _ _ _ _ (@ps_set _ _ (5) _ _ _ _ sc_l_groups.nd rfl (Or.inl rfl) (@pe_op _ _ _ _ _ _ _ _ op_add (pv 5) pe_int) (by rfl) (by first | exact .inl rfl | exact .inr rfl | assumption)) (@pss_one _ _ _ (@ps_set _ _ (4) _ _ _ _ sc_l_groups.nd rfl (Or.inl rfl) (pv 6) (by rfl) (by first | exact .inl rfl | exact .inr rfl | assumption)))))))) (@pss_one _ _ _ (@ps_ret _ _ _ _ (pv 3))))))), ?_⟩
    generalize hdd : PP.length = d at hF hd q
    have xl := hB.1
    have Bl := hF.len
    refine ⟨szl (by show 0 ≤ 1000000; decide), fun it hit => ?_⟩
    have e1 := same_new hit (.lst [])
    have hit1 : (upd H it (.lst [])) it = some (.lst []) := upd_same
    dsimp only [gName]
    generalize upd H it (.lst []) = H1 at e1 hit1
    show tSeq (tWhile _ _) (tRet _) _ _ _
    refine seq_any (fun σ' H' => ∃ (xs : List V) (f : Frs) (o4 o5 o6 o7 : Option V), σ' = [some (.ref l), some (.ref p), some (.int (first : Int)), some (.ref it), o4, o5, o6, o7] ∧ Same H H' ∧ H' it = some (.lst xs) ∧ All2 (GpAt H') xs (Fo.gr f PP 0 first) ∧ Fo.Is f B d ∧ xs.length ≤ B.length * (mm + 1)) (fun σ' H' pp => ?_) (fun nx => ?_)
    · obtain ⟨xs, f, o4, o5, o6, o7, rfl, e, hx, hf, hI, xsl⟩ := pp
      exact ⟨_, rfl, q it _ f e hit ⟨xs, hx, hf⟩ hI (by rw [← hf.1]; exact xsl)⟩
    refine while_ix (B.length + 1) (fun j σ' H' => ∃ (at' : Nat) (xs : List V) (f : Frs) (o6 o7 : Option V), σ' = [some (.ref l), some (.ref p), some (.int (first : Int)), some (.ref it), some (.int (at' : Int)), some (.int (Fo.cnt f : Int)), o6, o7] ∧ Same H H' ∧ H' it = some (.lst xs) ∧ All2 (GpAt H') xs (Fo.gr f PP 0 first) ∧ Fo.Is f (B.take at') d ∧ at' ≤ B.length ∧ j ≤ at' ∧ xs.length ≤ at' * (mm + 1) ∧ Fo.cnt f ≤ at' ∧ (0 < at' → ∀ c, B[at']? = some c → c.sh = d)) ⟨0, [], .nil, none, none, rfl, e1, hit1, .nil, rfl, Nat.zero_le _, Nat.le_refl _, Nat.zero_le _, Nat.le_refl _, fun z => absurd z (Nat.lt_irrefl _)⟩ (fun j σ' H' hj pp => ?_) (MT.test (ME.op (MR.i0 _) (ME.var _) (ME.cb MB.len (MA.cons (ME.var _) MA.nil))))
    obtain ⟨at', xs, f, o6, o7, rfl, e, hx, hf, hI, hat, hja, xsl, cfl, hhd⟩ := pp
    have hl' := e _ _ hl
    refine ⟨_, rfl, _, rfl, l, _, rfl, .inl (SqL.of hl'), _, _, rfl, rfl, _, rfl, ?_⟩
    refine ite2 (fun c => ?_) (fun c => ?_)
    rotate_left
    · have c := dF c
      have : at' = B.length := by omega
      subst this
      rw [List.take_length] at hI
      exact nx _ _ ⟨xs, f, _, _, _, _, rfl, e, hx, hf, hI, xsl⟩
    have c := dT c
    have hlt : at' < B.length := by rw [xl] at c; exact Int.ofNat_lt.mp c
    refine ⟨by omega, ?_⟩
    have Ba : B[at']? = some B[at'] := List.getElem?_eq_getElem hlt
    generalize hb : B[at'] = b at Ba
    obtain ⟨x0, hx0, hbo⟩ := hB.get Ba
    obtain ⟨t, w0, p0, rfl, ht, ⟨wx, hw, haw⟩, ⟨px, hpx, hap⟩⟩ := hbo.over e
    have at0 : atI xs0 (at' : Int) = some (.ref t) := atI_nat hx0
    have wxl := haw.1
    have memb : b ∈ B := List.mem_of_getElem? Ba
    have szf : Fo.sz f = at' := by rw [← Fo.is_len f _ d hI, List.length_take]; omega
    refine ⟨_, rfl, _, _, rfl, rfl, ?_⟩
    dsimp only [gName]
    refine ⟨_, rfl, _, rfl, szl (by show 1 ≤ 1000000; decide), fun t1 ht1 => ?_⟩
    have s3 := same_new ht1 (.tup [V.int (Fo.cnt f : Int)])
    refine ⟨p, t1, _, [V.int (Fo.cnt f : Int)], rfl, rfl, s3 _ _ (e _ _ hp), upd_same, szl (by rw [List.length_map, List.length_singleton]; omega), fun he H3 e3 hhe => ?_⟩
    have hhe : H3 he = some (.tup ((PP ++ [(Fo.cnt f : Int)]).map V.int)) := by rw [List.map_append]; exact hhe
    have e23 := s3.trans e3
    have e := e.trans e23
    have hx := e23 _ _ hx
    have hf := hf.mono fun _ _ z => GpAt.over z e23
    have hl' := e23 _ _ hl'
    have ht := e23 _ _ ht
    have hw := e23 _ _ hw
    have hp' := e _ _ hp
    clear s3 e3 e23 hbo
    dsimp only [gName]
    refine seq_any (fun σ' H' => ∃ (m : Nat) (xs : List V) (f : Frs) (o7 : Option V) (cf : Nat), σ' = [some (.ref l), some (.ref p), some (.int (first : Int)), some (.ref it), some (.int (at' : Int)), some (.int (cf : Int)), some (.int (m : Int)), o7] ∧ Same H H' ∧ H' it = some (.lst xs) ∧ All2 (GpAt H') xs (Fo.gr f PP 0 first) ∧ Fo.Is f (B.take m) d ∧ at' < m ∧ m ≤ B.length ∧ xs.length ≤ m * (mm + 1) ∧ Fo.cnt f = cf + 1 ∧ cf + 1 ≤ m ∧ (∀ c, B[m]? = some c → c.sh = d)) (fun σ' H2 pp => ?_) (fun nx2 => ?_)
    · obtain ⟨m, xs2, f2, o7', cf, rfl, e2, hx2, hf2, hI2, hm1, hm2, xl2, ecf, cfm, hh2⟩ := pp
      exact ⟨_, rfl, _, _, rfl, rfl, _, rfl, m, xs2, f2, some (.int (m : Int)), o7', by rw [ecf]; rfl, e2, hx2, hf2, hI2, hm2, by omega, xl2, by omega, fun _ => hh2⟩
    refine ⟨_, rfl, _, rfl, l, _, _, _, rfl, rfl, SqL.of hl', at0, t, _, 2, _, rfl, rfl, SqT.of ht, rfl, w0, _, rfl, .inl (SqL.of hw), _, rfl, p, _, rfl, .inr (SqT.of hp'), rfl, _, rfl, ?_⟩
    rw [wxl, List.length_map, hdd]
    by_cases cd : b.ways.length = d
    · refine iteE (v := true) (decide_eq_true (congrArg (fun n : Nat => V.int (n : Int)) cd)) (iteT ?_)
      refine ⟨_, rfl, .inl ⟨rfl, _, SqL.of hx⟩, _, rfl, _, rfl, _, rfl, _, _, rfl, rfl, _, rfl, _, rfl, _, _, rfl, rfl, szl (by show 4 ≤ 1000000; decide), fun r hr => ?_⟩
      have s1 := same_new hr (.tup [V.ref he, V.int ((first : Int) + (at' : Int)), V.int ((first : Int) + ((at' : Int) + 1)), V.bl false])
      have hr1 : (upd H3 r (.tup [V.ref he, V.int ((first : Int) + (at' : Int)), V.int ((first : Int) + ((at' : Int) + 1)), V.bl false])) r = some (.tup [V.ref he, V.int ((first : Int) + (at' : Int)), V.int ((first : Int) + ((at' : Int) + 1)), V.bl false]) := upd_same
      generalize upd H3 r (.tup [V.ref he, V.int ((first : Int) + (at' : Int)), V.int ((first : Int) + ((at' : Int) + 1)), V.bl false]) = H4 at s1 hr1
      have hx4 := s1 _ _ hx
      have m1 : at' * (mm + 1) ≤ 6 * 12 := Nat.mul_le_mul (by omega) (by omega)
      refine ⟨it, _, _, rfl, rfl, hx4, szlt (by omega), ?_⟩
      have tk : TK H4 (upd H4 it (.lst (xs ++ [V.ref r]))) := TK.upd hx4
      have g1 : GpAt (upd H4 it (.lst (xs ++ [V.ref r]))) (.ref r) (PP ++ [0 + (Fo.cnt f : Int)], first + Fo.sz f, first + Fo.sz f + 1, false) := by
        refine ⟨r, he, rfl, ?_, ?_⟩
        · rw [tk _ _ hr1, szf]
          congr 3
        · rw [Int.zero_add]
          exact tk _ _ (s1 _ _ hhe)
      refine nx2 _ _ ⟨at' + 1, xs ++ [.ref r], Fo.app f (.leaf b.k b.pl .nil), _, Fo.cnt f, rfl, fun a o ha => by rw [upd_ne (ne_of_none ha hit)]; exact s1 _ _ (e _ _ ha), upd_same, ?_, ?_, Nat.lt_succ_self _, hlt, by rw [List.length_append, List.length_singleton, Nat.add_mul]; omega, by rw [Fo.cnt_app]; rfl, by omega, fun c hc => ?_⟩
      · rw [Fo.gr_app]
        exact (hf.mono fun _ _ z => (GpAt.over z s1).tk tk).snoc g1
      · rw [take_snoc Ba]
        refine is_app hI (Fo.Is.leaf1 cd) (fun z c hc => ?_)
        cases hc
        exact hhd (by rcases Nat.eq_zero_or_pos at' with z0 | z0; exact absurd (by rw [z0]; rfl) z; exact z0) b Ba
      · have h1 := (hF.ok.ln at' b c Ba hc).1
        have h2 := hF.sh at' c hc
        omega
    · refine iteE (v := false) (decide_eq_false fun z => cd (ninj30 z)) (iteF ?_)
      have hlo := hF.lo b memb
      have hhi := hF.hi b memb
      obtain ⟨mn, rfl⟩ : ∃ k, mm = k + 1 := ⟨mm - 1, by omega⟩
      refine seq_any (fun σ' H2 => H2 = H3 ∧ ∃ (m : Nat), σ' = [some (.ref l), some (.ref p), some (.int (first : Int)), some (.ref it), some (.int (at' : Int)), some (.int (Fo.cnt f : Int)), some (.int (m : Int)), some (.ref he)] ∧ at' < m ∧ m ≤ B.length ∧ (∀ i c, at' < i → i < m → B[i]? = some c → d < c.sh) ∧ (∀ c, B[m]? = some c → c.sh ≤ d)) (fun σ' H2 pp => ?_) (fun nx3 => ?_)
      rotate_left
      · refine while_ix B.length (fun j σ' H2 => H2 = H3 ∧ ∃ (m : Nat), σ' = [some (.ref l), some (.ref p), some (.int (first : Int)), some (.ref it), some (.int (at' : Int)), some (.int (Fo.cnt f : Int)), some (.int (m : Int)), some (.ref he)] ∧ m = at' + 1 + j ∧ m ≤ B.length ∧ (∀ i c, at' < i → i < m → B[i]? = some c → d < c.sh)) ⟨rfl, at' + 1, rfl, rfl, hlt, fun i c h1 h2 => absurd h2 (Nat.not_lt.mpr h1)⟩ (fun j σ' H2 hj pp => ?_) (MT.and (MT.test (ME.op (MR.i0 _) (ME.var _) (ME.cb MB.len (MA.cons (ME.var _) MA.nil)))) (MT.test (ME.op (MR.i0 _) (ME.op (MR.ixT _) (ME.op (MR.ixL _) (ME.var _) (ME.var _)) (ME.c _)) (ME.cb MB.len (MA.cons (ME.var _) MA.nil)))))
        obtain ⟨rfl, m, rfl, hm, hmB, hG⟩ := pp
        refine ⟨_, rfl, _, rfl, l, _, rfl, .inl (SqL.of hl'), _, _, rfl, rfl, _, rfl, ?_⟩
        refine ite2 (fun c => ?_) (fun c => nx3 _ _ ⟨rfl, m, rfl, by omega, hmB, hG, fun c' hc' => ?_⟩)
        · have c := dT c
          have hmlt : m < B.length := by rw [xl] at c; exact Int.ofNat_lt.mp c
          have Bm : B[m]? = some B[m] := List.getElem?_eq_getElem hmlt
          obtain ⟨x1, hx1, hbo1⟩ := hB.get Bm
          obtain ⟨t1, w1, p1, rfl, ht1, _, _⟩ := hbo1.over e
          refine ⟨_, rfl, _, rfl, l, _, _, _, rfl, rfl, SqL.of hl', atI_nat hx1, t1, _, 1, _, rfl, rfl, SqT.of ht1, rfl, _, rfl, p, _, rfl, .inr (SqT.of hp'), _, _, rfl, rfl, _, rfl, ?_⟩
          rw [List.length_map, hdd]
          refine ite2 (fun c => ?_) (fun c => nx3 _ _ ⟨rfl, m, rfl, by omega, hmB, hG, fun c' hc' => ?_⟩)
          · have c := dT c
            refine ⟨by omega, _, rfl, _, _, rfl, rfl, rfl, m + 1, rfl, by omega, hmlt, fun i c' h1 h2 h3 => ?_⟩
            by_cases z : i = m
            · subst z
              rw [Bm] at h3
              cases h3
              omega
            · exact hG i c' h1 (by omega) h3
          · have c := dF c
            rw [Bm] at hc'
            cases hc'
            omega
        · have c := dF c
          have := (List.getElem?_eq_some_iff.mp hc').1
          omega
      obtain ⟨rfl, m, rfl, hm1, hm2, hG, hend⟩ := pp
      have hwd : d < b.ways.length := Nat.lt_of_le_of_ne hlo (Ne.symm cd)
      have Wd : b.ways[d]? = some b.ways[d] := List.getElem?_eq_getElem hwd
      refine ⟨_, rfl, .inl ⟨rfl, _, SqL.of hx⟩, _, rfl, _, rfl, _, rfl, _, _, rfl, rfl, _, rfl, _, rfl, _, _, rfl, rfl, szl (by show 4 ≤ 1000000; decide), fun r hr => ?_⟩
      have s1 := same_new hr (.tup [V.ref he, V.int ((first : Int) + (at' : Int)), V.int ((first : Int) + (m : Int)), V.bl true])
      have hr1 : (upd H2 r (.tup [V.ref he, V.int ((first : Int) + (at' : Int)), V.int ((first : Int) + (m : Int)), V.bl true])) r = some (.tup [V.ref he, V.int ((first : Int) + (at' : Int)), V.int ((first : Int) + (m : Int)), V.bl true]) := upd_same
      generalize upd H2 r (.tup [V.ref he, V.int ((first : Int) + (at' : Int)), V.int ((first : Int) + (m : Int)), V.bl true]) = H4 at s1 hr1
      have hx4 := s1 _ _ hx
      have m1 : at' * (mn + 1 + 1) ≤ 6 * 12 := Nat.mul_le_mul (by omega) (by omega)
      refine ⟨it, _, _, rfl, rfl, hx4, szlt (by omega), ?_⟩
      have tk : TK H4 (upd H4 it (.lst (xs ++ [V.ref r]))) := TK.upd hx4
      have e4 : Same H (upd H4 it (.lst (xs ++ [V.ref r]))) := fun a o ha => by rw [upd_ne (ne_of_none ha hit)]; exact s1 _ _ (e _ _ ha)
      have hx5 : (upd H4 it (.lst (xs ++ [V.ref r]))) it = some (.lst (xs ++ [V.ref r])) := upd_same
      have hhe5 := tk _ _ (s1 _ _ hhe)
      have hr5 := tk _ _ hr1
      have hf5 := hf.mono fun _ _ z => (GpAt.over z s1).tk tk
      generalize upd H4 it (.lst (xs ++ [V.ref r])) = H5 at tk e4 hx5 hhe5 hr5 hf5
      have hl5 := e4 _ _ hl
      have cy : cutV xs0 (some (at' : Int)) (some (m : Int)) = (xs0.drop at').take (m - at') := by
        have : cutV xs0 (some (at' : Int)) (some (m : Int)) = (xs0.drop (at' : Int).toNat).take ((m : Int).toNat - (at' : Int).toNat) := cut_mid xs0 (Int.natCast_nonneg _) (Int.natCast_nonneg _) (by rw [xl]; exact Int.ofNat_le.mpr hm2) (Int.ofNat_le.mpr (Nat.le_of_lt hm1))
        rw [this, Int.toNat_natCast, Int.toNat_natCast]
      refine ⟨_, rfl, .inl ⟨rfl, _, SqL.of hx5⟩, _, rfl, _, rfl, _, rfl, _, rfl, _, rfl, l, _, rfl, SqL.of hl5, fun sl hsl => ?_⟩
      have s6 := same_new hsl (.lst (cutV xs0 (some (at' : Int)) (some (m : Int))))
      have hsl6 : (upd H5 sl (.lst (cutV xs0 (some (at' : Int)) (some (m : Int))))) sl = some (.lst ((xs0.drop at').take (m - at'))) := by rw [← cy]; exact upd_same
      generalize upd H5 sl (.lst (cutV xs0 (some (at' : Int)) (some (m : Int)))) = H6 at s6 hsl6
      have ll : (PP ++ [(Fo.cnt f : Int)]).length = d + 1 := by rw [List.length_append, hdd]; rfl
      have fg : From ((B.drop at').take (m - at')) (PP ++ [(Fo.cnt f : Int)]).length mn := by rw [ll]; exact hF.group Ba cd hm1 hG
      refine ⟨_, rfl, _, rfl, _, rfl, _, _, rfl, rfl, sl, he, PP ++ [(Fo.cnt f : Int)], first + at', mn, (B.drop at').take (m - at'), ?_, ⟨_, hsl6, ((hB.mono fun x v z => z.over (e4.trans s6)).drop at').take (m - at')⟩, s6 _ _ hhe5, fg, by omega, by omega, fun r2 H7 f' e7 nr2 hf7 hI' lI => ?_⟩
      · rw [Int.natCast_add]
        rfl
      rw [ll] at hI'
      have e67 := s6.trans e7
      obtain ⟨zs, hz, az⟩ := hf7
      have hx7 := e67 _ _ hx5
      have sz' : Fo.sz f' = m - at' := by rw [← Fo.is_len f' _ _ hI', List.length_take, List.length_drop]; omega
      have zl := az.1
      have lgr : ((B.drop at').take (m - at')).length = m - at' := by rw [List.length_take, List.length_drop]; omega
      rw [lgr] at lI
      have lI2 : (m - at') * (mn + 1) ≤ 6 * 12 := Nat.mul_le_mul (by omega) (by omega)
      refine ⟨it, r2, _, _, rfl, rfl, hx7, hz, szl (by rw [List.length_append, List.length_singleton]; omega), ?_⟩
      have tk7 : TK H7 (upd H7 it (.lst (xs ++ [V.ref r] ++ zs))) := TK.upd hx7
      have g1 : GpAt (upd H7 it (.lst (xs ++ [V.ref r] ++ zs))) (.ref r) (PP ++ [0 + (Fo.cnt f : Int)], first + Fo.sz f, first + Fo.sz f + Fo.sz f', true) := by
        refine ⟨r, he, rfl, ?_, ?_⟩
        · rw [tk7 _ _ (e67 _ _ hr5), szf, sz']
          show some (HO.tup [V.ref he, V.int ((first : Int) + (at' : Int)), V.int ((first : Int) + (m : Int)), V.bl true]) = some (HO.tup [V.ref he, V.int ((first + at' : Nat) : Int), V.int ((first + at' + (m - at') : Nat) : Int), V.bl true])
          rw [show ((first + at' + (m - at') : Nat) : Int) = (first : Int) + (m : Int) by omega, Int.natCast_add]
        · rw [Int.zero_add]
          exact tk7 _ _ (e67 _ _ hhe5)
      have mul : m * (mn + 1 + 1) = at' * (mn + 1 + 1) + (m - at') * (mn + 1 + 1) := by rw [← Nat.add_mul]; congr 1; omega
      have mul2 : (m - at') * (mn + 1 + 1) = (m - at') * (mn + 1) + (m - at') := Nat.mul_succ _ _
      refine nx2 _ _ ⟨m, xs ++ [.ref r] ++ zs, Fo.app f (.node (b.ways[d]).1 (b.ways[d]).2 f' .nil), _, Fo.cnt f, rfl, fun a o ha => by rw [upd_ne (ne_of_none ha hit)]; exact e67 _ _ (e4 _ _ ha), upd_same, ?_, ?_, hm1, hm2, by rw [List.length_append, List.length_append, List.length_singleton, zl]; omega, by rw [Fo.cnt_app]; rfl, by omega, fun c hc => ?_⟩
      · rw [Fo.gr_app]
        show All2 _ _ (Fo.gr f PP 0 first ++ (_ :: (Fo.gr f' (PP ++ [0 + (Fo.cnt f : Int)]) 0 (first + Fo.sz f) ++ [])))
        rw [List.append_nil, Int.zero_add, szf]
        rw [Int.zero_add, szf] at g1
        have e0 : xs ++ [V.ref r] ++ zs = xs ++ V.ref r :: zs := by rw [List.append_assoc]; rfl
        have kk := (hf5.mono fun _ _ z => (GpAt.over z e67).tk tk7).app (All2.cons g1 (az.mono fun _ _ z => z.tk tk7))
        rw [← e0] at kk
        exact kk
      · rw [← take_slice B (Nat.le_of_lt hm1)]
        have sl1 : (B.drop at').take (m - at') = b :: (B.drop (at' + 1)).take (m - at' - 1) := by
          rw [List.drop_eq_getElem_cons hlt, hb]
          obtain ⟨k, hk⟩ : ∃ k, m - at' = k + 1 := ⟨m - at' - 1, by omega⟩
          rw [hk]
          rfl
        rw [sl1] at hI' ⊢
        refine is_app hI (Fo.Is.node1 Wd (fun c hc => ?_) hI') (fun z c hc => ?_)
        · obtain ⟨i, hi⟩ := List.mem_iff_getElem?.mp hc
          have l2 := (List.getElem?_eq_some_iff.mp hi).1
          rw [List.length_take] at l2
          rw [List.getElem?_take_of_lt (by omega), List.getElem?_drop] at hi
          exact hG (at' + 1 + i) c (by omega) (by omega) hi
        · cases hc
          exact hhd (by rcases Nat.eq_zero_or_pos at' with z0 | z0; exact absurd (by rw [z0]; rfl) z; exact z0) b Ba
      · have h1 := hend c hc
        have h2 := hF.sh (m - 1) c (by rw [show m - 1 + 1 = m by omega]; exact hc)
        omega

theorem ok_at87 (T : Tx w K mg a) : FnOk P w K mg base CX0 1 a.f_l_at a.d_l_at ["_law_groups_here", "_law_path_here"] spAt87 := by
  refine T.F_l_at.ok sc_l_at (fun vs H Q E h => ?_) (fun cdv A outer s H vs Q E hr h => ?_)
  · obtain ⟨_, _, _, _, rfl, _⟩ := h; rfl
  obtain ⟨g, p, G, PP, rfl, ⟨xs, hg, ax⟩, hp, q⟩ := h
  refine ⟨_, (@pss_cons _ _ _ _ _ (@ps_for _ _ _ _ _ _ _ _ PassesOwn.never rfl (@pi_list _ _ _ _ (pv 0)) (pg_name (i := 2) sc_l_at.nd rfl (Or.inl rfl)) (@pss_one _ _ _ (@ps_if _ _ _ _ _ _ _ _ (@pt_cmpR _ _ _ _ _ _ _ _ (@op_eqS _ (@hu64 _ _ hr)) (@pe_ix _ _ _ _ _ _ _ ix_tup (pv 2) pe_int (fun _ _ => rfl)) (pv 1) (@nomark _ _ (by decide) (by decide))) (@pss_one _ _ _ (@ps_ret _ _ _ _ (pv 2))) pss_nil)) (by intro _ ; rfl)) (@pss_one _ _ _ (@ps_ret _ _ _ _ (@pe_tupq _ _ _ _ _ (@paq_cons _ _ _ _ _ (pv 1) (@paq_cons _ _ _ _ _ pe_int (@paq_cons _ _ _ _ _ pe_int (@paq_cons _ _ _ _ _ pe_bl paq_nil star_C) star_C) star_C) star_N))))), ?_⟩
  refine ⟨_, rfl, g, rfl, ⟨_, SqL.of hg⟩, ?_⟩
  refine for_list (xs := xs) (fun i σ' H' => H' = H ∧ (∃ o2, σ' = [some (.ref g), some (.ref p), o2]) ∧ ∀ j x, j < i → G[j]? = some x → x.1 ≠ PP) ⟨rfl, ⟨_, rfl⟩, fun j x hj => absurd hj (Nat.not_lt_zero _)⟩ (fun i σ' H' _ pp => by rw [pp.1]; exact SqL.of hg) (fun i x σ' H' hx pp => ?_) (fun σ' H' pp => ?_)
  · obtain ⟨rfl, ⟨o2, rfl⟩, hb⟩ := pp
    obtain ⟨gg, hgg, t, pp, rfl, ht, hpp⟩ := ax.get' hx
    dsimp only [gName]
    have tr1 : TrIs K H' (.ref pp) (.tup (gg.1.map intT)) := tup_ints hpp
    have tr2 : TrIs K H' (.ref p) (.tup (PP.map intT)) := tup_ints hp
    refine ⟨_, rfl, t, _, 0, _, rfl, rfl, SqT.of ht, rfl, _, rfl, _, _, tr1, tr2, ⟨_, rfl⟩, ⟨_, rfl⟩, simT_ints _ _, depT_ints _, _, rfl, ?_⟩
    rw [if_neg Bool.false_ne_true, eqT_ints]
    refine ite2 (fun c => ?_) (fun c => ?_)
    · have c := dT c
      refine ⟨_, rfl, q _ _ (Same.refl _) ?_⟩
      unfold atG
      rw [fnd_at hgg c hb]
      exact ⟨t, pp, rfl, ht, hpp⟩
    · have c := dF c
      refine ⟨rfl, ⟨_, rfl⟩, fun j x hj hx' => ?_⟩
      rcases Nat.lt_succ_iff_lt_or_eq.mp hj with z | z
      · exact hb j x z hx'
      · subst z
        rw [hgg] at hx'
        cases hx'
        exact c
  · obtain ⟨rfl, ⟨o2, rfl⟩, hb⟩ := pp
    refine ⟨_, rfl, szl (by show 4 ≤ 1000000; decide), fun r hr => q _ _ (same_new hr _) ?_⟩
    unfold atG
    rw [Fo.fnd_none fun x hx => ?_]
    · exact ⟨r, p, rfl, upd_same, (same_new hr _) _ _ hp⟩
    · obtain ⟨j, hj⟩ := List.mem_iff_getElem?.mp hx
      exact hb j x (by rw [ax.1]; exact (List.getElem?_eq_some_iff.mp hj).1) hj

theorem ok_put87 (T : Tx w K mg a) : ∀ n : Nat, FnOk P w K mg base CX0 (n + 1) a.f_put_at a.d_put_at ["items", "path", "many", "others"] (spPut87 n)
  | 0 => by
    have no : ∀ vs H Q E, ¬ spPut87 0 vs H Q E := fun vs H Q E h => by
      obtain ⟨it, pa, ot, f, o, path, m, N, x, _, _, _, _, hk, hn, _⟩ := h
      cases path with
      | nil => rw [Fo.lk_nil] at hk; cases hk
      | cons j q => simp at hn
    exact ⟨fun vs H Q E h => absurd h (no vs H Q E), fun A outer s H args us vs Q E _ _ _ _ h => absurd h (no vs H Q E)⟩
  | n + 1 => by
    have G_put_at := ok_put87 T n
    refine T.F_put_at.ok sc_put_at (fun vs H Q E h => ?_) (fun cdv A outer s H vs Q E hr h => ?_)
    · obtain ⟨_, _, _, _, _, _, _, _, _, rfl, _⟩ := h; rfl
    obtain ⟨it, pa, ot, f, o, path, m, N, x, rfl, ⟨xs, hit, hf⟩, hpa, ⟨os, hot, ho⟩, hk, hn, h100, hw, hco, q⟩ := h
    cases path with
    | nil => rw [Fo.lk_nil] at hk; cases hk
    | cons j qq =>
      obtain ⟨k, rfl, hkc, hq⟩ := Fo.lk_step f N j qq x hk
      have xl := hf.len
      have ol := ho.len
      have cw := cnt_wid f
      rw [List.length_cons] at hn h100
      refine ⟨_, (@pss_cons _ _ _ _ _ (@ps_set _ _ (4) _ _ _ _ sc_put_at.nd rfl (Or.inl rfl) (@pe_ix _ _ _ _ _ _ _ ix_tup (pv 1) pe_int (fun _ _ => rfl)) (by rfl) (by first | exact .inl rfl | exact .inr rfl | assumption)) (@pss_cons _ _ _ _ _ (@ps_if _ _ _ _ _ _ _ _ (@pt_cmpR _ _ _ _ _ _ _ _ op_eq (@pe_callB _ _ _ _ _ _ _ _ _ call_len_seq (by rfl) T.z_len bt_len (@pa_cons _ _ _ _ _ (pv 1) pa_nil (by rfl)) (by decide) (by decide) (by rfl) (by rfl)) pe_int (@nomark _ _ (by decide) (by decide))) (@pss_one _ _ _ (@ps_ret _ _ _ _ (@pe_op _ _ _ _ _ _ _ _ op_catH (@pe_op _ _ _ _ _ _ _ _ op_catH (@pe_slice _ _ _ _ _ _ _ _ _ _ sl_tupH (pv 0) po_none (@po_some _ _ _ (pv 4))) (pv 3)) (@pe_slice _ _ _ _ _ _ _ _ _ _ sl_tupH (pv 0) (@po_some _ _ _ (@pe_op _ _ _ _ _ _ _ _ op_add (pv 4) (pv 2))) po_none)))) pss_nil) (@pss_cons _ _ _ _ _ (@ps_set _ _ (5) _ _ _ _ sc_put_at.nd rfl (Or.inl rfl) (@pe_call _ _ _ _ _ _ _ _ _ _ _ _ _ _ _ _ G_put_at (hr.mono (by omega)) (by rfl) T.m_put_at T.F_put_at.kp T.b_put_at .nil pass0 (@pa_cons _ _ _ _ _ (@pe_ix _ _ _ _ _ _ _ ix_tup (@pe_ix _ _ _ _ _ _ _ ix_tup (pv 0) (pv 4) (fun _ _ => rfl)) pe_int (fun _ _ => rfl)) (@pa_cons _ _ _ _ _ (@pe_slice _ _ _ _ _ _ _ _ _ _ sl_tupH (pv 1) (@po_some _ _ _ pe_int) po_none) (@pa_cons _ _ _ _ _ (pv 2) (@pa_cons _ _ _ _ _ (pv 3) pa_nil (by rfl)) (by rfl)) (by rfl)) (by rfl)) (by decide) (by rfl) (by rfl)) (by rfl) (by first | exact .inl rfl | exact .inr rfl | assumption)) (@pss_one _ _ _ (@ps_ret _ _ _ _ (@pe_op _ _ _ _ _ _ _ _ op_catH (@pe_op _ _ _ _ _ _ _ _ op_catH (@pe_slice _ _ _ _ _ _ _ _ _ _ sl_tupH (pv 0) po_none (@po_some _ _ _ (pv 4))) (@pe_tup _ _ _ _ _ (@pa_cons _ _ _ _ _ (@pe_tupq _ _ _ _ _ (@paq_cons _ _ _ _ _ pe_str (@paq_cons _ _ _ _ _ (@pe_ix _ _ _ _ _ _ _ ix_tup (@pe_ix _ _ _ _ _ _ _ ix_tup (pv 0) (pv 4) (fun _ _ => rfl)) pe_int (fun _ _ => rfl)) (@paq_cons _ _ _ _ _ (@pe_ix _ _ _ _ _ _ _ ix_tup (@pe_ix _ _ _ _ _ _ _ ix_tup (pv 0) (pv 4) (fun _ _ => rfl)) pe_int (fun _ _ => rfl)) (@paq_cons _ _ _ _ _ (pv 5) paq_nil star_N) star_S) star_S) star_C)) pa_nil (by rfl)))) (@pe_slice _ _ _ _ _ _ _ _ _ _ sl_tupH (pv 0) (@po_some _ _ _ (@pe_op _ _ _ _ _ _ _ _ op_add (pv 4) pe_int)) po_none))))))), ?_⟩
      refine ⟨_, rfl, pa, _, 0, _, rfl, rfl, SqT.of hpa, (show atI (((k : Int) :: qq).map V.int) ((0 : Nat) : Int) = some (.int (k : Int)) from atI_nat rfl), ?_⟩
      dsimp only [gName]
      refine ⟨_, rfl, pa, _, rfl, .inr (SqT.of hpa), rfl, _, rfl, ?_⟩
      by_cases cq : qq = []
      · subst cq
        refine iteE (v := true) (decide_eq_true rfl) (iteT ?_)
        refine ⟨_, rfl, _, rfl, _, rfl, it, xs, rfl, hit, fun p1 H1 e1 h1 => ?_⟩
        rw [cutTo (by omega)] at h1
        refine ⟨_, rfl, p1, ot, _, _, rfl, rfl, h1, e1 _ _ hot, szl (by rw [List.length_take]; omega), fun p2 H2 e2 h2 => ?_⟩
        have e12 := e1.trans e2
        refine ⟨_, rfl, _, rfl, _, rfl, _, _, rfl, rfl, _, rfl, it, xs, rfl, e12 _ _ hit, fun p3 H3 e3 h3 => ?_⟩
        have h3 : H3 p3 = some (.tup (xs.drop (k + m))) := by
          rw [h3, show (k : Int) + (m : Int) = ((k + m : Nat) : Int) from rfl, cutFrom]
        refine ⟨p2, p3, _, _, rfl, rfl, e3 _ _ h2, h3, szl (by rw [List.length_append, List.length_take, List.length_drop]; omega), fun p4 H4 e4 h4 => ?_⟩
        have e14 := e12.trans (e3.trans e4)
        refine q p4 _ e14 ⟨_, h4, ?_⟩
        rw [Fo.pt_one f k m o hkc, List.append_assoc]
        exact FoAt.over e14 ((hf.take k).app (ho.app (hf.drop (k + m))))
      obtain ⟨c, w', s', n', hdr, hk'⟩ := hq.resolve_left cq
      cases qq with
      | nil => exact absurd rfl cq
      | cons i q' =>
        refine iteE (v := false) (decide_eq_false fun z => ?_) (iteF ?_)
        · have := V.int.inj z
          rw [List.length_map, List.length_cons, List.length_cons] at this
          omega
        dsimp only [tNext]
        have hfd := hf.drop k
        rw [hdr] at hfd
        obtain ⟨t, p, zs, ys, exs, ht, hp, hsub, hys⟩ := hfd
        have hxk : xs[k]? = some (.ref t) := by
          have : (xs.drop k)[0]? = some (.ref t) := by rw [exs]; rfl
          rw [List.getElem?_drop] at this
          exact this
        have eys : ys = xs.drop (k + 1) := by
          rw [← List.drop_drop, exs]
          rfl
        have at0 : atI xs (k : Int) = some (.ref t) := atI_nat hxk
        have ws : wid s' ≤ 100 := by
          have := wid_dr k f
          rw [hdr] at this
          have : wid s' + wid (Fo.dr (k + 1) f) + 1 ≤ wid f := this
          omega
        refine ⟨_, rfl, _, rfl, it, _, _, _, rfl, rfl, SqT.of hit, at0, t, _, 3, _, rfl, rfl, SqT.of ht, rfl, _, rfl, _, rfl, pa, _, rfl, hpa, fun p1 H1 e1 h1 => ?_⟩
        have h1 : H1 p1 = some (.tup ((i :: q').map V.int)) := by
          rw [h1, show (1 : Int) = ((1 : Nat) : Int) from rfl, cutFrom]
          rfl
        refine ⟨_, rfl, _, rfl, p, p1, ot, s', o, i :: q', m, n', x, rfl, ⟨zs, e1 _ _ hp, FoAt.over e1 hsub⟩, h1, ⟨os, e1 _ _ hot, FoAt.over e1 ho⟩, hk', by omega, by omega, ws, hco, fun r H2 e2 hr2 => ?_⟩
        have e12 := e1.trans e2
        dsimp only [gName]
        refine ⟨_, rfl, _, rfl, _, rfl, it, xs, rfl, e12 _ _ hit, fun p3 H3 e3 h3 => ?_⟩
        rw [cutTo (by omega)] at h3
        have e13 := e12.trans e3
        refine ⟨_, rfl, _, rfl, it, _, _, _, rfl, rfl, SqT.of (e13 _ _ hit), at0, t, _, 1, _, rfl, rfl, SqT.of (e13 _ _ ht), rfl, _, rfl, _, rfl, it, _, _, _, rfl, rfl, SqT.of (e13 _ _ hit), at0, t, _, 2, _, rfl, rfl, SqT.of (e13 _ _ ht), rfl, _, rfl, szl (by show 4 ≤ 1000000; decide), fun t4 ht4 => ⟨szl (by show 1 ≤ 1000000; decide), fun t5 ht5 => ?_⟩⟩
        have s45 := (same_new ht4 (.tup [V.str "sweep", V.bl c, V.str w', V.ref r])).trans (same_new ht5 (.tup [V.ref t4]))
        have h44 : (upd (upd H3 t4 (.tup [V.str "sweep", V.bl c, V.str w', V.ref r])) t5 (.tup [V.ref t4])) t4 = some (.tup [V.str "sweep", V.bl c, V.str w', V.ref r]) := (same_new ht5 _) _ _ upd_same
        have h55 : (upd (upd H3 t4 (.tup [V.str "sweep", V.bl c, V.str w', V.ref r])) t5 (.tup [V.ref t4])) t5 = some (.tup [V.ref t4]) := upd_same
        generalize upd (upd H3 t4 (.tup [V.str "sweep", V.bl c, V.str w', V.ref r])) t5 (.tup [V.ref t4]) = H5 at s45 h44 h55
        refine ⟨p3, t5, _, _, rfl, rfl, s45 _ _ h3, h55, szl (by rw [List.length_take, List.length_singleton]; omega), fun p6 H6 e6 h6 => ?_⟩
        have e16 := e13.trans (s45.trans e6)
        refine ⟨_, rfl, _, rfl, _, _, rfl, rfl, _, rfl, it, xs, rfl, e16 _ _ hit, fun p7 H7 e7 h7 => ?_⟩
        have h7 : H7 p7 = some (.tup (xs.drop (k + 1))) := by
          rw [h7, show (k : Int) + 1 = ((k + 1 : Nat) : Int) from rfl, cutFrom]
        refine ⟨p6, p7, _, _, rfl, rfl, e7 _ _ h6, h7, szl (by rw [List.length_append, List.length_take, List.length_singleton, List.length_drop]; omega), fun p8 H8 e8 h8 => ?_⟩
        have e68 := e6.trans (e7.trans e8)
        have e18 := e16.trans (e7.trans e8)
        refine q p8 _ e18 ⟨_, h8, ?_⟩
        rw [Fo.pt_more f k m o i q' c w' s' hdr, List.append_assoc]
        obtain ⟨rs, hrs, frs⟩ := hr2
        have e28 := e3.trans (s45.trans e68)
        refine FoAt.app (FoAt.over e18 (hf.take k)) ⟨t4, r, rs, _, rfl, e68 _ _ h44, e28 _ _ hrs, FoAt.over e28 frs, ?_⟩
        rw [← eys]
        exact FoAt.over e18 hys

theorem ok_sweepat87 (T : Tx w K mg a) : FnOk P w K mg base (CX1 P w) 1 a.f_sweep_at a.d_sweep_at ["plan", "path"] (spSweepAt a.c_NoTurning) := by
  refine T.F_sweep_at.okX sc_sweep_at (fun vs H Q E h => ?_) (fun cdv A outer s H vs Q E hr h => ?_)
  · obtain ⟨_, _, _, _, rfl, _⟩ := h; rfl
  obtain ⟨pl, pa, f, path, rfl, hpl, hpa, q, qx⟩ := h
  refine ⟨_, (@pss_cons _ _ _ _ _ (@ps_set _ _ (2) _ _ _ _ sc_sweep_at.nd rfl (Or.inl rfl) (pv 0) (by rfl) (by first | exact .inl rfl | exact .inr rfl | assumption)) (@pss_cons _ _ _ _ _ (@ps_set _ _ (3) _ _ _ _ sc_sweep_at.nd rfl (Or.inl rfl) pe_non (by rfl) (by first | exact .inl rfl | exact .inr rfl | assumption)) (@pss_cons _ _ _ _ _ (@ps_for _ _ _ _ _ _ _ _ PassesOwn.leaving rfl (@pi_tup _ _ _ _ (pv 1)) (pg_name (i := 4) sc_sweep_at.nd rfl (Or.inl rfl)) (@pss_cons _ _ _ _ _ (@ps_if _ _ _ _ _ _ _ _ ((@pw_or _ _ _ _ _ _ _ (@pt_cmpR _ _ _ _ _ _ _ _ op_lt (pv 4) pe_int (@nomark _ _ (by decide) (by decide))) (@pw_or1 _ _ _ _ (@pt_cmpR _ _ _ _ _ _ _ _ op_ge (pv 4) (@pe_callB _ _ _ _ _ _ _ _ _ call_len_seq (by rfl) T.z_len bt_len (@pa_cons _ _ _ _ _ (pv 2) pa_nil (by rfl)) (by decide) (by decide) (by rfl) (by rfl)) (@nomark _ _ (by decide) (by decide)))))).pt (@pss_one _ _ _ (@ps_raise _ _ _ _ _ rfl raises_def (@pe_xmake0 _ _ _ _ _ T.xm_NoTurning (by rfl) T.mc_NoTurning (by decide)))) pss_nil) (@pss_cons _ _ _ _ _ (@ps_set _ _ (3) _ _ _ _ sc_sweep_at.nd rfl (Or.inl rfl) (@pe_ix _ _ _ _ _ _ _ ix_tup (pv 2) (pv 4) (fun _ _ => rfl)) (by rfl) (by first | exact .inl rfl | exact .inr rfl | assumption)) (@pss_one _ _ _ (@ps_set _ _ (2) _ _ _ _ sc_sweep_at.nd rfl (Or.inl rfl) (@pe_ifExp _ _ _ _ _ _ _ _ (@pt_cmpR _ _ _ _ _ _ _ _ op_eq (@pe_ix _ _ _ _ _ _ _ ix_tup (pv 3) pe_int (fun _ _ => rfl)) pe_str (@nomark _ _ (by decide) (by decide))) (@pe_ix _ _ _ _ _ _ _ ix_tup (pv 3) pe_int (fun _ _ => rfl)) (@pe_tup _ _ _ _ _ pa_nil)) (by rfl) (by first | exact .inl rfl | exact .inr rfl | assumption))))) (by intro _ ; rfl)) (@pss_cons _ _ _ _ _ (@ps_if _ _ _ _ _ _ _ _ ((@pw_or _ _ _ _ _ _ _ (@pt_cmpR _ _ _ _ _ _ _ _ op_isN (pv 3) pe_non (@nomark _ _ (by decide) (by decide))) (@pw_or1 _ _ _ _ (@pt_cmpR _ _ _ _ _ _ _ _ op_ne (@pe_ix _ _ _ _ _ _ _ ix_tup (pv 3) pe_int (fun _ _ => rfl)) pe_str (@nomark _ _ (by decide) (by decide)))))).pt (@pss_one _ _ _ (@ps_raise _ _ _ _ _ rfl raises_def (@pe_xmake0 _ _ _ _ _ T.xm_NoTurning (by rfl) T.mc_NoTurning (by decide)))) pss_nil) (@pss_one _ _ _ (@ps_ret _ _ _ _ (pv 3))))))), ?_⟩
  have rs : ∀ {H' : Hp} {x : Addr}, Same H H' → H' x = none → (∀ (a b : Nat) (x : Way × Frs), Fo.lk f 0 path ≠ some (a, b, some x)) → E (.ref x) none (upd (upd H' x (exN x a.c_NoTurning none)) x (exC x a.c_NoTurning none)) := fun {H' x} e hx no => by
    rw [upd_upd]
    exact qx no x _ (e.trans (same_new hx _)) upd_same
  refine ⟨_, rfl, ?_⟩
  dsimp only [gName]
  refine seq_asgC ?_
  refine ⟨_, rfl, pa, rfl, ⟨_, SqT.of hpa⟩, ?_⟩
  refine for_tup (xs := path.map V.int) (fun i σ' H' => ∃ (it : Addr) (g : Frs) (ov o4 : Option V), σ' = [some (.ref pl), some (.ref pa), some (.ref it), ov, o4] ∧ Same H H' ∧ FoT H' it g ∧ Way87 H' f path i it g ov) ⟨pl, f, _, _, rfl, Same.refl _, hpl, .inl ⟨rfl, rfl, rfl⟩⟩ (fun i σ' H' _ pp => by obtain ⟨_, _, _, _, _, e, _⟩ := pp; exact SqT.of (e _ _ hpa)) (fun i x σ' H' hx pp => ?_) (fun σ' H' pp => ?_)
  · obtain ⟨it, g, ov, o4, rfl, e, ⟨xs, hit, hg⟩, hw⟩ := pp
    rw [List.getElem?_map] at hx
    cases ej : path[i]? with
    | none => rw [ej] at hx; cases hx
    | some j =>
      rw [ej] at hx
      cases hx
      obtain ⟨hi, ej2⟩ := List.getElem?_eq_some_iff.mp ej
      have ed : path.drop i = j :: path.drop (i + 1) := by rw [List.drop_eq_getElem_cons hi, ej2]
      obtain ⟨n, hL⟩ := hw.lk (by rw [ed]; simp)
      rw [ed] at hL
      have xl := hg.len
      dsimp only [gName]
      refine seq_any (fun σ' H2 => H2 = H' ∧ σ' = [some (.ref pl), some (.ref pa), some (.ref it), ov, some (.int j)] ∧ 0 ≤ j ∧ j < (Fo.cnt g : Int)) (fun σ' H2 pp => ?_) (fun nx => ?_)
      rotate_left
      · refine ⟨_, rfl, _, _, rfl, rfl, _, rfl, ?_⟩
        refine ite2 (fun c => iteT ?_) (fun c => ?_)
        · have c := dT c
          intro x hx
          exact ⟨x, _, none, rfl, upd_same, T.xi_NoTurning.xc, rs e hx fun a b y z => by rw [hL, Fo.lk_out g n j _ (.inl c)] at z; cases z⟩
        have c := dF c
        refine ⟨_, rfl, _, rfl, it, _, rfl, .inr (SqT.of hit), _, _, rfl, rfl, _, rfl, ?_⟩
        rw [xl]
        refine ite2 (fun c2 => ?_) (fun c2 => nx _ _ ⟨rfl, rfl, by omega, by have := dF c2; omega⟩)
        have c2 := dT c2
        intro x hx
        exact ⟨x, _, none, rfl, upd_same, T.xi_NoTurning.xc, rs e hx fun a b y z => by rw [hL, Fo.lk_out g n j _ (.inr c2)] at z; cases z⟩
      obtain ⟨rfl, rfl, j0, j1⟩ := pp
      obtain ⟨k, rfl⟩ : ∃ k : Nat, j = (k : Int) := ⟨j.toNat, by omega⟩
      have hk : k < Fo.cnt g := by omega
      have hgd := hg.drop k
      rcases Fo.lk_down g n k (path.drop (i + 1)) hk with ⟨kk, ppl, r, edr, hq1, hq2⟩ | ⟨c, w', s', r, edr, hq1, hq2⟩
      · rw [edr] at hgd
        obtain ⟨t, p, ys, exs, ht, hp, _⟩ := hgd
        have hxk : xs[k]? = some (.ref t) := by
          have : (xs.drop k)[0]? = some (.ref t) := by rw [exs]; rfl
          rw [List.getElem?_drop] at this
          exact this
        refine ⟨_, rfl, _, rfl, it, _, _, _, rfl, rfl, SqT.of hit, atI_nat hxk, ?_⟩
        dsimp only [gName]
        refine ⟨_, rfl, t, _, 0, _, rfl, rfl, SqT.of ht, rfl, rfl, _, rfl, iteE (v := false) (by decide +kernel) (iteF ?_)⟩
        refine ⟨szl (by show 0 ≤ 1000000; decide), fun it2 hit2 => ?_⟩
        have s1 := same_new hit2 (.tup [])
        refine ⟨it2, .nil, _, _, rfl, e.trans s1, ⟨[], upd_same, rfl⟩, .inr (.inr ⟨t, kk, p, rfl, s1 _ _ ht, rfl, fun z => ?_, fun z => ?_⟩)⟩
        · rw [hL]; exact hq1 z
        · obtain ⟨a, b, h⟩ := hq2 z
          exact ⟨a, b, hL.trans h⟩
      · rw [edr] at hgd
        obtain ⟨t, p, zs, ys, exs, ht, hp, hsub, _⟩ := hgd
        have hxk : xs[k]? = some (.ref t) := by
          have : (xs.drop k)[0]? = some (.ref t) := by rw [exs]; rfl
          rw [List.getElem?_drop] at this
          exact this
        refine ⟨_, rfl, _, rfl, it, _, _, _, rfl, rfl, SqT.of hit, atI_nat hxk, ?_⟩
        dsimp only [gName]
        refine ⟨_, rfl, t, _, 0, _, rfl, rfl, SqT.of ht, rfl, rfl, _, rfl, iteE (v := true) (by decide +kernel) (iteT ?_)⟩
        refine ⟨_, rfl, t, _, 3, _, rfl, rfl, SqT.of ht, rfl, ?_⟩
        refine ⟨p, s', _, _, rfl, e, ⟨zs, hp, hsub⟩, .inr (.inl ⟨t, c, w', rfl, ht, fun z => ?_, fun z => ?_⟩)⟩
        · obtain ⟨n', h⟩ := hq1 z
          exact ⟨n', hL.trans h⟩
        · obtain ⟨a, b, h⟩ := hq2 z
          exact ⟨a, b, hL.trans h⟩
  · obtain ⟨it, g, ov, o4, rfl, e, ⟨xs, hit, hg⟩, hw⟩ := pp
    rw [List.length_map] at hw
    have ed : path.drop path.length = [] := List.drop_eq_nil_of_le (Nat.le_refl _)
    rcases hw with ⟨h0, rfl, rfl⟩ | ⟨t, c, w', rfl, ht, _, h2⟩ | ⟨t, k, p, rfl, ht, rfl, _, h2⟩
    · have pn : path = [] := List.eq_nil_of_length_eq_zero h0
      refine ⟨_, rfl, rfl, _, rfl, iteE (v := true) (decide_eq_true rfl) (iteT ?_)⟩
      intro x hx
      exact ⟨x, _, none, rfl, upd_same, T.xi_NoTurning.xc, rs e hx fun a b y z => by rw [pn, Fo.lk_nil] at z; cases z⟩
    · obtain ⟨a', b', hl⟩ := h2 ed
      refine ⟨_, rfl, rfl, _, rfl, iteE (v := false) (decide_eq_false fun z => by cases z) (iteF ?_)⟩
      refine ⟨_, rfl, t, _, 0, _, rfl, rfl, SqT.of ht, rfl, rfl, _, rfl, iteE (v := false) (by decide +kernel) (iteF ?_)⟩
      exact ⟨_, rfl, q a' b' c w' g t it _ hl e ht ⟨xs, hit, hg⟩⟩
    · obtain ⟨a', b', hl⟩ := h2 ed
      refine ⟨_, rfl, rfl, _, rfl, iteE (v := false) (decide_eq_false fun z => by cases z) (iteF ?_)⟩
      refine ⟨_, rfl, t, _, 0, _, rfl, rfl, SqT.of ht, rfl, rfl, _, rfl, iteE (v := true) (by decide +kernel) (iteT ?_)⟩
      intro x hx
      exact ⟨x, _, none, rfl, upd_same, T.xi_NoTurning.xc, rs e hx fun a b y z => by rw [hl] at z; cases z⟩

theorem ok_deedsw (T : Tx w K mg a) : ∀ n : Nat, FnOk P w K mg base CX0 (n + 2) a.f_deeds_within a.d_deeds_within ["items", "path", "cuts"] (spDeedsP n)
  | 0 => by
    have no : ∀ vs H Q E, ¬ spDeedsP 0 vs H Q E := fun vs H Q E h => by
      obtain ⟨it, pa, cu, f, P', cs, _, _, _, _, hd, _⟩ := h
      have := dep_pos f
      omega
    exact ⟨fun vs H Q E h => absurd h (no vs H Q E), fun A outer s H args us vs Q E _ _ _ _ h => absurd h (no vs H Q E)⟩
  | n + 1 => by
    have G_deeds_within := ok_deedsw T n
    refine T.F_deeds_within.ok sc_deeds_within (fun vs H Q E h => ?_) (fun cdv A outer s H vs Q E hr h => ?_)
    · obtain ⟨_, _, _, _, _, _, rfl, _⟩ := h; rfl
    obtain ⟨it, pa, cu, f, PP, cs, rfl, ⟨xs, hit, hf⟩, hpa, hcu, hdep, pl, cl, hlen, q⟩ := h
    refine ⟨_, (@pss_cons _ _ _ _ _ (@ps_set _ _ (3) _ _ _ _ sc_deeds_within.nd rfl (Or.inl rfl) (@pe_lst _ _ _ _ pa_nil) (by rfl) (by first | exact .inl rfl | exact .inr rfl | assumption)) (@pss_cons _ _ _ _ _ (@ps_for _ _ _ _ _ _ _ _ PassesOwn.never rfl (@pi_enumT _ _ _ _ _ _ _ _ (by rfl) T.z_enumerate (@pa_cons _ _ _ _ _ (pv 0) pa_nil (by rfl)) (by rfl)) (pg_tup rfl (pgs_cons (pg_name (i := 4) sc_deeds_within.nd rfl (Or.inl rfl)) (pgs_cons (pg_name (i := 5) sc_deeds_within.nd rfl (Or.inl rfl)) pgs_nil))) (@pss_cons _ _ _ _ _ (@ps_set _ _ (6) _ _ _ _ sc_deeds_within.nd rfl (Or.inl rfl) (@pe_op _ _ _ _ _ _ _ _ op_catH (pv 1) (@pe_tup _ _ _ _ _ (@pa_cons _ _ _ _ _ (pv 4) pa_nil (by rfl)))) (by rfl) (by first | exact .inl rfl | exact .inr rfl | assumption)) (@pss_one _ _ _ (@ps_if _ _ _ _ _ _ _ _ (@pt_cmpR _ _ _ _ _ _ _ _ op_eq (@pe_ix _ _ _ _ _ _ _ ix_tup (pv 5) pe_int (fun _ _ => rfl)) pe_str (@nomark _ _ (by decide) (by decide))) (@pss_one _ _ _ (@ps_expr _ _ _ _ (@pe_bm _ _ _ _ _ _ _ _ _ _ _ _ PySem.F.plainAttrs_list PySem.F.slot_list_append PySem.F.type_list_append mt_append (pv 3) (@pa_cons _ _ _ _ _ (@pe_tupq _ _ _ _ _ (@paq_cons _ _ _ _ _ (@pe_ix _ _ _ _ _ _ _ ix_tup (pv 5) pe_int (fun _ _ => rfl)) (@paq_cons _ _ _ _ _ (@pe_ix _ _ _ _ _ _ _ ix_tup (pv 5) pe_int (fun _ _ => rfl)) (@paq_cons _ _ _ _ _ (pv 6) (@paq_cons _ _ _ _ _ (pv 2) paq_nil star_N) star_N) star_S) star_S)) pa_nil (by rfl)) (by rfl) (by rfl) (by rfl) (by rfl) (by rfl)) (by rfl))) (@pss_one _ _ _ (@ps_expr _ _ _ _ (@pe_bm _ _ _ _ _ _ _ _ _ _ _ _ PySem.F.plainAttrs_list PySem.F.slot_list_extend PySem.F.type_list_extend mt_extend (pv 3) (@pa_cons _ _ _ _ _ (@pe_call _ _ _ _ _ _ _ _ _ _ _ _ _ _ _ _ G_deeds_within (hr.mono (by omega)) (by rfl) T.m_deeds_within T.F_deeds_within.kp T.b_deeds_within .nil pass0 (@pa_cons _ _ _ _ _ (@pe_ix _ _ _ _ _ _ _ ix_tup (pv 5) pe_int (fun _ _ => rfl)) (@pa_cons _ _ _ _ _ (pv 6) (@pa_cons _ _ _ _ _ (@pe_op _ _ _ _ _ _ _ _ op_catH (pv 2) (@pe_tup _ _ _ _ _ (@pa_cons _ _ _ _ _ (@pe_ix _ _ _ _ _ _ _ ix_tup (pv 5) pe_int (fun _ _ => rfl)) pa_nil (by rfl)))) pa_nil (by rfl)) (by rfl)) (by rfl)) (by decide) (by rfl) (by rfl)) pa_nil (by rfl)) (by rfl) (by rfl) (by rfl) (by rfl) (by rfl)) (by rfl)))))) (by intro _ ; rfl)) (@pss_one _ _ _ (@ps_ret _ _ _ _ (pv 3))))), ?_⟩
    refine ⟨szl (by show 0 ≤ 1000000; decide), fun fo hfo => ?_⟩
    have e1 := same_new hfo (.lst [])
    have hfo1 : (upd H fo (.lst [])) fo = some (.lst []) := upd_same
    generalize upd H fo (.lst []) = H1 at e1 hfo1
    refine ⟨_, rfl, it, rfl, ⟨_, SqT.of (e1 _ _ hit)⟩, ?_⟩
    refine for_enumT (xs := xs) (fun i σ' H' => ∃ (g : Frs) (done : List Fo.En) (ys : List V) (o4 o5 o6 : Option V), σ' = [some (.ref it), some (.ref pa), some (.ref cu), some (.ref fo), o4, o5, o6] ∧ Same H H' ∧ FoAt H (xs.drop i) g ∧ dep g ≤ n + 1 ∧ H' fo = some (.lst ys) ∧ All2 (EnAt H') ys done ∧ done ++ Fo.deedsF g PP i = Fo.deedsF f PP 0) ⟨f, [], [], _, _, _, rfl, e1, hf, hdep, hfo1, .nil, rfl⟩ (fun i σ' H' _ pp => by obtain ⟨_, _, _, _, _, _, _, e, _⟩ := pp; exact SqT.of (e _ _ hit)) (fun i x Tt σ' H' hx pp hT => ?_) (fun σ' H' pp => ?_)
    rotate_left
    · obtain ⟨g, done, ys, o4, o5, o6, rfl, e, hg, _, hy, ay, hd⟩ := pp
      have hz : xs.drop xs.length = [] := List.drop_eq_nil_of_le (Nat.le_refl _)
      rw [hz] at hg
      have gn : g = .nil := by
        cases g with
        | nil => rfl
        | leaf k pl r => obtain ⟨_, _, _, z, _⟩ := hg; cases z
        | node c w s r => obtain ⟨_, _, _, _, z, _⟩ := hg; cases z
      subst gn
      have : done = Fo.deedsF f PP 0 := by rw [← hd]; show done = done ++ []; rw [List.append_nil]
      rw [this] at ay
      exact ⟨_, rfl, q fo ys _ e hy ay⟩
    obtain ⟨g, done, ys, o4, o5, o6, rfl, e, hg, gdep, hy, ay, hd⟩ := pp
    obtain ⟨hi, ex⟩ := List.getElem?_eq_some_iff.mp hx
    rw [List.drop_eq_getElem_cons hi, ex] at hg
    have tot := congrArg List.length hd
    rw [List.length_append] at tot
    have yl := ay.1
    have sT := same_new hT (.tup [V.int (i : Int), x])
    have e2 := e.trans sT
    have hy2 := sT _ _ hy
    have ay2 := ay.mono fun y v z => z.over sT
    refine ⟨Tt, _, rfl, SqT.of upd_same, rfl, _, _, rfl, _, _, rfl, rfl, ?_⟩
    generalize upd H' Tt (.tup [V.int (i : Int), x]) = H2 at e2 hy2 ay2
    refine ⟨_, rfl, _, rfl, szl (by show 1 ≤ 1000000; decide), fun t1 ht1 => ?_⟩
    have s3 := same_new ht1 (.tup [V.int (i : Int)])
    refine ⟨pa, t1, _, [V.int (i : Int)], rfl, rfl, s3 _ _ (e2 _ _ hpa), upd_same, szl (by rw [List.length_map, List.length_singleton]; omega), fun he H3 e3 hhe => ?_⟩
    have hhe : H3 he = some (.tup ((PP ++ [(i : Int)]).map V.int)) := by rw [List.map_append]; exact hhe
    have e23 := s3.trans e3
    have eH3 := e2.trans e23
    have hy3 := e23 _ _ hy2
    have ay3 := ay2.mono fun y v z => z.over e23
    dsimp only [gName]
    clear s3 e3 sT
    cases g with
    | nil => cases hg
    | leaf k pl rest =>
      obtain ⟨t, pp, zs, z, ht, hpr, hrest⟩ := hg
      cases z
      change dep rest ≤ n + 1 at gdep
      change done ++ (⟨k, pl, PP ++ [(i : Int)]⟩ :: Fo.deedsF rest PP (i + 1)) = Fo.deedsF f PP 0 at hd
      have tot' : done.length + (Fo.deedsF rest PP (i + 1)).length + 1 = (Fo.deedsF f PP 0).length := by rw [← hd, List.length_append, List.length_cons]; omega
      refine ⟨_, rfl, t, _, 0, _, rfl, rfl, SqT.of (eH3 _ _ ht), rfl, rfl, _, rfl, iteE (v := true) (decide_eq_true rfl) (iteT ?_)⟩
      refine ⟨_, rfl, .inl ⟨rfl, _, SqL.of hy3⟩, _, rfl, t, _, 1, _, rfl, rfl, SqT.of (eH3 _ _ ht), rfl, _, rfl, t, _, 2, _, rfl, rfl, SqT.of (eH3 _ _ ht), rfl, _, rfl, _, rfl, szl (by show 4 ≤ 1000000; decide), fun r hr => ?_⟩
      have s4 := same_new hr (.tup [V.int k, V.ref pp, V.ref he, V.ref cu])
      have nr : r ≠ fo := fun z => by rw [z, hy3] at hr; cases hr
      refine ⟨fo, _, _, rfl, rfl, s4 _ _ hy3, szlt (by omega), ?_⟩
      have tk := (Same.tk s4).trans (TK.upd (o := .lst (ys ++ [V.ref r])) (s4 _ _ hy3))
      refine ⟨rest, done ++ [⟨k, pl, PP ++ [(i : Int)]⟩], _, _, _, _, rfl, fun a o ha => by rw [upd_ne (ne_of_none ha hfo)]; exact s4 _ _ (eH3 _ _ ha), hrest, gdep, upd_same, ?_, by rw [List.append_assoc]; exact hd⟩
      exact (ay3.mono fun y v z => z.tk tk).snoc ⟨r, pp, he, cu, rfl, by rw [upd_ne nr]; exact upd_same, (hpr.over eH3).tk tk, tk _ _ hhe⟩
    | node c w sub rest =>
      obtain ⟨t, pp, zs, us, z, ht, hpp, hsub, hrest⟩ := hg
      cases z
      unfold dep at gdep
      change done ++ (Fo.deedsF sub (PP ++ [(i : Int)]) 0 ++ Fo.deedsF rest PP (i + 1)) = Fo.deedsF f PP 0 at hd
      have tot' : done.length + ((Fo.deedsF sub (PP ++ [(i : Int)]) 0).length + (Fo.deedsF rest PP (i + 1)).length) = (Fo.deedsF f PP 0).length := by rw [← hd, List.length_append, List.length_append]
      refine ⟨_, rfl, t, _, 0, _, rfl, rfl, SqT.of (eH3 _ _ ht), rfl, rfl, _, rfl, iteE (v := false) (dS (by decide +kernel)) (iteF ?_)⟩
      refine ⟨_, rfl, .inl ⟨rfl, _, SqL.of hy3⟩, _, rfl, t, _, 3, _, rfl, rfl, SqT.of (eH3 _ _ ht), rfl, _, rfl, _, rfl, _, rfl, t, _, 1, _, rfl, rfl, SqT.of (eH3 _ _ ht), rfl, szl (by show 1 ≤ 1000000; decide), fun t2 ht2 => ?_⟩
      have s4 := same_new ht2 (.tup [V.bl c])
      refine ⟨cu, t2, cs, [V.bl c], rfl, rfl, s4 _ _ (eH3 _ _ hcu), upd_same, szl (by rw [List.length_singleton]; omega), fun cu2 H4 e4 hcu2 => ?_⟩
      have e34 := s4.trans e4
      have eH4 := eH3.trans e34
      refine ⟨pp, he, cu2, sub, PP ++ [(i : Int)], cs ++ [V.bl c], rfl, ⟨zs, eH4 _ _ hpp, FoAt.over eH4 hsub⟩, e34 _ _ hhe, hcu2, by omega, by rw [List.length_append, List.length_singleton]; omega, by rw [List.length_append, List.length_singleton]; omega, by omega, fun r ys2 H5 e5 hr5 ay5 => ?_⟩
      have yl5 := ay5.1
      have hy5 := (e34.trans e5) _ _ hy3
      refine ⟨fo, r, _, _, rfl, rfl, hy5, hr5, szl (by omega), ?_⟩
      have tk := TK.upd (o := .lst (ys ++ ys2)) hy5
      refine ⟨rest, done ++ Fo.deedsF sub (PP ++ [(i : Int)]) 0, _, _, _, _, rfl, fun a o ha => by rw [upd_ne (ne_of_none ha hfo)]; exact e5 _ _ (eH4 _ _ ha), hrest, by omega, upd_same, ?_, by rw [List.append_assoc]; exact hd⟩
      exact ((ay3.mono fun y v z => (z.over (e34.trans e5)).tk tk)).app (ay5.mono fun y v z => z.tk tk)

theorem ok_kinds87 (T : Tx w K mg a) : ∀ n : Nat, FnOk P w K mg base CX0 (n + 2) a.f_l_kinds a.d_l_kinds ["_law_items_here"] (spKinds87 n)
  | 0 => by
    have no : ∀ vs H Q E, ¬ spKinds87 0 vs H Q E := fun vs H Q E h => by
      obtain ⟨it, f, _, _, hd, _⟩ := h
      have := dep_pos f
      omega
    exact ⟨fun vs H Q E h => absurd h (no vs H Q E), fun A outer s H args us vs Q E _ _ _ _ h => absurd h (no vs H Q E)⟩
  | n + 1 => by
    have G_l_kinds := ok_kinds87 T n
    have G_l_whole := ok_whole (P := P) (w := w) (base := base) T
    refine T.F_l_kinds.ok sc_l_kinds (fun vs H Q E h => ?_) (fun cdv A outer s H vs Q E hr h => ?_)
    · obtain ⟨_, _, rfl, _⟩ := h; rfl
    obtain ⟨it, f, rfl, ⟨xs, hit, hf⟩, hdep, q⟩ := h
    refine ⟨_, (@pss_cons _ _ _ _ _ (@ps_for _ _ _ _ _ _ _ _ PassesOwn.never rfl (@pi_tup _ _ _ _ (pv 0)) (pg_name (i := 1) sc_l_kinds.nd rfl (Or.inl rfl)) (@pss_cons _ _ _ _ _ (@ps_if _ _ _ _ _ _ _ _ (@pt_cmpR _ _ _ _ _ _ _ _ op_eq (@pe_ix _ _ _ _ _ _ _ ix_tup (pv 1) pe_int (fun _ _ => rfl)) pe_str (@nomark _ _ (by decide) (by decide))) (@pss_one _ _ _ (@ps_for _ _ _ _ _ _ _ _ PassesOwn.never rfl (@pi_tup _ _ _ _ (@pe_ix _ _ _ _ _ _ _ ix_tup (pv 1) pe_int (fun _ _ => rfl))) (pg_tup rfl (pgs_cons (pg_name (i := 2) sc_l_kinds.nd rfl (Or.inl rfl)) (pgs_cons (pg_name (i := 3) sc_l_kinds.nd rfl (Or.inl rfl)) pgs_nil))) (@pss_one _ _ _ (@ps_if _ _ _ _ _ _ _ _ ((@pw_or _ _ _ _ _ _ _ (@pt_not _ _ _ _ (@pt_val _ _ _ (@pe_call _ _ _ _ _ _ _ _ _ _ _ _ _ _ _ _ G_l_whole (hr.mono (by omega)) (by rfl) T.m_l_whole T.F_l_whole.kp T.b_l_whole .nil pass0 (@pa_cons _ _ _ _ _ (pv 2) pa_nil (by rfl)) (by decide) (by rfl) (by rfl)) (by intro _ ; rfl))) (@pw_or1 _ _ _ _ (@pt_not _ _ _ _ (@pt_val _ _ _ (@pe_call _ _ _ _ _ _ _ _ _ _ _ _ _ _ _ _ G_l_whole (hr.mono (by omega)) (by rfl) T.m_l_whole T.F_l_whole.kp T.b_l_whole .nil pass0 (@pa_cons _ _ _ _ _ (pv 3) pa_nil (by rfl)) (by decide) (by rfl) (by rfl)) (by intro _ ; rfl)))))).pt (@pss_one _ _ _ (@ps_ret _ _ _ _ pe_bl)) pss_nil)) (by intro _ ; rfl))) pss_nil) (@pss_cons _ _ _ _ _ (@ps_if _ _ _ _ _ _ _ _ ((@pw_and _ _ _ _ _ _ _ (@pt_cmpR _ _ _ _ _ _ _ _ op_eq (@pe_ix _ _ _ _ _ _ _ ix_tup (pv 1) pe_int (fun _ _ => rfl)) pe_str (@nomark _ _ (by decide) (by decide))) (@pw_and1 _ _ _ _ (@pt_not _ _ _ _ (@pt_val _ _ _ (@pe_call _ _ _ _ _ _ _ _ _ _ _ _ _ _ _ _ G_l_whole (hr.mono (by omega)) (by rfl) T.m_l_whole T.F_l_whole.kp T.b_l_whole .nil pass0 (@pa_cons _ _ _ _ _ (@pe_ix _ _ _ _ _ _ _ ix_tup (pv 1) pe_int (fun _ _ => rfl)) pa_nil (by rfl)) (by decide) (by rfl) (by rfl)) (by intro _ ; rfl)))))).pt (@pss_one _ _ _ (@ps_ret _ _ _ _ pe_bl)) pss_nil) (@pss_one _ _ _ (@ps_if _ _ _ _ _ _ _ _ ((@pw_and _ _ _ _ _ _ _ (@pt_cmpR _ _ _ _ _ _ _ _ op_eq (@pe_ix _ _ _ _ _ _ _ ix_tup (pv 1) pe_int (fun _ _ => rfl)) pe_str (@nomark _ _ (by decide) (by decide))) (@pw_and1 _ _ _ _ ((@pw_or _ _ _ _ _ _ _ (@pt_not _ _ _ _ (@pt_val _ _ _ (@pe_callB _ _ _ _ _ _ _ _ _ call_isi (by rfl) T.z_isinstance bt_isinstance (@pa_cons _ _ _ _ _ (@pe_ix _ _ _ _ _ _ _ ix_tup (pv 1) pe_int (fun _ _ => rfl)) (@pa_cons _ _ _ _ _ (@pe_bltn _ _ (.ty "bool") _ _ (by rfl) T.z_bool bt_bool rfl (by decide) (by decide)) pa_nil (by rfl)) (by rfl)) (by decide) (by decide) (by rfl) (by rfl)) (by intro _ ; rfl))) (@pw_or1 _ _ _ _ (@pt_not _ _ _ _ (@pt_val _ _ _ (@pe_call _ _ _ _ _ _ _ _ _ _ _ _ _ _ _ _ G_l_kinds (hr.mono (by omega)) (by rfl) T.m_l_kinds T.F_l_kinds.kp T.b_l_kinds .nil pass0 (@pa_cons _ _ _ _ _ (@pe_ix _ _ _ _ _ _ _ ix_tup (pv 1) pe_int (fun _ _ => rfl)) pa_nil (by rfl)) (by decide) (by rfl) (by rfl)) (by intro _ ; rfl)))))).pt))).pt (@pss_one _ _ _ (@ps_ret _ _ _ _ pe_bl)) pss_nil)))) (by intro _ ; rfl)) (@pss_one _ _ _ (@ps_ret _ _ _ _ pe_bl))), ?_⟩
    refine ⟨_, rfl, it, rfl, ⟨_, SqT.of hit⟩, ?_⟩
    refine for_tup (xs := xs) (fun i σ' H' => H' = H ∧ ∃ (g : Frs) (o1 o2 o3 : Option V), σ' = [some (.ref it), o1, o2, o3] ∧ FoAt H (xs.drop i) g ∧ dep g ≤ n + 1) ⟨rfl, f, _, _, _, rfl, hf, hdep⟩ (fun i σ' H' _ pp => by rw [pp.1]; exact SqT.of hit) (fun i x σ' H' hx pp => ?_) (fun σ' H' pp => ?_)
    rotate_left
    · obtain ⟨rfl, _⟩ := pp
      exact q
    obtain ⟨rfl, g, o1, o2, o3, rfl, hg, gdep⟩ := pp
    obtain ⟨hi, ex⟩ := List.getElem?_eq_some_iff.mp hx
    rw [List.drop_eq_getElem_cons hi, ex] at hg
    dsimp only [gName]
    cases g with
    | nil => cases hg
    | leaf k pl rest =>
      obtain ⟨t, pp, zs, z, ht, ⟨ps, hps, aps⟩, hrest⟩ := hg
      cases z
      refine seq_any (fun σ' H2 => H2 = H' ∧ ∃ (o2 o3 : Option V), σ' = [some (.ref it), some (.ref t), o2, o3]) (fun σ' H2 pp => ?_) (fun nx => ?_)
      rotate_left
      · refine ⟨_, rfl, t, _, 0, _, rfl, rfl, SqT.of ht, rfl, rfl, _, rfl, iteE (v := true) (by decide +kernel) (iteT ?_)⟩
        refine ⟨_, rfl, t, _, 2, _, rfl, rfl, SqT.of ht, rfl, pp, rfl, ⟨_, SqT.of hps⟩, ?_⟩
        refine for_tup (xs := ps) (fun i σ' H2 => H2 = H' ∧ ∃ (o2 o3 : Option V), σ' = [some (.ref it), some (.ref t), o2, o3]) ⟨rfl, _, _, rfl⟩ (fun i σ' H2 _ pp => by rw [pp.1]; exact SqT.of hps) (fun i x σ' H2 hx pp => ?_) (fun σ' H2 pp => nx _ _ pp)
        obtain ⟨rfl, o2, o3, rfl⟩ := pp
        obtain ⟨pr, _, t2, rfl, ht2⟩ := aps.get' hx
        refine ⟨t2, _, rfl, SqT.of ht2, rfl, _, _, rfl, _, _, rfl, rfl, ?_⟩
        dsimp only [gName]
        refine ⟨_, rfl, _, rfl, rfl, _, rfl, iteF ?_⟩
        refine ⟨_, rfl, _, rfl, rfl, _, rfl, iteF ?_⟩
        exact ⟨rfl, _, _, rfl⟩
      obtain ⟨rfl, o2, o3, rfl⟩ := pp
      refine seq_any (fun σ' H3 => H3 = H2 ∧ ∃ (o2 o3 : Option V), σ' = [some (.ref it), some (.ref t), o2, o3]) (fun σ' H3 pp => ?_) (fun nx => ?_)
      rotate_left
      · refine ⟨_, rfl, t, _, 0, _, rfl, rfl, SqT.of ht, rfl, rfl, _, rfl, iteE (v := true) (by decide +kernel) (iteT ?_)⟩
        refine ⟨_, rfl, t, _, 1, _, rfl, rfl, SqT.of ht, rfl, _, rfl, rfl, _, rfl, iteF ?_⟩
        exact nx _ _ ⟨rfl, _, _, rfl⟩
      obtain ⟨rfl, o2, o3, rfl⟩ := pp
      refine ⟨_, rfl, t, _, 0, _, rfl, rfl, SqT.of ht, rfl, rfl, _, rfl, iteE (v := false) (by decide +kernel) (iteF ?_)⟩
      exact ⟨rfl, rest, _, _, _, rfl, hrest, gdep⟩
    | node c w' sub rest =>
      obtain ⟨t, pp, ys, zs, z, ht, hpp, hsub, hrest⟩ := hg
      cases z
      refine seq_any (fun σ' H2 => H2 = H' ∧ ∃ (o2 o3 : Option V), σ' = [some (.ref it), some (.ref t), o2, o3]) (fun σ' H2 pp => ?_) (fun nx => ?_)
      rotate_left
      · refine ⟨_, rfl, t, _, 0, _, rfl, rfl, SqT.of ht, rfl, rfl, _, rfl, iteE (v := false) (by decide +kernel) (iteF ?_)⟩
        exact nx _ _ ⟨rfl, _, _, rfl⟩
      obtain ⟨rfl, o2, o3, rfl⟩ := pp
      refine seq_any (fun σ' H3 => H3 = H2 ∧ ∃ (o2 o3 : Option V), σ' = [some (.ref it), some (.ref t), o2, o3]) (fun σ' H3 pp => ?_) (fun nx => ?_)
      rotate_left
      · refine ⟨_, rfl, t, _, 0, _, rfl, rfl, SqT.of ht, rfl, rfl, _, rfl, iteE (v := false) (by decide +kernel) (iteF ?_)⟩
        exact nx _ _ ⟨rfl, _, _, rfl⟩
      obtain ⟨rfl, o2, o3, rfl⟩ := pp
      refine ⟨_, rfl, t, _, 0, _, rfl, rfl, SqT.of ht, rfl, rfl, _, rfl, iteE (v := true) (by decide +kernel) (iteT ?_)⟩
      refine ⟨_, rfl, t, _, 1, _, rfl, rfl, SqT.of ht, rfl, _, _, _, _, _, rfl, rfl, .bl _, rfl, _, rfl, iteF ?_⟩
      have gd2 : max (1 + dep sub) (dep rest) ≤ n + 1 := gdep
      refine ⟨_, rfl, t, _, 3, _, rfl, rfl, SqT.of ht, rfl, pp, sub, rfl, ⟨ys, hpp, hsub⟩, by omega, _, rfl, iteF ?_⟩
      exact ⟨rfl, rest, _, _, _, rfl, hrest, by omega⟩

theorem ok_places88 (T : Tx w K mg a) : FnOk P w K mg base CX0 2 a.f_l_places a.d_l_places ["_law_opened", "_law_cell"] spPlaces88 := by
  have G_l_stream := ok_stream (P := P) (w := w) (base := base) T
  have G_l_number := ok_number (P := P) (w := w) (base := base) T
  refine T.F_l_places.ok sc_l_places (fun vs H Q E h => ?_) (fun cdv A outer s H vs Q E hr h => ?_)
  · obtain ⟨_, _, _, _, rfl, _⟩ := h; rfl
  obtain ⟨o, c, os, ws, rfl, ho, ao, wl, q⟩ := h
  refine ⟨_, (@pss_cons _ _ _ _ _ (@ps_set _ _ (2) _ _ _ _ sc_l_places.nd rfl (Or.inl rfl) (@pe_call _ _ _ _ _ _ _ _ _ _ _ _ _ _ _ _ G_l_stream (hr.mono (by omega)) (by rfl) T.m_l_stream T.F_l_stream.kp T.b_l_stream .nil pass0 (@pa_cons _ _ _ _ _ (pv 1) (@pa_cons _ _ _ _ _ pe_int pa_nil (by rfl)) (by rfl)) (by decide) (by rfl) (by rfl)) (by rfl) (by first | exact .inl rfl | exact .inr rfl | assumption)) (@pss_cons _ _ _ _ _ (@ps_set _ _ (3) _ _ _ _ sc_l_places.nd rfl (Or.inl rfl) (@pe_callB _ _ _ _ _ _ _ _ _ call_len_seq (by rfl) T.z_len bt_len (@pa_cons _ _ _ _ _ (@pe_compB _ _ _ _ _ _ _ ["_law_one"] [none] _ _ _ _ (by rfl) (@pi_list _ _ _ _ (pv 0)) c_l_places_0 (fun _ _ _ _ _ _ => ⟨(pg_name (i := 0) c_l_places_0n rfl (Or.inl rfl)), (@pts_one _ _ _ (@pt_not _ _ _ _ (@pt_val _ _ _ (@pe_ix _ _ _ _ _ _ _ (show IxR _ (rIxT K) from ix_tup) (pv 0) pe_int (fun _ _ => rfl)) (by intro _ ; rfl)))), (pv 0)⟩) (by intro _ ; rfl)) pa_nil (by rfl)) (by decide) (by decide) (by rfl) (by rfl)) (by rfl) (by first | exact .inl rfl | exact .inr rfl | assumption)) (@pss_cons _ _ _ _ _ (@ps_set _ _ (4) _ _ _ _ sc_l_places.nd rfl (Or.inl rfl) pe_int (by rfl) (by first | exact .inl rfl | exact .inr rfl | assumption)) (@pss_cons _ _ _ _ _ (@ps_set _ _ (5) _ _ _ _ sc_l_places.nd rfl (Or.inl rfl) (@pe_lst _ _ _ _ pa_nil) (by rfl) (by first | exact .inl rfl | exact .inr rfl | assumption)) (@pss_cons _ _ _ _ _ (@ps_for _ _ _ _ _ _ _ _ PassesOwn.never rfl (@pi_range1 _ _ _ _ _ _ (by rfl) T.z_range (@pa_cons _ _ _ _ _ (@pe_callB _ _ _ _ _ _ _ _ _ call_len_seq (by rfl) T.z_len bt_len (@pa_cons _ _ _ _ _ (pv 0) pa_nil (by rfl)) (by decide) (by decide) (by rfl) (by rfl)) pa_nil (by rfl)) (by rfl)) (pg_name (i := 6) sc_l_places.nd rfl (Or.inl rfl)) (@pss_cons _ _ _ _ _ (@ps_set _ _ (7) _ _ _ _ sc_l_places.nd rfl (Or.inl rfl) (@pe_op _ _ _ _ _ _ _ _ op_mod (@pe_ix _ _ _ _ _ _ _ ix_list (pv 2) (pv 6) (fun _ _ => rfl)) (@pe_callB _ _ _ _ _ _ _ _ _ (@call_max2 _ rfl) (by rfl) T.z_max bt_max (@pa_cons _ _ _ _ _ pe_int (@pa_cons _ _ _ _ _ (pv 3) pa_nil (by rfl)) (by rfl)) (by decide) (by decide) (by rfl) (by rfl))) (by rfl) (by first | exact .inl rfl | exact .inr rfl | assumption)) (@pss_cons _ _ _ _ _ (@ps_if _ _ _ _ _ _ _ _ (@pt_not _ _ _ _ (@pt_val _ _ _ (@pe_ix _ _ _ _ _ _ _ ix_tup (@pe_ix _ _ _ _ _ _ _ ix_list (pv 0) (pv 6) (fun _ _ => rfl)) pe_int (fun _ _ => rfl)) (by intro _ ; rfl))) (@pss_cons _ _ _ _ _ (@ps_set _ _ (7) _ _ _ _ sc_l_places.nd rfl (Or.inl rfl) (@pe_op _ _ _ _ _ _ _ _ op_mod (@pe_op _ _ _ _ _ _ _ _ op_add (@pe_ix _ _ _ _ _ _ _ ix_list (pv 2) pe_int (fun _ _ => rfl)) (pv 4)) (pv 3)) (by rfl) (by first | exact .inl rfl | exact .inr rfl | assumption)) (@pss_one _ _ _ (@ps_set _ _ (4) _ _ _ _ sc_l_places.nd rfl (Or.inl rfl) (@pe_op _ _ _ _ _ _ _ _ op_add (pv 4) pe_int) (by rfl) (by first | exact .inl rfl | exact .inr rfl | assumption)))) pss_nil) (@pss_cons _ _ _ _ _ (@ps_if _ _ _ _ _ _ _ _ (@pt_cmpR _ _ _ _ _ _ _ _ op_eq (@pe_op _ _ _ _ _ _ _ _ op_mod (@pe_ix _ _ _ _ _ _ _ ix_list (pv 2) pe_int (fun _ _ => rfl)) pe_int) pe_int (@nomark _ _ (by decide) (by decide))) (@pss_one _ _ _ (@ps_set _ _ (7) _ _ _ _ sc_l_places.nd rfl (Or.inl rfl) (@pe_op _ _ _ _ _ _ _ _ op_sub (@pe_op _ _ _ _ _ _ _ _ op_sub (pv 3) pe_int) (pv 7)) (by rfl) (by first | exact .inl rfl | exact .inr rfl | assumption))) pss_nil) (@pss_one _ _ _ (@ps_expr _ _ _ _ (@pe_bm _ _ _ _ _ _ _ _ _ _ _ _ PySem.F.plainAttrs_list PySem.F.slot_list_append PySem.F.type_list_append mt_append (pv 5) (@pa_cons _ _ _ _ _ (@pe_tup _ _ _ _ _ (@pa_cons _ _ _ _ _ (pv 7) (@pa_cons _ _ _ _ _ (@pe_call _ _ _ _ _ _ _ _ _ _ _ _ _ _ _ _ G_l_number (hr.mono (by omega)) (by rfl) T.m_l_number T.F_l_number.kp T.b_l_number .nil pass0 (@pa_cons _ _ _ _ _ (@pe_op _ _ _ _ _ _ _ _ op_mul (@pe_ix _ _ _ _ _ _ _ ix_list (pv 2) (@pe_op _ _ _ _ _ _ _ _ op_add (pv 6) pe_int) (fun _ _ => rfl)) (@pe_ix _ _ _ _ _ _ _ ix_list (pv 2) (pv 6) (fun _ _ => rfl))) (@pa_cons _ _ _ _ _ (@pe_op _ _ _ _ _ _ _ _ op_pow pe_int pe_int) pa_nil (by rfl)) (by rfl)) (by decide) (by rfl) (by rfl)) pa_nil (by rfl)) (by rfl))) pa_nil (by rfl)) (by rfl) (by rfl) (by rfl) (by rfl) (by rfl)) (by rfl)))))) (by intro _ ; rfl)) (@pss_one _ _ _ (@ps_ret _ _ _ _ (pv 5)))))))), ?_⟩
  have ol := ao.1
  refine ⟨_, rfl, c, 14, rfl, by decide, by decide, fun sx H1 e1 hsx => ?_⟩
  have hsx : H1 sx = some (.lst ((strm c 14).map V.int)) := hsx
  have sl : (strm c 14).length = 14 := strm_len _ _
  have xat : ∀ i : Nat, i < 14 → atI ((strm c 14).map V.int) ((i : Nat) : Int) = some (.int ((strm c 14).getD i 0)) := fun i hi => by
    refine atI_nat ?_
    rw [List.getElem?_map, List.getElem?_eq_getElem (by omega), List.getD_eq_getElem?_getD, List.getElem?_eq_getElem (by omega)]
    rfl
  have xb : ∀ i : Nat, i < 14 → 0 ≤ (strm c 14).getD i 0 ∧ (strm c 14).getD i 0 < 2147483647 := fun i hi => by
    rw [List.getD_eq_getElem?_getD, List.getElem?_eq_getElem (by omega)]
    exact strm_mem (List.getElem_mem _)
  generalize strm c 14 = ns at hsx xat xb sl
  dsimp only [gName]
  refine ⟨_, rfl, o, rfl, ⟨_, SqL.of (e1 _ _ ho)⟩, ?_⟩
  refine comp_list (xs := os) (fun i ys H' => H' = H1 ∧ ys.length = (whl (ws.take i)).length) ⟨rfl, rfl⟩ (szl (by omega)) (fun i ys H' hi pp => ⟨by rw [pp.1]; exact SqL.of (e1 _ _ ho), by rw [pp.2]; exact Nat.le_trans (List.length_filter_le _ _) (by rw [List.length_take]; omega)⟩) (fun i x ys H' hc pp => ?_) (fun ys H2 pp r hr => ?_)
  · obtain ⟨rfl, yl⟩ := pp
    obtain ⟨w', hw', t, rfl, ht⟩ := ao.get' hc
    refine ⟨_, rfl, t, _, 1, _, rfl, rfl, SqT.of (e1 _ _ ht), rfl, _, rfl, ?_⟩
    rw [whl_snoc hw']
    cases ec : w'.1 with
    | true => exact iteF ⟨rfl, by rw [if_pos rfl, List.append_nil]; exact yl⟩
    | false => exact iteT ⟨_, rfl, rfl, by rw [if_neg Bool.false_ne_true, List.length_append, List.length_append, yl]; rfl⟩
  obtain ⟨rfl, yl⟩ := pp
  rw [List.take_of_length_le (by omega)] at yl
  have s2 := same_new hr (.lst ys)
  have hr2 : (upd H2 r (.lst ys)) r = some (.lst ys) := upd_same
  generalize upd H2 r (.lst ys) = H3 at s2 hr2
  have e3 := e1.trans s2
  refine ⟨r, _, rfl, .inl (SqL.of hr2), ?_⟩
  rw [yl]
  dsimp only [gName]
  refine seq_asgC ?_
  refine ⟨szl (by show 0 ≤ 1000000; decide), fun fo hfo => ?_⟩
  have s4 := same_new hfo (.lst [])
  have hfo4 : (upd H3 fo (.lst [])) fo = some (.lst []) := upd_same
  have fo0 : H fo = none := e3.free hfo
  have fo1 : H2 fo = none := s2.free hfo
  generalize upd H3 fo (.lst []) = H4 at s4 hfo4
  have e4 := e3.trans s4
  have e14 := s2.trans s4
  dsimp only [gName]
  refine ⟨_, rfl, o, _, rfl, .inl (SqL.of (e4 _ _ ho)), _, rfl, by omega, by omega, ?_⟩
  rw [show ((os.length : Nat) : Int).toNat = ws.length by omega]
  refine for_range (lo := 0) (n := ws.length) (fun i σ' H' => ∃ (zs : List V) (ps : List (Int × Int)) (sn : Int) (o6 o7 : Option V), σ' = [some (.ref o), some (.int c), some (.ref sx), some (.int ((whl ws).length : Int)), some (.int sn), some (.ref fo), o6, o7] ∧ Same H H' ∧ Same H2 H' ∧ H' fo = some (.lst zs) ∧ All2 (PrAt H') zs ps ∧ ps.length = i ∧ ShB ps) ⟨[], [], 0, _, _, rfl, e4, e14, hfo4, .nil, rfl, (fun p h => by cases h)⟩ (fun i σ' H' hi pp => ?_) (fun σ' H' pp => ?_)
  rotate_left
  · obtain ⟨zs, ps, sn, o6, o7, rfl, e, _, hz, az, hl, hsb⟩ := pp
    exact ⟨_, rfl, q fo _ ps e fo0 ⟨zs, hz, az⟩ hl hsb⟩
  obtain ⟨zs, ps, sn, o6, o7, rfl, e, e1', hz, az, hl, hsb⟩ := pp
  have z1 : (0 : Int) + (i : Int) = ((i : Nat) : Int) := Int.zero_add _
  have hsx' := e1' _ _ hsx
  have ho' := e _ _ ho
  dsimp only [gName]
  rw [z1]
  refine ⟨_, rfl, _, rfl, sx, _, _, _, rfl, rfl, SqL.of hsx', xat i (by omega), ?_⟩
  have ib := xb i (by omega)
  have i6 := xb (i + 6) (by omega)
  have mx : (0 : Int) < (if ((whl ws).length : Int) > 1 then ((whl ws).length : Int) else 1) := by split <;> omega
  refine ⟨_, rfl, 1, _, rfl, _, _, rfl, rfl, mx, ?_⟩
  dsimp only [gName]
  have ei : ws[i]? = some ws[i] := List.getElem?_eq_getElem (by omega)
  obtain ⟨y, hy, t, rfl, ht⟩ := ao.get ei
  have ht' := e _ _ ht
  generalize hat : (ns.getD i 0) % (if ((whl ws).length : Int) > 1 then ((whl ws).length : Int) else 1) = at1
  refine seq_any (fun σ' H5 => H5 = H' ∧ ∃ at2 sn2 : Int, σ' = [some (.ref o), some (.int c), some (.ref sx), some (.int ((whl ws).length : Int)), some (.int sn2), some (.ref fo), some (.int ((i : Nat) : Int)), some (.int at2)]) (fun σ' H5 pp => ?_) (fun nx => ?_)
  rotate_left
  · refine ⟨_, rfl, _, rfl, o, _, _, _, rfl, rfl, SqL.of ho', atI_nat hy, t, _, 1, _, rfl, rfl, SqT.of ht', rfl, _, rfl, ?_⟩
    cases ec : ws[i].1 with
    | true => exact iteF (nx _ _ ⟨rfl, _, _, rfl⟩)
    | false =>
      refine iteT ?_
      have wp := whl_pos (List.mem_of_getElem? ei) ec
      refine ⟨_, rfl, sx, _, 13, _, rfl, rfl, SqL.of hsx', xat 13 (by decide), _, rfl, _, _, rfl, rfl, _, rfl, _, _, rfl, rfl, (by show (0 : Int) < ((whl ws).length : Int); omega), ?_⟩
      dsimp only [gName]
      refine ⟨_, rfl, _, _, rfl, rfl, nx _ _ ⟨rfl, _, _, rfl⟩⟩
  obtain ⟨rfl, at2, sn2, rfl⟩ := pp
  refine seq_any (fun σ' H6 => H6 = H5 ∧ ∃ at3 : Int, σ' = [some (.ref o), some (.int c), some (.ref sx), some (.int ((whl ws).length : Int)), some (.int sn2), some (.ref fo), some (.int ((i : Nat) : Int)), some (.int at3)]) (fun σ' H6 pp => ?_) (fun nx => ?_)
  rotate_left
  · refine ⟨_, rfl, sx, _, 12, _, rfl, rfl, SqL.of hsx', xat 12 (by decide), _, _, rfl, rfl, (by show (0 : Int) < 2; decide), rfl, _, rfl, ?_⟩
    refine ite2 (fun _ => ?_) (fun _ => nx _ _ ⟨rfl, _, rfl⟩)
    exact ⟨_, rfl, _, _, rfl, rfl, _, rfl, _, _, rfl, rfl, nx _ _ ⟨rfl, _, rfl⟩⟩
  obtain ⟨rfl, at3, rfl⟩ := pp
  have zl := az.1
  refine ⟨_, rfl, .inl ⟨rfl, _, SqL.of hz⟩, _, rfl, _, rfl, _, rfl, _, _, rfl, rfl, sx, _, _, _, rfl, rfl, SqL.of hsx', xat (i + 6) (by omega), _, rfl, _, rfl, sx, _, _, _, rfl, rfl, SqL.of hsx', xat i (by omega), _, _, rfl, rfl, .inl ⟨by omega, by omega⟩, _, _, rfl, rfl, ⟨by decide, by decide, by decide⟩, _, _, rfl, by decide, by decide, szl (by show 2 ≤ 1000000; decide), fun t9 ht9 => ?_⟩
  have s9 := same_new ht9 (.tup [V.int at3, V.int (numZ (ns.getD (i + 6) 0 * ns.getD i 0) (10 ^ (18 : Int).toNat))])
  refine ⟨fo, _, _, rfl, rfl, s9 _ _ hz, szlt (by omega), ?_⟩
  have tk : TK _ _ := TK.upd (o := .lst (zs ++ [V.ref t9])) (s9 _ _ hz)
  refine ⟨zs ++ [.ref t9], ps ++ [(at3, numZ (ns.getD (i + 6) 0 * ns.getD i 0) (10 ^ (18 : Int).toNat))], sn2, _, _, rfl, fun b ob eb => by rw [upd_ne (ne_of_none eb fo0)]; exact s9 _ _ (e _ _ eb), fun b ob eb => by rw [upd_ne (ne_of_none eb fo1)]; exact s9 _ _ (e1' _ _ eb), upd_same, ?_, by rw [List.length_append, hl]; rfl, fun p hp => ?_⟩
  · exact (az.mono fun _ _ z => let ⟨t, a, b⟩ := z; ⟨t, a, tk _ _ (s9 _ _ b)⟩).snoc ⟨t9, rfl, tk _ _ upd_same⟩
  · rcases List.mem_append.mp hp with z | z
    · exact hsb p z
    · rw [List.mem_singleton.mp z]
      exact numZ_b18 _

theorem ok_path87 (T : Tx w K mg a) : FnOk P w K mg base CX0 1 a.f_l_path a.d_l_path ["_law_groups_here", "_law_fit", "_law_cell", "_law_way"] spPath87 := by
  refine T.F_l_path.ok sc_l_path (fun vs H Q E h => ?_) (fun cdv A outer s H vs Q E hr h => ?_)
  · obtain ⟨_, _, _, _, _, _, rfl, _⟩ := h; rfl
  obtain ⟨g, fi, c, wy, G, F', rfl, ⟨xs, hg, ax⟩, gp, hG, ⟨ys, hfi, ay⟩, hF, q⟩ := h
  refine ⟨_, (@pss_cons _ _ _ _ _ (@ps_set _ _ (4) _ _ _ _ sc_l_path.nd rfl (Or.inl rfl) (@pe_ix _ _ _ _ _ _ _ ix_tup (@pe_ix _ _ _ _ _ _ _ ix_list (pv 0) (@pe_op _ _ _ _ _ _ _ _ op_mod (pv 2) (@pe_callB _ _ _ _ _ _ _ _ _ call_len_seq (by rfl) T.z_len bt_len (@pa_cons _ _ _ _ _ (pv 0) pa_nil (by rfl)) (by decide) (by decide) (by rfl) (by rfl))) (fun _ _ => rfl)) pe_int (fun _ _ => rfl)) (by rfl) (by first | exact .inl rfl | exact .inr rfl | assumption)) (@pss_cons _ _ _ _ _ (@ps_if _ _ _ _ _ _ _ _ ((@pw_and _ _ _ _ _ _ _ (@pt_cmpR _ _ _ _ _ _ _ _ op_in_seq (@pe_op _ _ _ _ _ _ _ _ op_mod (pv 3) pe_int) (@pe_tupq _ _ _ _ _ (@paq_cons _ _ _ _ _ pe_int (@paq_cons _ _ _ _ _ pe_int (@paq_cons _ _ _ _ _ pe_int paq_nil star_C) star_C) star_C)) (by with_unfolding_all rfl)) (@pw_and1 _ _ _ _ (@pt_cmpR _ _ _ _ _ _ _ _ (@op_neS _ (@hu64 _ _ hr)) (pv 1) (@pe_lst _ _ _ _ pa_nil) (@nomark _ _ (by decide) (by decide)))))).pt (@pss_one _ _ _ (@ps_set _ _ (4) _ _ _ _ sc_l_path.nd rfl (Or.inl rfl) (@pe_ix _ _ _ _ _ _ _ ix_tup (@pe_ix _ _ _ _ _ _ _ ix_list (pv 1) (@pe_op _ _ _ _ _ _ _ _ op_mod (pv 2) (@pe_callB _ _ _ _ _ _ _ _ _ call_len_seq (by rfl) T.z_len bt_len (@pa_cons _ _ _ _ _ (pv 1) pa_nil (by rfl)) (by decide) (by decide) (by rfl) (by rfl))) (fun _ _ => rfl)) pe_int (fun _ _ => rfl)) (by rfl) (by first | exact .inl rfl | exact .inr rfl | assumption))) pss_nil) (@pss_cons _ _ _ _ _ (@ps_set _ _ (5) _ _ _ _ sc_l_path.nd rfl (Or.inl rfl) (@pe_op _ _ _ _ _ _ _ _ op_mod (@pe_op _ _ _ _ _ _ _ _ op_fdiv (pv 2) pe_int) (@pe_callB _ _ _ _ _ _ _ _ _ call_len_seq (by rfl) T.z_len bt_len (@pa_cons _ _ _ _ _ (pv 4) pa_nil (by rfl)) (by decide) (by decide) (by rfl) (by rfl))) (by rfl) (by first | exact .inl rfl | exact .inr rfl | assumption)) (@pss_cons _ _ _ _ _ (@ps_if _ _ _ _ _ _ _ _ (@pt_cmpR _ _ _ _ _ _ _ _ op_eq (@pe_op _ _ _ _ _ _ _ _ op_mod (pv 3) pe_int) pe_int (@nomark _ _ (by decide) (by decide))) (@pss_one _ _ _ (@ps_ret _ _ _ _ (@pe_op _ _ _ _ _ _ _ _ op_catH (@pe_slice _ _ _ _ _ _ _ _ _ _ sl_tupH (pv 4) po_none (@po_some _ _ _ (@pe_un _ _ _ _ _ _ un_neg pe_int))) (@pe_tup _ _ _ _ _ (@pa_cons _ _ _ _ _ (@pe_op _ _ _ _ _ _ _ _ op_add (@pe_ix _ _ _ _ _ _ _ ix_tup (pv 4) (@pe_un _ _ _ _ _ _ un_neg pe_int) (fun _ _ => rfl)) pe_int) pa_nil (by rfl)))))) pss_nil) (@pss_cons _ _ _ _ _ (@ps_if _ _ _ _ _ _ _ _ (@pt_cmpR _ _ _ _ _ _ _ _ op_eq (@pe_op _ _ _ _ _ _ _ _ op_mod (pv 3) pe_int) pe_int (@nomark _ _ (by decide) (by decide))) (@pss_one _ _ _ (@ps_ret _ _ _ _ (@pe_op _ _ _ _ _ _ _ _ op_catH (@pe_op _ _ _ _ _ _ _ _ op_catH (@pe_slice _ _ _ _ _ _ _ _ _ _ sl_tupH (pv 4) po_none (@po_some _ _ _ (pv 5))) (@pe_tup _ _ _ _ _ (@pa_cons _ _ _ _ _ (@pe_op _ _ _ _ _ _ _ _ op_sub (@pe_op _ _ _ _ _ _ _ _ op_sub pe_int pe_int) (@pe_op _ _ _ _ _ _ _ _ op_mod (pv 2) pe_int)) pa_nil (by rfl)))) (@pe_slice _ _ _ _ _ _ _ _ _ _ sl_tupH (pv 4) (@po_some _ _ _ (@pe_op _ _ _ _ _ _ _ _ op_add (pv 5) pe_int)) po_none)))) pss_nil) (@pss_cons _ _ _ _ _ (@ps_if _ _ _ _ _ _ _ _ (@pt_cmpR _ _ _ _ _ _ _ _ op_eq (@pe_op _ _ _ _ _ _ _ _ op_mod (pv 3) pe_int) pe_int (@nomark _ _ (by decide) (by decide))) (@pss_one _ _ _ (@ps_ret _ _ _ _ (@pe_op _ _ _ _ _ _ _ _ op_catH (pv 4) (@pe_tup _ _ _ _ _ (@pa_cons _ _ _ _ _ (@pe_op _ _ _ _ _ _ _ _ op_mod (pv 2) pe_int) pa_nil (by rfl)))))) pss_nil) (@pss_cons _ _ _ _ _ (@ps_if _ _ _ _ _ _ _ _ (@pt_cmpR _ _ _ _ _ _ _ _ op_eq (@pe_op _ _ _ _ _ _ _ _ op_mod (pv 3) pe_int) pe_int (@nomark _ _ (by decide) (by decide))) (@pss_one _ _ _ (@ps_ret _ _ _ _ (@pe_op _ _ _ _ _ _ _ _ op_catH (@pe_op _ _ _ _ _ _ _ _ op_catH (@pe_slice _ _ _ _ _ _ _ _ _ _ sl_tupH (pv 4) po_none (@po_some _ _ _ (pv 5))) (@pe_tup _ _ _ _ _ (@pa_cons _ _ _ _ _ (@pe_op _ _ _ _ _ _ _ _ op_add (@pe_ix _ _ _ _ _ _ _ ix_tup (pv 4) (pv 5) (fun _ _ => rfl)) pe_int) pa_nil (by rfl)))) (@pe_slice _ _ _ _ _ _ _ _ _ _ sl_tupH (pv 4) (@po_some _ _ _ (@pe_op _ _ _ _ _ _ _ _ op_add (pv 5) pe_int)) po_none)))) pss_nil) (@pss_one _ _ _ (@ps_ret _ _ _ _ (pv 4)))))))))), ?_⟩
  have xp : 0 < xs.length := by rw [ax.1]; exact gp
  obtain ⟨t, p, gg, ea, mg', ht, hp⟩ := pick_gp ax c xp
  refine ⟨_, rfl, _, rfl, _, rfl, g, _, rfl, .inl (SqL.of hg), _, _, rfl, rfl, (by show (0 : Int) < (xs.length : Int); omega), g, _, _, _, rfl, rfl, SqL.of hg, ea, t, _, 0, _, rfl, rfl, SqT.of ht, rfl, ?_⟩
  dsimp only [gName]
  refine seq_any (fun σ' H' => Same H H' ∧ ∃ (pp : Addr) (PP : List Int), σ' = [some (.ref g), some (.ref fi), some (.int c), some (.int wy), some (.ref pp), none] ∧ H' pp = some (.tup (PP.map V.int)) ∧ PathOk PP) (fun σ' H' pp => ?_) (fun nx => ?_)
  rotate_left
  · refine ⟨_, rfl, _, _, rfl, rfl, (by show (0 : Int) < 8; decide), szl (by show 3 ≤ 1000000; decide), fun tt htt => ?_⟩
    have s1 := same_new htt (.tup [V.int 0, V.int 2, V.int 4])
    refine ⟨tt, _, rfl, .inr (SqT.of upd_same), rfl, rfl, _, rfl, ?_⟩
    refine ite2 (fun _ => ?_) (fun _ => iteF (nx _ _ ⟨s1, p, gg.1, rfl, s1 _ _ hp, hG _ mg'⟩))
    generalize upd H tt (.tup [V.int 0, V.int 2, V.int 4]) = H1 at s1
    refine ⟨_, rfl, szl (by show 0 ≤ 1000000; decide), fun l2 hl2 => ?_⟩
    have s2 := same_new hl2 (.lst [])
    have h22 : (upd H1 l2 (.lst [])) l2 = some (.lst []) := upd_same
    generalize upd H1 l2 (.lst []) = H2 at s2 h22
    have e2 := s1.trans s2
    have tr1 : TrIs K H2 (.ref fi) (.lst (F'.map gpT)) := .lst (SqL.of (e2 _ _ hfi)) (gps_tr (ay.mono fun _ _ z => GpAt.over z e2))
    have tr2 : TrIs K H2 (.ref l2) (.lst []) := .lst (SqL.of h22) .nil
    have dp := gps_dep F'
    refine ⟨_, _, tr1, tr2, ⟨_, rfl⟩, ⟨_, rfl⟩, (by rw [simT]; cases F' <;> simp [simTs]), (by rw [depT]; omega), _, rfl, ?_⟩
    refine ite2 (fun cc => ?_) (fun _ => nx _ _ ⟨e2, p, gg.1, rfl, e2 _ _ hp, hG _ mg'⟩)
    have yp : 0 < ys.length := by
      rcases Nat.eq_zero_or_pos ys.length with z | z
      · have f0 : F' = [] := List.eq_nil_of_length_eq_zero (by rw [← ay.1]; exact z)
        rw [f0, if_pos rfl, List.map_nil, eqT, eqTs] at cc
        cases cc
      · exact z
    obtain ⟨t3, p3, g3, ea3, mg3, ht3, hp3⟩ := pick_gp ay c yp
    refine ⟨_, rfl, _, rfl, _, rfl, fi, _, rfl, .inl (SqL.of (e2 _ _ hfi)), _, _, rfl, rfl, (by show (0 : Int) < (ys.length : Int); omega), fi, _, _, _, rfl, rfl, SqL.of (e2 _ _ hfi), ea3, t3, _, 0, _, rfl, rfl, SqT.of (e2 _ _ ht3), rfl, ?_⟩
    exact nx _ _ ⟨e2, p3, g3.1, rfl, e2 _ _ hp3, hF _ mg3⟩
  obtain ⟨e, pp, PP, rfl, hpp, pok⟩ := pp
  obtain ⟨pne, p7⟩ := pok
  have pl1 : 1 ≤ PP.length := List.length_pos_iff.mpr pne
  have lm : (PP.map V.int).length = PP.length := List.length_map ..
  refine ⟨_, rfl, _, _, rfl, rfl, ⟨by decide, by decide⟩, _, rfl, pp, _, rfl, .inr (SqT.of hpp), _, _, rfl, rfl, (by show (0 : Int) < ((PP.map V.int).length : Int); omega), ?_⟩
  rw [lm]
  have j0 := Int.emod_nonneg (c / 2) (show (PP.length : Int) ≠ 0 by omega)
  have j1 := Int.emod_lt_of_pos (c / 2) (show (0 : Int) < (PP.length : Int) by omega)
  obtain ⟨k, ek⟩ : ∃ k : Nat, c / 2 % (PP.length : Int) = (k : Int) := ⟨(c / 2 % (PP.length : Int)).toNat, by omega⟩
  have hk : k < PP.length := by omega
  dsimp only [gName]
  rw [ek]
  obtain ⟨p0, j, epath, edl, elast⟩ := last_of pne
  have p0l : p0.length + 1 = PP.length := by rw [epath, List.length_append]; rfl
  have hc1 : cutV (PP.map V.int) none (some (k : Int)) = (PP.take k).map V.int := by rw [cutTo (by omega), List.map_take]
  have hc2 : cutV (PP.map V.int) (some ((k : Int) + 1)) none = (PP.drop (k + 1)).map V.int := by rw [show (k : Int) + 1 = ((k + 1 : Nat) : Int) from rfl, cutFrom, List.map_drop]
  refine ⟨_, rfl, _, _, rfl, rfl, (by show (0 : Int) < 8; decide), rfl, _, rfl, ite2 (fun _ => ?_) (fun _ => ?_)⟩
  · refine ⟨_, rfl, _, rfl, _, rfl, pp, _, rfl, hpp, fun p1 H1 e1 h1 => ?_⟩
    rw [cut_end, edl] at h1
    refine ⟨_, rfl, _, rfl, pp, _, _, _, rfl, rfl, SqT.of (e1 _ _ hpp), elast, _, _, rfl, rfl, szl (by show 1 ≤ 1000000; decide), fun t1 ht1 => ?_⟩
    have s2 := same_new ht1 (.tup [V.int (j + 1)])
    refine ⟨p1, t1, _, [V.int (j + 1)], rfl, rfl, s2 _ _ h1, upd_same, szl (by rw [List.length_map, List.length_singleton]; omega), fun p2 H3 e3 h3 => ?_⟩
    refine q p2 H3 (p0 ++ [j + 1]) (e.trans (e1.trans (s2.trans e3))) (by rw [h3, List.map_append]; rfl) (by simp) (by rw [List.length_append, List.length_singleton]; omega)
  dsimp only [tNext]
  refine ⟨_, rfl, _, _, rfl, rfl, (by show (0 : Int) < 8; decide), rfl, _, rfl, ite2 (fun _ => ?_) (fun _ => ?_)⟩
  · refine ⟨_, rfl, _, rfl, _, rfl, pp, _, rfl, hpp, fun p1 H1 e1 h1 => ?_⟩
    rw [hc1] at h1
    refine ⟨_, _, rfl, rfl, _, rfl, _, _, rfl, rfl, (by show (0 : Int) < 2; decide), _, _, rfl, rfl, szl (by show 1 ≤ 1000000; decide), fun t1 ht1 => ?_⟩
    have s2 := same_new ht1 (.tup [V.int (0 - 1 - c % 2)])
    refine ⟨p1, t1, _, [V.int (0 - 1 - c % 2)], rfl, rfl, s2 _ _ h1, upd_same, szl (by rw [List.length_map, List.length_take, List.length_singleton]; omega), fun p2 H3 e3 h3 => ?_⟩
    have e13 := e1.trans (s2.trans e3)
    refine ⟨_, rfl, _, rfl, _, _, rfl, rfl, _, rfl, pp, _, rfl, e13 _ _ hpp, fun p4 H4 e4 h4 => ?_⟩
    have h4 : H4 p4 = some (.tup ((PP.drop (k + 1)).map V.int)) := by rw [h4]; exact congrArg (fun z => some (HO.tup z)) hc2
    refine ⟨p2, p4, _, _, rfl, rfl, e4 _ _ h3, h4, szl (by rw [List.length_append, List.length_map, List.length_take, List.length_singleton, List.length_map, List.length_drop]; omega), fun p5 H5 e5 h5 => ?_⟩
    refine q p5 H5 (PP.take k ++ [(0 - 1 - c % 2)] ++ PP.drop (k + 1)) (e.trans (e13.trans (e4.trans e5))) (by rw [h5, List.map_append, List.map_append]; rfl) (by simp) (by rw [List.length_append, List.length_append, List.length_take, List.length_singleton, List.length_drop]; omega)
  dsimp only [tNext]
  refine ⟨_, rfl, _, _, rfl, rfl, (by show (0 : Int) < 8; decide), rfl, _, rfl, ite2 (fun _ => ?_) (fun _ => ?_)⟩
  · refine ⟨_, rfl, _, rfl, _, _, rfl, rfl, (by show (0 : Int) < 3; decide), szl (by show 1 ≤ 1000000; decide), fun t1 ht1 => ?_⟩
    have s2 := same_new ht1 (.tup [V.int (c % 3)])
    refine ⟨pp, t1, _, [V.int (c % 3)], rfl, rfl, s2 _ _ hpp, upd_same, szl (by rw [List.length_map, List.length_singleton]; omega), fun p2 H3 e3 h3 => ?_⟩
    refine q p2 H3 (PP ++ [c % 3]) (e.trans (s2.trans e3)) (by rw [h3, List.map_append]; rfl) (by simp) (by rw [List.length_append, List.length_singleton]; omega)
  dsimp only [tNext]
  have hv : PP[k]? = some PP[k] := List.getElem?_eq_getElem hk
  have hva : atI (PP.map V.int) (k : Int) = some (.int PP[k]) := atI_nat (by rw [List.getElem?_map, hv]; rfl)
  refine ⟨_, rfl, _, _, rfl, rfl, (by show (0 : Int) < 8; decide), rfl, _, rfl, ite2 (fun _ => ?_) (fun _ => ?_)⟩
  · refine ⟨_, rfl, _, rfl, _, rfl, pp, _, rfl, hpp, fun p1 H1 e1 h1 => ?_⟩
    rw [hc1] at h1
    refine ⟨_, rfl, _, rfl, pp, _, _, _, rfl, rfl, SqT.of (e1 _ _ hpp), hva, _, _, rfl, rfl, szl (by show 1 ≤ 1000000; decide), fun t1 ht1 => ?_⟩
    have s2 := same_new ht1 (.tup [V.int (PP[k] + 6)])
    refine ⟨p1, t1, _, [V.int (PP[k] + 6)], rfl, rfl, s2 _ _ h1, upd_same, szl (by rw [List.length_map, List.length_take, List.length_singleton]; omega), fun p2 H3 e3 h3 => ?_⟩
    have e13 := e1.trans (s2.trans e3)
    refine ⟨_, rfl, _, rfl, _, _, rfl, rfl, _, rfl, pp, _, rfl, e13 _ _ hpp, fun p4 H4 e4 h4 => ?_⟩
    have h4 : H4 p4 = some (.tup ((PP.drop (k + 1)).map V.int)) := by rw [h4]; exact congrArg (fun z => some (HO.tup z)) hc2
    refine ⟨p2, p4, _, _, rfl, rfl, e4 _ _ h3, h4, szl (by rw [List.length_append, List.length_map, List.length_take, List.length_singleton, List.length_map, List.length_drop]; omega), fun p5 H5 e5 h5 => ?_⟩
    refine q p5 H5 (PP.take k ++ [(PP[k] + 6)] ++ PP.drop (k + 1)) (e.trans (e13.trans (e4.trans e5))) (by rw [h5, List.map_append, List.map_append]; rfl) (by simp) (by rw [List.length_append, List.length_append, List.length_take, List.length_singleton, List.length_drop]; omega)
  dsimp only [tNext]
  exact ⟨_, rfl, q pp _ PP e hpp pne (by omega)⟩

theorem ok_steps88 (T : Tx w K mg a) : FnOk P w K mg base CX0 2 a.f_l_steps a.d_l_steps ["_law_cells"] spSteps88 := by
  have G_l_stream := ok_stream (P := P) (w := w) (base := base) T
  refine T.F_l_steps.ok sc_l_steps (fun vs H Q E h => ?_) (fun cdv A outer s H vs Q E hr h => ?_)
  · obtain ⟨_, _, rfl, _⟩ := h; rfl
  obtain ⟨cl, ns, rfl, hC, hcl, q⟩ := h
  refine ⟨_, (@pss_cons _ _ _ _ _ (@ps_set _ _ (1) _ _ _ _ sc_l_steps.nd rfl (Or.inl rfl) (@pe_lst _ _ _ _ pa_nil) (by rfl) (by first | exact .inl rfl | exact .inr rfl | assumption)) (@pss_cons _ _ _ _ _ (@ps_set _ _ (2) _ _ _ _ sc_l_steps.nd rfl (Or.inl rfl) (@pe_lst _ _ _ _ (@pa_cons _ _ _ _ _ pe_int pa_nil (by rfl))) (by rfl) (by first | exact .inl rfl | exact .inr rfl | assumption)) (@pss_cons _ _ _ _ _ (@ps_set _ _ (3) _ _ _ _ sc_l_steps.nd rfl (Or.inl rfl) (@pe_lst _ _ _ _ pa_nil) (by rfl) (by first | exact .inl rfl | exact .inr rfl | assumption)) (@pss_cons _ _ _ _ _ (@ps_for _ _ _ _ _ _ _ _ PassesOwn.never rfl (@pi_list _ _ _ _ (@pe_op _ _ _ _ _ _ _ _ op_cat (pv 0) (@pe_lst _ _ _ _ (@pa_cons _ _ _ _ _ (@pe_op _ _ _ _ _ _ _ _ op_add pe_int (@pe_op _ _ _ _ _ _ _ _ op_mul pe_int (@pe_callB _ _ _ _ _ _ _ _ _ call_len_seq (by rfl) T.z_len bt_len (@pa_cons _ _ _ _ _ (pv 0) pa_nil (by rfl)) (by decide) (by decide) (by rfl) (by rfl)))) pa_nil (by rfl))))) (pg_name (i := 4) sc_l_steps.nd rfl (Or.inl rfl)) (@pss_cons _ _ _ _ _ (@ps_if _ _ _ _ _ _ _ _ (@pt_cmpR _ _ _ _ _ _ _ _ op_eq (@pe_callB _ _ _ _ _ _ _ _ _ call_len_seq (by rfl) T.z_len bt_len (@pa_cons _ _ _ _ _ (pv 3) pa_nil (by rfl)) (by decide) (by decide) (by rfl) (by rfl)) pe_int (@nomark _ _ (by decide) (by decide))) (@pss_one _ _ _ ps_break) pss_nil) (@pss_cons _ _ _ _ _ (@ps_set _ _ (5) _ _ _ _ sc_l_steps.nd rfl (Or.inl rfl) (@pe_callB _ _ _ _ _ _ _ _ _ call_len_seq (by rfl) T.z_len bt_len (@pa_cons _ _ _ _ _ (@pe_compB _ _ _ _ _ _ _ ["_law_one"] [none] _ _ _ _ (by rfl) (@pi_list _ _ _ _ (pv 1)) c_l_steps_0 (fun _ _ _ _ _ _ => ⟨(pg_name (i := 0) c_l_steps_0n rfl (Or.inl rfl)), (@pts_one _ _ _ (@pt_not _ _ _ _ (@pt_val _ _ _ (@pe_ix _ _ _ _ _ _ _ (show IxR _ (rIxT K) from ix_tup) (pv 0) pe_int (fun _ _ => rfl)) (by intro _ ; rfl)))), (pv 0)⟩) (by intro _ ; rfl)) pa_nil (by rfl)) (by decide) (by decide) (by rfl) (by rfl)) (by rfl) (by first | exact .inl rfl | exact .inr rfl | assumption)) (@pss_cons _ _ _ _ _ (@ps_set _ _ (6) _ _ _ _ sc_l_steps.nd rfl (Or.inl rfl) (@pe_ix _ _ _ _ _ _ _ ix_list (@pe_call _ _ _ _ _ _ _ _ _ _ _ _ _ _ _ _ G_l_stream (hr.mono (by omega)) (by rfl) T.m_l_stream T.F_l_stream.kp T.b_l_stream .nil pass0 (@pa_cons _ _ _ _ _ (pv 4) (@pa_cons _ _ _ _ _ pe_int pa_nil (by rfl)) (by rfl)) (by decide) (by rfl) (by rfl)) pe_int (fun _ _ => rfl)) (by rfl) (by first | exact .inl rfl | exact .inr rfl | assumption)) (@pss_cons _ _ _ _ _ (@ps_set _ _ (7) _ _ _ _ sc_l_steps.nd rfl (Or.inl rfl) (@pe_ix _ _ _ _ _ _ _ ix_list (@pe_lstq _ _ _ _ (@paq_cons _ _ _ _ _ pe_str (@paq_cons _ _ _ _ _ pe_str (@paq_cons _ _ _ _ _ pe_str paq_nil star_C) star_C) star_C)) (@pe_op _ _ _ _ _ _ _ _ op_mod (pv 6) pe_int) (fun _ _ => rfl)) (by rfl) (by first | exact .inl rfl | exact .inr rfl | assumption)) (@pss_one _ _ _ (@ps_if _ _ _ _ _ _ _ _ ((@pw_and _ _ _ _ _ _ _ (@pt_cmpR _ _ _ _ _ _ _ _ op_lt (@pe_op _ _ _ _ _ _ _ _ op_mod (pv 4) pe_int) pe_int (@nomark _ _ (by decide) (by decide))) (@pw_and1 _ _ _ _ (@pt_cmpR _ _ _ _ _ _ _ _ op_lt (@pe_callB _ _ _ _ _ _ _ _ _ call_len_seq (by rfl) T.z_len bt_len (@pa_cons _ _ _ _ _ (pv 1) pa_nil (by rfl)) (by decide) (by decide) (by rfl) (by rfl)) pe_int (@nomark _ _ (by decide) (by decide)))))).pt (@pss_cons _ _ _ _ _ (@ps_set _ _ (8) _ _ _ _ sc_l_steps.nd rfl (Or.inl rfl) (@pe_or _ _ _ _ _ _ _ (@pe_cmpR _ _ _ _ _ _ _ _ op_eq (pv 5) pe_int (@nomark _ _ (by decide) (by decide))) (@pe_one _ _ _ _ _ (@pe_and _ _ _ _ _ _ _ (@pe_cmpR _ _ _ _ _ _ _ _ op_eq (@pe_op _ _ _ _ _ _ _ _ op_mod (@pe_op _ _ _ _ _ _ _ _ op_fdiv (pv 6) pe_int) pe_int) pe_int (@nomark _ _ (by decide) (by decide))) (@pe_one _ _ _ _ _ (@pe_or _ _ _ _ _ _ _ (@pe_cmpR _ _ _ _ _ _ _ _ op_gt (pv 5) pe_int (@nomark _ _ (by decide) (by decide))) (@pe_one _ _ _ _ _ (@pe_cmpR _ _ _ _ _ _ _ _ op_lt (@pe_callB _ _ _ _ _ _ _ _ _ call_len_seq (by rfl) T.z_len bt_len (@pa_cons _ _ _ _ _ (pv 1) pa_nil (by rfl)) (by decide) (by decide) (by rfl) (by rfl)) pe_int (@nomark _ _ (by decide) (by decide))))))))) (by rfl) (by first | exact .inl rfl | exact .inr rfl | assumption)) (@pss_cons _ _ _ _ _ (@ps_set _ _ (1) _ _ _ _ sc_l_steps.nd rfl (Or.inl rfl) (@pe_op _ _ _ _ _ _ _ _ op_cat (pv 1) (@pe_lst _ _ _ _ (@pa_cons _ _ _ _ _ (@pe_tup _ _ _ _ _ (@pa_cons _ _ _ _ _ (pv 7) (@pa_cons _ _ _ _ _ (pv 8) pa_nil (by rfl)) (by rfl))) pa_nil (by rfl)))) (by rfl) (by first | exact .inl rfl | exact .inr rfl | assumption)) (@pss_one _ _ _ (@ps_set _ _ (2) _ _ _ _ sc_l_steps.nd rfl (Or.inl rfl) (@pe_op _ _ _ _ _ _ _ _ op_cat (pv 2) (@pe_lst _ _ _ _ (@pa_cons _ _ _ _ _ pe_int pa_nil (by rfl)))) (by rfl) (by first | exact .inl rfl | exact .inr rfl | assumption))))) (@pss_one _ _ _ (@ps_if _ _ _ _ _ _ _ _ ((@pw_and _ _ _ _ _ _ _ (@pt_cmpR _ _ _ _ _ _ _ _ op_eq (@pe_op _ _ _ _ _ _ _ _ op_mod (pv 4) pe_int) pe_int (@nomark _ _ (by decide) (by decide))) (@pw_and _ _ _ _ _ _ _ (@pt_cmpR _ _ _ _ _ _ _ _ (@op_neS _ (@hu64 _ _ hr)) (pv 1) (@pe_lst _ _ _ _ pa_nil) (@nomark _ _ (by decide) (by decide))) (@pw_and1 _ _ _ _ (@pt_cmpR _ _ _ _ _ _ _ _ op_gt (@pe_ix _ _ _ _ _ _ _ ix_list (pv 2) (@pe_un _ _ _ _ _ _ un_neg pe_int) (fun _ _ => rfl)) pe_int (@nomark _ _ (by decide) (by decide))))))).pt (@pss_cons _ _ _ _ _ (@ps_set _ _ (1) _ _ _ _ sc_l_steps.nd rfl (Or.inl rfl) (@pe_slice _ _ _ _ _ _ _ _ _ _ sl_list (pv 1) po_none (@po_some _ _ _ (@pe_un _ _ _ _ _ _ un_neg pe_int))) (by rfl) (by first | exact .inl rfl | exact .inr rfl | assumption)) (@pss_one _ _ _ (@ps_set _ _ (2) _ _ _ _ sc_l_steps.nd rfl (Or.inl rfl) (@pe_op _ _ _ _ _ _ _ _ op_cat (@pe_slice _ _ _ _ _ _ _ _ _ _ sl_list (pv 2) po_none (@po_some _ _ _ (@pe_un _ _ _ _ _ _ un_neg pe_int))) (@pe_lst _ _ _ _ (@pa_cons _ _ _ _ _ (@pe_op _ _ _ _ _ _ _ _ op_add (@pe_ix _ _ _ _ _ _ _ ix_list (pv 2) (@pe_un _ _ _ _ _ _ un_neg pe_int) (fun _ _ => rfl)) pe_int) pa_nil (by rfl)))) (by rfl) (by first | exact .inl rfl | exact .inr rfl | assumption)))) (@pss_cons _ _ _ _ _ (@ps_if _ _ _ _ _ _ _ _ ((@pw_and _ _ _ _ _ _ _ (@pt_cmpR _ _ _ _ _ _ _ _ (@op_neS _ (@hu64 _ _ hr)) (pv 1) (@pe_lst _ _ _ _ pa_nil) (@nomark _ _ (by decide) (by decide))) (@pw_and1 _ _ _ _ (@pt_cmpR _ _ _ _ _ _ _ _ op_eq (pv 5) pe_int (@nomark _ _ (by decide) (by decide)))))).pt (@pss_cons _ _ _ _ _ (@ps_set _ _ (1) _ _ _ _ sc_l_steps.nd rfl (Or.inl rfl) (@pe_op _ _ _ _ _ _ _ _ op_cat (pv 1) (@pe_lst _ _ _ _ (@pa_cons _ _ _ _ _ (@pe_tup _ _ _ _ _ (@pa_cons _ _ _ _ _ (pv 7) (@pa_cons _ _ _ _ _ pe_bl pa_nil (by rfl)) (by rfl))) pa_nil (by rfl)))) (by rfl) (by first | exact .inl rfl | exact .inr rfl | assumption)) (@pss_one _ _ _ (@ps_set _ _ (2) _ _ _ _ sc_l_steps.nd rfl (Or.inl rfl) (@pe_op _ _ _ _ _ _ _ _ op_cat (pv 2) (@pe_lst _ _ _ _ (@pa_cons _ _ _ _ _ pe_int pa_nil (by rfl)))) (by rfl) (by first | exact .inl rfl | exact .inr rfl | assumption)))) pss_nil) (@pss_cons _ _ _ _ _ (@ps_expr _ _ _ _ (@pe_bm _ _ _ _ _ _ _ _ _ _ _ _ PySem.F.plainAttrs_list PySem.F.slot_list_append PySem.F.type_list_append mt_append (pv 3) (@pa_cons _ _ _ _ _ (@pe_tupq _ _ _ _ _ (@paq_cons _ _ _ _ _ (pv 1) (@paq_cons _ _ _ _ _ (@pe_slice _ _ _ _ _ _ _ _ _ _ sl_list (pv 2) po_none (@po_some _ _ _ (@pe_un _ _ _ _ _ _ un_neg pe_int))) (@paq_cons _ _ _ _ _ (pv 6) paq_nil star_N) star_S) star_N)) pa_nil (by rfl)) (by rfl) (by rfl) (by rfl) (by rfl) (by rfl)) (by rfl)) (@pss_one _ _ _ (@ps_set _ _ (2) _ _ _ _ sc_l_steps.nd rfl (Or.inl rfl) (@pe_op _ _ _ _ _ _ _ _ op_cat (@pe_slice _ _ _ _ _ _ _ _ _ _ sl_list (pv 2) po_none (@po_some _ _ _ (@pe_un _ _ _ _ _ _ un_neg pe_int))) (@pe_lst _ _ _ _ (@pa_cons _ _ _ _ _ (@pe_op _ _ _ _ _ _ _ _ op_add (@pe_ix _ _ _ _ _ _ _ ix_list (pv 2) (@pe_un _ _ _ _ _ _ un_neg pe_int) (fun _ _ => rfl)) pe_int) pa_nil (by rfl)))) (by rfl) (by first | exact .inl rfl | exact .inr rfl | assumption))))))))))))) (by intro _ ; rfl)) (@pss_one _ _ _ (@ps_ret _ _ _ _ (pv 3))))))), ?_⟩
  refine ⟨szl (by show 0 ≤ 1000000; decide), fun o0 ho0 => ?_⟩
  refine ⟨szl (by show 1 ≤ 1000000; decide), fun pt0 hpt0 => ?_⟩
  refine ⟨szl (by show 0 ≤ 1000000; decide), fun l hl => ?_⟩
  have s1 := same_new ho0 (HO.lst [])
  have s2 := same_new hpt0 (HO.lst [V.int 0])
  have s3 := same_new hl (HO.lst [])
  have hl0 : H l = none := (s1.trans s2).free hl
  have start : Nst _ l o0 pt0 [] [0] [] := Nst.start ho0 hpt0 hl
  have sH := (s1.trans s2).trans s3
  generalize upd (upd (upd H o0 (HO.lst [])) pt0 (HO.lst [V.int 0])) l (HO.lst []) = HS at start sH
  dsimp only [gName]
  refine seq_any (fun σ' H' => Same H H' ∧ ∃ (S : List Row87) (o1 o2 o4 o5 o6 o7 o8 : Option V), σ' = [some (.ref cl), o1, o2, some (.ref l), o4, o5, o6, o7, o8] ∧ StsAt H' l S ∧ StOk S ∧ S ≠ [] ∧ ∀ r ∈ S, W3 r.op) (fun σ' H' m => ?_) (fun rest => ?_)
  · obtain ⟨e, S, o1, o2, o4, o5, o6, o7, o8, rfl, hS, ok, ne, w3⟩ := m
    exact ⟨_, rfl, q l _ S e hS ok ne w3⟩
  have hCS := sH _ _ hC
  have cll : (ns.map V.int).length = ns.length := List.length_map ..
  refine ⟨_, rfl, _, rfl, cl, _, rfl, .inl (SqL.of hCS), _, _, rfl, rfl, .inl ⟨by decide, by decide⟩, _, _, rfl, rfl, szl (by show 1 ≤ 1000000; decide), fun l1 hl1 => ?_⟩
  have s4 := same_new hl1 (.lst [V.int (4 + 5 * ((ns.map V.int).length : Int))])
  refine ⟨cl, l1, _, _, rfl, rfl, s4 _ _ hCS, upd_same, szl (by rw [cll]; show ns.length + 1 ≤ 1000000; omega), fun ap hap => ?_⟩
  have s5 := same_new hap (.lst (ns.map V.int ++ [V.int (4 + 5 * ((ns.map V.int).length : Int))]))
  have hap5 : (upd (upd HS l1 (.lst [V.int (4 + 5 * ((ns.map V.int).length : Int))])) ap (.lst (ns.map V.int ++ [V.int (4 + 5 * ((ns.map V.int).length : Int))]))) ap = some (.lst (ns.map V.int ++ [V.int (4 + 5 * ((ns.map V.int).length : Int))])) := upd_same
  have apl : ap ≠ l := by
    obtain ⟨vs9, h9, _⟩ := (start.over s4).rows
    exact (ne_of_none h9 hap).symm
  have start := start.over (s4.trans s5)
  have sH := sH.trans (s4.trans s5)
  generalize upd (upd HS l1 (.lst [V.int (4 + 5 * ((ns.map V.int).length : Int))])) ap (.lst (ns.map V.int ++ [V.int (4 + 5 * ((ns.map V.int).length : Int))])) = HT at start sH hap5
  rw [cll] at hap5
  have Ll : (ns.map V.int ++ [V.int (4 + 5 * (ns.length : Int))]).length = ns.length + 1 := by rw [List.length_append, cll]; rfl
  have Lx : ∀ i x, (ns.map V.int ++ [V.int (4 + 5 * (ns.length : Int))])[i]? = some x → ∃ c, x = V.int c ∧ (ns.length ≤ i → c = 4 + 5 * (ns.length : Int)) := fun i x hx => by
    by_cases c : i < ns.length
    · rw [List.getElem?_append_left (by omega), List.getElem?_map, List.getElem?_eq_getElem c] at hx
      cases hx
      exact ⟨_, rfl, fun z => absurd c (Nat.not_lt.mpr z)⟩
    · have := (List.getElem?_eq_some_iff.mp hx).1
      rw [List.getElem?_append_right (by omega), cll, show i - ns.length = 0 by omega] at hx
      cases hx
      exact ⟨_, rfl, fun _ => rfl⟩
  generalize ns.map V.int ++ [V.int (4 + 5 * (ns.length : Int))] = L at hap5 Ll Lx
  refine ⟨ap, rfl, ⟨_, SqL.of hap5⟩, ?_⟩
  refine for_list (xs := L) (fun i σ' H' => (Same H H' ∧ H' ap = some (.lst L)) ∧ ∃ (o pt : Addr) (op : List Way) (pa : List Int) (S : List Row87) (o4 o5 o6 o7 o8 : Option V), σ' = [some (.ref cl), some (.ref o), some (.ref pt), some (.ref l), o4, o5, o6, o7, o8] ∧ Nst H' l o pt op pa S ∧ Cur87 S op pa ∧ (ns.length < i → S ≠ []) ∧ W3S op S) ⟨⟨sH, hap5⟩, o0, pt0, [], [0], [], none, none, none, none, none, rfl, start, cur_start87, fun z => absurd z (Nat.not_lt_zero _), ⟨(fun x h => by cases h), (fun x h => by cases h)⟩⟩ (fun i σ' H' _ p => SqL.of p.1.2) (fun i x σ' H' hx p => ?_) (fun σ' H' p => ?_)
  rotate_left
  · obtain ⟨⟨e, _⟩, o, pt, op, pa, S, o4, o5, o6, o7, o8, rfl, N, C, ne, W⟩ := p
    exact rest _ _ ⟨e, S, _, _, _, _, _, _, _, rfl, N.all, C.ok, ne (by omega), W.s⟩
  obtain ⟨⟨e, hap'⟩, o, pt, op, pa, S, o4, o5, o6, o7, o8, rfl, N, C, ne, W⟩ := p
  obtain ⟨c, rfl, hc⟩ := Lx i x hx
  have hi : i ≤ ns.length := by have := (List.getElem?_eq_some_iff.mp hx).1; omega
  obtain ⟨vs0, hv0, av0⟩ := N.rows
  have vl := av0.1
  dsimp only [gName]
  refine ⟨_, rfl, l, _, rfl, .inl (SqL.of hv0), rfl, _, rfl, ?_⟩
  refine ite2 (fun c6 => ?_) (fun c6 => ?_)
  · have c6 := dT c6
    have c6 : ((vs0.length : Nat) : Int) = 6 := by injection c6
    exact rest _ _ ⟨e, S, _, _, _, _, _, _, _, rfl, N.all, C.ok, fun z => by rw [z, List.length_nil] at vl; omega, W.s⟩
  have R5 : S.length ≤ 5 := by
    have := dF c6
    have h2 : ¬ ((vs0.length : Nat) : Int) = 6 := fun z => this (congrArg V.int z)
    have := C.ok.sz
    omega
  dsimp only [tNext]
  obtain ⟨os, hos, aos⟩ := N.op.over wo_same
  have ol := aos.1
  have op6 := C.ol
  refine ⟨_, rfl, o, rfl, ⟨_, SqL.of hos⟩, ?_⟩
  refine comp_list (xs := os) (fun i ys H2 => H2 = H' ∧ ys.length = (whl (op.take i)).length) ⟨rfl, rfl⟩ (szl (by omega)) (fun i ys H2 hi pp => ⟨by rw [pp.1]; exact SqL.of hos, by rw [pp.2]; exact Nat.le_trans (List.length_filter_le _ _) (by rw [List.length_take]; omega)⟩) (fun i x ys H2 hc pp => ?_) (fun ys H2 pp r hr => ?_)
  · obtain ⟨rfl, yl⟩ := pp
    obtain ⟨w', hw', t, rfl, ht⟩ := aos.get' hc
    refine ⟨_, rfl, t, _, 1, _, rfl, rfl, SqT.of ht, rfl, _, rfl, ?_⟩
    rw [whl_snoc hw']
    cases ec : w'.1 with
    | true => exact iteF ⟨rfl, by rw [if_pos rfl, List.append_nil]; exact yl⟩
    | false => exact iteT ⟨_, rfl, rfl, by rw [if_neg Bool.false_ne_true, List.length_append, List.length_append, yl]; rfl⟩
  obtain ⟨rfl, yl⟩ := pp
  rw [List.take_of_length_le (by omega)] at yl
  have s2' := same_new hr (.lst ys)
  have hr2 : (upd H2 r (.lst ys)) r = some (.lst ys) := upd_same
  generalize upd H2 r (.lst ys) = H3 at s2' hr2
  refine ⟨r, _, rfl, .inl (SqL.of hr2), ?_⟩
  rw [yl]
  dsimp only [gName]
  refine ⟨_, rfl, c, 1, rfl, by decide, by decide, fun sx H4 e4 hsx => ?_⟩
  have hsx : H4 sx = some (.lst ((strm c 1).map V.int)) := hsx
  obtain ⟨xv, ex⟩ : ∃ xv, strm c 1 = [xv] := by
    have sl : (strm c 1).length = 1 := strm_len _ _
    match strm c 1, sl with
    | [z], _ => exact ⟨z, rfl⟩
  rw [ex] at hsx
  refine ⟨sx, _, 0, _, rfl, rfl, SqL.of hsx, rfl, ?_⟩
  dsimp only [gName]
  refine ⟨szl (by show 3 ≤ 1000000; decide), fun wl hwl => ?_⟩
  have s5' := same_new hwl (.lst [V.str "up", V.str "down", V.str "any"])
  have hwl5 : (upd H4 wl (.lst [V.str "up", V.str "down", V.str "any"])) wl = some (.lst [V.str "up", V.str "down", V.str "any"]) := upd_same
  obtain ⟨wy, hwy, hw3⟩ := way3m xv
  refine ⟨_, rfl, _, _, rfl, rfl, (by show (0 : Int) < 3; decide), wl, _, _, _, rfl, rfl, SqL.of hwl5, hwy, ?_⟩
  generalize upd H4 wl (.lst [V.str "up", V.str "down", V.str "any"]) = H5 at s5' hwl5
  have e25 := (s2'.trans e4).trans s5'
  have e5 := e.trans e25
  have N := N.over e25
  have hap' := e25 _ _ hap'
  dsimp only [gName]
  change tIfS _ _ _ _ [some (.ref cl), some (.ref o), some (.ref pt), some (.ref l), some (.int c), some (.int ((whl op).length : Int)), some (.int xv), some (.str wy), o8] _
  clear hos aos hsx hwl5 hwy e4 s5' s2' hr2
  have pl := C.pl
  refine if_any (fun H2 => H2 = H5) (fun H6 e6 => ?_) (fun els => ?_)
  rotate_left
  · refine ⟨_, rfl, _, _, rfl, rfl, (by show (0 : Int) < 5; decide), _, _, rfl, rfl, _, rfl, ?_⟩
    refine ite2 (fun cl2 => ?_) (fun _ => iteF (els _ rfl))
    have cl2 := dT cl2
    obtain ⟨os, hos, aos⟩ := N.op
    have ol2 := aos.1
    have hosH := wo_same _ _ hos
    refine ⟨_, rfl, o, _, rfl, .inl (SqL.of hosH), _, _, rfl, rfl, _, rfl, ?_⟩
    refine ite2 (fun c3 => ?_) (fun _ => els _ rfl)
    have c3 : os.length < 6 := by have := dT c3; omega
    refine seq_any (fun σ' H' => H' = H5 ∧ ∃ cb : Bool, σ' = [some (.ref cl), some (.ref o), some (.ref pt), some (.ref l), some (.int c), some (.int ((whl op).length : Int)), some (.int xv), some (.str wy), some (.bl cb)] ∧ (op.length = 5 → (whl op).length = 0 → cb = false)) (fun σ' H' pp => ?_) (fun nx => ?_)
    rotate_left
    · refine ⟨_, rfl, rfl, _, rfl, ?_⟩
      refine ite2 (fun c => nx _ _ ⟨rfl, true, rfl, fun _ z => ?_⟩) (fun c => ?_)
      · have c := dT c
        have c : ((whl op).length : Int) = 3 := by injection c
        omega
      refine ⟨_, rfl, _, _, rfl, rfl, ⟨by decide, by decide⟩, _, _, rfl, rfl, (by show (0 : Int) < 3; decide), rfl, _, rfl, ?_⟩
      refine ite2 (fun _ => ?_) (fun _ => nx _ _ ⟨rfl, false, rfl, fun _ _ => rfl⟩)
      refine ⟨_, rfl, _, _, rfl, rfl, _, rfl, ?_⟩
      refine ite2 (fun c => nx _ _ ⟨rfl, true, rfl, fun _ z => ?_⟩) (fun c => ?_)
      · have c := dT c
        omega
      refine ⟨_, rfl, o, _, rfl, .inl (SqL.of hosH), _, _, rfl, rfl, nx _ _ ⟨rfl, _, rfl, fun z _ => decide_eq_false (by omega)⟩⟩
    obtain ⟨rfl, cb, rfl, hcb⟩ := pp
    refine ⟨_, rfl, _, rfl, _, rfl, szl (by show 2 ≤ 1000000; decide), fun t ht => ?_⟩
    have s6 := same_new ht (.tup [V.str wy, V.bl cb])
    refine ⟨szl (by show 1 ≤ 1000000; decide), fun p1 hp1 => ?_⟩
    have s7 := same_new hp1 (.lst [V.ref t])
    have s67 := s6.trans s7
    refine ⟨o, p1, os, [.ref t], rfl, rfl, s67 _ _ hosH, upd_same, szl (by show os.length + 1 ≤ 1000000; omega), fun p2 hp2 => ?_⟩
    have N7 := N.over s67
    obtain ⟨vs7, hv7, _⟩ := N.rows
    have tl : t ≠ l := (ne_of_none hv7 ht).symm
    have N8 : Nst _ l p2 pt (op ++ [(cb, wy)]) pa S := N7.newOpen (vs' := os ++ [V.ref t]) hp2 ((aos.mono fun _ _ z => z.over (wo_mono s67)).snoc ⟨t, rfl, by rw [wo_ne tl]; exact s7 _ _ upd_same⟩)
    have s8 := same_new hp2 (.lst (os ++ [V.ref t]))
    dsimp only [gName]
    refine ⟨_, rfl, szl (by show 1 ≤ 1000000; decide), fun p3 hp3 => ?_⟩
    have s9 := same_new hp3 (.lst [V.int 0])
    have N9 := N8.over s9
    have hpt := wo_same _ _ N9.pa
    refine ⟨pt, p3, _, _, rfl, rfl, hpt, upd_same, szl (by rw [List.length_map]; show pa.length + 1 ≤ 1000000; omega), fun p4 hp4 => ?_⟩
    have N5 := N9.newPath (pa' := pa ++ [0]) hp4
    rw [List.map_append] at N5
    have sa := (((s67.trans s8).trans s9).trans (same_new hp4 (.lst (pa.map V.int ++ [V.int 0]))))
    exact ⟨⟨e5.trans sa, sa _ _ hap'⟩, p2, p4, _, _, S, _, _, _, _, _, rfl, N5, cur_open87 C (by omega) (fun z1 z2 => hcb z1 z2), fun z => by have := hc (by omega); omega, W.open hw3⟩
  subst e6
  refine if_any (fun H7 => Same H6 H7) (fun H7 e7 => ?_) (fun els2 => ?_)
  rotate_left
  · refine ⟨_, rfl, _, _, rfl, rfl, (by show (0 : Int) < 5; decide), rfl, _, rfl, ?_⟩
    refine ite2 (fun c2 => ?_) (fun _ => iteF (els2 _ (Same.refl _)))
    have c2 := dT c2
    have c2 : c % 5 = 2 := by injection c2
    refine ⟨_, rfl, szl (by show 0 ≤ 1000000; decide), fun p0 hp0 => ?_⟩
    have sp := same_new hp0 (.lst [])
    have hp00 : (upd H6 p0 (.lst [])) p0 = some (.lst []) := upd_same
    have N2 := N.over sp
    generalize upd H6 p0 (.lst []) = H7 at sp N2 hp00
    obtain ⟨os, hos, aos⟩ := N2.op.over wo_same
    have dpt := ops_dep op
    refine ⟨.lst (op.map fun w => .tup [.v (.str w.2), .v (.bl w.1)]), .lst [], .lst (SqL.of hos) (ops_tree aos), .lst (SqL.of hp00) .nil, ⟨_, rfl⟩, ⟨_, rfl⟩, (by rw [simT]; cases op <;> simp [simTs]), (by rw [depT]; omega), _, rfl, ?_⟩
    refine ite2 (fun c3 => ?_) (fun _ => iteF (els2 _ sp))
    have hne : op ≠ [] := fun z => by
      rw [z, List.map_nil, eqT, eqTs] at c3
      cases c3
    obtain ⟨op', w', eop, _⟩ := snoc_of (l := op) (n := op.length - 1) (by have := List.length_pos_iff.mpr hne; omega)
    subst eop
    rw [List.length_append, List.length_singleton] at pl
    obtain ⟨p', z, rfl, hp'⟩ := snoc_of pl
    obtain ⟨p, y, rfl, hp⟩ := snoc_of hp'
    have hpt := wo_same _ _ N2.pa
    rw [List.append_assoc, List.map_append] at hpt
    have hpt : H7 pt = some (.lst (p.map V.int ++ List.map V.int [y, z])) := hpt
    have hat1 : atI (p.map V.int ++ List.map V.int [y, z]) (-1) = some (V.int z) := by
      have := atI_neg (p.map V.int ++ [V.int y]) (V.int z) [] (n := -1) rfl
      rw [List.append_assoc] at this
      exact this
    have hat2 : atI (p.map V.int ++ List.map V.int [y, z]) (-2) = some (V.int y) := atI_neg (p.map V.int) (V.int y) [V.int z] rfl
    have hcut : cutV (p.map V.int ++ List.map V.int [y, z]) none (some (-2)) = p.map V.int := cutV_neg (p.map V.int) [V.int y, V.int z] (Nat.succ_pos _) rfl
    refine ⟨_, rfl, _, rfl, pt, _, _, _, rfl, rfl, SqL.of hpt, hat1, _, _, rfl, rfl, _, rfl, ?_⟩
    refine ite2 (fun cz => ?_) (fun _ => els2 _ sp)
    obtain ⟨os', ow, rfl, aos', _⟩ := aos.unsnoc
    obtain ⟨os2, hos2, aos2⟩ := N2.op
    have eo : os2 = os' ++ [ow] := by
      have := (wo_same _ _ hos2).symm.trans hos
      injection this with this
      injection this
    subst eo
    obtain ⟨os3, ow3, eo3, aos3, _⟩ := aos2.unsnoc
    have eo4 : os3 = os' := (List.append_inj' eo3 rfl).1.symm
    subst eo4
    refine ⟨_, rfl, _, rfl, _, rfl, o, _, rfl, SqL.of hos, fun p1 hp1 => ?_⟩
    have cv : cutV (os3 ++ [ow]) none (some (-1)) = os3 := cutV_neg os3 [ow] (Nat.succ_pos _) rfl
    rw [cv]
    have s7 := same_new hp1 (.lst os3)
    have N3 : Nst _ l p1 pt op' (p ++ [y] ++ [z]) S := N2.newOpen (vs' := os3) hp1 aos3
    have hpt3 := s7 _ _ hpt
    dsimp only [gName]
    refine ⟨_, rfl, _, rfl, _, rfl, pt, _, rfl, SqL.of hpt3, fun p2 hp2 => ?_⟩
    rw [hcut]
    have s8 := same_new hp2 (.lst (p.map V.int))
    refine ⟨_, rfl, _, rfl, pt, _, _, _, rfl, rfl, SqL.of (s8 _ _ hpt3), hat2, _, _, rfl, rfl, szl (by show 1 ≤ 1000000; decide), fun p3 hp3 => ?_⟩
    have s9 := same_new hp3 (.lst [V.int (y + 1)])
    refine ⟨p2, p3, _, _, rfl, rfl, s9 _ _ upd_same, upd_same, szl (by rw [List.length_map]; show p.length + 1 ≤ 1000000; omega), fun p4 hp4 => ?_⟩
    have N4 := ((N3.over s8).over s9).newPath (pa' := p ++ [y + 1]) hp4
    rw [List.map_append] at N4
    have sa := ((((sp.trans s7).trans s8).trans s9).trans (same_new hp4 (.lst (p.map V.int ++ [V.int (y + 1)]))))
    exact ⟨⟨e5.trans sa, sa _ _ hap'⟩, p1, p4, op', p ++ [y + 1], S, _, _, _, _, _, rfl, N4, cur_close87 C, fun z => by have := hc (by omega); omega, W.close⟩
  have N2 := N.over e7
  have hap7 := e7 _ _ hap'
  have e57 := e5.trans e7
  refine seq_any (fun σ' H' => (Same H H' ∧ H' ap = some (.lst L)) ∧ ∃ (o pt : Addr) (op : List Way) (pa : List Int), (∃ o5', σ' = [some (.ref cl), some (.ref o), some (.ref pt), some (.ref l), some (.int c), o5', some (.int xv), some (.str wy), o8]) ∧ Nst H' l o pt op pa S ∧ Cur87 S op pa ∧ W3S op S) (fun σ' H8 pp => ?_) (fun nx => ?_)
  · obtain ⟨⟨e8, hap8⟩, o, pt, op, pa, ⟨o5', rfl⟩, N, C, W⟩ := pp
    have pl := C.pl
    have ol := C.ol
    obtain ⟨p, y, rfl, hp⟩ := snoc_of pl
    have hpt := wo_same _ _ N.pa
    rw [List.map_append] at hpt
    have hpt : H8 pt = some (.lst (p.map V.int ++ [V.int y])) := hpt
    have cv : cutV (p.map V.int ++ [V.int y]) none (some (-1)) = p.map V.int := cutV_neg (p.map V.int) [V.int y] (Nat.succ_pos _) rfl
    obtain ⟨vs8, hv8, _⟩ := N.rows
    refine ⟨_, rfl, .inl ⟨rfl, _, SqL.of hv8⟩, _, rfl, _, rfl, _, rfl, _, rfl, pt, _, rfl, SqL.of hpt, fun t1 ht1 => ?_⟩
    rw [cv]
    refine ⟨_, rfl, szl (by show 3 ≤ 1000000; decide), fun t2 ht2 => ?_⟩
    obtain ⟨vs, g0, g1, g2⟩ := N.add (x := xv) ht1 ht2
    refine ⟨l, _, _, rfl, rfl, g0, szlt (by omega), ?_⟩
    have e3 : Same H (upd (upd (upd H8 t1 (.lst (p.map V.int))) t2 (.tup [.ref o, .ref t1, .int xv])) l (.lst (vs ++ [.ref t2]))) := fun b ob eb => by
      rw [upd_ne (ne_of_none eb hl0)]
      exact ((e8.trans (same_new ht1 _)).trans (same_new ht2 _)) b ob eb
    have hap9 : (upd (upd (upd H8 t1 (.lst (p.map V.int))) t2 (.tup [.ref o, .ref t1, .int xv])) l (.lst (vs ++ [.ref t2]))) ap = some (.lst L) := by
      rw [upd_ne apl]
      exact ((same_new ht1 _).trans (same_new ht2 _)) _ _ hap8
    generalize upd (upd (upd H8 t1 (.lst (p.map V.int))) t2 (.tup [.ref o, .ref t1, .int xv])) l (.lst (vs ++ [.ref t2])) = H9 at g2 e3 hap9
    have hpt9 := wo_same _ _ g2.pa
    rw [List.map_append] at hpt9
    have hpt9 : H9 pt = some (.lst (p.map V.int ++ [V.int y])) := hpt9
    dsimp only [gName]
    refine ⟨_, rfl, _, rfl, _, rfl, pt, _, rfl, SqL.of hpt9, fun p1 hp1 => ?_⟩
    rw [cv]
    have s7 := same_new hp1 (.lst (p.map V.int))
    refine ⟨_, rfl, _, rfl, pt, _, _, _, rfl, rfl, SqL.of (s7 _ _ hpt9), atI_neg _ _ [] rfl, _, _, rfl, rfl, szl (by show 1 ≤ 1000000; decide), fun p2 hp2 => ?_⟩
    have s8 := same_new hp2 (.lst [V.int (y + 1)])
    refine ⟨p1, p2, _, _, rfl, rfl, s8 _ _ upd_same, upd_same, szl (by rw [List.length_map]; show p.length + 1 ≤ 1000000; omega), fun p3 hp3 => ?_⟩
    have N4 := ((g2.over s7).over s8).newPath (pa' := p ++ [y + 1]) hp3
    rw [List.map_append] at N4
    have sa := (s7.trans s8).trans (same_new hp3 (.lst (p.map V.int ++ [V.int (y + 1)])))
    exact ⟨⟨e3.trans sa, sa _ _ hap9⟩, o, p3, op, p ++ [y + 1], _, _, _, _, _, _, rfl, N4, cur_row87 C R5, fun _ => by simp, W.row⟩
  · refine ⟨_, rfl, szl (by show 0 ≤ 1000000; decide), fun p0 hp0 => ?_⟩
    have sp := same_new hp0 (.lst [])
    have hp00 : (upd H7 p0 (.lst [])) p0 = some (.lst []) := upd_same
    have N2 := N2.over sp
    have hap8 := sp _ _ hap7
    have e8 := e57.trans sp
    generalize upd H7 p0 (.lst []) = H8 at sp N2 hp00 hap8 e8
    obtain ⟨os, hos, aos⟩ := N2.op
    have hosH := wo_same _ _ hos
    have dpt := ops_dep op
    have ol2 := aos.1
    refine ⟨.lst (op.map fun w => .tup [.v (.str w.2), .v (.bl w.1)]), .lst [], .lst (SqL.of hosH) (ops_tree (aos.mono fun _ _ z => z.over wo_same)), .lst (SqL.of hp00) .nil, ⟨_, rfl⟩, ⟨_, rfl⟩, (by rw [simT]; cases op <;> simp [simTs]), (by rw [depT]; omega), _, rfl, ?_⟩
    refine ite2 (fun c3 => ?_) (fun _ => iteF (nx _ _ ⟨⟨e8, hap8⟩, o, pt, op, pa, ⟨_, rfl⟩, N2, C, W⟩))
    refine ⟨_, rfl, rfl, _, rfl, ?_⟩
    refine ite2 (fun c4 => ?_) (fun _ => nx _ _ ⟨⟨e8, hap8⟩, o, pt, op, pa, ⟨_, rfl⟩, N2, C, W⟩)
    have c4 := dT c4
    have c4 : ((whl op).length : Int) = 0 := by injection c4
    have c5 : op.length < 6 := by
      rcases Nat.lt_or_ge op.length 6 with z | z
      · exact z
      · have := C.o6 (by omega)
        omega
    refine ⟨_, rfl, _, rfl, szl (by show 2 ≤ 1000000; decide), fun t ht => ?_⟩
    have s6 := same_new ht (.tup [V.str wy, V.bl false])
    refine ⟨szl (by show 1 ≤ 1000000; decide), fun p1 hp1 => ?_⟩
    have s7 := same_new hp1 (.lst [V.ref t])
    have s67 := s6.trans s7
    refine ⟨o, p1, os, [.ref t], rfl, rfl, s67 _ _ hosH, upd_same, szl (by show os.length + 1 ≤ 1000000; omega), fun p2 hp2 => ?_⟩
    have N7 := N2.over s67
    obtain ⟨vs7, hv7, _⟩ := N2.rows
    have tl : t ≠ l := (ne_of_none hv7 ht).symm
    have N8 : Nst _ l p2 pt (op ++ [(false, wy)]) pa S := N7.newOpen (vs' := os ++ [V.ref t]) hp2 ((aos.mono fun _ _ z => z.over (wo_mono s67)).snoc ⟨t, rfl, by rw [wo_ne tl]; exact s7 _ _ upd_same⟩)
    have s8 := same_new hp2 (.lst (os ++ [V.ref t]))
    dsimp only [gName]
    refine ⟨_, rfl, szl (by show 1 ≤ 1000000; decide), fun p3 hp3 => ?_⟩
    have s9 := same_new hp3 (.lst [V.int 0])
    have N9 := N8.over s9
    have hpt := wo_same _ _ N9.pa
    refine ⟨pt, p3, _, _, rfl, rfl, hpt, upd_same, szl (by rw [List.length_map]; show pa.length + 1 ≤ 1000000; omega), fun p4 hp4 => ?_⟩
    have N5 := N9.newPath (pa' := pa ++ [0]) hp4
    rw [List.map_append] at N5
    have sa := (((s67.trans s8).trans s9).trans (same_new hp4 (.lst (pa.map V.int ++ [V.int 0]))))
    exact nx _ _ ⟨⟨e8.trans sa, sa _ _ hap8⟩, p2, p4, _, _, ⟨_, rfl⟩, N5, cur_open87 C c5 (fun _ _ => rfl), W.open hw3⟩

theorem ok_leaves88 (T : Tx w K mg a) : FnOk P w K mg base CX0 3 a.f_l_leaves a.d_l_leaves ["_law_cells", "_law_turn_here"] spLeaves88 := by
  have G_l_steps := ok_steps88 (P := P) (w := w) (base := base) T
  have G_l_places := ok_places88 (P := P) (w := w) (base := base) T
  refine T.F_l_leaves.ok sc_l_leaves (fun vs H Q E h => ?_) (fun cdv A outer s H vs Q E hr h => ?_)
  · obtain ⟨_, _, _, rfl, _⟩ := h; rfl
  obtain ⟨cl, ns, turn, rfl, hC, hcl, q⟩ := h
  refine ⟨_, (@pss_cons _ _ _ _ _ (@ps_set _ _ (2) _ _ _ _ sc_l_leaves.nd rfl (Or.inl rfl) (@pe_call _ _ _ _ _ _ _ _ _ _ _ _ _ _ _ _ G_l_steps (hr.mono (by omega)) (by rfl) T.m_l_steps T.F_l_steps.kp T.b_l_steps .nil pass0 (@pa_cons _ _ _ _ _ (pv 0) pa_nil (by rfl)) (by decide) (by rfl) (by rfl)) (by rfl) (by first | exact .inl rfl | exact .inr rfl | assumption)) (@pss_cons _ _ _ _ _ (@ps_set _ _ (3) _ _ _ _ sc_l_leaves.nd rfl (Or.inl rfl) (@pe_lst _ _ _ _ pa_nil) (by rfl) (by first | exact .inl rfl | exact .inr rfl | assumption)) (@pss_cons _ _ _ _ _ (@ps_set _ _ (4) _ _ _ _ sc_l_leaves.nd rfl (Or.inl rfl) (@pe_lst _ _ _ _ pa_nil) (by rfl) (by first | exact .inl rfl | exact .inr rfl | assumption)) (@pss_cons _ _ _ _ _ (@ps_for _ _ _ _ _ _ _ _ PassesOwn.never rfl (@pi_range1 _ _ _ _ _ _ (by rfl) T.z_range (@pa_cons _ _ _ _ _ (@pe_callB _ _ _ _ _ _ _ _ _ call_len_seq (by rfl) T.z_len bt_len (@pa_cons _ _ _ _ _ (pv 2) pa_nil (by rfl)) (by decide) (by decide) (by rfl) (by rfl)) pa_nil (by rfl)) (by rfl)) (pg_name (i := 5) sc_l_leaves.nd rfl (Or.inl rfl)) (@pss_cons _ _ _ _ _ (@ps_set _ _ (6) _ _ _ _ sc_l_leaves.nd rfl (Or.inl rfl) (@pe_op _ _ _ _ _ _ _ _ op_mod (@pe_op _ _ _ _ _ _ _ _ op_add (pv 5) (@pe_op _ _ _ _ _ _ _ _ op_fdiv (pv 1) pe_int)) (@pe_callB _ _ _ _ _ _ _ _ _ call_len_seq (by rfl) T.z_len bt_len (@pa_cons _ _ _ _ _ (pv 2) pa_nil (by rfl)) (by decide) (by decide) (by rfl) (by rfl))) (by rfl) (by first | exact .inl rfl | exact .inr rfl | assumption)) (@pss_cons _ _ _ _ _ (@ps_if _ _ _ _ _ _ _ _ (@pt_cmpR _ _ _ _ _ _ _ _ op_eq (@pe_op _ _ _ _ _ _ _ _ op_mod (pv 1) pe_int) pe_int (@nomark _ _ (by decide) (by decide))) (@pss_one _ _ _ (@ps_set _ _ (6) _ _ _ _ sc_l_leaves.nd rfl (Or.inl rfl) (@pe_op _ _ _ _ _ _ _ _ op_sub (@pe_op _ _ _ _ _ _ _ _ op_sub (@pe_callB _ _ _ _ _ _ _ _ _ call_len_seq (by rfl) T.z_len bt_len (@pa_cons _ _ _ _ _ (pv 2) pa_nil (by rfl)) (by decide) (by decide) (by rfl) (by rfl)) pe_int) (pv 6)) (by rfl) (by first | exact .inl rfl | exact .inr rfl | assumption))) pss_nil) (@pss_cons _ _ _ _ _ (@ps_asg _ _ _ _ _ _ (@pe_ix _ _ _ _ _ _ _ ix_list (pv 2) (pv 5) (fun _ _ => rfl)) (pg_tup rfl (pgs_cons (pg_name (i := 7) sc_l_leaves.nd rfl (Or.inl rfl)) (pgs_cons (pg_name (i := 8) sc_l_leaves.nd rfl (Or.inl rfl)) (pgs_cons (pg_name (i := 9) sc_l_leaves.nd rfl (Or.inl rfl)) pgs_nil)))) (by rfl) (by rfl) (by rfl)) (@pss_cons _ _ _ _ _ (@ps_set _ _ (10) _ _ _ _ sc_l_leaves.nd rfl (Or.inl rfl) pe_int (by rfl) (by first | exact .inl rfl | exact .inr rfl | assumption)) (@pss_cons _ _ _ _ _ (@ps_while _ _ _ _ _ _ PassesOwn.never ((@pw_and _ _ _ _ _ _ _ (@pt_cmpR _ _ _ _ _ _ _ _ op_lt (pv 10) (@pe_callB _ _ _ _ _ _ _ _ _ (@call_min2 _ rfl) (by rfl) T.z_min bt_min (@pa_cons _ _ _ _ _ (@pe_callB _ _ _ _ _ _ _ _ _ call_len_seq (by rfl) T.z_len bt_len (@pa_cons _ _ _ _ _ (pv 8) pa_nil (by rfl)) (by decide) (by decide) (by rfl) (by rfl)) (@pa_cons _ _ _ _ _ (@pe_callB _ _ _ _ _ _ _ _ _ call_len_seq (by rfl) T.z_len bt_len (@pa_cons _ _ _ _ _ (pv 4) pa_nil (by rfl)) (by decide) (by decide) (by rfl) (by rfl)) pa_nil (by rfl)) (by rfl)) (by decide) (by decide) (by rfl) (by rfl)) (@nomark _ _ (by decide) (by decide))) (@pw_and1 _ _ _ _ (@pt_cmpR _ _ _ _ _ _ _ _ op_eq (@pe_ix _ _ _ _ _ _ _ ix_list (pv 8) (pv 10) (fun _ _ => rfl)) (@pe_ix _ _ _ _ _ _ _ ix_list (pv 4) (pv 10) (fun _ _ => rfl)) (@nomark _ _ (by decide) (by decide)))))).pt (@pss_one _ _ _ (@ps_set _ _ (10) _ _ _ _ sc_l_leaves.nd rfl (Or.inl rfl) (@pe_op _ _ _ _ _ _ _ _ op_add (pv 10) pe_int) (by rfl) (by first | exact .inl rfl | exact .inr rfl | assumption)))) (@pss_cons _ _ _ _ _ (@ps_setcompB _ _ _ _ _ _ _ _ _ (11) _ ["_law_way", "_law_is_cut"] [none, none] _ _ _ _ sc_l_leaves.nd rfl (Or.inl rfl) (by rfl) (@pi_list _ _ _ _ (pv 7)) c_l_leaves_0 (fun _ _ _ _ _ _ => ⟨(show PG _ _ (gTup K 2 _) from (pg_tup rfl (pgs_cons (pg_name (i := 0) c_l_leaves_0n rfl (Or.inl rfl)) (pgs_cons (pg_name (i := 1) c_l_leaves_0n rfl (Or.inl rfl)) pgs_nil)))), @pts_nil _, (@pe_tup _ _ _ _ _ (@pa_cons _ _ _ _ _ (pv 1) (@pa_cons _ _ _ _ _ (pv 0) pa_nil (by rfl)) (by rfl)))⟩) (by rfl) (by intro _ ; rfl) (by first | exact .inl rfl | exact .inr rfl | assumption)) (@pss_cons _ _ _ _ _ (@ps_expr _ _ _ _ (@pe_bm _ _ _ _ _ _ _ _ _ _ _ _ PySem.F.plainAttrs_list PySem.F.slot_list_append PySem.F.type_list_append mt_append (pv 3) (@pa_cons _ _ _ _ _ (@pe_tupq _ _ _ _ _ (@paq_cons _ _ _ _ _ (pv 6) (@paq_cons _ _ _ _ _ (pv 10) (@paq_cons _ _ _ _ _ (pv 11) (@paq_cons _ _ _ _ _ (@pe_call _ _ _ _ _ _ _ _ _ _ _ _ _ _ _ _ G_l_places (hr.mono (by omega)) (by rfl) T.m_l_places T.F_l_places.kp T.b_l_places .nil pass0 (@pa_cons _ _ _ _ _ (pv 7) (@pa_cons _ _ _ _ _ (pv 9) pa_nil (by rfl)) (by rfl)) (by decide) (by rfl) (by rfl)) paq_nil star_K) star_N) star_N) star_N)) pa_nil (by rfl)) (by rfl) (by rfl) (by rfl) (by rfl) (by rfl)) (by rfl)) (@pss_one _ _ _ (@ps_set _ _ (4) _ _ _ _ sc_l_leaves.nd rfl (Or.inl rfl) (pv 8) (by rfl) (by first | exact .inl rfl | exact .inr rfl | assumption)))))))))) (by intro _ ; rfl)) (@pss_one _ _ _ (@ps_ret _ _ _ _ (pv 3))))))), ?_⟩
  refine ⟨_, rfl, cl, ns, rfl, hC, hcl, fun st H1 S e1 hS ok ne w3 => ?_⟩
  dsimp only [gName]
  refine ⟨szl (by show 0 ≤ 1000000; decide), fun fo hfo => ?_⟩
  have s2 := same_new hfo (.lst [])
  have hfo2 : (upd H1 fo (.lst [])) fo = some (.lst []) := upd_same
  have fo0 : H fo = none := e1.free hfo
  generalize upd H1 fo (.lst []) = H2 at s2 hfo2
  dsimp only [gName]
  refine ⟨szl (by show 0 ≤ 1000000; decide), fun la0 hla0 => ?_⟩
  have s3 := same_new hla0 (.lst [])
  have hla3 : (upd H2 la0 (.lst [])) la0 = some (.lst []) := upd_same
  have laf : la0 ≠ fo := (ne_of_none hfo2 hla0).symm
  have hfo3 := s3 _ _ hfo2
  generalize upd H2 la0 (.lst []) = H3 at s3 hla3 hfo3
  have e13 := s2.trans s3
  have sp : 0 < S.length := List.length_pos_iff.mpr ne
  have s6 := ok.sz
  obtain ⟨sts, hst, ast⟩ := hS
  have stl := ast.1
  dsimp only [gName]
  refine ⟨_, rfl, st, _, rfl, .inl (SqL.of (e13 _ _ hst)), _, rfl, by omega, by omega, ?_⟩
  rw [show ((sts.length : Nat) : Int).toNat = S.length by omega]
  refine for_range (lo := 0) (n := S.length) (fun i σ' H' => ∃ (zs : List V) (B : List Bgh) (la : Addr) (lp : List Int) (o5 o6 o7 o8 o9 o10 o11 : Option V), σ' = [some (.ref cl), some (.int turn), some (.ref st), some (.ref fo), some (.ref la), o5, o6, o7, o8, o9, o10, o11] ∧ Same H H' ∧ Same H1 H' ∧ H' fo = some (.lst zs) ∧ All2 (BoAt (wo H' fo)) zs B ∧ B.length = i ∧ LvB S B ∧ (∀ (j : Nat) (b : Bgh), B[j]? = some b → b.k = numF turn S.length j) ∧ (∀ b ∈ B, ShB b.pl) ∧ wo H' fo la = some (.lst (lp.map V.int)) ∧ (i = 0 → lp = []) ∧ (∀ j r, i = j + 1 → S[j]? = some r → lp = r.pa)) ?_ (fun i σ' H' hi pp => ?_) (fun σ' H' pp => ?_)
  · exact ⟨[], [], la0, [], _, _, _, _, _, _, _, rfl, e1.trans e13, e13, hfo3, .nil, rfl, ⟨(fun i r b _ h => by simp at h), (fun i r r' b _ _ h => by simp at h), (fun b h => by simp at h), (fun b h => by cases h)⟩, (fun j b h => by simp at h), (fun b h => by cases h), by rw [wo_ne laf]; exact hla3, fun _ => rfl, (fun j r h => by omega)⟩
  rotate_left
  · obtain ⟨zs, B, la, lp, o5, o6, o7, o8, o9, o10, o11, rfl, e, _, hz, az, bl, L, kf, sf, _⟩ := pp
    refine ⟨_, rfl, q fo _ B e ⟨zs, hz, az.mono fun _ _ z => z.over wo_same⟩ (lvb_from ok bl L) (fun z => by rw [z] at bl; simp at bl; omega) (fun b hb => L.s0 b (by rw [← List.head?_eq_getElem?]; exact hb)) L.pl ?_ ?_ sf⟩
    · intro b hb
      obtain ⟨i, hi⟩ := List.mem_iff_getElem?.mp hb
      have il := (List.getElem?_eq_some_iff.mp hi).1
      have er : S[i]? = some S[i] := List.getElem?_eq_getElem (by omega)
      rw [L.ws i _ b er hi]
      exact w3 _ (List.mem_of_getElem? er)
    · intro i j b c hi hj e'
      have il := (List.getElem?_eq_some_iff.mp hi).1
      have jl := (List.getElem?_eq_some_iff.mp hj).1
      rw [kf i b hi, kf j c hj] at e'
      exact numF_inj (by omega) (by omega) e'
  obtain ⟨zs, B, la, lp, o5, o6, o7, o8, o9, o10, o11, rfl, e, e1', hz, az, bl, L, kf, sf, hla, lp0, lp1⟩ := pp
  have z1 : (0 : Int) + (i : Int) = ((i : Nat) : Int) := Int.zero_add _
  have hst' := e1' _ _ hst
  dsimp only [gName]
  rw [z1]
  refine ⟨_, rfl, _, rfl, _, _, rfl, rfl, ⟨by decide, by decide⟩, _, _, rfl, rfl, _, rfl, st, _, rfl, .inl (SqL.of hst'), _, _, rfl, rfl, (by show (0 : Int) < (sts.length : Int); omega), ?_⟩
  generalize hnum : (((i : Nat) : Int) + turn / 2) % (sts.length : Int) = num
  dsimp only [gName]
  refine seq_any (fun σ' H2 => H2 = H' ∧ ∃ num2 : Int, σ' = [some (.ref cl), some (.int turn), some (.ref st), some (.ref fo), some (.ref la), some (.int ((i : Nat) : Int)), some (.int num2), o7, o8, o9, o10, o11] ∧ num2 = numF turn S.length i) (fun σ' H2 pp => ?_) (fun nx => ?_)
  rotate_left
  · refine ⟨_, rfl, _, _, rfl, rfl, (by show (0 : Int) < 2; decide), rfl, _, rfl, ?_⟩
    refine ite2 (fun cn => ?_) (fun cn => nx _ _ ⟨rfl, _, rfl, ?_⟩)
    · have cn := dT cn
      have cn : turn % 2 = 1 := by injection cn
      refine ⟨_, rfl, st, _, rfl, .inl (SqL.of hst'), _, _, rfl, rfl, _, rfl, _, _, rfl, rfl, nx _ _ ⟨rfl, _, rfl, ?_⟩⟩
      unfold numF
      rw [if_pos cn, stl]
    · have cn := dF cn
      have cn : ¬ turn % 2 = 1 := fun z => cn (congrArg V.int z)
      unfold numF
      rw [if_neg cn, stl]
  obtain ⟨rfl, num2, rfl, enum⟩ := pp
  have ei : S[i]? = some S[i] := List.getElem?_eq_getElem hi
  generalize hrow : S[i] = row at ei
  obtain ⟨rl, r6⟩ := ok.ln row (List.mem_of_getElem? ei)
  obtain ⟨x, hx, t, o, p, rfl, ht, hop, hp⟩ := ast.get ei
  have ht' := e1' _ _ ht
  have hp' := e1' _ _ hp
  have hop' := hop.over e1'
  obtain ⟨os, hos, aos⟩ := hop'
  have ol := aos.1
  refine ⟨_, rfl, _, rfl, st, _, _, _, rfl, rfl, SqL.of hst', atI_nat hx, t, _, rfl, SqT.of ht', rfl, _, _, rfl, _, _, rfl, _, _, rfl, rfl, ?_⟩
  dsimp only [gName]
  refine seq_asgC ?_
  have hlaH := wo_same _ _ hla
  have pml : (row.pa.map V.int).length = row.pa.length := List.length_map ..
  have lml : (lp.map V.int).length = lp.length := List.length_map ..
  refine seq_any (fun σ' H3 => H3 = H2 ∧ σ' = [some (.ref cl), some (.int turn), some (.ref st), some (.ref fo), some (.ref la), some (.int ((i : Nat) : Int)), some (.int num2), some (.ref o), some (.ref p), some (.int row.x), some (.int (Fo.cmn row.pa lp : Int)), o11]) (fun σ' H3 pp => ?_) (fun nx => ?_)
  rotate_left
  · refine while_ix (row.pa.length + 1) (fun j σ' H3 => H3 = H2 ∧ σ' = [some (.ref cl), some (.int turn), some (.ref st), some (.ref fo), some (.ref la), some (.int ((i : Nat) : Int)), some (.int num2), some (.ref o), some (.ref p), some (.int row.x), some (.int ((j : Nat) : Int)), o11] ∧ j ≤ row.pa.length ∧ j ≤ lp.length ∧ row.pa.take j = lp.take j) ⟨rfl, rfl, Nat.zero_le _, Nat.zero_le _, rfl⟩ (fun j σ' H3 hj pp => ?_) (MT.and (MT.test (ME.op (MR.i0 _) (ME.var _) (ME.cb MB.min2 (MA.cons (ME.cb MB.len (MA.cons (ME.var _) MA.nil)) (MA.cons (ME.cb MB.len (MA.cons (ME.var _) MA.nil)) MA.nil))))) (MT.test (ME.op MR.eq (ME.op (MR.ixL _) (ME.var _) (ME.var _)) (ME.op (MR.ixL _) (ME.var _) (ME.var _)))))
    obtain ⟨rfl, rfl, j1, j2, tk⟩ := pp
    refine ⟨_, rfl, _, rfl, p, _, rfl, .inl (SqL.of hp'), _, rfl, la, _, rfl, .inl (SqL.of hlaH), _, _, rfl, _, _, rfl, rfl, _, rfl, ?_⟩
    rw [pml, lml]
    refine ite2 (fun c => ?_) (fun c => ?_)
    rotate_left
    · have c := dF c
      have hd : j = row.pa.length ∨ j = lp.length := by
        split at c <;> omega
      have := Fo.cmn_at row.pa lp j j1 j2 tk (by rcases hd with z | z; exact .inl z; exact .inr (.inl z))
      exact nx _ _ ⟨rfl, by rw [this]⟩
    have c := dT c
    have l1 : j < row.pa.length := by split at c <;> omega
    have l2 : j < lp.length := by split at c <;> omega
    have g1 : row.pa[j]? = some row.pa[j] := List.getElem?_eq_getElem l1
    have g2 : lp[j]? = some lp[j] := List.getElem?_eq_getElem l2
    have a1 : atI (row.pa.map V.int) ((j : Nat) : Int) = some (.int row.pa[j]) := atI_nat (by rw [List.getElem?_map, g1]; rfl)
    have a2 : atI (lp.map V.int) ((j : Nat) : Int) = some (.int lp[j]) := atI_nat (by rw [List.getElem?_map, g2]; rfl)
    refine ⟨_, rfl, _, rfl, p, _, _, _, rfl, rfl, SqL.of hp', a1, _, rfl, _, rfl, la, _, _, _, rfl, rfl, SqL.of hlaH, a2, rfl, _, rfl, ?_⟩
    refine ite2 (fun c => ?_) (fun c => ?_)
    · have c := dT c
      have c : row.pa[j] = lp[j] := by injection c
      refine ⟨by omega, _, rfl, _, _, rfl, rfl, rfl, rfl, l1, l2, ?_⟩
      rw [take_snoc g1, take_snoc g2, tk, c]
    · have c := dF c
      have c : row.pa[j] ≠ lp[j] := fun z => c (congrArg V.int z)
      have := Fo.cmn_at row.pa lp j j1 j2 tk (.inr (.inr ⟨_, _, g1, g2, c⟩))
      exact nx _ _ ⟨rfl, by rw [this]⟩
  obtain ⟨rfl, rfl⟩ := pp
  refine ⟨_, rfl, o, rfl, ⟨_, SqL.of hos⟩, ?_⟩
  refine comp_listG (xs := os) (fun i ys H' => Same H3 H' ∧ All2 (WayAt H') ys (row.op.take i)) ⟨Same.refl _, .nil⟩ (szl (by omega)) (fun i ys H' hi pp => ⟨SqL.of (pp.1 _ _ hos), by rw [pp.2.1, List.length_take]; omega⟩) (fun i x ys H' hx pp => ?_) (fun ys H4 pp wl hwl => ?_)
  · obtain ⟨e3, ay⟩ := pp
    obtain ⟨w', hw', t, rfl, ht⟩ := aos.get' hx
    refine ⟨t, _, rfl, SqT.of (e3 _ _ ht), rfl, _, _, rfl, _, _, rfl, rfl, outs2 (ρ := []) _ _, ?_⟩
    refine ⟨_, rfl, _, rfl, szl (by show 2 ≤ 1000000; decide), fun t2 ht2 => ?_⟩
    have s4 := same_new ht2 (.tup [V.bl w'.1, V.str w'.2])
    refine ⟨e3.trans s4, ?_⟩
    rw [take_snoc hw']
    exact (ay.mono fun _ _ z => WayAt.over z s4).snoc ⟨t2, rfl, upd_same⟩
  obtain ⟨e4, ay⟩ := pp
  rw [List.take_of_length_le (by omega)] at ay
  have yl := ay.1
  have s5 := same_new hwl (.lst ys)
  have hwl5 : (upd H4 wl (.lst ys)) wl = some (.lst ys) := upd_same
  have ay5 := ay.mono fun _ _ z => WayAt.over z s5
  have wlf : wl ≠ fo := (ne_of_none (e4 _ _ hz) hwl).symm
  generalize upd H4 wl (.lst ys) = H5 at s5 hwl5 ay5
  have e5 := e4.trans s5
  dsimp only [gName]
  have hz5 := e5 _ _ hz
  refine ⟨_, rfl, .inl ⟨rfl, _, SqL.of hz5⟩, _, rfl, _, rfl, _, rfl, _, rfl, _, rfl, o, row.x, os, row.op, rfl, e5 _ _ hos, aos.mono (fun _ _ z => z.over e5), r6, fun pr H6 ps e6 hpr0 hpr hpl hps => ?_⟩
  refine ⟨szl (by show 4 ≤ 1000000; decide), fun t9 ht9 => ?_⟩
  have s7 := same_new ht9 (.tup [V.int num2, V.int (Fo.cmn row.pa lp : Int), V.ref wl, V.ref pr])
  have ht97 : (upd H6 t9 (.tup [V.int num2, V.int (Fo.cmn row.pa lp : Int), V.ref wl, V.ref pr])) t9 = some (.tup [V.int num2, V.int (Fo.cmn row.pa lp : Int), V.ref wl, V.ref pr]) := upd_same
  have hz6 := e6 _ _ hz5
  have t9f : t9 ≠ fo := (ne_of_none hz6 ht9).symm
  have prf : pr ≠ fo := (ne_of_none hz5 hpr0).symm
  generalize upd H6 t9 (.tup [V.int num2, V.int (Fo.cmn row.pa lp : Int), V.ref wl, V.ref pr]) = H7 at s7 ht97
  have hz7 := s7 _ _ hz6
  have zl := az.1
  have e37 := e5.trans (e6.trans s7)
  refine ⟨fo, _, _, rfl, rfl, hz7, szlt (by omega), ?_⟩
  dsimp only [gName]
  have keep : ∀ b ob, wo H7 fo b = some ob → wo (upd H7 fo (.lst (zs ++ [.ref t9]))) fo b = some ob := fun b ob h => by rw [wo_upd]; exact h
  have pf : p ≠ fo := fun z => by rw [z] at hp; rw [hp] at hfo; cases hfo
  refine ⟨_, rfl, zs ++ [.ref t9], B ++ [⟨num2, Fo.cmn row.pa lp, row.op, ps⟩], p, row.pa, _, _, _, _, _, _, _, rfl, ?_, ?_, upd_same, ?_, by rw [List.length_append, bl]; rfl, ?_, (fun j c hc => by
    rcases snoc_cases hc with ⟨h, _⟩ | ⟨hj, rfl⟩
    · exact kf j c h
    · rw [hj, bl]; exact enum), (fun c hc => by
    rcases List.mem_append.mp hc with z | z
    · exact sf c z
    · rw [List.mem_singleton.mp z]; exact hps), ?_, fun z => by omega, fun j r hj hr => ?_⟩
  · exact fun b ob eb => by rw [upd_ne (ne_of_none eb fo0)]; exact e37 _ _ (e _ _ eb)
  · exact fun b ob eb => by rw [upd_ne (ne_of_none eb hfo)]; exact e37 _ _ (e1' _ _ eb)
  · rw [wo_upd]
    refine (az.mono fun _ _ z => BoAt.over z (wo_mono e37)).snoc ⟨t9, wl, pr, rfl, by rw [wo_ne t9f]; exact ht97, ⟨ys, by rw [wo_ne wlf]; exact s7 _ _ (e6 _ _ hwl5), ?_⟩, ?_⟩
    · refine ay5.mono fun x v z => ?_
      obtain ⟨t, rfl, h⟩ := z
      have h := s7 _ _ (e6 _ _ h)
      exact ⟨t, rfl, by rw [wo_ne (tup_ne h hz7)]; exact h⟩
    · obtain ⟨xs, h1, h2⟩ := hpr
      refine ⟨xs, by rw [wo_ne prf]; exact s7 _ _ h1, h2.mono fun x v z => ?_⟩
      obtain ⟨t, rfl, h⟩ := z
      have h := s7 _ _ h
      exact ⟨t, rfl, by rw [wo_ne (tup_ne h hz7)]; exact h⟩
  · refine ⟨fun j r b hr hb => ?_, fun j r r' b hr hr' hb => ?_, fun b hb => ?_, fun b hb => ?_⟩
    · rcases snoc_cases hb with ⟨h, _⟩ | ⟨hj, rfl⟩
      · exact L.ws j r b hr h
      · rw [bl] at hj
        subst hj
        rw [ei] at hr
        cases hr
        rfl
    · rcases snoc_cases hb with ⟨h, _⟩ | ⟨hj, rfl⟩
      · exact L.sh j r r' b hr hr' h
      · rw [bl] at hj
        rw [hj, ei] at hr'
        cases hr'
        show Fo.cmn row.pa lp = _
        rw [lp1 j r hj.symm hr]
    · rcases snoc_cases hb with ⟨h, _⟩ | ⟨hj, rfl⟩
      · exact L.s0 b h
      · show Fo.cmn row.pa lp = 0
        rw [lp0 (by omega), cmn_nil]
    · rcases List.mem_append.mp hb with z | z
      · exact L.pl b z
      · rw [List.mem_singleton.mp z]
        exact hpl
  · rw [wo_upd, wo_ne pf]; exact e37 _ _ hp'
  · have : j = i := by omega
    subst this
    rw [ei] at hr
    cases hr
    rfl

theorem ok_withk88 {g : Addr} {C : Hp → Prop} {φ : Int → List (Int × Int) → List (Int × Int)} {m : Nat} (hC : KeptS C) (hG : CkOk P w K mg base g C φ m) (T : Tx w K mg a) : ∀ n : Nat, FnOk P w K mg base CX0 (n + 3) a.f_with_places a.d_with_places ["items", "change"] (spWithK n g C φ m)
  | 0 => by
    have no : ∀ vs H Q E, ¬ spWithK 0 g C φ m vs H Q E := fun vs H Q E h => by
      obtain ⟨it, f, _, _, hd, _⟩ := h
      have := dep_pos f
      omega
    exact ⟨fun vs H Q E h => absurd h (no vs H Q E), fun A outer s H args us vs Q E _ _ _ _ h => absurd h (no vs H Q E)⟩
  | n + 1 => by
    obtain ⟨gd, gps, HF, hga, hbd⟩ := hG.ok
    have G_with_places := ok_withk88 hC hG T n
    refine T.F_with_places.ok sc_with_places (fun vs H Q E h => ?_) (fun cdv A outer s H vs Q E hr h => ?_)
    · obtain ⟨_, _, rfl, _⟩ := h; rfl
    obtain ⟨it, f, rfl, ⟨xs, hit, hf⟩, hdep, hw, hpl, cd, q⟩ := h
    refine ⟨_, (@pss_cons _ _ _ _ _ (@ps_set _ _ (2) _ _ _ _ sc_with_places.nd rfl (Or.inl rfl) (@pe_lst _ _ _ _ pa_nil) (by rfl) (by first | exact .inl rfl | exact .inr rfl | assumption)) (@pss_cons _ _ _ _ _ (@ps_for _ _ _ _ _ _ _ _ PassesOwn.never rfl (@pi_tup _ _ _ _ (pv 0)) (pg_name (i := 3) sc_with_places.nd rfl (Or.inl rfl)) (@pss_one _ _ _ (@ps_if _ _ _ _ _ _ _ _ (@pt_cmpR _ _ _ _ _ _ _ _ op_eq (@pe_ix _ _ _ _ _ _ _ ix_tup (pv 3) pe_int (fun _ _ => rfl)) pe_str (@nomark _ _ (by decide) (by decide))) (@pss_one _ _ _ (@ps_expr _ _ _ _ (@pe_bm _ _ _ _ _ _ _ _ _ _ _ _ PySem.F.plainAttrs_list PySem.F.slot_list_append PySem.F.type_list_append mt_append (pv 2) (@pa_cons _ _ _ _ _ (@pe_tupq _ _ _ _ _ (@paq_cons _ _ _ _ _ pe_str (@paq_cons _ _ _ _ _ (@pe_ix _ _ _ _ _ _ _ ix_tup (pv 3) pe_int (fun _ _ => rfl)) (@paq_cons _ _ _ _ _ (@pe_callV _ _ _ _ _ _ _ _ _ _ _ _ (1) HF hga (hr.mono (by omega)) hbd rfl (Or.inl rfl) (@pa_cons _ _ _ _ _ (@pe_ix _ _ _ _ _ _ _ ix_tup (pv 3) pe_int (fun _ _ => rfl)) (@pa_cons _ _ _ _ _ (@pe_ix _ _ _ _ _ _ _ ix_tup (pv 3) pe_int (fun _ _ => rfl)) pa_nil (by rfl)) (by rfl)) (by decide) (by decide) (by rfl) (by rfl)) paq_nil star_K) star_S) star_C)) pa_nil (by rfl)) (by rfl) (by rfl) (by rfl) (by rfl) (by rfl)) (by rfl))) (@pss_one _ _ _ (@ps_expr _ _ _ _ (@pe_bm _ _ _ _ _ _ _ _ _ _ _ _ PySem.F.plainAttrs_list PySem.F.slot_list_append PySem.F.type_list_append mt_append (pv 2) (@pa_cons _ _ _ _ _ (@pe_tupq _ _ _ _ _ (@paq_cons _ _ _ _ _ pe_str (@paq_cons _ _ _ _ _ (@pe_ix _ _ _ _ _ _ _ ix_tup (pv 3) pe_int (fun _ _ => rfl)) (@paq_cons _ _ _ _ _ (@pe_ix _ _ _ _ _ _ _ ix_tup (pv 3) pe_int (fun _ _ => rfl)) (@paq_cons _ _ _ _ _ (@pe_call _ _ _ _ _ _ _ _ _ _ _ _ _ _ _ _ G_with_places (hr.mono (by omega)) (by rfl) T.m_with_places T.F_with_places.kp T.b_with_places .nil pass0 (@pa_cons _ _ _ _ _ (@pe_ix _ _ _ _ _ _ _ ix_tup (pv 3) pe_int (fun _ _ => rfl)) (@pa_cons _ _ _ _ _ (pv 1) pa_nil (by rfl)) (by rfl)) (by decide) (by rfl) (by rfl)) paq_nil star_K) star_S) star_S) star_C)) pa_nil (by rfl)) (by rfl) (by rfl) (by rfl) (by rfl) (by rfl)) (by rfl))))) (by intro _ ; rfl)) (@pss_one _ _ _ (@ps_ret _ _ _ _ (@pe_callTy _ _ _ _ _ _ _ _ _ call_tuple_of (by rfl) T.z_tuple bt_tuple (@pa_cons _ _ _ _ _ (pv 2) pa_nil (by rfl)) (by decide) (by decide) (by rfl) (by rfl)))))), ?_⟩
    refine ⟨szl (by show 0 ≤ 1000000; decide), fun fo hfo => ?_⟩
    have e1 := same_new hfo (.lst [])
    have hfo1 : (upd H fo (.lst [])) fo = some (.lst []) := upd_same
    generalize upd H fo (.lst []) = H1 at e1 hfo1
    dsimp only [gName]
    have xl := hf.len
    have cw := cnt_wid f
    refine seq_any (fun σ' H' => ∃ (ys : List V) (o3 : Option V), σ' = [some (.ref it), some (.ref g), some (.ref fo), o3] ∧ Same H H' ∧ H' fo = some (.lst ys) ∧ FoAt H' ys (wpk φ f)) (fun σ' H' pp => ?_) (fun nx => ?_)
    · obtain ⟨ys, o3, rfl, e, hy, hfy⟩ := pp
      refine ⟨_, rfl, fo, _, rfl, .inl ⟨SqL.of hy, fun t ht => ?_⟩⟩
      have s1 := same_new ht (.tup ys)
      exact q t _ (e.trans s1) ⟨ys, upd_same, FoAt.over s1 hfy⟩
    refine ⟨_, rfl, it, rfl, ⟨_, SqT.of (e1 _ _ hit)⟩, ?_⟩
    refine for_tup (xs := xs) (fun i σ' H' => ∃ (ys : List V) (gg dn : Frs) (o3 : Option V), σ' = [some (.ref it), some (.ref g), some (.ref fo), o3] ∧ Same H H' ∧ H' fo = some (.lst ys) ∧ FoAt H (xs.drop i) gg ∧ dep gg ≤ n + 1 ∧ wid gg ≤ 100 ∧ PlR m gg ∧ FoAt H' ys dn ∧ Fo.app dn (wpk φ gg) = wpk φ f ∧ ys.length ≤ i) ⟨[], f, .nil, _, rfl, e1, hfo1, hf, hdep, hw, hpl, rfl, rfl, Nat.le_refl _⟩ (fun i σ' H' _ pp => by obtain ⟨_, _, _, _, _, e, _⟩ := pp; exact SqT.of (e _ _ hit)) (fun i x σ' H' hx pp => ?_) (fun σ' H' pp => ?_)
    rotate_left
    · obtain ⟨ys, gg, dn, o3, rfl, e, hy, hgg, _, _, _, hdn, ed, _⟩ := pp
      have hz : xs.drop xs.length = [] := List.drop_eq_nil_of_le (Nat.le_refl _)
      rw [hz] at hgg
      have gn : gg = .nil := by
        cases gg with
        | nil => rfl
        | leaf k pl r => obtain ⟨_, _, _, z, _⟩ := hgg; cases z
        | node c w s r => obtain ⟨_, _, _, _, z, _⟩ := hgg; cases z
      subst gn
      have : dn = wpk φ f := by rw [← ed]; exact (Fo.app_nil dn).symm
      rw [this] at hdn
      exact nx _ _ ⟨ys, _, rfl, e, hy, hdn⟩
    obtain ⟨ys, gg, dn, o3, rfl, e, hy, hgg, gdep, gwid, gpl, hdn, ed, yl⟩ := pp
    obtain ⟨hi, ex⟩ := List.getElem?_eq_some_iff.mp hx
    rw [List.drop_eq_getElem_cons hi, ex] at hgg
    have cd' := hC.k _ _ e cd
    dsimp only [gName]
    cases gg with
    | nil => cases hgg
    | leaf k pl rest =>
      obtain ⟨t, pp, zs, z, ht, hpr, hrest⟩ := hgg
      cases z
      refine ⟨_, rfl, t, _, 0, _, rfl, rfl, SqT.of (e _ _ ht), rfl, rfl, _, rfl, iteE (v := true) (decide_eq_true rfl) (iteT ?_)⟩
      refine ⟨_, rfl, .inl ⟨rfl, _, SqL.of hy⟩, _, rfl, t, _, 1, _, rfl, rfl, SqT.of (e _ _ ht), rfl, rfl, _, rfl, t, _, 1, _, rfl, rfl, SqT.of (e _ _ ht), rfl, _, rfl, t, _, 2, _, rfl, rfl, SqT.of (e _ _ ht), rfl, k, pp, pl, rfl, hpr.over e, gpl.1.1, Nat.le_trans gpl.1.2 (by decide), cd', fun r H2 e2 hr2 => ?_⟩
      refine ⟨szl (by show 3 ≤ 1000000; decide), fun t2 ht2 => ?_⟩
      have s3 := same_new ht2 (.tup [V.str "deed", V.int k, V.ref r])
      have h23 : (upd H2 t2 (.tup [V.str "deed", V.int k, V.ref r])) t2 = some (.tup [V.str "deed", V.int k, V.ref r]) := upd_same
      generalize upd H2 t2 (.tup [V.str "deed", V.int k, V.ref r]) = H3 at s3 h23
      have e23 := e2.trans s3
      have hy3 := e23 _ _ hy
      refine ⟨fo, _, _, rfl, rfl, hy3, szlt (by omega), ?_⟩
      have tk : TK H3 (upd H3 fo (.lst (ys ++ [V.ref t2]))) := TK.upd hy3
      refine ⟨ys ++ [.ref t2], rest, Fo.app dn (.leaf k (φ k pl) .nil), _, rfl, fun b o hb => by rw [upd_ne (ne_of_none hb hfo)]; exact e23 _ _ (e _ _ hb), upd_same, hrest, gdep, Nat.le_trans (Nat.le_succ _) gwid, gpl.2, FoAt.tk tk (FoAt.app (FoAt.over e23 hdn) ⟨t2, r, [], rfl, h23, hr2.over s3, rfl⟩), ?_, by rw [List.length_append]; exact Nat.succ_le_succ yl⟩
      rw [app_assoc']
      exact ed
    | node c w' sub rest =>
      obtain ⟨t, pp, zs, us, z, ht, hpp, hsub, hrest⟩ := hgg
      cases z
      unfold dep at gdep
      have gwid' : wid sub + wid rest + 1 ≤ 100 := gwid
      refine ⟨_, rfl, t, _, 0, _, rfl, rfl, SqT.of (e _ _ ht), rfl, rfl, _, rfl, iteE (v := false) (dS (by decide +kernel)) (iteF ?_)⟩
      refine ⟨_, rfl, .inl ⟨rfl, _, SqL.of hy⟩, _, rfl, t, _, 1, _, rfl, rfl, SqT.of (e _ _ ht), rfl, _, rfl, t, _, 2, _, rfl, rfl, SqT.of (e _ _ ht), rfl, _, rfl, t, _, 3, _, rfl, rfl, SqT.of (e _ _ ht), rfl, _, rfl, pp, sub, rfl, ⟨zs, e _ _ hpp, FoAt.over e hsub⟩, by omega, by omega, gpl.1, cd', fun r H2 e2 hr2 => ?_⟩
      refine ⟨szl (by show 4 ≤ 1000000; decide), fun t2 ht2 => ?_⟩
      have s3 := same_new ht2 (.tup [V.str "sweep", V.bl c, V.str w', V.ref r])
      have h23 : (upd H2 t2 (.tup [V.str "sweep", V.bl c, V.str w', V.ref r])) t2 = some (.tup [V.str "sweep", V.bl c, V.str w', V.ref r]) := upd_same
      generalize upd H2 t2 (.tup [V.str "sweep", V.bl c, V.str w', V.ref r]) = H3 at s3 h23
      have e23 := e2.trans s3
      have hy3 := e23 _ _ hy
      obtain ⟨rs, hrs, hfr⟩ := hr2.over s3
      refine ⟨fo, _, _, rfl, rfl, hy3, szlt (by omega), ?_⟩
      have tk : TK H3 (upd H3 fo (.lst (ys ++ [V.ref t2]))) := TK.upd hy3
      refine ⟨ys ++ [.ref t2], rest, Fo.app dn (.node c w' (wpk φ sub) .nil), _, rfl, fun b o hb => by rw [upd_ne (ne_of_none hb hfo)]; exact e23 _ _ (e _ _ hb), upd_same, hrest, by omega, by omega, gpl.2, FoAt.tk tk (FoAt.app (FoAt.over e23 hdn) ⟨t2, r, rs, [], rfl, h23, hrs, hfr, rfl⟩), ?_, by rw [List.length_append]; exact Nat.succ_le_succ yl⟩
      rw [app_assoc']
      exact ed

theorem ok_turned88 (T : Tx w K mg a) : FnOk P w K mg base (CX1 P w) 12 a.f_turned a.d_turned ["plan", "path"] (spTurned a.c_NoTurning) := by
  have G_sweep_at := ok_sweepat87 (P := P) (w := w) (base := base) T
  have G_put_at := ok_put87 (P := P) (w := w) (base := base) T 10
  refine T.F_turned.okX sc_turned (fun vs H Q E h => ?_) (fun cdv A outer s H vs Q E hr h => ?_)
  · obtain ⟨_, _, _, _, rfl, _⟩ := h; rfl
  obtain ⟨pl, pa, f, path, rfl, hpl, hpa, p10, wf, q, qx⟩ := h
  refine ⟨_, (@pss_cons _ _ _ _ _ (@ps_set _ _ (2) _ _ _ _ sc_turned.nd rfl (Or.inl rfl) (@pe_callX _ _ _ _ _ _ _ _ _ _ _ _ _ _ _ G_sweep_at (hr.mono (by omega)) (by rfl) T.m_sweep_at T.F_sweep_at.kp T.b_sweep_at .nil passes_def (@pa_cons _ _ _ _ _ (pv 0) (@pa_cons _ _ _ _ _ (pv 1) pa_nil (by rfl)) (by rfl)) (by decide) (by rfl) (by rfl)) (by rfl) (by first | exact .inl rfl | exact .inr rfl | assumption)) (@pss_cons _ _ _ _ _ (@ps_if _ _ _ _ _ _ _ _ (@pt_cmp _ _ _ _ _ _ (@pc_knotin _ _ _ _ _ (@pe_ix _ _ _ _ _ _ _ ix_tup (pv 2) pe_int (fun _ _ => rfl)) (@pe_glob _ _ _ _ _ (by rfl) T.g_OTHER_WAYS T.r_OTHER_WAYS (by decide))) (by first | exact nobehind _ ( by decide ) ( by decide ) | rfl)) (@pss_one _ _ _ (@ps_raise _ _ _ _ _ rfl raises_def (@pe_xmake0 _ _ _ _ _ T.xm_NoTurning (by rfl) T.mc_NoTurning (by decide)))) pss_nil) (@pss_one _ _ _ (@ps_ret _ _ _ _ (@pe_call _ _ _ _ _ _ _ _ _ _ _ _ _ _ _ _ G_put_at (hr.mono (by omega)) (by rfl) T.m_put_at T.F_put_at.kp T.b_put_at .nil pass0 (@pa_cons _ _ _ _ _ (pv 0) (@pa_cons _ _ _ _ _ (pv 1) (@pa_cons _ _ _ _ _ pe_int (@pa_cons _ _ _ _ _ (@pe_tup _ _ _ _ _ (@pa_cons _ _ _ _ _ (@pe_tupq _ _ _ _ _ (@paq_cons _ _ _ _ _ pe_str (@paq_cons _ _ _ _ _ (@pe_ix _ _ _ _ _ _ _ ix_tup (pv 2) pe_int (fun _ _ => rfl)) (@paq_cons _ _ _ _ _ (@pe_kget _ _ _ _ _ _ (@pe_glob _ _ _ _ _ (by rfl) T.g_OTHER_WAYS T.r_OTHER_WAYS (by decide)) (@pe_ix _ _ _ _ _ _ _ ix_tup (pv 2) pe_int (fun _ _ => rfl)) (fun _ _ => rfl)) (@paq_cons _ _ _ _ _ (@pe_ix _ _ _ _ _ _ _ ix_tup (pv 2) pe_int (fun _ _ => rfl)) paq_nil star_S) star_S) star_S) star_C)) pa_nil (by rfl))) pa_nil (by rfl)) (by rfl)) (by rfl)) (by rfl)) (by decide) (by rfl) (by rfl)))))), ?_⟩
  refine ⟨_, rfl, _, rfl, pl, pa, f, path, rfl, hpl, hpa, fun a' b' c w' s' t p H1 hl e1 ht hp => ?_, fun no x H1 e1 hx => qx (fun a b c w s z => absurd z (no a b _)) x H1 e1 hx⟩
  dsimp only [gName]
  have vo : valV ([(.inr "up", .str "down"), (.inr "down", .str "up")] : List (Key × V)) (Sum.inr w' : Key) = (oth w').map V.str := valV_oth w'
  refine ⟨_, rfl, t, _, 2, _, rfl, rfl, SqT.of ht, rfl, a.u_OTHER_WAYS, _, .inr w', rfl, T.d_OTHER_WAYS P, rfl, ?_⟩
  rw [vo, Option.isSome_map]
  refine ⟨_, rfl, ?_⟩
  cases ho : oth w' with
  | none =>
    refine iteT ?_
    intro x hx
    refine ⟨x, _, none, rfl, upd_same, T.xi_NoTurning.xc, ?_⟩
    rw [upd_upd]
    refine qx (fun a b c w s z => ?_) x _ (e1.trans (same_new hx _)) upd_same
    rw [hl] at z
    cases z
    exact ho
  | some w2 =>
    refine iteF ?_
    dsimp only [tNext]
    refine ⟨_, rfl, _, rfl, _, rfl, t, _, 1, _, rfl, rfl, SqT.of ht, rfl, _, rfl, t, _, 2, _, rfl, rfl, SqT.of ht, rfl, a.u_OTHER_WAYS, _, .inr w', _, rfl, T.d_OTHER_WAYS P, rfl, by rw [vo, ho]; rfl, _, rfl, t, _, 3, _, rfl, rfl, SqT.of ht, rfl, szl (by show 4 ≤ 1000000; decide), fun tn htn => ⟨szl (by show 1 ≤ 1000000; decide), fun tt htt => ?_⟩⟩
    have sz := same_new htn (.tup [V.str "sweep", V.bl c, V.str w2, V.ref p])
    have sa := same_new htt (.tup [V.ref tn])
    have hn9 := sa tn _ upd_same
    have ht9 : (upd (upd H1 tn (.tup [V.str "sweep", V.bl c, V.str w2, V.ref p])) tt (.tup [V.ref tn])) tt = some (.tup [V.ref tn]) := upd_same
    have s9 := sz.trans sa
    generalize upd (upd H1 tn (.tup [V.str "sweep", V.bl c, V.str w2, V.ref p])) tt (.tup [V.ref tn]) = H9 at s9 hn9 ht9
    have e09 := e1.trans s9
    obtain ⟨xs, hpx, hs⟩ := hp.over s9
    have hh : FoT H9 tt (.node c w2 s' .nil) := ⟨_, ht9, tn, p, xs, [], rfl, hn9, hpx, hs, rfl⟩
    exact ⟨pl, pa, tt, f, _, path, 1, 0, _, rfl, hpl.over e09, e09 _ _ hpa, hh, hl, p10, by omega, wf, by show 1 ≤ 100; decide, fun rr HX eX hrX => q _ _ _ _ _ _ hl ho rr HX (e09.trans eX) hrX⟩

theorem ok_turn88 (T : Tx w K mg a) : FnOk P w K mg base CX0 13 a.f_l_turn a.d_l_turn ["_law_plan", "_law_path_here"] (spTurn a.c_NoTurning) := by
  have G_turned := ok_turned88 (P := P) (w := w) (base := base) T
  refine T.F_l_turn.ok sc_l_turn (fun vs H Q E h => ?_) (fun cdv A outer s H vs Q E hr h => ?_)
  · obtain ⟨_, _, _, _, rfl, _⟩ := h; rfl
  obtain ⟨pl, pa, f, path, rfl, hpl, hpa, p10, wf, q, qx⟩ := h
  refine ⟨_, (@pss_cons _ _ _ _ _ (@ps_set _ _ (2) _ _ _ _ sc_l_turn.nd rfl (Or.inl rfl) pe_non (by rfl) (by first | exact .inl rfl | exact .inr rfl | assumption)) (@pss_cons _ _ _ _ _ (@ps_try _ _ _ _ _ _ _ (fun pn xe Ek hP hR => (@pss_one _ _ _ (@ps_set _ _ (2) _ _ _ _ sc_l_turn.nd rfl (Or.inl rfl) (@pe_callX _ _ _ _ _ _ _ _ _ _ _ _ _ _ _ G_turned (hr.mono (by omega)) (by rfl) T.m_turned T.F_turned.kp T.b_turned .nil hP (@pa_cons _ _ _ _ _ (pv 0) (@pa_cons _ _ _ _ _ (pv 1) pa_nil (by rfl)) (by rfl)) (by decide) (by rfl) (by rfl)) (by rfl) (by first | exact .inl rfl | exact .inr rfl | assumption)))) (@ph_cons _ _ _ _ _ _ _ _ _ _ (by rfl) T.mc_NoTurning T.xi_NoTurning.xc (fun ea => (@pss_one _ _ _ (@ps_set _ _ (2) _ _ _ _ sc_l_turn.nd rfl (Or.inl rfl) pe_non (by rfl) (by first | exact .inl rfl | exact .inr rfl | assumption)))) ph_nil (by decide)) (by rfl) (by rfl)) (@pss_one _ _ _ (@ps_ret _ _ _ _ (pv 2))))), ?_⟩
  refine seq_asgC ?_
  refine seq_any (fun σ' H' => ∃ v, σ' = [some (.ref pl), some (.ref pa), some v] ∧ Q v H') (fun σ' H' pp => ?_) (fun nx => ?_)
  · obtain ⟨v, rfl, hq⟩ := pp
    exact ⟨_, rfl, hq⟩
  obtain ⟨N, ct⟩ := T.ct_NoTurning
  refine ⟨_, rfl, _, rfl, pl, pa, f, path, rfl, hpl, hpa, p10, wf, fun a b c w w2 s hl ho r H1 e1 hr => nx _ _ ⟨.ref r, rfl, q a b c w w2 s hl ho r H1 e1 hr⟩, fun no x H1 e1 hx => ?_⟩
  refine ⟨x, _, none, rfl, hx, N, _, true, ct, by rw [mem_bm]; exact decide_eq_true (.inl rfl), iteT ?_⟩
  exact nx _ _ ⟨.non, rfl, qx no H1 e1⟩

theorem ok_alike88 (T : Tx w K mg a) : FnOk P w K mg base CX0 11 a.f_l_alike a.d_l_alike ["_law_found", "_law_due"] spAlike88 := by
  have G_l_kinds := ok_kinds87 (P := P) (w := w) (base := base) T 7
  refine T.F_l_alike.ok sc_l_alike (fun vs H Q E h => ?_) (fun cdv A outer s H vs Q E hr h => ?_)
  · rcases h with ⟨rfl, _⟩ | ⟨_, _, _, rfl, _⟩ <;> rfl
  rcases h with ⟨rfl, q⟩ | ⟨r, d, f, rfl, hr', hd', hd, q⟩
  · refine ⟨_, (@pss_cons _ _ _ _ _ (@ps_if _ _ _ _ _ _ _ _ (@pt_cmpR _ _ _ _ _ _ _ _ op_isN (pv 1) pe_non (@nomark _ _ (by decide) (by decide))) (@pss_one _ _ _ (@ps_ret _ _ _ _ (@pe_cmpR _ _ _ _ _ _ _ _ op_isN (pv 0) pe_non (@nomark _ _ (by decide) (by decide))))) pss_nil) (@pss_one _ _ _ (@ps_ret _ _ _ _ (@pe_and _ _ _ _ _ _ _ (@pe_callB _ _ _ _ _ _ _ _ _ call_isi (by rfl) T.z_isinstance bt_isinstance (@pa_cons _ _ _ _ _ (pv 0) (@pa_cons _ _ _ _ _ (@pe_bltn _ _ (.ty "tuple") _ _ (by rfl) T.z_tuple bt_tuple rfl (by decide) (by decide)) pa_nil (by rfl)) (by rfl)) (by decide) (by decide) (by rfl) (by rfl)) (@pe_and _ _ _ _ _ _ _ (@pe_cmpR _ _ _ _ _ _ _ _ (@op_eqS _ (@hu64 _ _ hr)) (pv 0) (pv 1) (@nomark _ _ (by decide) (by decide))) (@pe_one _ _ _ _ _ (@pe_call _ _ _ _ _ _ _ _ _ _ _ _ _ _ _ _ G_l_kinds (hr.mono (by omega)) (by rfl) T.m_l_kinds T.F_l_kinds.kp T.b_l_kinds .nil pass0 (@pa_cons _ _ _ _ _ (pv 0) pa_nil (by rfl)) (by decide) (by rfl) (by rfl)))))))), ?_⟩
    refine ⟨_, rfl, rfl, _, rfl, iteE (v := true) (decide_eq_true rfl) (iteT ?_)⟩
    refine ⟨_, rfl, rfl, ?_⟩
    rw [decide_eq_true rfl]
    exact q
  refine ⟨_, (@pss_cons _ _ _ _ _ (@ps_if _ _ _ _ _ _ _ _ (@pt_cmpR _ _ _ _ _ _ _ _ op_isN (pv 1) pe_non (@nomark _ _ (by decide) (by decide))) (@pss_one _ _ _ (@ps_ret _ _ _ _ (@pe_cmpR _ _ _ _ _ _ _ _ op_isN (pv 0) pe_non (@nomark _ _ (by decide) (by decide))))) pss_nil) (@pss_one _ _ _ (@ps_ret _ _ _ _ (@pe_and _ _ _ _ _ _ _ (@pe_callB _ _ _ _ _ _ _ _ _ call_isi (by rfl) T.z_isinstance bt_isinstance (@pa_cons _ _ _ _ _ (pv 0) (@pa_cons _ _ _ _ _ (@pe_bltn _ _ (.ty "tuple") _ _ (by rfl) T.z_tuple bt_tuple rfl (by decide) (by decide)) pa_nil (by rfl)) (by rfl)) (by decide) (by decide) (by rfl) (by rfl)) (@pe_and _ _ _ _ _ _ _ (@pe_cmpR _ _ _ _ _ _ _ _ (@op_eqS _ (@hu64 _ _ hr)) (pv 0) (pv 1) (@nomark _ _ (by decide) (by decide))) (@pe_one _ _ _ _ _ (@pe_call _ _ _ _ _ _ _ _ _ _ _ _ _ _ _ _ G_l_kinds (hr.mono (by omega)) (by rfl) T.m_l_kinds T.F_l_kinds.kp T.b_l_kinds .nil pass0 (@pa_cons _ _ _ _ _ (pv 0) pa_nil (by rfl)) (by decide) (by rfl) (by rfl)))))))), ?_⟩
  refine ⟨_, rfl, rfl, _, rfl, iteE (v := false) (decide_eq_false fun z => by cases z) (iteF ?_)⟩
  dsimp only [tNext]
  obtain ⟨xs, hx, hf⟩ := id hr'
  refine ⟨_, rfl, _, _, _, _, _, rfl, rfl, .tup hx, rfl, _, rfl, iteT ?_⟩
  have tr1 : TrIs K H (.ref r) (.tup (frT f)) := hr'.tr
  refine ⟨_, rfl, _, rfl, _, _, tr1, hd'.tr, ⟨_, rfl⟩, ⟨_, rfl⟩, simT_refl _, frT_dep60 (by omega), ?_⟩
  rw [if_neg Bool.false_ne_true, eqT_refl _ tr1.ok]
  refine ⟨_, rfl, iteT ?_⟩
  exact ⟨_, rfl, r, f, rfl, hr', hd, q⟩

theorem ok_chgK88 {f c' sh : Addr} {clos : List (Str × Addr)} {qual : Str} {doc pm ctv : Value} {L : Nat} {k v : Int} {vs0 : List V} (T : Tx w K mg a) (hf : base.get? f = some (PySem.W.fnMade "change" qual (defArgs n_change) (defBody n_change) (defScope n_change) clos doc pm c' ctv)) (hc : CloOk base (defScope n_change) clos ["shifts", "k", "at"] [.ref sh, .int k, .int (L : Int)]) : CkOk P w K mg base f (fun H => Cd c' qual H ∧ H sh = some (.lst (.int v :: vs0))) (mvG k L v) (L + 1) := by
  refine ⟨_, ["number", "places"], clo_fn2 hf (fun vs H Q E h => ?_) cs_change hc (fun vs H Q E h => ?_) (fun A outer s H vs Q E hr h => ?_), ⟨_, _, _, _, hf⟩, fun s us hl => .of_eq (bd_change hl)⟩
  · obtain ⟨_, _, _, _, _, _, _, ⟨h, _⟩, _⟩ := h; exact h
  · obtain ⟨_, _, _, rfl, _⟩ := h; rfl
  obtain ⟨k', pl, ps, rfl, ⟨xs, hpl, ap⟩, hL, p100, ⟨cd, hsh⟩, q⟩ := h
  refine ⟨_, (@pss_cons _ _ _ _ _ (@ps_if _ _ _ _ _ _ _ _ (@pt_cmpR _ _ _ _ _ _ _ _ op_ne (pv 0) (pv 3) (@nomark _ _ (by decide) (by decide))) (@pss_one _ _ _ (@ps_ret _ _ _ _ (pv 1))) pss_nil) (@pss_one _ _ _ (@ps_ret _ _ _ _ (@pe_op _ _ _ _ _ _ _ _ op_catH (@pe_op _ _ _ _ _ _ _ _ op_catH (@pe_slice _ _ _ _ _ _ _ _ _ _ sl_tupH (pv 1) po_none (@po_some _ _ _ (pv 4))) (@pe_tup _ _ _ _ _ (@pa_cons _ _ _ _ _ (@pe_tup _ _ _ _ _ (@pa_cons _ _ _ _ _ (@pe_ix _ _ _ _ _ _ _ ix_tup (@pe_ix _ _ _ _ _ _ _ ix_tup (pv 1) (pv 4) (fun _ _ => rfl)) pe_int (fun _ _ => rfl)) (@pa_cons _ _ _ _ _ (@pe_ix _ _ _ _ _ _ _ ix_list (pv 2) pe_int (fun _ _ => rfl)) pa_nil (by rfl)) (by rfl))) pa_nil (by rfl)))) (@pe_slice _ _ _ _ _ _ _ _ _ _ sl_tupH (pv 1) (@po_some _ _ _ (@pe_op _ _ _ _ _ _ _ _ op_add (pv 4) pe_int)) po_none))))), ?_⟩
  have xl := ap.1
  have g0 : ps[L]? = some ps[L] := List.getElem?_eq_getElem (by omega)
  obtain ⟨x0, hx0, t0, rfl, ht0⟩ := ap.get g0
  refine ⟨_, rfl, _, rfl, rfl, _, rfl, ite2 (fun c => ?_) (fun c => ?_)⟩
  · have ne : k' ≠ k := fun z => by rw [z] at c; simp at c
    refine ⟨_, rfl, q pl H (Same.refl _) ⟨xs, hpl, ?_⟩⟩
    unfold mvG
    rw [if_neg ne]
    exact ap
  have ek : k' = k := by
    have : decide (V.int k' = V.int k) = true := by simpa using c
    have := of_decide_eq_true this
    injection this
  subst ek
  dsimp only [tNext]
  refine ⟨_, rfl, _, rfl, _, rfl, pl, _, rfl, hpl, fun p1 H1 e1 h1 => ?_⟩
  have h1 : H1 p1 = some (.tup (xs.take L)) := by rw [h1, cutTo2]
  refine ⟨_, rfl, _, rfl, pl, _, _, _, rfl, rfl, SqT.of (e1 _ _ hpl), atI_nat hx0, t0, _, 0, _, rfl, rfl, SqT.of (e1 _ _ ht0), rfl, _, rfl, sh, _, 0, _, rfl, rfl, SqL.of (e1 _ _ hsh), atI_nat (j := 0) (show (V.int v :: vs0)[0]? = some (V.int v) from rfl), szl (by show 2 ≤ 1000000; decide), fun t2 ht2 => ⟨szl (by show 1 ≤ 1000000; decide), fun t3 ht3 => ?_⟩⟩
  have s2 := same_new ht2 (.tup [V.int ps[L].1, V.int v])
  have s3 := same_new ht3 (.tup [V.ref t2])
  have h23 := s3 t2 _ upd_same
  have h33 : (upd (upd H1 t2 (.tup [V.int ps[L].1, V.int v])) t3 (.tup [V.ref t2])) t3 = some (.tup [V.ref t2]) := upd_same
  have s23 := s2.trans s3
  generalize upd (upd H1 t2 (.tup [V.int ps[L].1, V.int v])) t3 (.tup [V.ref t2]) = H2 at s23 h23 h33
  refine ⟨p1, t3, _, [.ref t2], rfl, rfl, s23 _ _ h1, h33, szl (by rw [List.length_take]; show min L xs.length + 1 ≤ 1000000; omega), fun p3 H3 e3 h3 => ?_⟩
  have e13 := e1.trans (s23.trans e3)
  refine ⟨_, rfl, _, rfl, _, _, rfl, rfl, _, rfl, pl, _, rfl, e13 _ _ hpl, fun p4 H4 e4 h4 => ?_⟩
  have h4 : H4 p4 = some (.tup (xs.drop (L + 1))) := by rw [h4]; exact congrArg (fun z => some (HO.tup z)) (cutFrom xs (L + 1))
  refine ⟨p3, p4, _, _, rfl, rfl, e4 _ _ h3, h4, szl (by rw [List.length_append, List.length_take, List.length_drop]; show min L xs.length + 1 + (xs.length - (L + 1)) ≤ 1000000; omega), fun p5 H5 e5 h5 => ?_⟩
  have e05 := e13.trans (e4.trans e5)
  refine q p5 H5 e05 ⟨_, h5, ?_⟩
  have eA : mvG k' L v k' ps = ps.take L ++ [(ps[L].1, v)] ++ ps.drop (L + 1) := by
    unfold mvG mvL
    rw [if_pos rfl, List.getD_eq_getElem?_getD, g0, List.set_eq_take_append_cons_drop, if_pos (by omega)]
    simp
  rw [eA]
  refine ((((ap.take L).mono fun _ _ z => PrAt.over z e05).app (.one ⟨t2, rfl, (e3.trans (e4.trans e5)) _ _ h23⟩)).app ((ap.drop (L + 1)).mono fun _ _ z => PrAt.over z e05))
theorem mk_chgK88 {X : Cx} {pins : List (Addr × Obj)} {σ : St} {H2 : Hp} {s2 : Shared} {f1 c1 sh cs ck ca : Addr} {qual : Str} {doc pm ctv : Value} {L : Nat} {k v : Int} {vs0 : List V} (T : Tx X.w X.K X.mg a) (I : Inv X pins σ H2 s2) (m1 : (f1, PySem.W.fnMade "change" qual (defArgs n_change) (defBody n_change) (defScope n_change) [("shifts", cs), ("k", ck), ("at", ca)] doc pm c1 ctv) ∈ X.pn ++ pins)
    (hN1 : X.N[6]? = some ("shifts" : Str)) (hσ1 : σ[6]? = some (some (.ref sh))) (hk1 : X.env.scope.names.lookup ("shifts" : Str) = some NameKind.cell) (hfn1 : X.fn "shifts" = true) (hcc1 : X.env.cells.lookup ("shifts" : Str) = some cs)
    (hN2 : X.N[2]? = some ("k" : Str)) (hσ2 : σ[2]? = some (some (.int k))) (hk2 : X.env.scope.names.lookup ("k" : Str) = some NameKind.cell) (hfn2 : X.fn "k" = true) (hcc2 : X.env.cells.lookup ("k" : Str) = some ck)
    (hN3 : X.N[5]? = some ("at" : Str)) (hσ3 : σ[5]? = some (some (.int (L : Int)))) (hk3 : X.env.scope.names.lookup ("at" : Str) = some NameKind.cell) (hfn3 : X.fn "at" = true) (hcc3 : X.env.cells.lookup ("at" : Str) = some ca) (nd : [cs, ck, ca].Nodup) : CkOk X.prog X.w X.K X.mg (bigB s2.heap H2 X.stack) f1 (fun H => Cd c1 qual H ∧ H sh = some (.lst (.int v :: vs0))) (mvG k L v) (L + 1) := by
  obtain ⟨c, u, hc, hcell, rv⟩ := I.cellB (i := 6) hN1 hσ1 hk1 hfn1
  obtain ⟨c2, u2, hc2, hcell2, rv2⟩ := I.cellB (i := 2) hN2 hσ2 hk2 hfn2
  obtain ⟨c3, u3, hc3, hcell3, rv3⟩ := I.cellB (i := 5) hN3 hσ3 hk3 hfn3
  have e : c = cs := Option.some.inj (hc.symm.trans hcc1)
  have e2 : c2 = ck := Option.some.inj (hc2.symm.trans hcc2)
  have e3 : c3 = ca := Option.some.inj (hc3.symm.trans hcc3)
  subst e e2 e3
  refine ok_chgK88 T (I.pinB m1) (cloN (us := [u, u2, u3]) (cs := [c, c2, c3]) rfl rfl rfl fr_change (by decide) nd (fun j c u h1 h2 => ?_) (fun j v u h1 h2 => ?_))
  · match j with
    | 0 => cases h1; cases h2; exact hcell
    | 1 => cases h1; cases h2; exact hcell2
    | 2 => cases h1; cases h2; exact hcell3
    | j + 3 => cases h1
  · match j with
    | 0 => cases h1; cases h2; exact rv
    | 1 => cases h1; cases h2; exact rv2
    | 2 => cases h1; cases h2; exact rv3
    | j + 3 => cases h1

theorem ok_moved88 (T : Tx w K mg a) (LT : LawTab base mg a.c_tab a.p_tab) : FnOk P w K mg base (CX1 P w) 14 a.f_moved a.d_moved ["plan", "path", "k", "n"] (spMoved a.c_NoTurning a.p_tab pos_change qn_change) := by
  have G_sweep_at := ok_sweepat87 (P := P) (w := w) (base := base) T
  have G_put_at := ok_put87 (P := P) (w := w) (base := base) T 10
  have G_deeds_within := ok_deedsw (P := P) (w := w) (base := base) T 7
  refine T.F_moved.okXT T.nl T.tb sc_moved (fun vs H Q E h => ?_) (fun A outer s H vs Q E hr h => ?_)
  · obtain ⟨_, _, _, _, _, _, rfl, _⟩ := h; rfl
  obtain ⟨pl, pa, f, path, k, n, rfl, hpl, hpa, pne, p10, wf, df, sf, hT, hplr, q, qx⟩ := h
  refine ⟨_, (@pss_cons _ _ _ _ _ (@ps_set _ _ (4) _ _ _ _ sc_moved.nd rfl (Or.inl rfl) (@pe_callX _ _ _ _ _ _ _ _ _ _ _ _ _ _ _ G_sweep_at (hr.mono (by omega)) (by rfl) T.m_sweep_at T.F_sweep_at.kp T.b_sweep_at .nil passes_def (@pa_cons _ _ _ _ _ (pv 0) (@pa_cons _ _ _ _ _ (pv 1) pa_nil (by rfl)) (by rfl)) (by decide) (by rfl) (by rfl)) (by rfl) (by first | exact .inl rfl | exact .inr rfl | assumption)) (@pss_cons _ _ _ _ _ (@ps_set _ _ (5) _ _ _ _ sc_moved.nd rfl (Or.inr rfl) (@pe_op _ _ _ _ _ _ _ _ op_sub (@pe_callB _ _ _ _ _ _ _ _ _ call_len_seq (by rfl) T.z_len bt_len (@pa_cons _ _ _ _ _ (pv 1) pa_nil (by rfl)) (by decide) (by decide) (by rfl) (by rfl)) pe_int) (by rfl) (by first | exact .inl rfl | exact .inr rfl | assumption)) (@pss_cons _ _ _ _ _ (@ps_set _ _ (6) _ _ _ _ sc_moved.nd rfl (Or.inr rfl) (@pe_compB _ _ _ _ _ _ _ ["number", "places", "where", "cuts", "at", "k", "n"] [none, none, none, none, some 5, some 2, some 3] _ _ _ _ (by rfl) (@pi_list _ _ _ _ (@pe_call _ _ _ _ _ _ _ _ _ _ _ _ _ _ _ _ G_deeds_within (hr.mono (by omega)) (by rfl) T.m_deeds_within T.F_deeds_within.kp T.b_deeds_within .nil pass0 (@pa_cons _ _ _ _ _ (@pe_ix _ _ _ _ _ _ _ ix_tup (pv 4) pe_int (fun _ _ => rfl)) (@pa_cons _ _ _ _ _ (@pe_tup _ _ _ _ _ pa_nil) (@pa_cons _ _ _ _ _ (@pe_tup _ _ _ _ _ pa_nil) pa_nil (by rfl)) (by rfl)) (by rfl)) (by decide) (by rfl) (by rfl))) c_moved_0 (fun _ _ _ _ _ _ => ⟨(show PG _ _ (gTup K 4 _) from (pg_tup rfl (pgs_cons (pg_name (i := 0) c_moved_0n rfl (Or.inl rfl)) (pgs_cons (pg_name (i := 1) c_moved_0n rfl (Or.inl rfl)) (pgs_cons (pg_name (i := 2) c_moved_0n rfl (Or.inl rfl)) (pgs_cons (pg_name (i := 3) c_moved_0n rfl (Or.inl rfl)) pgs_nil)))))), (@pts_one _ _ _ (@pt_cmpR _ _ _ _ _ _ _ _ op_eq (pv 0) (pv 5) (@nomark _ _ (by decide) (by decide)))), (@pe_op _ _ _ _ _ _ _ _ op_add (@pe_ix _ _ _ _ _ _ _ (show IxR _ (rIxT K) from ix_tup) (@pe_ix _ _ _ _ _ _ _ (show IxR _ (rIxT K) from ix_tup) (pv 1) (pv 4) (fun _ _ => rfl)) pe_int (fun _ _ => rfl)) (pv 6))⟩) (by intro _ ; rfl)) (by rfl) (by first | exact .inl rfl | exact .inr rfl | assumption)) (@pss_cons _ _ _ _ _ (@ps_if _ _ _ _ _ _ _ _ ((@pw_or _ _ _ _ _ _ _ (@pt_cmpR _ _ _ _ _ _ _ _ (@op_eqS _ (@hu64 _ _ hr)) (pv 6) (@pe_lst _ _ _ _ pa_nil) (@nomark _ _ (by decide) (by decide))) (@pw_or1 _ _ _ _ (@pt_cmpR _ _ _ _ _ _ _ _ op_gt (@pe_callB _ _ _ _ _ _ _ _ _ call_abs (by rfl) T.z_abs bt_abs (@pa_cons _ _ _ _ _ (@pe_ix _ _ _ _ _ _ _ ix_list (pv 6) pe_int (fun _ _ => rfl)) pa_nil (by rfl)) (by decide) (by decide) (by rfl) (by rfl)) (@pe_glob _ _ _ _ _ (by rfl) T.g_MOST_SHIFT T.r_MOST_SHIFT (by decide)) (@nomark _ _ (by decide) (by decide)))))).pt (@pss_one _ _ _ (@ps_raise _ _ _ _ _ rfl raises_def (@pe_xmake0 _ _ _ _ _ T.xm_NoTurning (by rfl) T.mc_NoTurning (by decide)))) pss_nil) (@pss_def2 _ _ _ _ _ _ _ ([("shifts", s.heap.objs.size + 1 + 3), ("k", s.heap.objs.size + 1 + 0), ("at", s.heap.objs.size + 1 + 2)]) _ _ (7) _ rfl rfl rfl rfl LT (by rfl) sc_moved.nd rfl (Or.inl rfl) (Or.inl rfl) (fun f1 c1 oc1 doc1 ct1 ho1 => (@pss_one _ _ _ (@ps_ret _ _ _ _ (@pe_call _ _ _ _ _ _ _ _ _ _ _ _ _ _ _ _ G_put_at (hr.mono (by omega)) (by rfl) T.m_put_at T.F_put_at.kp T.b_put_at .nil pass0 (@pa_cons _ _ _ _ _ (pv 0) (@pa_cons _ _ _ _ _ (pv 1) (@pa_cons _ _ _ _ _ pe_int (@pa_cons _ _ _ _ _ (@pe_tup _ _ _ _ _ (@pa_cons _ _ _ _ _ (@pe_tupq _ _ _ _ _ (@paq_cons _ _ _ _ _ pe_str (@paq_cons _ _ _ _ _ (@pe_ix _ _ _ _ _ _ _ ix_tup (pv 4) pe_int (fun _ _ => rfl)) (@paq_cons _ _ _ _ _ (@pe_ix _ _ _ _ _ _ _ ix_tup (pv 4) pe_int (fun _ _ => rfl)) (@paq_cons _ _ _ _ _ (@pe_callBB _ (10) _ _ _ _ _ _ _ _ _ (hr.mono (by omega)) (by rfl) T.m_with_places T.F_with_places.kp T.b_with_places (@pa_cons _ _ _ _ _ (@pe_ix _ _ _ _ _ _ _ ix_tup (pv 4) pe_int (fun _ _ => rfl)) (@pa_cons _ _ _ _ _ (pv 7) pa_nil (by rfl)) (by rfl)) (by decide) (by rfl) (by rfl)) paq_nil star_K) star_S) star_S) star_C)) pa_nil (by rfl))) pa_nil (by rfl)) (by rfl)) (by rfl)) (by rfl)) (by decide) (by rfl) (by rfl)))))))))), ?_⟩
  refine ⟨_, rfl, _, rfl, pl, pa, f, path, rfl, hpl, hpa, fun a' b' c w' s' t p H1 hl e1 ht hp => ?_, fun no x H1 e1 hx => qx (fun a b cw s en z => absurd z (no a b _)) x H1 e1 hx⟩
  dsimp only [gName]
  obtain ⟨sd, ssz, _⟩ := lk_sub f 0 path a' b' (c, w') s' hl
  have spl := hplr _ _ _ _ hl
  have p1 := List.length_pos_iff.mpr pne
  have ml : (path.map V.int).length = path.length := List.length_map ..
  refine ⟨_, rfl, pa, _, rfl, .inr (SqT.of (e1 _ _ hpa)), _, _, rfl, rfl, ?_⟩
  dsimp only [gName]
  rw [ml, show (path.length : Int) - 1 = ((path.length - 1 : Nat) : Int) by omega]
  refine ⟨_, rfl, t, _, 3, _, rfl, rfl, SqT.of ht, rfl, szl (by show 0 ≤ 1000000; decide), fun t1 ht1 => ⟨szl (by show 0 ≤ 1000000; decide), fun t2 ht2 => ?_⟩⟩
  have s2 := (same_new ht1 (.tup [])).trans (same_new ht2 (.tup []))
  have h11 : (upd (upd H1 t1 (.tup [])) t2 (.tup [])) t1 = some (.tup []) := (same_new ht2 _) _ _ upd_same
  have h22 : (upd (upd H1 t1 (.tup [])) t2 (.tup [])) t2 = some (.tup []) := upd_same
  generalize upd (upd H1 t1 (.tup [])) t2 (.tup []) = H2 at s2 h11 h22
  have dsz := deeds_sz s' [] 0
  refine ⟨p, t1, t2, s', [], [], rfl, hp.over s2, h11, h22, by omega, by decide, by decide, by omega, fun dl ys H3 e3 hdl ay => ?_⟩
  refine ⟨dl, rfl, ⟨_, SqL.of hdl⟩, ?_⟩
  have yl := ay.1
  refine comp_listG (xs := ys) (fun i zs H' => H' = H3 ∧ zs = ((((Fo.deedsF s' [] 0).take i).filter fun e => decide (e.k = k)).map fun e => shE (path.length - 1) e + n).map V.int) ⟨rfl, rfl⟩ (szl (by omega)) (fun i zs H' hi pp => ⟨by rw [pp.1]; exact SqL.of hdl, by rw [pp.2, List.length_map, List.length_map]; exact Nat.le_trans (List.length_filter_le ..) (by rw [List.length_take]; omega)⟩) (fun i y zs H' hy pp => ?_) (fun zs H4 pp l9 hl9 => ?_)
  · obtain ⟨rfl, rfl⟩ := pp
    obtain ⟨en, hen, te, ple, pe, cue, rfl, hte, hple, hcue⟩ := ay.get' hy
    obtain ⟨xe, hxe, axe⟩ := hple
    refine ⟨te, _, rfl, SqT.of hte, rfl, _, _, rfl, _, _, rfl, _, _, rfl, _, _, rfl, rfl, outs4 (ρ := [some 5, some 2, some 3]) _ _ _ _, ?_⟩
    have enl := (plr_deeds s' [] 0 spl en (List.mem_of_getElem? hen)).1
    have pg : en.pl[path.length - 1]? = some (en.pl.getD (path.length - 1) (0, 0)) := by rw [List.getD_eq_getElem?_getD, List.getElem?_eq_getElem (show path.length - 1 < en.pl.length by omega)]; rfl
    obtain ⟨xp, hxp, tp, rfl, htp⟩ := axe.get pg
    refine ⟨_, rfl, _, rfl, rfl, _, rfl, ite2 (fun ck => ?_) (fun ck => ?_)⟩
    · have ck : en.k = k := by have := of_decide_eq_true ck; injection this
      refine ⟨_, rfl, _, rfl, ple, _, _, _, rfl, rfl, SqT.of hxe, atI_nat hxp, tp, _, 1, _, rfl, rfl, SqT.of htp, rfl, _, rfl, _, _, rfl, rfl, rfl, ?_⟩
      rw [filter_take hen, if_pos (decide_eq_true ck), List.map_append, List.map_append]
      rfl
    · have ck : en.k ≠ k := fun z => ck (decide_eq_true (congrArg V.int z))
      refine ⟨rfl, ?_⟩
      rw [filter_take hen, if_neg (by rw [decide_eq_false ck]; exact Bool.false_ne_true), List.append_nil]
  obtain ⟨rfl, rfl⟩ := pp
  rw [List.take_of_length_le (by omega)]
  have hfk := fk_filter k s'
  generalize hFF : (Fo.deedsF s' [] 0).filter (fun e => decide (e.k = k)) = FF at hfk
  have s5 := same_new hl9 (.lst ((FF.map fun e => shE (path.length - 1) e + n).map V.int))
  have hl95 : (upd H4 l9 (.lst ((FF.map fun e => shE (path.length - 1) e + n).map V.int))) l9 = some (.lst ((FF.map fun e => shE (path.length - 1) e + n).map V.int)) := upd_same
  have e5 := s2.trans (e3.trans s5)
  have e05 := e1.trans e5
  have ht5 := e5 _ _ ht
  have hp5 := hp.over e5
  have hpl5 := hpl.over e05
  have hpa5 := e05 _ _ hpa
  have hT5 := hT.over e05
  generalize upd H4 l9 (.lst ((FF.map fun e => shE (path.length - 1) e + n).map V.int)) = H5 at s5 e5 e05 ht5 hp5 hpl5 hpa5 hT5 hl95
  dsimp only [gName]
  generalize hNN : (FF.map fun e => shE (path.length - 1) e + n) = NN at hl95
  refine seq_any (fun σ' H' => Same H5 H' ∧ (∃ (en : Fo.En) (vs0 : List V), fk k s' = some en ∧ (shE (path.length - 1) en + n).natAbs ≤ 10 ^ 18 ∧ H' l9 = some (.lst (V.int (shE (path.length - 1) en + n) :: vs0))) ∧ σ' = [some (.ref pl), some (.ref pa), some (.int k), some (.int n), some (.ref t), some (.int ((path.length - 1 : Nat) : Int)), some (.ref l9), none]) (fun σ' H6 pp => ?_) (fun nx => ?_)
  rotate_left
  · have rs : (∀ en, fk k s' = some en → ¬ (shE (path.length - 1) en + n).natAbs ≤ 10 ^ 18) → ∀ HH, Same H5 HH → ∀ x, HH x = none → E (.ref x) none (upd (upd HH x (exN x a.c_NoTurning none)) x (exC x a.c_NoTurning none)) := fun no HH eH x hx => by
      rw [upd_upd]
      refine qx (fun a b cw s en z ze => ?_) x _ ((e05.trans eH).trans (same_new hx _)) upd_same
      rw [hl] at z
      cases z
      exact no en ze
    refine ⟨_, rfl, szl (by show 0 ≤ 1000000; decide), fun l0 hl0 => ?_⟩
    have s6 := same_new hl0 (.lst [])
    have h06 : (upd H5 l0 (.lst [])) l0 = some (.lst []) := upd_same
    generalize upd H5 l0 (.lst []) = H6 at s6 h06
    have hl96 := s6 _ _ hl95
    refine ⟨_, _, .lst (SqL.of hl96) (ints_tr NN), .lst (SqL.of h06) .nil, ⟨_, rfl⟩, ⟨_, rfl⟩, simE NN, by rw [depT, ints_dep]; decide, _, rfl, ?_⟩
    rw [eqE NN]
    cases FF with
    | nil =>
      cases hNN
      refine iteT (iteT ?_)
      intro x hx
      exact ⟨x, _, none, rfl, upd_same, T.xi_NoTurning.xc, rs (fun en z => by rw [← hfk] at z; cases z) H6 s6 x hx⟩
    | cons en FR =>
      cases hNN
      have hfe : fk k s' = some en := hfk.symm
      refine iteF ?_
      refine ⟨_, rfl, l9, _, 0, _, rfl, rfl, SqL.of hl96, atI_nat (j := 0) (show (V.int (shE (path.length - 1) en + n) :: (FR.map fun e => shE (path.length - 1) e + n).map V.int)[0]? = some (V.int (shE (path.length - 1) en + n)) from rfl), _, rfl, _, _, rfl, rfl, _, rfl, ite2 (fun cb => ?_) (fun cb => ?_)⟩
      · intro x hx
        refine ⟨x, _, none, rfl, upd_same, T.xi_NoTurning.xc, rs (fun en' z => ?_) H6 s6 x hx⟩
        rw [hfe] at z
        cases z
        exact fun z => absurd ((abs18 _).mp (of_decide_eq_true cb)) (Nat.not_lt.mpr z)
      · exact nx _ _ ⟨s6, ⟨en, _, hfe, Nat.le_of_not_lt fun z => cb (decide_eq_true ((abs18 _).mpr z)), hl96⟩, rfl⟩
  obtain ⟨e56, ⟨en, vs0, hfe, hb, hl96⟩, rfl⟩ := pp
  have e06 := e05.trans e56
  have ht6 := e56 _ _ ht5
  have hp6 := hp5.over e56
  have hpl6 := hpl5.over e56
  have hpa6 := e56 _ _ hpa5
  have hT6 := hT5.over e56
  refine tDef2_go2 (pos := pos_change) (qn := qn_change) hT6 fun f1 c1 oc1 doc1 ct1 H7 k7 b7 hT7 cd7 => ?_
  have ht7 := k7.tk _ _ ht6
  have hp7 := hp6.tl k7
  have hpl7 := hpl6.tl k7
  have hpa7 := k7.tk _ _ hpa6
  have hl97 := k7 _ _ hl96 (fun _ z => by cases z)
  have k07 := e06.tl.trans k7
  have b07 := But1.pre e06 b7
  have wsub := wid_lk f 0 path a' b' (c, w') s' hl
  refine ⟨_, rfl, _, rfl, _, rfl, t, _, 1, _, rfl, rfl, SqT.of ht7, rfl, _, rfl, t, _, 2, _, rfl, rfl, SqT.of ht7, rfl, _, rfl, t, _, 3, _, rfl, rfl, SqT.of ht7, rfl, _, rfl, spWithK 7 f1 (fun H => Cd c1 qn_change H ∧ H l9 = some (.lst (.int (shE (path.length - 1) en + n) :: vs0))) (mvG k (path.length - 1) (shE (path.length - 1) en + n)) (path.length - 1 + 1), fun pins s2 I => ok_withk88 ⟨fun H H' e h => ⟨h.1.over e, e _ _ h.2⟩⟩ (mk_chgK88 T I (List.mem_append_left _ (List.mem_append_right _ List.mem_cons_self)) rfl rfl rfl rfl rfl rfl rfl rfl rfl rfl rfl rfl rfl rfl rfl (by simp)) T 7, p, s', rfl, hp7, by omega, by omega, by rw [show path.length - 1 + 1 = path.length by omega]; exact spl, ⟨cd7, hl97⟩, fun r H8 e8 hr8 => ?_⟩
  refine ⟨szl (by show 4 ≤ 1000000; decide), fun tn htn => ⟨szl (by show 1 ≤ 1000000; decide), fun tt htt => ?_⟩⟩
  have sz := same_new htn (.tup [V.str "sweep", V.bl c, V.str w', V.ref r])
  have sa := same_new htt (.tup [V.ref tn])
  have hn9 := sa tn _ upd_same
  have ht9 : (upd (upd H8 tn (.tup [V.str "sweep", V.bl c, V.str w', V.ref r])) tt (.tup [V.ref tn])) tt = some (.tup [V.ref tn]) := upd_same
  have s9 := sz.trans sa
  generalize upd (upd H8 tn (.tup [V.str "sweep", V.bl c, V.str w', V.ref r])) tt (.tup [V.ref tn]) = H9 at s9 hn9 ht9
  have e79 := e8.trans s9
  obtain ⟨rs', hrs, hfr⟩ := hr8.over s9
  have hh : FoT H9 tt (.node c w' (wpk (mvG k (path.length - 1) (shE (path.length - 1) en + n)) s') .nil) := ⟨_, ht9, tn, r, rs', [], rfl, hn9, hrs, hfr, rfl⟩
  exact ⟨pl, pa, tt, f, _, path, 1, 0, _, rfl, hpl7.over e79, e79 _ _ hpa7, hh, hl, p10, by omega, wf, by show 1 ≤ 100; decide, fun rr HX eX hrX => q _ _ _ _ _ hl hfe hb rr HX (k07.trans (e79.trans eX).tl) (b07.over (e79.trans eX)) (hT7.over (e79.trans eX)) hrX⟩

theorem ok_move88 (T : Tx w K mg a) (LT : LawTab base mg a.c_tab a.p_tab) : FnOk P w K mg base CX0 15 a.f_l_move a.d_l_move ["_law_plan", "_law_path_here", "_law_k", "_law_n"] (spMove a.p_tab pos_change qn_change) := by
  have G_moved := ok_moved88 (P := P) (w := w) (base := base) T LT
  refine T.F_l_move.ok sc_l_move (fun vs H Q E h => ?_) (fun cdv A outer s H vs Q E hr h => ?_)
  · obtain ⟨_, _, _, _, _, _, rfl, _⟩ := h; rfl
  obtain ⟨pl, pa, f, path, k, n, rfl, hpl, hpa, pne, p10, wf, df, sf, hT, hplr, q, qx⟩ := h
  refine ⟨_, (@pss_cons _ _ _ _ _ (@ps_set _ _ (4) _ _ _ _ sc_l_move.nd rfl (Or.inl rfl) pe_non (by rfl) (by first | exact .inl rfl | exact .inr rfl | assumption)) (@pss_cons _ _ _ _ _ (@ps_try _ _ _ _ _ _ _ (fun pn xe Ek hP hR => (@pss_one _ _ _ (@ps_set _ _ (4) _ _ _ _ sc_l_move.nd rfl (Or.inl rfl) (@pe_callX _ _ _ _ _ _ _ _ _ _ _ _ _ _ _ G_moved (hr.mono (by omega)) (by rfl) T.m_moved T.F_moved.kp T.b_moved .nil hP (@pa_cons _ _ _ _ _ (pv 0) (@pa_cons _ _ _ _ _ (pv 1) (@pa_cons _ _ _ _ _ (pv 2) (@pa_cons _ _ _ _ _ (pv 3) pa_nil (by rfl)) (by rfl)) (by rfl)) (by rfl)) (by decide) (by rfl) (by rfl)) (by rfl) (by first | exact .inl rfl | exact .inr rfl | assumption)))) (@ph_cons _ _ _ _ _ _ _ _ _ _ (by rfl) T.mc_NoTurning T.xi_NoTurning.xc (fun ea => (@pss_one _ _ _ (@ps_set _ _ (4) _ _ _ _ sc_l_move.nd rfl (Or.inl rfl) pe_non (by rfl) (by first | exact .inl rfl | exact .inr rfl | assumption)))) ph_nil (by decide)) (by rfl) (by rfl)) (@pss_one _ _ _ (@ps_ret _ _ _ _ (pv 4))))), ?_⟩
  refine seq_asgC ?_
  refine seq_any (fun σ' H' => ∃ v, σ' = [some (.ref pl), some (.ref pa), some (.int k), some (.int n), some v] ∧ Q v H') (fun σ' H' pp => ?_) (fun nx => ?_)
  · obtain ⟨v, rfl, hq⟩ := pp
    exact ⟨_, rfl, hq⟩
  obtain ⟨N, ct⟩ := T.ct_NoTurning
  refine ⟨_, rfl, _, rfl, _, rfl, _, rfl, pl, pa, f, path, k, n, rfl, hpl, hpa, pne, p10, wf, df, sf, hT, hplr, fun a b cw s en hl hf hb r H1 k1 b1 t1 hr => nx _ _ ⟨.ref r, rfl, q a b cw s en hl hf hb r H1 k1 b1 t1 hr⟩, fun no x H1 e1 hx => ?_⟩
  refine ⟨x, _, none, rfl, hx, N, _, true, ct, by rw [mem_bm]; exact decide_eq_true (.inl rfl), iteT ?_⟩
  exact nx _ _ ⟨.non, rfl, qx no H1 e1⟩

theorem ok_changed88 {g : Addr} {C : Hp → Prop} {φ : Bgh → Bgh} {OK : Bgh → Prop} (hC : KeptS C) (hk : ∀ b, (φ b).k = b.k ∧ (φ b).sh = b.sh) (hG : CiOk P w K mg base g C φ OK) (T : Tx w K mg a) : FnOk P w K mg base CX0 3 a.f_l_changed a.d_l_changed ["_law_leaves_here", "_law_one", "_law_change"] (spChangedI g C φ OK) := by
  obtain ⟨gd, gps, HF, hga, hbd⟩ := hG.ok
  refine T.F_l_changed.ok sc_l_changed (fun vs H Q E h => ?_) (fun cdv A outer s H vs Q E hr h => ?_)
  · obtain ⟨_, _, _, _, rfl, _⟩ := h; rfl
  obtain ⟨l, one, B, gp, rfl, ⟨xs0, hl, aB⟩, ⟨t1, p1, e1, hone, _⟩, ab, bB, Bl, cC, hL, hsm, q⟩ := h
  cases e1
  refine ⟨_, (@pss_cons _ _ _ _ _ (@ps_set _ _ (3) _ _ _ _ sc_l_changed.nd rfl (Or.inl rfl) (@pe_callTy _ _ _ _ _ _ _ _ _ call_list_of (by rfl) T.z_list bt_list (@pa_cons _ _ _ _ _ (pv 0) pa_nil (by rfl)) (by decide) (by decide) (by rfl) (by rfl)) (by rfl) (by first | exact .inl rfl | exact .inr rfl | assumption)) (@pss_cons _ _ _ _ _ (@ps_for _ _ _ _ _ _ _ _ PassesOwn.never rfl (@pi_range2 _ _ _ _ _ _ _ (by rfl) T.z_range (@pa_cons _ _ _ _ _ (@pe_ix _ _ _ _ _ _ _ ix_tup (pv 1) pe_int (fun _ _ => rfl)) (@pa_cons _ _ _ _ _ (@pe_ix _ _ _ _ _ _ _ ix_tup (pv 1) pe_int (fun _ _ => rfl)) pa_nil (by rfl)) (by rfl)) (by rfl) (by rfl)) (pg_name (i := 4) sc_l_changed.nd rfl (Or.inl rfl)) (@pss_cons _ _ _ _ _ (@ps_asg _ _ _ _ _ _ (@pe_ix _ _ _ _ _ _ _ ix_list (pv 0) (pv 4) (fun _ _ => rfl)) (pg_tup rfl (pgs_cons (pg_name (i := 5) sc_l_changed.nd rfl (Or.inl rfl)) (pgs_cons (pg_name (i := 6) sc_l_changed.nd rfl (Or.inl rfl)) (pgs_cons (pg_name (i := 7) sc_l_changed.nd rfl (Or.inl rfl)) (pgs_cons (pg_name (i := 8) sc_l_changed.nd rfl (Or.inl rfl)) pgs_nil))))) (by rfl) (by rfl) (by rfl)) (@pss_cons _ _ _ _ _ (@ps_asg _ _ _ _ _ _ (@pe_callV _ _ _ _ _ _ _ _ _ _ _ _ (2) HF hga (hr.mono (by omega)) hbd rfl (Or.inl rfl) (@pa_cons _ _ _ _ _ (@pe_callTy _ _ _ _ _ _ _ _ _ call_list_of (by rfl) T.z_list bt_list (@pa_cons _ _ _ _ _ (pv 7) pa_nil (by rfl)) (by decide) (by decide) (by rfl) (by rfl)) (@pa_cons _ _ _ _ _ (@pe_callTy _ _ _ _ _ _ _ _ _ call_list_of (by rfl) T.z_list bt_list (@pa_cons _ _ _ _ _ (pv 8) pa_nil (by rfl)) (by decide) (by decide) (by rfl) (by rfl)) pa_nil (by rfl)) (by rfl)) (by decide) (by decide) (by rfl) (by rfl)) (pg_tup rfl (pgs_cons (pg_name (i := 7) sc_l_changed.nd rfl (Or.inl rfl)) (pgs_cons (pg_name (i := 8) sc_l_changed.nd rfl (Or.inl rfl)) pgs_nil))) (by rfl) (by rfl) (by rfl)) (@pss_one _ _ _ (@ps_asg _ _ _ _ _ _ (@pe_tupq _ _ _ _ _ (@paq_cons _ _ _ _ _ (pv 5) (@paq_cons _ _ _ _ _ (pv 6) (@paq_cons _ _ _ _ _ (pv 7) (@paq_cons _ _ _ _ _ (pv 8) paq_nil star_N) star_N) star_N) star_N)) (pg_sub (pv 3) (pv 4) set_list) (by rfl) (by rfl) (by rfl))))) (by intro _ ; rfl)) (@pss_one _ _ _ (@ps_ret _ _ _ _ (pv 3))))), ?_⟩
  have xl := aB.1
  refine ⟨_, rfl, l, _, rfl, .inl (SqL.of hl), fun fo hfo => ?_⟩
  have s1 := same_new hfo (.lst xs0)
  have hfo1 : (upd H fo (.lst xs0)) fo = some (.lst xs0) := upd_same
  generalize upd H fo (.lst xs0) = H1 at s1 hfo1
  dsimp only [gName]
  have fo0 : H fo = none := hfo
  refine seq_any (fun σ' H' => ∃ (zs : List V) (o4 o5 o6 o7 o8 : Option V), σ' = [some (.ref l), some (.ref one), some (.ref g), some (.ref fo), o4, o5, o6, o7, o8] ∧ Same H H' ∧ H' fo = some (.lst zs) ∧ All2 (BoAt (wo H' fo)) zs (chB φ gp.2.1 gp.2.2.1 B)) (fun σ' H' pp => ?_) (fun nx => ?_)
  · obtain ⟨zs, o4, o5, o6, o7, o8, rfl, e, hz, az⟩ := pp
    exact ⟨_, rfl, q fo _ e ⟨zs, hz, az.mono fun _ _ z => BoAt.over z wo_same⟩⟩
  have hone1 := s1 _ _ hone
  refine ⟨_, rfl, one, _, 1, _, rfl, rfl, SqT.of hone1, rfl, _, rfl, one, _, 2, _, rfl, rfl, SqT.of hone1, rfl, _, _, rfl, ⟨by omega, by omega, by omega, by omega⟩, ?_⟩
  rw [show ((gp.2.2.1 : Int) - (gp.2.1 : Int)).toNat = gp.2.2.1 - gp.2.1 by omega]
  refine for_range (lo := (gp.2.1 : Int)) (n := gp.2.2.1 - gp.2.1) (fun i σ' H' => ∃ (zs : List V) (o4 o5 o6 o7 o8 : Option V), σ' = [some (.ref l), some (.ref one), some (.ref g), some (.ref fo), o4, o5, o6, o7, o8] ∧ Same H H' ∧ H' fo = some (.lst zs) ∧ All2 (BoAt (wo H' fo)) zs (chB φ gp.2.1 (gp.2.1 + i) B)) ?_ (fun i σ' H' hi pp => ?_) (fun σ' H' pp => ?_)
  · refine ⟨xs0, _, _, _, _, _, rfl, s1, hfo1, ?_⟩
    rw [Nat.add_zero, chB_none]
    refine aB.mono fun x b z => ?_
    have : Same H (wo H1 fo) := fun b' o' h' => by rw [wo_ne (ne_of_none h' hfo)]; exact s1 _ _ h'
    exact z.over this
  rotate_left
  · obtain ⟨zs, o4, o5, o6, o7, o8, rfl, e, hz, az⟩ := pp
    rw [show gp.2.1 + (gp.2.2.1 - gp.2.1) = gp.2.2.1 by omega] at az
    exact nx _ _ ⟨zs, _, _, _, _, _, rfl, e, hz, az⟩
  obtain ⟨zs, o4, o5, o6, o7, o8, rfl, e, hz, az⟩ := pp
  have z1 : (gp.2.1 : Int) + (i : Int) = ((gp.2.1 + i : Nat) : Int) := by omega
  have hiB : gp.2.1 + i < B.length := by omega
  have eb : B[gp.2.1 + i]? = some B[gp.2.1 + i] := List.getElem?_eq_getElem hiB
  generalize hbb : B[gp.2.1 + i] = b at eb
  have hbL := hL _ b (by omega) (by omega) eb
  have hbs := hsm b (List.mem_of_getElem? eb)
  obtain ⟨x0, hx0, t, w0, p0, rfl, ht, ⟨wx, hw, haw⟩, ⟨px, hp, hap⟩⟩ := aB.get eb
  have hl' := e _ _ hl
  have zl := az.1
  have cl := chB_get (φ := φ) (B := B) (a := gp.2.1) (b := gp.2.1 + i) (by omega) (by omega)
  dsimp only [gName]
  rw [z1]
  refine ⟨_, rfl, _, rfl, l, _, _, _, rfl, rfl, SqL.of hl', atI_nat hx0, t, _, rfl, SqT.of (e _ _ ht), rfl, _, _, rfl, _, _, rfl, _, _, rfl, _, _, rfl, rfl, ?_⟩
  dsimp only [gName]
  change tSeq _ _ _ [some (.ref l), some (.ref one), some (.ref g), some (.ref fo), some (.int ((gp.2.1 + i : Nat) : Int)), some (.int b.k), some (.int (b.sh : Int)), some (.ref w0), some (.ref p0)] _
  refine ⟨rfl, _, rfl, w0, _, rfl, .inl (SqL.of (e _ _ hw)), fun wl hwl => ?_⟩
  have s2 := same_new hwl (.lst wx)
  have hwl2 : (upd H' wl (.lst wx)) wl = some (.lst wx) := upd_same
  generalize upd H' wl (.lst wx) = H2 at s2 hwl2
  refine ⟨_, rfl, p0, _, rfl, .inl (SqL.of (s2 _ _ (e _ _ hp))), fun pl2 hpl2 => ?_⟩
  have s3 := same_new hpl2 (.lst px)
  have hpl3 : (upd H2 pl2 (.lst px)) pl2 = some (.lst px) := upd_same
  have nwp : pl2 ≠ wl := (ne_of_none hwl2 hpl2).symm
  generalize upd H2 pl2 (.lst px) = H3 at s3 hpl3
  have e23 := s2.trans s3
  have e03 := e.trans e23
  have wlf : wl ≠ fo := (ne_of_none hz hwl).symm
  have plf : pl2 ≠ fo := (ne_of_none (s2 _ _ hz) hpl2).symm
  have wl0 : H' wl = none := hwl
  have wsl := haw.1
  refine ⟨wl, pl2, b, rfl, Ne.symm nwp, ⟨wx, s3 _ _ hwl2, haw.mono fun _ _ z => WayAt.over z e03⟩, ⟨px, hpl3, hap.mono fun _ _ z => PrAt.over z e03⟩, hbL, hbs.1, hbs.2, hC.k _ _ e03 cC, fun r H4 k4 hw4 hp4 hr4 => ?_⟩
  have pl0 : H' pl2 = none := s2.free hpl2
  have eH4 : Same H H4 := fun b' o' h => k4 b' o' (ne_of_none (e _ _ h) wl0) (ne_of_none (e _ _ h) pl0) (e03 _ _ h)
  have eH'4 : Same H' H4 := fun b' o' h => k4 b' o' (ne_of_none h wl0) (ne_of_none h pl0) (e23 _ _ h)
  refine ⟨r, _, rfl, SqT.of hr4, rfl, _, _, rfl, _, _, rfl, rfl, ?_⟩
  dsimp only [gName]
  refine ⟨_, rfl, _, rfl, _, rfl, _, rfl, szl (by show 4 ≤ 1000000; decide), fun t9 ht9 => ?_⟩
  have s5 := same_new ht9 (.tup [V.int b.k, V.int (b.sh : Int), V.ref wl, V.ref pl2])
  have ht95 : (upd H4 t9 (.tup [V.int b.k, V.int (b.sh : Int), V.ref wl, V.ref pl2])) t9 = some (.tup [V.int b.k, V.int (b.sh : Int), V.ref wl, V.ref pl2]) := upd_same
  have hz4 := eH'4 _ _ hz
  have t9f : t9 ≠ fo := (ne_of_none hz4 ht9).symm
  generalize upd H4 t9 (.tup [V.int b.k, V.int (b.sh : Int), V.ref wl, V.ref pl2]) = H5 at s5 ht95
  have hz5 := s5 _ _ hz4
  have eH'5 := eH'4.trans s5
  refine ⟨_, rfl, _, rfl, fo, zs, _, gp.2.1 + i, rfl, rfl, hz5, ?_, ?_⟩
  · exact ixN_nat (by omega)
  refine ⟨zs.set (gp.2.1 + i) (.ref t9), _, _, _, _, _, rfl, fun b' o' h => by rw [upd_ne (ne_of_none h hfo)]; exact (eH4.trans s5) _ _ h, upd_same, ?_⟩
  rw [wo_upd, show gp.2.1 + (i + 1) = gp.2.1 + i + 1 by omega, chB_succ (by omega) eb]
  refine All2.set' (az.mono fun _ _ z => BoAt.over z (wo_mono eH'5)) _ ⟨t9, wl, pl2, rfl, ?_, (hw4.over s5).wo wlf hz5, (hp4.over s5).wo plf hz5⟩
  rw [wo_ne t9f, (hk b).1, (hk b).2]
  exact ht95

theorem ok_lchg88 {f c' : Addr} {clos : List (Str × Addr)} {qual : Str} {doc pm ctv : Value} {L : Nat} {cw : Way} (T : Tx w K mg a) (hf : base.get? f = some (PySem.W.fnMade "_law_change" qual (defArgs n_lchg) (defBody n_lchg) (defScope n_lchg) clos doc pm c' ctv)) (hc : CloOk base (defScope n_lchg) clos ["_law_level"] [.int (L : Int)]) : CiOk P w K mg base f (Cd c' qual) (wayB L (if cw.2 = "up" then "down" else "up")) (fun b => b.ways[L]? = some cw) := by
  refine ⟨_, ["_law_ways", "_law_places_here"], clo_fn2 hf (fun vs H Q E h => ?_) cs_lchg hc (fun vs H Q E h => ?_) (fun A outer s H vs Q E hr h => ?_), ⟨_, _, _, _, hf⟩, fun s us hl => .of_eq (bd_lchg hl)⟩
  · obtain ⟨_, _, _, _, _, _, _, _, _, _, h, _⟩ := h; exact h
  · obtain ⟨_, _, _, rfl, _⟩ := h; rfl
  obtain ⟨wl, pl, b, rfl, nwp, ⟨xs, hwl, aw⟩, hpl, hL, w100, p100, cd, q⟩ := h
  refine ⟨_, (@pss_cons _ _ _ _ _ (@ps_asg _ _ _ _ _ _ (@pe_tup _ _ _ _ _ (@pa_cons _ _ _ _ _ (@pe_ix _ _ _ _ _ _ _ ix_tup (@pe_ix _ _ _ _ _ _ _ ix_list (pv 0) (pv 2) (fun _ _ => rfl)) pe_int (fun _ _ => rfl)) (@pa_cons _ _ _ _ _ (@pe_ix _ _ _ _ _ _ _ ix_list (@pe_lst _ _ _ _ (@pa_cons _ _ _ _ _ pe_str (@pa_cons _ _ _ _ _ pe_str pa_nil (by rfl)) (by rfl))) (@pe_callTy _ _ _ _ _ _ _ _ _ call_int1 (by rfl) T.z_int bt_int (@pa_cons _ _ _ _ _ (@pe_cmpR _ _ _ _ _ _ _ _ op_eq (@pe_ix _ _ _ _ _ _ _ ix_tup (@pe_ix _ _ _ _ _ _ _ ix_list (pv 0) (pv 2) (fun _ _ => rfl)) pe_int (fun _ _ => rfl)) pe_str (@nomark _ _ (by decide) (by decide))) pa_nil (by rfl)) (by decide) (by decide) (by rfl) (by rfl)) (fun _ _ => rfl)) pa_nil (by rfl)) (by rfl))) (pg_sub (pv 0) (pv 2) set_list) (by rfl) (by rfl) (by rfl)) (@pss_one _ _ _ (@ps_ret _ _ _ _ (@pe_tup _ _ _ _ _ (@pa_cons _ _ _ _ _ (pv 0) (@pa_cons _ _ _ _ _ (pv 1) pa_nil (by rfl)) (by rfl)))))), ?_⟩
  have xl := aw.1
  obtain ⟨x, hx, t, rfl, ht⟩ := aw.get hL
  have Ll := (List.getElem?_eq_some_iff.mp hL).1
  generalize hw2 : (if cw.2 = ("up" : Str) then ("down" : Str) else "up") = w2 at q
  refine ⟨_, rfl, _, rfl, wl, _, _, _, rfl, rfl, SqL.of hwl, atI_nat hx, t, _, 0, _, rfl, rfl, SqT.of ht, rfl, szl (by show 2 ≤ 1000000; decide), fun lu hlu => ?_⟩
  have s0 := same_new hlu (.lst [V.str "up", V.str "down"])
  have hlu0 : (upd H lu (.lst [V.str "up", V.str "down"])) lu = some (.lst [V.str "up", V.str "down"]) := upd_same
  generalize upd H lu (.lst [V.str "up", V.str "down"]) = H0 at s0 hlu0
  have w2at : atI [V.str "up", V.str "down"] (if decide (V.str cw.2 = V.str "up") = true then (1 : Int) else 0) = some (.str w2) := by
    rw [← hw2]
    by_cases z : cw.2 = ("up" : Str)
    · rw [if_pos z, if_pos (decide_eq_true (congrArg V.str z))]; rfl
    · rw [if_neg z, if_neg (fun c => z (by have := of_decide_eq_true c; injection this))]; rfl
  refine ⟨_, rfl, _, rfl, wl, _, _, _, rfl, rfl, SqL.of (s0 _ _ hwl), atI_nat hx, t, _, 1, _, rfl, rfl, SqT.of (s0 _ _ ht), rfl, rfl, .inr ⟨_, rfl, lu, _, _, _, rfl, rfl, SqL.of hlu0, w2at, szl (by show 2 ≤ 1000000; decide), fun t1 ht1 => ?_⟩⟩
  have s1' := same_new ht1 (.tup [V.bl cw.1, V.str w2])
  have h11 : (upd H0 t1 (.tup [V.bl cw.1, V.str w2])) t1 = some (.tup [V.bl cw.1, V.str w2]) := upd_same
  have s1 := s0.trans s1'
  generalize upd H0 t1 (.tup [V.bl cw.1, V.str w2]) = H1 at s1 h11
  have hwl1 := s1 _ _ hwl
  refine ⟨_, rfl, _, rfl, wl, xs, _, L, rfl, rfl, hwl1, ixN_nat (by omega), ?_⟩
  refine ⟨_, rfl, _, rfl, szl (by show 2 ≤ 1000000; decide), fun r hr' => ?_⟩
  have s2 := same_new hr' (.tup [V.ref wl, V.ref pl])
  have tk : TK H1 (upd H1 wl (.lst (xs.set L (.ref t1)))) := TK.upd hwl1
  obtain ⟨ps, hps, ap⟩ := hpl
  refine q r _ (fun x o n1 n2 h => s2 _ _ (by rw [upd_ne n1]; exact s1 _ _ h)) ⟨xs.set L (.ref t1), s2 _ _ upd_same, ?_⟩ ⟨ps, s2 _ _ (by rw [upd_ne (Ne.symm nwp)]; exact s1 _ _ hps), ?_⟩ upd_same
  · have eA : (wayB L w2 b).ways = b.ways.set L (cw.1, w2) := by
      unfold wayB
      rw [List.getD_eq_getElem?_getD, hL]
      rfl
    rw [eA]
    refine All2.set' (aw.mono fun x v z => ?_) _ ⟨t1, rfl, s2 _ _ (tk _ _ h11)⟩
    obtain ⟨t', rfl, h'⟩ := z
    exact ⟨t', rfl, s2 _ _ (tk _ _ (s1 _ _ h'))⟩
  · refine ap.mono fun x v z => ?_
    obtain ⟨t', rfl, h'⟩ := z
    exact ⟨t', rfl, s2 _ _ (tk _ _ (s1 _ _ h'))⟩
theorem mk_lchg88 {X : Cx} {pins : List (Addr × Obj)} {σ : St} {H2 : Hp} {s2 : Shared} {f1 c1 cc : Addr} {qual : Str} {doc pm ctv : Value} {L : Nat} {cw : Way} (T : Tx X.w X.K X.mg a) (I : Inv X pins σ H2 s2) (m1 : (f1, PySem.W.fnMade "_law_change" qual (defArgs n_lchg) (defBody n_lchg) (defScope n_lchg) [("_law_level", cc)] doc pm c1 ctv) ∈ X.pn ++ pins) (hN : X.N[2]? = some ("_law_level" : Str)) (hσ : σ[2]? = some (some (.int (L : Int)))) (hk : X.env.scope.names.lookup ("_law_level" : Str) = some NameKind.cell) (hfn : X.fn "_law_level" = true) (hcc : X.env.cells.lookup ("_law_level" : Str) = some cc) : CiOk X.prog X.w X.K X.mg (bigB s2.heap H2 X.stack) f1 (Cd c1 qual) (wayB L (if cw.2 = "up" then "down" else "up")) (fun b => b.ways[L]? = some cw) := by
  obtain ⟨c, u, hc, hcell, rv⟩ := I.cellB (i := 2) hN hσ hk hfn
  have e : c = cc := Option.some.inj (hc.symm.trans hcc)
  subst e
  refine ok_lchg88 T (I.pinB m1) (clo1 (fun y hy z => ?_) hcell rv)
  exact List.mem_singleton.mp (fr_lchg y hy z)

theorem ok_mchg88 {f c' : Addr} {clos : List (Str × Addr)} {qual : Str} {doc pm ctv : Value} {L : Nat} {lo sh n : Int} (T : Tx w K mg a) (hf : base.get? f = some (PySem.W.fnMade "_law_change" qual (defArgs n_mchg) (defBody n_mchg) (defScope n_mchg) clos doc pm c' ctv)) (hc : CloOk base (defScope n_mchg) clos ["_law_shift", "_law_n", "_law_loop", "_law_level"] [.int sh, .int n, .int lo, .int (L : Int)]) : CiOk P w K mg base f (Cd c' qual) (mvB L (sh + n)) (fun b => b.pl[L]? = some (lo, sh)) := by
  refine ⟨_, ["_law_ways", "_law_places_here"], clo_fn2 hf (fun vs H Q E h => ?_) cs_mchg hc (fun vs H Q E h => ?_) (fun A outer s H vs Q E hr h => ?_), ⟨_, _, _, _, hf⟩, fun s us hl => .of_eq (bd_mchg hl)⟩
  · obtain ⟨_, _, _, _, _, _, _, _, _, _, h, _⟩ := h; exact h
  · obtain ⟨_, _, _, rfl, _⟩ := h; rfl
  obtain ⟨wl, pl, b, rfl, nwp, hwl, ⟨xs, hpl, ap⟩, hL, w100, p100, cd, q⟩ := h
  refine ⟨_, (@pss_cons _ _ _ _ _ (@ps_asg _ _ _ _ _ _ (@pe_tup _ _ _ _ _ (@pa_cons _ _ _ _ _ (pv 4) (@pa_cons _ _ _ _ _ (@pe_op _ _ _ _ _ _ _ _ op_add (pv 2) (pv 3)) pa_nil (by rfl)) (by rfl))) (pg_sub (pv 1) (pv 5) set_list) (by rfl) (by rfl) (by rfl)) (@pss_one _ _ _ (@ps_ret _ _ _ _ (@pe_tup _ _ _ _ _ (@pa_cons _ _ _ _ _ (pv 0) (@pa_cons _ _ _ _ _ (pv 1) pa_nil (by rfl)) (by rfl)))))), ?_⟩
  have xl := ap.1
  have Ll := (List.getElem?_eq_some_iff.mp hL).1
  refine ⟨_, rfl, _, rfl, _, rfl, _, _, rfl, rfl, szl (by show 2 ≤ 1000000; decide), fun t1 ht1 => ?_⟩
  have s1 := same_new ht1 (.tup [V.int lo, V.int (sh + n)])
  have h11 : (upd H t1 (.tup [V.int lo, V.int (sh + n)])) t1 = some (.tup [V.int lo, V.int (sh + n)]) := upd_same
  generalize upd H t1 (.tup [V.int lo, V.int (sh + n)]) = H1 at s1 h11
  have hpl1 := s1 _ _ hpl
  refine ⟨_, rfl, _, rfl, pl, xs, _, L, rfl, rfl, hpl1, ixN_nat (by omega), ?_⟩
  refine ⟨_, rfl, _, rfl, szl (by show 2 ≤ 1000000; decide), fun r hr' => ?_⟩
  have s2 := same_new hr' (.tup [V.ref wl, V.ref pl])
  have tk : TK H1 (upd H1 pl (.lst (xs.set L (.ref t1)))) := TK.upd hpl1
  obtain ⟨ws, hws, aw⟩ := hwl
  refine q r _ (fun x o n1 n2 h => s2 _ _ (by rw [upd_ne n2]; exact s1 _ _ h)) ⟨ws, s2 _ _ (by rw [upd_ne nwp]; exact s1 _ _ hws), ?_⟩ ⟨xs.set L (.ref t1), s2 _ _ upd_same, ?_⟩ upd_same
  · refine aw.mono fun x v z => ?_
    obtain ⟨t', rfl, h'⟩ := z
    exact ⟨t', rfl, s2 _ _ (tk _ _ (s1 _ _ h'))⟩
  · have eA : (mvB L (sh + n) b).pl = b.pl.set L (lo, sh + n) := by
      unfold mvB mvL
      rw [List.getD_eq_getElem?_getD, hL]
      rfl
    rw [eA]
    refine All2.set' (ap.mono fun x v z => ?_) _ ⟨t1, rfl, s2 _ _ (tk _ _ h11)⟩
    obtain ⟨t', rfl, h'⟩ := z
    exact ⟨t', rfl, s2 _ _ (tk _ _ (s1 _ _ h'))⟩
theorem mk_mchg88 {X : Cx} {pins : List (Addr × Obj)} {σ : St} {H2 : Hp} {s2 : Shared} {f1 c1 cs ck ca cl : Addr} {qual : Str} {doc pm ctv : Value} {L : Nat} {lo sh n : Int} (T : Tx X.w X.K X.mg a) (I : Inv X pins σ H2 s2) (m1 : (f1, PySem.W.fnMade "_law_change" qual (defArgs n_mchg) (defBody n_mchg) (defScope n_mchg) [("_law_shift", cs), ("_law_n", ck), ("_law_loop", ca), ("_law_level", cl)] doc pm c1 ctv) ∈ X.pn ++ pins)
    (hN1 : X.N[7]? = some ("_law_shift" : Str)) (hσ1 : σ[7]? = some (some (.int sh))) (hk1 : X.env.scope.names.lookup ("_law_shift" : Str) = some NameKind.cell) (hfn1 : X.fn "_law_shift" = true) (hcc1 : X.env.cells.lookup ("_law_shift" : Str) = some cs)
    (hN2 : X.N[3]? = some ("_law_n" : Str)) (hσ2 : σ[3]? = some (some (.int n))) (hk2 : X.env.scope.names.lookup ("_law_n" : Str) = some NameKind.cell) (hfn2 : X.fn "_law_n" = true) (hcc2 : X.env.cells.lookup ("_law_n" : Str) = some ck)
    (hN3 : X.N[6]? = some ("_law_loop" : Str)) (hσ3 : σ[6]? = some (some (.int lo))) (hk3 : X.env.scope.names.lookup ("_law_loop" : Str) = some NameKind.cell) (hfn3 : X.fn "_law_loop" = true) (hcc3 : X.env.cells.lookup ("_law_loop" : Str) = some ca)
    (hN4 : X.N[4]? = some ("_law_level" : Str)) (hσ4 : σ[4]? = some (some (.int (L : Int)))) (hk4 : X.env.scope.names.lookup ("_law_level" : Str) = some NameKind.cell) (hfn4 : X.fn "_law_level" = true) (hcc4 : X.env.cells.lookup ("_law_level" : Str) = some cl) (nd : [cs, ck, ca, cl].Nodup) : CiOk X.prog X.w X.K X.mg (bigB s2.heap H2 X.stack) f1 (Cd c1 qual) (mvB L (sh + n)) (fun b => b.pl[L]? = some (lo, sh)) := by
  obtain ⟨c, u, hc, hcell, rv⟩ := I.cellB (i := 7) hN1 hσ1 hk1 hfn1
  obtain ⟨c2, u2, hc2, hcell2, rv2⟩ := I.cellB (i := 3) hN2 hσ2 hk2 hfn2
  obtain ⟨c3, u3, hc3, hcell3, rv3⟩ := I.cellB (i := 6) hN3 hσ3 hk3 hfn3
  obtain ⟨c4, u4, hc4, hcell4, rv4⟩ := I.cellB (i := 4) hN4 hσ4 hk4 hfn4
  have e : c = cs := Option.some.inj (hc.symm.trans hcc1)
  have e2 : c2 = ck := Option.some.inj (hc2.symm.trans hcc2)
  have e3 : c3 = ca := Option.some.inj (hc3.symm.trans hcc3)
  have e4 : c4 = cl := Option.some.inj (hc4.symm.trans hcc4)
  subst e e2 e3 e4
  refine ok_mchg88 T (I.pinB m1) (cloN (us := [u, u2, u3, u4]) (cs := [c, c2, c3, c4]) rfl rfl rfl fr_mchg (by decide) nd (fun j c u h1 h2 => ?_) (fun j v u h1 h2 => ?_))
  · match j with
    | 0 => cases h1; cases h2; exact hcell
    | 1 => cases h1; cases h2; exact hcell2
    | 2 => cases h1; cases h2; exact hcell3
    | 3 => cases h1; cases h2; exact hcell4
    | j + 4 => cases h1
  · match j with
    | 0 => cases h1; cases h2; exact rv
    | 1 => cases h1; cases h2; exact rv2
    | 2 => cases h1; cases h2; exact rv3
    | 3 => cases h1; cases h2; exact rv4
    | j + 4 => cases h1

theorem ok_turnedl88 (T : Tx w K mg a) (LT : LawTab base mg a.c_tab2 a.p_tab2) : FnOk P w K mg base CX0 12 a.f_l_turned a.d_l_turned ["_law_leaves_here", "_law_one"] (spTurnedL a.p_tab2 pos_lchg qn_lchg) := by
  have G_l_items := ok_items87 (P := P) (w := w) (base := base) T 7
  refine T.F_l_turned.okT T.nl2 T.tb2 sc_l_turned (fun vs H Q E h => ?_) (fun A outer s H vs Q E hr h => ?_)
  · obtain ⟨_, _, _, _, _, rfl, _⟩ := h; rfl
  obtain ⟨l, x, B, f, path, rfl, hB, hone, pne, p10, N, w3, hT, q, qx⟩ := h
  have p1 := List.length_pos_iff.mpr pne
  have ml : (path.map V.int).length = path.length := List.length_map ..
  obtain ⟨xs0, hl, aB⟩ := id hB
  obtain ⟨a', b', fl, hat, hcase⟩ := gp_both f pne
  rw [hat] at hone
  obtain ⟨t, p, rfl, ht, hp⟩ := hone
  refine ⟨_, (@pss_cons _ _ _ _ _ (@ps_set _ _ (2) _ _ _ _ sc_l_turned.nd rfl (Or.inr rfl) (@pe_op _ _ _ _ _ _ _ _ op_sub (@pe_callB _ _ _ _ _ _ _ _ _ call_len_seq (by rfl) T.z_len bt_len (@pa_cons _ _ _ _ _ (@pe_ix _ _ _ _ _ _ _ ix_tup (pv 1) pe_int (fun _ _ => rfl)) pa_nil (by rfl)) (by decide) (by decide) (by rfl) (by rfl)) pe_int) (by rfl) (by first | exact .inl rfl | exact .inr rfl | assumption)) (@pss_cons _ _ _ _ _ (@ps_if _ _ _ _ _ _ _ _ ((@pw_or _ _ _ _ _ _ _ (@pt_not _ _ _ _ (@pt_val _ _ _ (@pe_ix _ _ _ _ _ _ _ ix_tup (pv 1) pe_int (fun _ _ => rfl)) (by intro _ ; rfl))) (@pw_or1 _ _ _ _ (@pt_cmpR _ _ _ _ _ _ _ _ op_eq (@pe_ix _ _ _ _ _ _ _ ix_tup (@pe_ix _ _ _ _ _ _ _ ix_list (@pe_ix _ _ _ _ _ _ _ ix_tup (@pe_ix _ _ _ _ _ _ _ ix_list (pv 0) (@pe_ix _ _ _ _ _ _ _ ix_tup (pv 1) pe_int (fun _ _ => rfl)) (fun _ _ => rfl)) pe_int (fun _ _ => rfl)) (pv 2) (fun _ _ => rfl)) pe_int (fun _ _ => rfl)) pe_str (@nomark _ _ (by decide) (by decide)))))).pt (@pss_one _ _ _ (@ps_ret _ _ _ _ pe_non)) pss_nil) (@pss_def2 _ _ _ _ _ _ _ ([("_law_level", s.heap.objs.size + 1 + 0)]) _ _ (3) _ rfl rfl rfl rfl LT (by rfl) sc_l_turned.nd rfl (Or.inl rfl) (Or.inl rfl) (fun f1 c1 oc1 doc1 ct1 ho1 => (@pss_one _ _ _ (@ps_ret _ _ _ _ (@pe_call _ _ _ _ _ _ _ _ _ _ _ _ _ _ _ _ G_l_items (hr.mono (by omega)) (by rfl) T.m_l_items T.F_l_items.kp T.b_l_items .nil pass0 (@pa_cons _ _ _ _ _ (@pe_callBB _ (3) _ _ _ _ _ _ _ _ _ (hr.mono (by omega)) (by rfl) T.m_l_changed T.F_l_changed.kp T.b_l_changed (@pa_cons _ _ _ _ _ (pv 0) (@pa_cons _ _ _ _ _ (pv 1) (@pa_cons _ _ _ _ _ (pv 3) pa_nil (by rfl)) (by rfl)) (by rfl)) (by decide) (by rfl) (by rfl)) (@pa_cons _ _ _ _ _ pe_int pa_nil (by rfl)) (by rfl)) (by decide) (by rfl) (by rfl)))))))), ?_⟩
  have ht : H t = some (.tup [.ref p, .int (a' : Int), .int (b' : Int), .bl fl]) := ht
  have hp : H p = some (.tup (path.map V.int)) := hp
  refine ⟨_, rfl, t, _, 0, _, rfl, rfl, SqT.of ht, rfl, p, _, rfl, .inr (SqT.of hp), _, _, rfl, rfl, ?_⟩
  dsimp only [gName]
  rw [ml, show (path.length : Int) - 1 = ((path.length - 1 : Nat) : Int) by omega]
  rcases hcase with ⟨rfl, cw, s', hlk⟩ | ⟨rfl, no⟩
  rotate_left
  · refine ⟨_, rfl, t, _, 3, _, rfl, rfl, SqT.of ht, rfl, _, rfl, iteT (iteT ?_)⟩
    exact qx (fun a b c w s z => absurd z (no a b _))
  obtain ⟨_, ab, bB, gw⟩ := N.way "any" hlk
  have haB : a' < B.length := by omega
  have eb : B[a']? = some B[a'] := List.getElem?_eq_getElem haB
  obtain ⟨_, gwa⟩ := gw a' _ (Nat.le_refl _) ab eb
  have mB := List.mem_of_getElem? eb
  generalize B[a'] = b0 at eb gwa mB
  obtain ⟨x0, hx0, t0, w0, p0, rfl, ht0, ⟨wx, hw, haw⟩, _⟩ := aB.get eb
  obtain ⟨xw, hxw, tw, rfl, htw⟩ := haw.get gwa
  have hw3 := w3 b0 mB cw (List.mem_of_getElem? gwa)
  refine ⟨_, rfl, t, _, 3, _, rfl, rfl, SqT.of ht, rfl, _, rfl, iteF ?_⟩
  refine ⟨_, rfl, _, rfl, t, _, 1, _, rfl, rfl, SqT.of ht, rfl, l, _, _, _, rfl, rfl, SqL.of hl, atI_nat hx0, t0, _, 2, _, rfl, rfl, SqT.of ht0, rfl, _, rfl, w0, _, _, _, rfl, rfl, SqL.of hw, atI_nat hxw, tw, _, 1, _, rfl, rfl, SqT.of htw, rfl, rfl, _, rfl, ?_⟩
  rcases oth3 hw3 with ⟨e, ho⟩ | ⟨e, ho⟩
  · refine iteE (v := true) (decide_eq_true (congrArg V.str e)) (iteT ?_)
    refine qx (fun a b c w s z => ?_)
    rw [hlk] at z
    cases z
    exact ho
  refine iteE (v := false) (decide_eq_false fun z => e (by injection z)) (iteF ?_)
  dsimp only [tNext]
  refine tDef2_go2 (pos := pos_lchg) (qn := qn_lchg) hT fun f1 c1 oc1 doc1 ct1 H6 k6 b6 hT6 cd6 => ?_
  obtain ⟨N2, _, _, _⟩ := N.way (if cw.2 = "up" then "down" else "up") hlk
  refine ⟨_, rfl, _, rfl, _, rfl, spChangedI f1 (Cd c1 qn_lchg) (wayB (path.length - 1) (if cw.2 = "up" then "down" else "up")) (fun b => b.ways[path.length - 1]? = some cw), fun pins s3 I => ok_changed88 ⟨fun H H' e h => h.over e⟩ (fun b => ⟨rfl, rfl⟩) (mk_lchg88 T I (List.mem_append_left _ (List.mem_append_right _ List.mem_cons_self)) rfl rfl rfl rfl rfl) T, l, t, B, (path, a', b', true), rfl, hB.tl k6, ⟨t, p, rfl, k6.tk _ _ ht, k6.tk _ _ hp⟩, Nat.le_of_lt ab, bB, by have := N.fr.len; omega, cd6, fun k b k1 k2 hb => (gw k b k1 k2 hb).2, fun b hb => ⟨Nat.le_trans (N.fr.hi b hb) (by decide), Nat.le_trans (N.fr.pl b hb) (by decide)⟩, fun r H7 e7 hr7 => ?_⟩
  refine ⟨r, 0, 6, _, rfl, hr7, N2.fr, by decide, by decide, fun du H8 fd e8 hdu hId => ?_⟩
  have ef : fd = Fo.pt f path 1 (.node cw.1 (if cw.2 = "up" then "down" else "up") s' .nil) := Fo.is_one fd _ _ 0 hId N2.is
  rw [ef] at hdu
  exact q a' b' cw.1 cw.2 _ s' hlk ho du H8 (k6.trans (e7.trans e8).tl) (fun b o n hb => (e7.trans e8) _ _ (b6 b o n hb)) hdu

theorem ok_by88 (T : Tx w K mg a) : FnOk P w K mg base CX0 1 a.f_l_by a.d_l_by ["_law_cell", "_law_leaves_here", "_law_one", "_law_k"] spBy88 := by
  refine T.F_l_by.ok sc_l_by (fun vs H Q E h => ?_) (fun cdv A outer s H vs Q E hr h => ?_)
  · obtain ⟨_, _, _, _, _, _, _, rfl, _⟩ := h; rfl
  obtain ⟨c, l, x, k, B, f, path, rfl, hB, hone, pne, p10, N, lw, q⟩ := h
  have p1 := List.length_pos_iff.mpr pne
  have ml : (path.map V.int).length = path.length := List.length_map ..
  obtain ⟨xs0, hl, aB⟩ := id hB
  obtain ⟨a', b', fl, hat, ab, bB, hcase⟩ := gp_all N pne
  rw [hat] at hone
  obtain ⟨t, p, rfl, ht, hp⟩ := hone
  refine ⟨_, (@pss_cons _ _ _ _ _ (@ps_if _ _ _ _ _ _ _ _ (@pt_cmpR _ _ _ _ _ _ _ _ op_eq (@pe_op _ _ _ _ _ _ _ _ op_mod (pv 0) pe_int) pe_int (@nomark _ _ (by decide) (by decide))) (@pss_one _ _ _ (@ps_ret _ _ _ _ (@pe_op _ _ _ _ _ _ _ _ op_sub (@pe_op _ _ _ _ _ _ _ _ op_mod (@pe_op _ _ _ _ _ _ _ _ op_fdiv (pv 0) pe_int) pe_int) pe_int))) pss_nil) (@pss_cons _ _ _ _ _ (@ps_if _ _ _ _ _ _ _ _ (@pt_cmpR _ _ _ _ _ _ _ _ op_eq (@pe_op _ _ _ _ _ _ _ _ op_mod (pv 0) pe_int) pe_int (@nomark _ _ (by decide) (by decide))) (@pss_one _ _ _ (@ps_ret _ _ _ _ (@pe_op _ _ _ _ _ _ _ _ op_sub (@pe_op _ _ _ _ _ _ _ _ op_mod (@pe_op _ _ _ _ _ _ _ _ op_fdiv (pv 0) pe_int) (@pe_op _ _ _ _ _ _ _ _ op_add (@pe_op _ _ _ _ _ _ _ _ op_mul pe_int (@pe_op _ _ _ _ _ _ _ _ op_pow pe_int pe_int)) pe_int)) (@pe_op _ _ _ _ _ _ _ _ op_pow pe_int pe_int)))) pss_nil) (@pss_cons _ _ _ _ _ (@ps_set _ _ (4) _ _ _ _ sc_l_by.nd rfl (Or.inl rfl) pe_int (by rfl) (by first | exact .inl rfl | exact .inr rfl | assumption)) (@pss_cons _ _ _ _ _ (@ps_for _ _ _ _ _ _ _ _ PassesOwn.never rfl (@pi_range2 _ _ _ _ _ _ _ (by rfl) T.z_range (@pa_cons _ _ _ _ _ (@pe_ix _ _ _ _ _ _ _ ix_tup (pv 2) pe_int (fun _ _ => rfl)) (@pa_cons _ _ _ _ _ (@pe_ix _ _ _ _ _ _ _ ix_tup (pv 2) pe_int (fun _ _ => rfl)) pa_nil (by rfl)) (by rfl)) (by rfl) (by rfl)) (pg_name (i := 5) sc_l_by.nd rfl (Or.inl rfl)) (@pss_one _ _ _ (@ps_if _ _ _ _ _ _ _ _ ((@pw_and _ _ _ _ _ _ _ (@pt_cmpR _ _ _ _ _ _ _ _ op_eq (@pe_ix _ _ _ _ _ _ _ ix_tup (@pe_ix _ _ _ _ _ _ _ ix_list (pv 1) (pv 5) (fun _ _ => rfl)) pe_int (fun _ _ => rfl)) (pv 3) (@nomark _ _ (by decide) (by decide))) (@pw_and1 _ _ _ _ (@pt_val _ _ _ (@pe_ix _ _ _ _ _ _ _ ix_tup (pv 2) pe_int (fun _ _ => rfl)) (by intro _ ; rfl))))).pt (@pss_one _ _ _ (@ps_set _ _ (4) _ _ _ _ sc_l_by.nd rfl (Or.inl rfl) (@pe_ix _ _ _ _ _ _ _ ix_tup (@pe_ix _ _ _ _ _ _ _ ix_list (@pe_ix _ _ _ _ _ _ _ ix_tup (@pe_ix _ _ _ _ _ _ _ ix_list (pv 1) (pv 5) (fun _ _ => rfl)) pe_int (fun _ _ => rfl)) (@pe_op _ _ _ _ _ _ _ _ op_sub (@pe_callB _ _ _ _ _ _ _ _ _ call_len_seq (by rfl) T.z_len bt_len (@pa_cons _ _ _ _ _ (@pe_ix _ _ _ _ _ _ _ ix_tup (pv 2) pe_int (fun _ _ => rfl)) pa_nil (by rfl)) (by decide) (by decide) (by rfl) (by rfl)) pe_int) (fun _ _ => rfl)) pe_int (fun _ _ => rfl)) (by rfl) (by first | exact .inl rfl | exact .inr rfl | assumption))) pss_nil)) (by intro _ ; rfl)) (@pss_cons _ _ _ _ _ (@ps_set _ _ (6) _ _ _ _ sc_l_by.nd rfl (Or.inl rfl) (@pe_op _ _ _ _ _ _ _ _ op_add (@pe_op _ _ _ _ _ _ _ _ op_pow pe_int pe_int) (@pe_op _ _ _ _ _ _ _ _ op_mod (@pe_op _ _ _ _ _ _ _ _ op_fdiv (pv 0) pe_int) pe_int)) (by rfl) (by first | exact .inl rfl | exact .inr rfl | assumption)) (@pss_cons _ _ _ _ _ (@ps_if _ _ _ _ _ _ _ _ (@pt_cmpR _ _ _ _ _ _ _ _ op_eq (@pe_op _ _ _ _ _ _ _ _ op_mod (@pe_op _ _ _ _ _ _ _ _ op_fdiv (pv 0) pe_int) pe_int) pe_int (@nomark _ _ (by decide) (by decide))) (@pss_one _ _ _ (@ps_set _ _ (6) _ _ _ _ sc_l_by.nd rfl (Or.inl rfl) (@pe_op _ _ _ _ _ _ _ _ op_sub pe_int (pv 6)) (by rfl) (by first | exact .inl rfl | exact .inr rfl | assumption))) pss_nil) (@pss_one _ _ _ (@ps_ret _ _ _ _ (@pe_op _ _ _ _ _ _ _ _ op_sub (pv 6) (pv 4)))))))))), ?_⟩
  have ht : H t = some (.tup [.ref p, .int (a' : Int), .int (b' : Int), .bl fl]) := ht
  have hp : H p = some (.tup (path.map V.int)) := hp
  have B6 := N.fr.len
  have h3 : (0 : Int) < 3 := by decide
  have c3 : CDiv c 3 := ⟨h3, by decide⟩
  have cp : CPow 10 18 := ⟨by decide, by decide, by decide⟩
  refine ⟨_, rfl, _, _, rfl, rfl, h3, rfl, _, rfl, ite2 (fun _ => ?_) (fun _ => ?_)⟩
  · exact ⟨_, rfl, _, _, rfl, rfl, c3, _, _, rfl, rfl, by show (0 : Int) < 7; decide, _, _, rfl, rfl, q _⟩
  dsimp only [tNext]
  refine ⟨_, rfl, _, _, rfl, rfl, h3, rfl, _, rfl, ite2 (fun _ => ?_) (fun _ => ?_)⟩
  · exact ⟨_, rfl, _, _, rfl, rfl, c3, _, _, rfl, rfl, cp, _, _, rfl, rfl, .inl ⟨by decide, by decide⟩, _, _, rfl, rfl, _, _, rfl, rfl, by show (0 : Int) < 2 * 10 ^ (18 : Int).toNat + 1; decide, _, _, rfl, rfl, cp, _, _, rfl, rfl, q _⟩
  dsimp only [tNext]
  refine seq_asgC ?_
  refine seq_any (fun σ' H' => H' = H ∧ ∃ (sh : Int) (o5 : Option V), σ' = [some (.int c), some (.ref l), some (.ref t), some (.int k), some (.int sh), o5, none]) (fun σ' H' pp => ?_) (fun nx => ?_)
  · obtain ⟨rfl, sh, o5, rfl⟩ := pp
    refine ⟨_, _, rfl, rfl, cp, _, rfl, _, _, rfl, rfl, ⟨by decide, by decide⟩, _, _, rfl, rfl, by show (0 : Int) < 2; decide, _, _, rfl, rfl, ?_⟩
    dsimp only [gName]
    refine seq_any (fun σ' H'' => H'' = H' ∧ ∃ (sh ed : Int) (o5 : Option V), σ' = [some (.int c), some (.ref l), some (.ref t), some (.int k), some (.int sh), o5, some (.int ed)]) (fun σ' H'' pp => ?_) (fun nx => ?_)
    · obtain ⟨rfl, sh, ed, o5, rfl⟩ := pp
      exact ⟨_, rfl, _, rfl, _, _, rfl, rfl, q _⟩
    refine ⟨_, rfl, _, _, rfl, rfl, c3, _, _, rfl, rfl, by show (0 : Int) < 2; decide, rfl, _, rfl, ite2 (fun _ => ?_) (fun _ => ?_)⟩
    · refine ⟨_, rfl, _, _, rfl, rfl, ?_⟩
      exact nx _ _ ⟨rfl, _, _, _, rfl⟩
    · exact nx _ _ ⟨rfl, _, _, _, rfl⟩
  refine ⟨_, rfl, t, _, 1, _, rfl, rfl, SqT.of ht, rfl, _, rfl, t, _, 2, _, rfl, rfl, SqT.of ht, rfl, _, _, rfl, ⟨by omega, by omega, by omega, by omega⟩, ?_⟩
  rw [show ((b' : Int) - (a' : Int)).toNat = b' - a' by omega]
  refine for_range (lo := (a' : Int)) (n := b' - a') (fun i σ' H' => H' = H ∧ ∃ (sh : Int) (o5 : Option V), σ' = [some (.int c), some (.ref l), some (.ref t), some (.int k), some (.int sh), o5, none]) ⟨rfl, 0, none, rfl⟩ (fun i σ' H' hi pp => ?_) (fun σ' H' pp => nx _ _ pp)
  obtain ⟨rfl, sh, o5, rfl⟩ := pp
  have z1 : (a' : Int) + (i : Int) = ((a' + i : Nat) : Int) := by omega
  have hiB : a' + i < B.length := by omega
  have eb : B[a' + i]? = some B[a' + i] := List.getElem?_eq_getElem hiB
  generalize hbb : B[a' + i] = b at eb
  obtain ⟨x0, hx0, t0, w0, p0, rfl, ht0, _, ⟨px, hpx, hap⟩⟩ := aB.get eb
  dsimp only [gName]
  rw [z1]
  refine ⟨_, rfl, _, rfl, l, _, _, _, rfl, rfl, SqL.of hl, atI_nat hx0, t0, _, 0, _, rfl, rfl, SqT.of ht0, rfl, _, rfl, rfl, _, rfl, ite2 (fun _ => ?_) (fun _ => ite2 (fun z => absurd z Bool.false_ne_true) (fun _ => ⟨rfl, _, _, rfl⟩))⟩
  refine ⟨_, rfl, t, _, 3, _, rfl, rfl, SqT.of ht, rfl, _, rfl, ?_⟩
  rcases hcase with ⟨rfl, cw, s', hlk⟩ | ⟨rfl, no⟩
  rotate_left
  · exact iteF ⟨rfl, _, _, rfl⟩
  obtain ⟨_, _, _, gw⟩ := N.way "any" hlk
  obtain ⟨g1, _⟩ := gw (a' + i) b (by omega) (by omega) eb
  have Ll : path.length - 1 < b.pl.length := by rw [lw b (List.mem_of_getElem? eb)]; exact g1
  have pg : b.pl[path.length - 1]? = some b.pl[path.length - 1] := List.getElem?_eq_getElem Ll
  obtain ⟨xp, hxp, tp, rfl, htp⟩ := hap.get pg
  refine iteT ?_
  have at3 : atI px (((path.map V.int).length : Int) - 1) = some (.ref tp) := by rw [ml, show (path.length : Int) - 1 = ((path.length - 1 : Nat) : Int) by omega]; exact atI_nat hxp
  refine ⟨_, rfl, _, rfl, l, _, _, _, rfl, rfl, SqL.of hl, atI_nat hx0, t0, _, 3, _, rfl, rfl, SqT.of ht0, rfl, _, rfl, t, _, 0, _, rfl, rfl, SqT.of ht, rfl, p, _, rfl, .inr (SqT.of hp), _, _, rfl, rfl, p0, _, _, _, rfl, rfl, SqL.of hpx, at3, tp, _, 1, _, rfl, rfl, SqT.of htp, rfl, ?_⟩
  exact ⟨rfl, _, _, rfl⟩

theorem ok_movedl88 (T : Tx w K mg a) (LT : LawTab base mg a.c_tab3 a.p_tab3) : FnOk P w K mg base CX0 12 a.f_l_moved a.d_l_moved ["_law_leaves_here", "_law_one", "_law_k", "_law_n"] (spMovedL a.p_tab3 pos_mchg qn_mchg) := by
  have G_l_items := ok_items87 (P := P) (w := w) (base := base) T 7
  refine T.F_l_moved.okT T.nl3 T.tb3 sc_l_moved (fun vs H Q E h => ?_) (fun A outer s H vs Q E hr h => ?_)
  · obtain ⟨_, _, _, _, _, _, _, rfl, _⟩ := h; rfl
  obtain ⟨l, x, k, n, B, f, path, rfl, hB, hone, pne, p10, N, lw, nd, hT, q, qx⟩ := h
  have p1 := List.length_pos_iff.mpr pne
  have ml : (path.map V.int).length = path.length := List.length_map ..
  obtain ⟨xs0, hl, aB⟩ := id hB
  obtain ⟨a', b', fl, hat, ab, bB, hcase⟩ := gp_all N pne
  rw [hat] at hone
  obtain ⟨t, p, rfl, ht, hp⟩ := hone
  refine ⟨_, (@pss_cons _ _ _ _ _ (@ps_set _ _ (4) _ _ _ _ sc_l_moved.nd rfl (Or.inr rfl) (@pe_op _ _ _ _ _ _ _ _ op_sub (@pe_callB _ _ _ _ _ _ _ _ _ call_len_seq (by rfl) T.z_len bt_len (@pa_cons _ _ _ _ _ (@pe_ix _ _ _ _ _ _ _ ix_tup (pv 1) pe_int (fun _ _ => rfl)) pa_nil (by rfl)) (by decide) (by decide) (by rfl) (by rfl)) pe_int) (by rfl) (by first | exact .inl rfl | exact .inr rfl | assumption)) (@pss_cons _ _ _ _ _ (@ps_for _ _ _ _ _ _ _ _ PassesOwn.never rfl (@pi_range2 _ _ _ _ _ _ _ (by rfl) T.z_range (@pa_cons _ _ _ _ _ (@pe_ix _ _ _ _ _ _ _ ix_tup (pv 1) pe_int (fun _ _ => rfl)) (@pa_cons _ _ _ _ _ (@pe_ix _ _ _ _ _ _ _ ix_tup (pv 1) pe_int (fun _ _ => rfl)) pa_nil (by rfl)) (by rfl)) (by rfl) (by rfl)) (pg_name (i := 5) sc_l_moved.nd rfl (Or.inl rfl)) (@pss_one _ _ _ (@ps_if _ _ _ _ _ _ _ _ ((@pw_and _ _ _ _ _ _ _ (@pt_cmpR _ _ _ _ _ _ _ _ op_eq (@pe_ix _ _ _ _ _ _ _ ix_tup (@pe_ix _ _ _ _ _ _ _ ix_list (pv 0) (pv 5) (fun _ _ => rfl)) pe_int (fun _ _ => rfl)) (pv 2) (@nomark _ _ (by decide) (by decide))) (@pw_and1 _ _ _ _ (@pt_val _ _ _ (@pe_ix _ _ _ _ _ _ _ ix_tup (pv 1) pe_int (fun _ _ => rfl)) (by intro _ ; rfl))))).pt (@pss_cons _ _ _ _ _ (@ps_asg _ _ _ _ _ _ (@pe_ix _ _ _ _ _ _ _ ix_list (@pe_ix _ _ _ _ _ _ _ ix_tup (@pe_ix _ _ _ _ _ _ _ ix_list (pv 0) (pv 5) (fun _ _ => rfl)) pe_int (fun _ _ => rfl)) (pv 4) (fun _ _ => rfl)) (pg_tup rfl (pgs_cons (pg_name (i := 6) sc_l_moved.nd rfl (Or.inr rfl)) (pgs_cons (pg_name (i := 7) sc_l_moved.nd rfl (Or.inr rfl)) pgs_nil))) (by rfl) (by rfl) (by rfl)) (@pss_cons _ _ _ _ _ (@ps_if _ _ _ _ _ _ _ _ (@pt_cmpR _ _ _ _ _ _ _ _ op_gt (@pe_callB _ _ _ _ _ _ _ _ _ call_abs (by rfl) T.z_abs bt_abs (@pa_cons _ _ _ _ _ (@pe_op _ _ _ _ _ _ _ _ op_add (pv 7) (pv 3)) pa_nil (by rfl)) (by decide) (by decide) (by rfl) (by rfl)) (@pe_op _ _ _ _ _ _ _ _ op_pow pe_int pe_int) (@nomark _ _ (by decide) (by decide))) (@pss_one _ _ _ (@ps_ret _ _ _ _ pe_non)) pss_nil) (@pss_def2 _ _ _ _ _ _ _ ([("_law_shift", s.heap.objs.size + 1 + 3), ("_law_n", s.heap.objs.size + 1 + 0), ("_law_loop", s.heap.objs.size + 1 + 2), ("_law_level", s.heap.objs.size + 1 + 1)]) _ _ (8) _ rfl rfl rfl rfl LT (by rfl) sc_l_moved.nd rfl (Or.inl rfl) (Or.inl rfl) (fun f1 c1 oc1 doc1 ct1 ho1 => (@pss_one _ _ _ (@ps_ret _ _ _ _ (@pe_call _ _ _ _ _ _ _ _ _ _ _ _ _ _ _ _ G_l_items (hr.mono (by omega)) (by rfl) T.m_l_items T.F_l_items.kp T.b_l_items .nil pass0 (@pa_cons _ _ _ _ _ (@pe_callBB _ (3) _ _ _ _ _ _ _ _ _ (hr.mono (by omega)) (by rfl) T.m_l_changed T.F_l_changed.kp T.b_l_changed (@pa_cons _ _ _ _ _ (pv 0) (@pa_cons _ _ _ _ _ (@pe_tupq _ _ _ _ _ (@paq_cons _ _ _ _ _ (@pe_ix _ _ _ _ _ _ _ ix_tup (pv 1) pe_int (fun _ _ => rfl)) (@paq_cons _ _ _ _ _ (pv 5) (@paq_cons _ _ _ _ _ (@pe_op _ _ _ _ _ _ _ _ op_add (pv 5) pe_int) (@paq_cons _ _ _ _ _ pe_bl paq_nil star_C) star_B) star_N) star_S)) (@pa_cons _ _ _ _ _ (pv 8) pa_nil (by rfl)) (by rfl)) (by rfl)) (by decide) (by rfl) (by rfl)) (@pa_cons _ _ _ _ _ pe_int pa_nil (by rfl)) (by rfl)) (by decide) (by rfl) (by rfl)))))))) pss_nil)) (by intro _ ; rfl)) (@pss_one _ _ _ (@ps_ret _ _ _ _ pe_non)))), ?_⟩
  have ht : H t = some (.tup [.ref p, .int (a' : Int), .int (b' : Int), .bl fl]) := ht
  have hp : H p = some (.tup (path.map V.int)) := hp
  have B6 := N.fr.len
  have cp : CPow 10 18 := ⟨by decide, by decide, by decide⟩
  refine ⟨_, rfl, t, _, 0, _, rfl, rfl, SqT.of ht, rfl, p, _, rfl, .inr (SqT.of hp), _, _, rfl, rfl, ?_⟩
  dsimp only [gName]
  rw [ml, show (path.length : Int) - 1 = ((path.length - 1 : Nat) : Int) by omega]
  refine seq_any (fun σ' H' => H' = H ∧ (fl = true → ∀ j c, a' ≤ j → j < b' → B[j]? = some c → c.k ≠ k)) (fun σ' H' pp => ?_) (fun nx => ?_)
  · obtain ⟨rfl, no⟩ := pp
    refine qx (fun a b cw s en z ze => ?_)
    rcases hcase with ⟨rfl, cw', s', hlk⟩ | ⟨rfl, no'⟩
    · rw [hlk] at z
      cases z
      rw [(N.mv lw nd pne hlk).fk_none (no rfl)] at ze
      cases ze
    · exact absurd z (no' _ _ _)
  refine ⟨_, rfl, t, _, 1, _, rfl, rfl, SqT.of ht, rfl, _, rfl, t, _, 2, _, rfl, rfl, SqT.of ht, rfl, _, _, rfl, ⟨by omega, by omega, by omega, by omega⟩, ?_⟩
  rw [show ((b' : Int) - (a' : Int)).toNat = b' - a' by omega]
  refine for_range (lo := (a' : Int)) (n := b' - a') (fun i σ' H' => H' = H ∧ (fl = true → ∀ j c, a' ≤ j → j < a' + i → B[j]? = some c → c.k ≠ k) ∧ ∃ (o5 : Option V), σ' = [some (.ref l), some (.ref t), some (.int k), some (.int n), some (.int ((path.length - 1 : Nat) : Int)), o5, none, none, none]) ⟨rfl, fun _ j c h1 h2 => by omega, _, rfl⟩ (fun i σ' H' hi pp => ?_) (fun σ' H' pp => nx σ' H' ⟨pp.1, fun h j c h1 h2 => pp.2.1 h j c h1 (by omega)⟩)
  obtain ⟨rfl, no, o5, rfl⟩ := pp
  have z1 : (a' : Int) + (i : Int) = ((a' + i : Nat) : Int) := by omega
  have hiB : a' + i < B.length := by omega
  have eb : B[a' + i]? = some B[a' + i] := List.getElem?_eq_getElem hiB
  generalize hbb : B[a' + i] = b at eb
  obtain ⟨x0, hx0, t0, w0, p0, rfl, ht0, _, ⟨px, hpx, hap⟩⟩ := aB.get eb
  dsimp only [gName]
  rw [z1]
  refine ⟨_, rfl, _, rfl, l, _, _, _, rfl, rfl, SqL.of hl, atI_nat hx0, t0, _, 0, _, rfl, rfl, SqT.of ht0, rfl, _, rfl, rfl, _, rfl, ite2 (fun ck => ?_) (fun ck => ite2 (fun z => absurd z Bool.false_ne_true) (fun _ => ⟨rfl, fun h j c h1 h2 hc => ?_, _, rfl⟩))⟩
  rotate_left
  · by_cases ej : j = a' + i
    · subst ej
      rw [eb] at hc
      cases hc
      exact fun z => ck (decide_eq_true (congrArg V.int z))
    · exact no h j c h1 (by omega) hc
  have ck : b.k = k := by have := of_decide_eq_true ck; injection this
  refine ⟨_, rfl, t, _, 3, _, rfl, rfl, SqT.of ht, rfl, _, rfl, ?_⟩
  rcases hcase with ⟨rfl, cw, s', hlk⟩ | ⟨rfl, no'⟩
  rotate_left
  · refine iteF ?_
    exact ⟨rfl, fun h => absurd h Bool.false_ne_true, _, rfl⟩
  have M := N.mv lw nd pne hlk
  subst ck
  obtain ⟨en, hfe, ek, ep⟩ := M.fk_some nd (show a' ≤ a' + i by omega) (by omega) eb
  have g1 := M.gw (a' + i) b (by omega) (by omega) eb
  have Ll : path.length - 1 < b.pl.length := by rw [lw b (List.mem_of_getElem? eb)]; exact g1
  have pg : b.pl[path.length - 1]? = some b.pl[path.length - 1] := List.getElem?_eq_getElem Ll
  have she : shE (path.length - 1) en = b.pl[path.length - 1].2 := by unfold shE; rw [ep, List.getD_eq_getElem?_getD, pg]; rfl
  generalize b.pl[path.length - 1] = pr at pg she
  obtain ⟨lo, sh⟩ := pr
  have she : shE (path.length - 1) en = sh := she
  obtain ⟨xp, hxp, tp, rfl, htp⟩ := hap.get pg
  have htp : H' tp = some (.tup [.int lo, .int sh]) := htp
  refine iteT ?_
  refine ⟨_, rfl, _, rfl, l, _, _, _, rfl, rfl, SqL.of hl, atI_nat hx0, t0, _, 3, _, rfl, rfl, SqT.of ht0, rfl, _, rfl, p0, _, _, _, rfl, rfl, SqL.of hpx, atI_nat hxp, tp, _, rfl, SqT.of htp, rfl, _, _, rfl, _, _, rfl, rfl, ?_⟩
  dsimp only [gName]
  refine ⟨_, rfl, _, rfl, _, _, rfl, rfl, _, rfl, _, _, rfl, rfl, cp, _, _, rfl, rfl, _, rfl, ite2 (fun cb => ?_) (fun cb => ?_)⟩
  · refine qx (fun a b2 cw2 s2 en2 z ze => ?_)
    rw [hlk] at z
    cases z
    rw [hfe] at ze
    cases ze
    rw [she]
    exact fun z => absurd ((abs18 _).mp (of_decide_eq_true cb)) (Nat.not_lt.mpr z)
  dsimp only [tNext]
  have hb : (sh + n).natAbs ≤ 10 ^ 18 := Nat.le_of_not_lt fun z => cb (decide_eq_true ((abs18 _).mpr z))
  have MP := M.pln (a' + i) b (sh + n) (by omega) (by omega) eb
  refine tDef2_go2 (pos := pos_mchg) (qn := qn_mchg) hT fun f1 c1 oc1 doc1 ct1 H6 k6 b6 hT6 cd6 => ?_
  have ht6 := k6.tk _ _ ht
  have hp6 := k6.tk _ _ hp
  refine ⟨_, rfl, _, rfl, t, _, 0, _, rfl, rfl, SqT.of ht6, rfl, _, rfl, _, rfl, _, _, rfl, rfl, szl (by show 4 ≤ 1000000; decide), fun t4 ht4 => ?_⟩
  dsimp only
  rw [show ((a' + i : Nat) : Int) + 1 = ((a' + i + 1 : Nat) : Int) by omega]
  have s7 := same_new ht4 (.tup [V.ref p, V.int ((a' + i : Nat) : Int), V.int ((a' + i + 1 : Nat) : Int), V.bl false])
  have h47 : (upd H6 t4 (.tup [V.ref p, V.int ((a' + i : Nat) : Int), V.int ((a' + i + 1 : Nat) : Int), V.bl false])) t4 = some (.tup [V.ref p, V.int ((a' + i : Nat) : Int), V.int ((a' + i + 1 : Nat) : Int), V.bl false]) := upd_same
  generalize upd H6 t4 (.tup [V.ref p, V.int ((a' + i : Nat) : Int), V.int ((a' + i + 1 : Nat) : Int), V.bl false]) = H7 at s7 h47
  refine ⟨_, rfl, spChangedI f1 (Cd c1 qn_mchg) (mvB (path.length - 1) (sh + n)) (fun b => b.pl[path.length - 1]? = some (lo, sh)), fun pins s3 I => ok_changed88 ⟨fun H H' e h => h.over e⟩ (fun b => ⟨rfl, rfl⟩) (mk_mchg88 T I (List.mem_append_left _ (List.mem_append_right _ List.mem_cons_self)) rfl rfl rfl rfl rfl rfl rfl rfl rfl rfl rfl rfl rfl rfl rfl rfl rfl rfl rfl rfl (by simp)) T, l, t4, B, (path, a' + i, a' + i + 1, false), rfl, (hB.tl k6).over s7, ⟨t4, p, rfl, h47, s7 _ _ hp6⟩, Nat.le_succ _, hiB, by omega, cd6.over s7, fun j c k1 k2 hc => ?_, fun b hb => ⟨Nat.le_trans (N.fr.hi b hb) (by decide), Nat.le_trans (N.fr.pl b hb) (by decide)⟩, fun r H8 e8 hr8 => ?_⟩
  · have k1 : a' + i ≤ j := k1
    have k2 : j < a' + i + 1 := k2
    have : j = a' + i := by omega
    subst this
    rw [eb] at hc
    cases hc
    exact pg
  refine ⟨r, 0, 6, _, rfl, hr8, MP.fr, by decide, by decide, fun du H9 fd e9 hdu hId => ?_⟩
  have ef : fd = mvF f path cw b.k (sh + n) s' := Fo.is_one fd _ _ 0 hId MP.is
  rw [ef, ← she] at hdu
  exact q a' b' cw s' en hlk hfe (by rw [she]; exact hb) du H9 (k6.trans (s7.trans (e8.trans e9)).tl) (fun b o n hb => (s7.trans (e8.trans e9)) _ _ (b6 b o n hb)) hdu

theorem ok_law (T : Tx w K mg a) (LT1 : LawTab base mg a.c_tab a.p_tab) (LT2 : LawTab base mg a.c_tab2 a.p_tab2) (LT3 : LawTab base mg a.c_tab3 a.p_tab3) : FnOk P w K mg base CX0 20 a.f_law a.d_law ["_law_script"] (spLawTs K [a.p_tab, a.p_tab2, a.p_tab3]) := by
  have G_l_cell_at := ok_cell_at (P := P) (w := w) (base := base) T
  have G_l_leaves := ok_leaves88 (P := P) (w := w) (base := base) T
  have G_l_items := ok_items87 (P := P) (w := w) (base := base) T 7
  have G_l_groups := ok_groups87 (P := P) (w := w) (base := base) T 7
  have G_l_path := ok_path87 (P := P) (w := w) (base := base) T
  have G_l_at := ok_at87 (P := P) (w := w) (base := base) T
  have G_l_by := ok_by88 (P := P) (w := w) (base := base) T
  have G_l_turn := ok_turn88 (P := P) (w := w) (base := base) T
  have G_l_move := ok_move88 (P := P) (w := w) (base := base) T LT1
  have G_turned := ok_turned88 (P := P) (w := w) (base := base) T
  have G_moved := ok_moved88 (P := P) (w := w) (base := base) T LT1
  have G_l_turned := ok_turnedl88 (P := P) (w := w) (base := base) T LT2
  have G_l_moved := ok_movedl88 (P := P) (w := w) (base := base) T LT3
  have G_l_alike := ok_alike88 (P := P) (w := w) (base := base) T
  refine T.F_law.ok sc_law (fun vs H Q E h => ?_) (fun cdv A outer s H vs Q E hr h => ?_)
  · obtain ⟨_, _, rfl, _⟩ := h; rfl
  obtain ⟨p, ns, rfl, hp, h63, hTs, q⟩ := h
  have hT1 := hTs a.p_tab List.mem_cons_self
  have hT2 := hTs a.p_tab2 (List.mem_cons_of_mem _ List.mem_cons_self)
  have hT3 := hTs a.p_tab3 (List.mem_cons_of_mem _ (List.mem_cons_of_mem _ List.mem_cons_self))
  refine ⟨_, (@pss_cons _ _ _ _ _ (@ps_set _ _ (1) _ _ _ _ sc_law.nd rfl (Or.inr rfl) (@pe_call _ _ _ _ _ _ _ _ _ _ _ _ _ _ _ _ G_l_leaves (hr.mono (by omega)) (by rfl) T.m_l_leaves T.F_l_leaves.kp T.b_l_leaves .nil pass0 (@pa_cons _ _ _ _ _ (@pe_slice _ _ _ _ _ _ _ _ _ _ sl_list (pv 0) (@po_some _ _ _ pe_int) (@po_some _ _ _ pe_int)) (@pa_cons _ _ _ _ _ (@pe_call _ _ _ _ _ _ _ _ _ _ _ _ _ _ _ _ G_l_cell_at (hr.mono (by omega)) (by rfl) T.m_l_cell_at T.F_l_cell_at.kp T.b_l_cell_at .nil pass0 (@pa_cons _ _ _ _ _ (pv 0) (@pa_cons _ _ _ _ _ pe_int pa_nil (by rfl)) (by rfl)) (by decide) (by rfl) (by rfl)) pa_nil (by rfl)) (by rfl)) (by decide) (by rfl) (by rfl)) (by rfl) (by first | exact .inl rfl | exact .inr rfl | assumption)) (@pss_cons _ _ _ _ _ (@ps_set _ _ (2) _ _ _ _ sc_law.nd rfl (Or.inl rfl) (@pe_call _ _ _ _ _ _ _ _ _ _ _ _ _ _ _ _ G_l_items (hr.mono (by omega)) (by rfl) T.m_l_items T.F_l_items.kp T.b_l_items .nil pass0 (@pa_cons _ _ _ _ _ (pv 1) (@pa_cons _ _ _ _ _ pe_int pa_nil (by rfl)) (by rfl)) (by decide) (by rfl) (by rfl)) (by rfl) (by first | exact .inl rfl | exact .inr rfl | assumption)) (@pss_cons _ _ _ _ _ (@ps_set _ _ (3) _ _ _ _ sc_law.nd rfl (Or.inl rfl) (@pe_call _ _ _ _ _ _ _ _ _ _ _ _ _ _ _ _ G_l_groups (hr.mono (by omega)) (by rfl) T.m_l_groups T.F_l_groups.kp T.b_l_groups .nil pass0 (@pa_cons _ _ _ _ _ (pv 1) (@pa_cons _ _ _ _ _ (@pe_tup _ _ _ _ _ pa_nil) (@pa_cons _ _ _ _ _ pe_int pa_nil (by rfl)) (by rfl)) (by rfl)) (by decide) (by rfl) (by rfl)) (by rfl) (by first | exact .inl rfl | exact .inr rfl | assumption)) (@pss_cons _ _ _ _ _ (@ps_setcompB _ _ _ _ _ _ _ _ _ (4) _ ["_law_one", "_law_leaves_here"] [none, some 1] _ _ _ _ sc_law.nd rfl (Or.inl rfl) (by rfl) (@pi_list _ _ _ _ (pv 3)) c_law_0 (fun _ _ _ _ _ _ => ⟨(pg_name (i := 0) c_law_0n rfl (Or.inl rfl)), (@pts_one _ _ _ ((@pw_and _ _ _ _ _ _ _ (@pt_val _ _ _ (@pe_ix _ _ _ _ _ _ _ (show IxR _ (rIxT K) from ix_tup) (pv 0) pe_int (fun _ _ => rfl)) (by intro _ ; rfl)) (@pw_and1 _ _ _ _ (@pt_cmpR _ _ _ _ _ _ _ _ op_ne (@pe_ix _ _ _ _ _ _ _ (show IxR _ (rIxT K) from ix_tup) (@pe_ix _ _ _ _ _ _ _ (show IxR _ (rIxL K) from ix_list) (@pe_ix _ _ _ _ _ _ _ (show IxR _ (rIxT K) from ix_tup) (@pe_ix _ _ _ _ _ _ _ (show IxR _ (rIxL K) from ix_list) (pv 1) (@pe_ix _ _ _ _ _ _ _ (show IxR _ (rIxT K) from ix_tup) (pv 0) pe_int (fun _ _ => rfl)) (fun _ _ => rfl)) pe_int (fun _ _ => rfl)) (@pe_op _ _ _ _ _ _ _ _ op_sub (@pe_callB _ _ _ _ _ _ _ _ _ (show CallR _ _ (rLenK K) from call_len_seq) (by rfl) T.z_len bt_len (@pa_cons _ _ _ _ _ (@pe_ix _ _ _ _ _ _ _ (show IxR _ (rIxT K) from ix_tup) (pv 0) pe_int (fun _ _ => rfl)) pa_nil (by rfl)) (by decide) (by decide) (by rfl) (by rfl)) pe_int) (fun _ _ => rfl)) pe_int (fun _ _ => rfl)) pe_str (@nomark _ _ (by decide) (by decide)))))).pt), (pv 0)⟩) (by rfl) (by intro _ ; rfl) (by first | exact .inl rfl | exact .inr rfl | assumption)) (@pss_cons _ _ _ _ _ (@ps_set _ _ (5) _ _ _ _ sc_law.nd rfl (Or.inl rfl) (@pe_call _ _ _ _ _ _ _ _ _ _ _ _ _ _ _ _ G_l_path (hr.mono (by omega)) (by rfl) T.m_l_path T.F_l_path.kp T.b_l_path .nil pass0 (@pa_cons _ _ _ _ _ (pv 3) (@pa_cons _ _ _ _ _ (pv 4) (@pa_cons _ _ _ _ _ (@pe_call _ _ _ _ _ _ _ _ _ _ _ _ _ _ _ _ G_l_cell_at (hr.mono (by omega)) (by rfl) T.m_l_cell_at T.F_l_cell_at.kp T.b_l_cell_at .nil pass0 (@pa_cons _ _ _ _ _ (pv 0) (@pa_cons _ _ _ _ _ pe_int pa_nil (by rfl)) (by rfl)) (by decide) (by rfl) (by rfl)) (@pa_cons _ _ _ _ _ (@pe_call _ _ _ _ _ _ _ _ _ _ _ _ _ _ _ _ G_l_cell_at (hr.mono (by omega)) (by rfl) T.m_l_cell_at T.F_l_cell_at.kp T.b_l_cell_at .nil pass0 (@pa_cons _ _ _ _ _ (pv 0) (@pa_cons _ _ _ _ _ pe_int pa_nil (by rfl)) (by rfl)) (by decide) (by rfl) (by rfl)) pa_nil (by rfl)) (by rfl)) (by rfl)) (by rfl)) (by decide) (by rfl) (by rfl)) (by rfl) (by first | exact .inl rfl | exact .inr rfl | assumption)) (@pss_cons _ _ _ _ _ (@ps_set _ _ (6) _ _ _ _ sc_law.nd rfl (Or.inl rfl) (@pe_call _ _ _ _ _ _ _ _ _ _ _ _ _ _ _ _ G_l_at (hr.mono (by omega)) (by rfl) T.m_l_at T.F_l_at.kp T.b_l_at .nil pass0 (@pa_cons _ _ _ _ _ (pv 3) (@pa_cons _ _ _ _ _ (pv 5) pa_nil (by rfl)) (by rfl)) (by decide) (by rfl) (by rfl)) (by rfl) (by first | exact .inl rfl | exact .inr rfl | assumption)) (@pss_cons _ _ _ _ _ (@ps_set _ _ (7) _ _ _ _ sc_law.nd rfl (Or.inl rfl) (@pe_call _ _ _ _ _ _ _ _ _ _ _ _ _ _ _ _ G_l_cell_at (hr.mono (by omega)) (by rfl) T.m_l_cell_at T.F_l_cell_at.kp T.b_l_cell_at .nil pass0 (@pa_cons _ _ _ _ _ (pv 0) (@pa_cons _ _ _ _ _ pe_int pa_nil (by rfl)) (by rfl)) (by decide) (by rfl) (by rfl)) (by rfl) (by first | exact .inl rfl | exact .inr rfl | assumption)) (@pss_cons _ _ _ _ _ (@ps_set _ _ (8) _ _ _ _ sc_law.nd rfl (Or.inl rfl) (@pe_ix _ _ _ _ _ _ _ ix_tup (@pe_ix _ _ _ _ _ _ _ ix_list (pv 1) (@pe_op _ _ _ _ _ _ _ _ op_add (@pe_ix _ _ _ _ _ _ _ ix_tup (pv 6) pe_int (fun _ _ => rfl)) (@pe_op _ _ _ _ _ _ _ _ op_mod (@pe_op _ _ _ _ _ _ _ _ op_fdiv (pv 7) pe_int) (@pe_callB _ _ _ _ _ _ _ _ _ (@call_max2 _ rfl) (by rfl) T.z_max bt_max (@pa_cons _ _ _ _ _ pe_int (@pa_cons _ _ _ _ _ (@pe_op _ _ _ _ _ _ _ _ op_sub (@pe_ix _ _ _ _ _ _ _ ix_tup (pv 6) pe_int (fun _ _ => rfl)) (@pe_ix _ _ _ _ _ _ _ ix_tup (pv 6) pe_int (fun _ _ => rfl))) pa_nil (by rfl)) (by rfl)) (by decide) (by decide) (by rfl) (by rfl)))) (fun _ _ => rfl)) pe_int (fun _ _ => rfl)) (by rfl) (by first | exact .inl rfl | exact .inr rfl | assumption)) (@pss_cons _ _ _ _ _ (@ps_if _ _ _ _ _ _ _ _ (@pt_cmpR _ _ _ _ _ _ _ _ op_eq (@pe_op _ _ _ _ _ _ _ _ op_mod (pv 7) pe_int) pe_int (@nomark _ _ (by decide) (by decide))) (@pss_one _ _ _ (@ps_set _ _ (8) _ _ _ _ sc_law.nd rfl (Or.inl rfl) (@pe_op _ _ _ _ _ _ _ _ op_sub (@pe_op _ _ _ _ _ _ _ _ op_mod (@pe_op _ _ _ _ _ _ _ _ op_fdiv (pv 7) pe_int) (@pe_op _ _ _ _ _ _ _ _ op_add (@pe_callB _ _ _ _ _ _ _ _ _ call_len_seq (by rfl) T.z_len bt_len (@pa_cons _ _ _ _ _ (pv 1) pa_nil (by rfl)) (by decide) (by decide) (by rfl) (by rfl)) pe_int)) pe_int) (by rfl) (by first | exact .inl rfl | exact .inr rfl | assumption))) pss_nil) (@pss_cons _ _ _ _ _ (@ps_set _ _ (9) _ _ _ _ sc_law.nd rfl (Or.inl rfl) (@pe_call _ _ _ _ _ _ _ _ _ _ _ _ _ _ _ _ G_l_by (hr.mono (by omega)) (by rfl) T.m_l_by T.F_l_by.kp T.b_l_by .nil pass0 (@pa_cons _ _ _ _ _ (@pe_call _ _ _ _ _ _ _ _ _ _ _ _ _ _ _ _ G_l_cell_at (hr.mono (by omega)) (by rfl) T.m_l_cell_at T.F_l_cell_at.kp T.b_l_cell_at .nil pass0 (@pa_cons _ _ _ _ _ (pv 0) (@pa_cons _ _ _ _ _ pe_int pa_nil (by rfl)) (by rfl)) (by decide) (by rfl) (by rfl)) (@pa_cons _ _ _ _ _ (pv 1) (@pa_cons _ _ _ _ _ (pv 6) (@pa_cons _ _ _ _ _ (pv 8) pa_nil (by rfl)) (by rfl)) (by rfl)) (by rfl)) (by decide) (by rfl) (by rfl)) (by rfl) (by first | exact .inl rfl | exact .inr rfl | assumption)) (@pss_cons _ _ _ _ _ (@ps_set _ _ (10) _ _ _ _ sc_law.nd rfl (Or.inl rfl) (@pe_call _ _ _ _ _ _ _ _ _ _ _ _ _ _ _ _ G_l_turn (hr.mono (by omega)) (by rfl) T.m_l_turn T.F_l_turn.kp T.b_l_turn .nil pass0 (@pa_cons _ _ _ _ _ (pv 2) (@pa_cons _ _ _ _ _ (pv 5) pa_nil (by rfl)) (by rfl)) (by decide) (by rfl) (by rfl)) (by rfl) (by first | exact .inl rfl | exact .inr rfl | assumption)) (@pss_cons _ _ _ _ _ (@ps_if _ _ _ _ _ _ _ _ (@pt_not _ _ _ _ (@pt_val _ _ _ (@pe_call _ _ _ _ _ _ _ _ _ _ _ _ _ _ _ _ G_l_alike (hr.mono (by omega)) (by rfl) T.m_l_alike T.F_l_alike.kp T.b_l_alike .nil pass0 (@pa_cons _ _ _ _ _ (pv 10) (@pa_cons _ _ _ _ _ (@pe_call _ _ _ _ _ _ _ _ _ _ _ _ _ _ _ _ G_l_turned (hr.mono (by omega)) (by rfl) T.m_l_turned T.F_l_turned.kp T.b_l_turned .nil pass0 (@pa_cons _ _ _ _ _ (pv 1) (@pa_cons _ _ _ _ _ (pv 6) pa_nil (by rfl)) (by rfl)) (by decide) (by rfl) (by rfl)) pa_nil (by rfl)) (by rfl)) (by decide) (by rfl) (by rfl)) (by intro _ ; rfl))) (@pss_one _ _ _ (@ps_ret _ _ _ _ pe_bl)) pss_nil) (@pss_cons _ _ _ _ _ (@ps_if _ _ _ _ _ _ _ _ ((@pw_and _ _ _ _ _ _ _ (@pt_cmpR _ _ _ _ _ _ _ _ op_notN (pv 10) pe_non (@nomark _ _ (by decide) (by decide))) (@pw_and1 _ _ _ _ (@pt_cmpR _ _ _ _ _ _ _ _ (@op_neS _ (@hu64 _ _ hr)) (@pe_callX _ _ _ _ _ _ _ _ _ _ _ _ _ _ _ G_turned (hr.mono (by omega)) (by rfl) T.m_turned T.F_turned.kp T.b_turned .nil passes_no (@pa_cons _ _ _ _ _ (pv 10) (@pa_cons _ _ _ _ _ (pv 5) pa_nil (by rfl)) (by rfl)) (by decide) (by rfl) (by rfl)) (pv 2) (@nomark _ _ (by decide) (by decide)))))).pt (@pss_one _ _ _ (@ps_ret _ _ _ _ pe_bl)) pss_nil) (@pss_cons _ _ _ _ _ (@ps_set _ _ (10) _ _ _ _ sc_law.nd rfl (Or.inl rfl) (@pe_call _ _ _ _ _ _ _ _ _ _ _ _ _ _ _ _ G_l_move (hr.mono (by omega)) (by rfl) T.m_l_move T.F_l_move.kp T.b_l_move .nil pass0 (@pa_cons _ _ _ _ _ (pv 2) (@pa_cons _ _ _ _ _ (pv 5) (@pa_cons _ _ _ _ _ (pv 8) (@pa_cons _ _ _ _ _ (pv 9) pa_nil (by rfl)) (by rfl)) (by rfl)) (by rfl)) (by decide) (by rfl) (by rfl)) (by rfl) (by first | exact .inl rfl | exact .inr rfl | assumption)) (@pss_cons _ _ _ _ _ (@ps_if _ _ _ _ _ _ _ _ (@pt_not _ _ _ _ (@pt_val _ _ _ (@pe_call _ _ _ _ _ _ _ _ _ _ _ _ _ _ _ _ G_l_alike (hr.mono (by omega)) (by rfl) T.m_l_alike T.F_l_alike.kp T.b_l_alike .nil pass0 (@pa_cons _ _ _ _ _ (pv 10) (@pa_cons _ _ _ _ _ (@pe_call _ _ _ _ _ _ _ _ _ _ _ _ _ _ _ _ G_l_moved (hr.mono (by omega)) (by rfl) T.m_l_moved T.F_l_moved.kp T.b_l_moved .nil pass0 (@pa_cons _ _ _ _ _ (pv 1) (@pa_cons _ _ _ _ _ (pv 6) (@pa_cons _ _ _ _ _ (pv 8) (@pa_cons _ _ _ _ _ (pv 9) pa_nil (by rfl)) (by rfl)) (by rfl)) (by rfl)) (by decide) (by rfl) (by rfl)) pa_nil (by rfl)) (by rfl)) (by decide) (by rfl) (by rfl)) (by intro _ ; rfl))) (@pss_one _ _ _ (@ps_ret _ _ _ _ pe_bl)) pss_nil) (@pss_one _ _ _ (@ps_ret _ _ _ _ (@pe_or _ _ _ _ _ _ _ (@pe_cmpR _ _ _ _ _ _ _ _ op_isN (pv 10) pe_non (@nomark _ _ (by decide) (by decide))) (@pe_one _ _ _ _ _ (@pe_cmpR _ _ _ _ _ _ _ _ (@op_eqS _ (@hu64 _ _ hr)) (@pe_callX _ _ _ _ _ _ _ _ _ _ _ _ _ _ _ G_moved (hr.mono (by omega)) (by rfl) T.m_moved T.F_moved.kp T.b_moved .nil passes_no (@pa_cons _ _ _ _ _ (pv 10) (@pa_cons _ _ _ _ _ (pv 5) (@pa_cons _ _ _ _ _ (pv 8) (@pa_cons _ _ _ _ _ (@pe_op _ _ _ _ _ _ _ _ op_sub pe_int (pv 9)) pa_nil (by rfl)) (by rfl)) (by rfl)) (by rfl)) (by decide) (by rfl) (by rfl)) (pv 2) (@nomark _ _ (by decide) (by decide)))))))))))))))))))))), ?_⟩
  refine ⟨_, rfl, _, rfl, _, rfl, p, _, rfl, hp, fun p1 hp1 => ?_⟩
  rw [cutV_map]
  have s1 := same_new hp1 (.lst ((cutC ns (some 5) (some 62)).map V.int))
  refine ⟨_, rfl, p, ns, 0, rfl, s1.seq hp, by decide, ?_⟩
  refine ⟨p1, cutC ns (some 5) (some 62), _, rfl, upd_same, Nat.le_trans (cutC_le _ _ _) (by omega), fun l H1 B e1 hB hF bne b0 lw w3 nd shb => ?_⟩
  have e01 := s1.trans e1
  generalize upd H p1 (.lst ((cutC ns (some 5) (some 62)).map V.int)) = H0 at s1 e1
  dsimp only [gName]
  have Bl := hF.len
  refine ⟨_, rfl, l, 0, 6, B, rfl, hB, hF, by decide, by decide, fun pl H2 f e2 hpl hI => ?_⟩
  have N := Pln.of hI hF b0
  have e02 := e01.trans e2
  dsimp only [gName]
  refine ⟨_, rfl, szl (by show 0 ≤ 1000000; decide), fun t0 ht0 => ?_⟩
  have s3 := same_new ht0 (.tup [])
  refine ⟨l, t0, [], 0, 6, B, rfl, (hB.over e2).over s3, upd_same, hF, by decide, by decide, fun gl H3 f2 e3 ngl hg hI2 gw => ?_⟩
  have ef : f2 = f := Fo.is_one f2 f B 0 hI2 hI
  subst ef
  have hB3 := hB.over (e2.trans (s3.trans e3))
  have hpl3 := hpl.over (s3.trans e3)
  have e03 := e02.trans (s3.trans e3)
  generalize upd H2 t0 (.tup []) = H2' at s3 e3 ngl
  have gw : (Fo.gr f2 [] 0 0).length ≤ 42 := Nat.le_trans gw (by omega)
  have wd : wid f2 ≤ 100 := by rw [← gr_wid f2 [] 0 0]; omega
  have gpos := N.pos bne
  have gok := N.pathOk
  dsimp only [gName]
  obtain ⟨gs, hgl, ags⟩ := id hg
  have gsl := ags.1
  obtain ⟨xs0, hl3, aB⟩ := id hB3
  refine ⟨_, rfl, gl, rfl, ⟨_, SqL.of hgl⟩, ?_⟩
  refine comp_list (xs := gs) (fun i ys H' => H' = H3 ∧ (∃ F, All2 (GpAt H') ys F ∧ ∀ x ∈ F, x ∈ Fo.gr f2 [] 0 0) ∧ ys.length ≤ i) ⟨rfl, ⟨[], .nil, fun x h => by cases h⟩, Nat.le_refl _⟩ (szl (by omega)) (fun i ys H' hi pp => ⟨by rw [pp.1]; exact SqL.of hgl, pp.2.2⟩) (fun i x ys H' hx pp => ?_) (fun ys H4 pp fl hfl => ?_)
  · obtain ⟨rfl, ⟨F, aF, mF⟩, yl⟩ := pp
    obtain ⟨g, hgi, t, pt, rfl, ht, hpt⟩ := ags.get' hx
    have mg' := List.mem_of_getElem? hgi
    refine ⟨_, rfl, t, _, 3, _, rfl, rfl, SqT.of ht, rfl, _, rfl, ?_⟩
    cases eb : g.2.2.2 with
    | false => exact iteF (iteF ⟨rfl, ⟨F, aF, mF⟩, by omega⟩)
    | true =>
      refine iteT ?_
      obtain ⟨cw, s', hlk⟩ := gr_lk0 mg' eb
      have gne : g.1 ≠ [] := fun z => by rw [z, Fo.lk_nil] at hlk; cases hlk
      have gl1 := List.length_pos_iff.mpr gne
      obtain ⟨_, ab, bB, gw'⟩ := N.way "any" hlk
      have eB : B[g.2.1]? = some B[g.2.1] := List.getElem?_eq_getElem (by omega)
      obtain ⟨_, gwa⟩ := gw' g.2.1 _ (Nat.le_refl _) ab eB
      generalize B[g.2.1] = bb at eB gwa
      obtain ⟨x0, hx0, t1, w0, p0, rfl, ht1, ⟨wx, hw, haw⟩, _⟩ := aB.get eB
      obtain ⟨xw, hxw, tw, rfl, htw⟩ := haw.get gwa
      have ml : (g.1.map V.int).length = g.1.length := List.length_map ..
      have atw : atI wx (((g.1.map V.int).length : Int) - 1) = some (.ref tw) := by rw [ml, show (g.1.length : Int) - 1 = ((g.1.length - 1 : Nat) : Int) by omega]; exact atI_nat hxw
      refine ⟨_, rfl, _, rfl, t, _, 1, _, rfl, rfl, SqT.of ht, rfl, l, _, _, _, rfl, rfl, SqL.of hl3, atI_nat hx0, t1, _, 2, _, rfl, rfl, SqT.of ht1, rfl, _, rfl, t, _, 0, _, rfl, rfl, SqT.of ht, rfl, pt, _, rfl, .inr (SqT.of hpt), _, _, rfl, rfl, w0, _, _, _, rfl, rfl, SqL.of hw, atw, tw, _, 1, _, rfl, rfl, SqT.of htw, rfl, rfl, _, rfl, ?_⟩
      refine ite2 (fun _ => ?_) (fun _ => ⟨rfl, ⟨F, aF, mF⟩, by omega⟩)
      refine ⟨_, rfl, rfl, ⟨F ++ [g], aF.snoc ⟨t, pt, rfl, ht, hpt⟩, fun x hx => ?_⟩, by rw [List.length_append]; exact Nat.succ_le_succ yl⟩
      rcases List.mem_append.mp hx with z | z
      · exact mF x z
      · rw [List.mem_singleton.mp z]; exact mg'
  obtain ⟨rfl, ⟨F, aF, mF⟩, yl⟩ := pp
  have s5 := same_new hfl (.lst ys)
  have hfl5 : GpsAt (upd H4 fl (.lst ys)) fl F := ⟨ys, upd_same, aF.mono fun _ _ z => GpAt.over z s5⟩
  generalize upd H4 fl (.lst ys) = H5 at s5 hfl5
  have e05 := e03.trans s5
  dsimp only [gName]
  refine ⟨_, rfl, _, rfl, _, rfl, p, ns, 1, rfl, e05.seq hp, by decide, _, rfl, p, ns, 2, rfl, e05.seq hp, by decide, ?_⟩
  refine ⟨gl, fl, _, _, _, F, rfl, hg.over s5, gpos, gok, hfl5, fun x hx => gok x (mF x hx), fun pa H6 PP e6 hpa pne p8 => ?_⟩
  have e36 := s5.trans e6
  have e06 := e05.trans e6
  dsimp only [gName]
  refine ⟨_, rfl, _, rfl, gl, pa, _, PP, rfl, hg.over e36, hpa, fun x H7 e7 hx => ?_⟩
  have e37 := e36.trans e7
  have e07 := e06.trans e7
  have hpa7 := e7 _ _ hpa
  have hB7 := hB3.over e37
  have hpl7 := hpl3.over e37
  have hT17 : TbOk a.p_tab pos_change qn_change H7 := .inl (e07 _ _ hT1)
  have hT27 : TbOk a.p_tab2 pos_lchg qn_lchg H7 := .inl (e07 _ _ hT2)
  have hT37 : TbOk a.p_tab3 pos_mchg qn_mchg H7 := .inl (e07 _ _ hT3)
  have dp := N.dep
  dsimp only [gName]
  refine ⟨_, rfl, p, ns, 3, rfl, e07.seq hp, by decide, ?_⟩
  dsimp only [gName]
  generalize ns.getD (Int.toNat 3) 0 = cell
  obtain ⟨a', b', fl', hat, ix, hix, jpos, eix⟩ := at_ix N bne pne (cell / 4)
  have hxg := hx
  rw [hat] at hx
  obtain ⟨one, onp, rfl, hone, honp⟩ := hx
  have hone : H7 one = some (.tup [.ref onp, .int (a' : Int), .int (b' : Int), .bl fl']) := hone
  obtain ⟨xs7, hl7, aB7⟩ := id hB7
  have eBi : B[ix]? = some B[ix] := List.getElem?_eq_getElem hix
  generalize B[ix] = bi at eBi
  obtain ⟨xi, hxi, ti, wi, pi', rfl, hti, _, _⟩ := aB7.get eBi
  have c4 : CDiv cell 4 := ⟨by decide, by decide⟩
  have ati : atI xs7 ((a' : Int) + cell / 4 % (if (b' : Int) - (a' : Int) > 1 then (b' : Int) - (a' : Int) else 1)) = some (.ref ti) := by rw [eix]; exact atI_nat hxi
  refine ⟨_, rfl, _, rfl, one, _, 1, _, rfl, rfl, SqT.of hone, rfl, _, rfl, _, _, rfl, rfl, c4, _, rfl, one, _, 2, _, rfl, rfl, SqT.of hone, rfl, _, rfl, one, _, 1, _, rfl, rfl, SqT.of hone, rfl, _, _, rfl, rfl, _, _, rfl, _, _, rfl, rfl, jpos, _, _, rfl, rfl, l, _, _, _, rfl, rfl, SqL.of hl7, ati, ti, _, 0, _, rfl, rfl, SqT.of hti, rfl, ?_⟩
  dsimp only [gName]
  refine seq_any (fun σ' H' => H' = H7 ∧ ∃ k : Int, σ' = [some (.ref p), some (.ref l), some (.ref pl), some (.ref gl), some (.ref fl), some (.ref pa), some (.ref one), some (.int cell), some (.int k), none, none]) (fun σ' H' pp => ?_) (fun nx => ?_)
  rotate_left
  · refine ⟨_, rfl, _, _, rfl, rfl, by show (0 : Int) < 4; decide, rfl, _, rfl, ite2 (fun _ => ?_) (fun _ => nx _ _ ⟨rfl, _, rfl⟩)⟩
    have xl7 := aB7.1
    refine ⟨_, rfl, _, _, rfl, rfl, c4, _, rfl, l, _, rfl, .inl (SqL.of hl7), _, _, rfl, rfl, _, _, rfl, rfl, by show (0 : Int) < (xs7.length : Int) + 2; omega, _, _, rfl, rfl, ?_⟩
    exact nx _ _ ⟨rfl, _, rfl⟩
  obtain ⟨rfl, k, rfl⟩ := pp
  refine ⟨_, rfl, p, ns, 4, rfl, e07.seq hp, by decide, _, rfl, _, rfl, _, rfl, _, l, .ref one, k, B, f2, PP, rfl, hB7, hxg, pne, by omega, N, lw, fun n => ?_⟩
  dsimp only [gName]
  let F1 : V → Hp → Prop := fun v H' => (∃ (r : Addr) (a b : Nat) (c : Bool) (w w2 : Str) (s : Frs), v = .ref r ∧ Fo.lk f2 0 PP = some (a, b, some ((c, w), s)) ∧ oth w = some w2 ∧ FoT H' r (Fo.pt f2 PP 1 (.node c w2 s .nil))) ∨ (v = .non ∧ ∀ (a b : Nat) (c : Bool) (w : Str) (s : Frs), Fo.lk f2 0 PP = some (a, b, some ((c, w), s)) → oth w = none)
  refine seq_any (fun σ' H8 => ∃ v, σ' = [some (.ref p), some (.ref l), some (.ref pl), some (.ref gl), some (.ref fl), some (.ref pa), some (.ref one), some (.int cell), some (.int k), some (.int n), some v] ∧ Same H' H8 ∧ F1 v H8) (fun σ' H8 pp => ?_) (fun nx => ?_)
  rotate_left
  · refine ⟨_, rfl, _, rfl, pl, pa, f2, PP, rfl, hpl7, hpa7, by omega, wd, fun a b c w w2 s hl ho r H8 e8 hr8 => ?_, fun no H8 e8 => ?_⟩
    · exact nx _ _ ⟨.ref r, rfl, e8, .inl ⟨r, a, b, c, w, w2, s, rfl, hl, ho, hr8⟩⟩
    · exact nx _ _ ⟨.non, rfl, e8, .inr ⟨rfl, no⟩⟩
  obtain ⟨v1, rfl, e8, f1⟩ := pp
  refine seq_any (fun σ' H9 => σ' = [some (.ref p), some (.ref l), some (.ref pl), some (.ref gl), some (.ref fl), some (.ref pa), some (.ref one), some (.int cell), some (.int k), some (.int n), some v1] ∧ TL H' H9 ∧ But1 a.p_tab2 H' H9 ∧ F1 v1 H9) (fun σ' H9 pp => ?_) (fun nx => ?_)
  rotate_left
  · have hT28 := hT27.over e8
    rcases f1 with ⟨r, a1, b1, c1, w1, w2, s1', rfl, hl1, ho1, hr1⟩ | ⟨rfl, no1⟩
    · have dp1 := (N.way w2 hl1).1.dep
      refine ⟨_, rfl, _, rfl, _, rfl, l, .ref one, B, f2, PP, rfl, hB7.over e8, GpAt.over hxg e8, pne, by omega, N, w3, hT28, fun a b c w w2' s hl ho du H9 k9 b9 hdu => ?_, fun no => ?_⟩
      · rw [hl1] at hl
        cases hl
        rw [ho1] at ho
        cases ho
        have hr9 := hr1.tl k9
        refine .inr ⟨r, du, _, rfl, hr9, hdu, dp1, _, rfl, iteF ?_⟩
        exact nx _ _ ⟨rfl, e8.tl.trans k9, But1.pre e8 b9, .inl ⟨r, _, _, _, _, _, _, rfl, hl1, ho1, hr9⟩⟩
      · have := no _ _ _ _ _ hl1
        rw [ho1] at this
        cases this
    · refine ⟨_, rfl, _, rfl, _, rfl, l, .ref one, B, f2, PP, rfl, hB7.over e8, GpAt.over hxg e8, pne, by omega, N, w3, hT28, fun a b c w w2' s hl ho du H9 k9 b9 hdu => ?_, fun no => ?_⟩
      · have := no1 _ _ _ _ _ hl
        rw [ho] at this
        cases this
      · refine .inl ⟨rfl, _, rfl, iteF ?_⟩
        exact nx _ _ ⟨rfl, e8.tl, But1.pre e8 (fun b o _ h => h), .inr ⟨rfl, no1⟩⟩
  obtain ⟨rfl, k9, b9, f1⟩ := pp
  refine seq_any (fun σ' HA => σ' = [some (.ref p), some (.ref l), some (.ref pl), some (.ref gl), some (.ref fl), some (.ref pa), some (.ref one), some (.int cell), some (.int k), some (.int n), some v1] ∧ TL H' HA ∧ But1 a.p_tab2 H' HA) (fun σ' HA pp => ?_) (fun nx => ?_)
  rotate_left
  · rcases f1 with ⟨r, a1, b1, c1, w1, w2, s1', rfl, hl1, ho1, hr1⟩ | ⟨rfl, no1⟩
    · obtain ⟨g1, g2, g3⟩ := turn_back w2 hl1
      refine ⟨_, rfl, rfl, _, rfl, iteT ?_⟩
      refine ⟨_, rfl, _, rfl, r, pa, _, PP, rfl, hr1, k9.tk _ _ hpa7, by omega, by omega, fun a b c w w3' s hl ho r2 HA eA hrA => ?_, fun no => ?_⟩
      · rw [g1] at hl
        cases hl
        rw [oth_oth ho1] at ho
        cases ho
        rw [g2] at hrA
        have tr1 : TrIs K HA (.ref r2) (.tup (frT f2)) := hrA.tr
        refine ⟨_, rfl, _, _, tr1, ((hpl7.tl k9).over eA).tr, ⟨_, rfl⟩, ⟨_, rfl⟩, simT_refl _, frT_dep60 (by omega), _, rfl, ?_⟩
        refine iteE (v := false) (by rw [if_pos rfl, eqT_refl _ tr1.ok]; rfl) (iteF ?_)
        exact nx _ _ ⟨rfl, k9.trans eA.tl, b9.over eA⟩
      · have := no _ _ _ _ _ g1
        rw [oth_oth ho1] at this
        cases this
    · refine ⟨_, rfl, rfl, _, rfl, iteF ?_⟩
      exact nx _ _ ⟨rfl, k9, b9⟩
  obtain ⟨rfl, kA, bA⟩ := pp
  have hTA1 := hT17.but T.pd1_2 bA hT27.tbl
  have hTA3 := hT37.but (Ne.symm T.pd2_3) bA hT27.tbl
  have hplA := hpl7.tl kA
  have hpaA := kA.tk _ _ hpa7
  have hBA := hB7.tl kA
  have hxA : GpAt HA (.ref one) (atG (Fo.gr f2 [] 0 0) PP) := GpAt.tk kA.tk hxg
  clear f1
  have hplr : ∀ (a b : Nat) (cw : Way) (s : Frs), Fo.lk f2 0 PP = some (a, b, some (cw, s)) → PlR PP.length s := fun a b cw s hl => (N.mv lw nd pne hl).plr
  have szf : Fo.sz f2 ≤ 100 := by have := N.fr.len; rw [N.eq, Fo.lv_len] at this; omega
  let F2 : V → Hp → Prop := fun v H' => (∃ (r : Addr) (a b : Nat) (cw : Way) (s : Frs) (en : Fo.En), v = .ref r ∧ Fo.lk f2 0 PP = some (a, b, some (cw, s)) ∧ fk k s = some en ∧ (shE (PP.length - 1) en + n).natAbs ≤ 10 ^ 18 ∧ FoT H' r (mvF f2 PP cw k (shE (PP.length - 1) en + n) s)) ∨ (v = .non ∧ ∀ (a b : Nat) (cw : Way) (s : Frs) (en : Fo.En), Fo.lk f2 0 PP = some (a, b, some (cw, s)) → fk k s = some en → ¬ (shE (PP.length - 1) en + n).natAbs ≤ 10 ^ 18)
  refine seq_any (fun σ' HB => ∃ v, σ' = [some (.ref p), some (.ref l), some (.ref pl), some (.ref gl), some (.ref fl), some (.ref pa), some (.ref one), some (.int cell), some (.int k), some (.int n), some v] ∧ TL HA HB ∧ But1 a.p_tab HA HB ∧ TbOk a.p_tab pos_change qn_change HB ∧ F2 v HB) (fun σ' HB pp => ?_) (fun nx => ?_)
  rotate_left
  · refine ⟨_, rfl, _, rfl, _, rfl, _, rfl, pl, pa, f2, PP, k, n, rfl, hplA, hpaA, pne, by omega, wd, dp, szf, hTA1, hplr, fun a b cw s en hl hf hb r HB kB bB tB hrB => ?_, fun no HB eB => ?_⟩
    · exact nx _ _ ⟨.ref r, rfl, kB, bB, tB, .inl ⟨r, a, b, cw, s, en, rfl, hl, hf, hb, hrB⟩⟩
    · exact nx _ _ ⟨.non, rfl, eB.tl, But1.pre eB (fun b o _ h => h), hTA1.over eB, .inr ⟨rfl, no⟩⟩
  obtain ⟨v2, rfl, kB, bB', tB, f2'⟩ := pp
  have hTB3 := hTA3.but (Ne.symm T.pd1_3) bB' hTA1.tbl
  have hplB := hplA.tl kB
  have hpaB := kB.tk _ _ hpaA
  have hBB := hBA.tl kB
  have hxB : GpAt HB (.ref one) (atG (Fo.gr f2 [] 0 0) PP) := GpAt.tk kB.tk hxA
  rcases f2' with ⟨r, a1, b1, cw1, s1', en1, rfl, hl1, hf1, hb1, hr1⟩ | ⟨rfl, no1⟩
  rotate_left
  · refine ⟨_, rfl, _, rfl, _, rfl, _, rfl, _, rfl, l, .ref one, k, n, B, f2, PP, rfl, hBB, hxB, pne, by omega, N, lw, nd, hTB3, fun a b cw s en hl hf hb => absurd hb (no1 a b cw s en hl hf), fun no => ?_⟩
    refine .inl ⟨rfl, _, rfl, iteF ?_⟩
    dsimp only [tNext]
    refine ⟨_, rfl, rfl, ?_⟩
    exact ⟨_, rfl, iteE (v := true) (decide_eq_true rfl) (iteT (q _))⟩
  have M := N.mv lw nd pne hl1
  obtain ⟨g1, g2, g3, ⟨B', N'⟩, g5, g6, e2, g7, g8⟩ := M.back N lw shb hl1 hf1 (shE (PP.length - 1) en1 + n)
  have dp' := N'.dep
  have szf' : Fo.sz (mvF f2 PP cw1 k (shE (PP.length - 1) en1 + n) s1') ≤ 100 := by have := N'.fr.len; rw [N'.eq, Fo.lv_len] at this; omega
  refine ⟨_, rfl, _, rfl, _, rfl, _, rfl, _, rfl, l, .ref one, k, n, B, f2, PP, rfl, hBB, hxB, pne, by omega, N, lw, nd, hTB3, fun a b cw s en hl hf hb du HC kC bC hdu => ?_, fun no => absurd hb1 (no _ _ _ _ _ hl1 hf1)⟩
  rw [hl1] at hl
  cases hl
  rw [hf1] at hf
  cases hf
  have hrC := hr1.tl kC
  refine .inr ⟨r, du, _, rfl, hrC, hdu, dp', _, rfl, iteF ?_⟩
  dsimp only [tNext]
  have tC := tB.but T.pd1_3 bC hTB3.tbl
  refine ⟨_, rfl, rfl, ?_⟩
  refine ⟨_, rfl, iteE (v := false) (decide_eq_false fun z => by cases z) (iteF ?_)⟩
  have back : shE (PP.length - 1) e2 + (0 - n) = shE (PP.length - 1) en1 := by rw [g8]; omega
  refine ⟨_, rfl, _, rfl, _, rfl, _, rfl, _, _, rfl, rfl, r, pa, _, PP, k, 0 - n, rfl, hrC, kC.tk _ _ hpaB, pne, by omega, by omega, dp', szf', tC, fun a b cw s hl => ?_, fun a b cw s en hl hf hb r3 HD kD bD tD hrD => ?_, fun no => ?_⟩
  · rw [g1] at hl
    cases hl
    exact g6
  · rw [g1] at hl
    cases hl
    rw [g7] at hf
    cases hf
    rw [back, g2] at hrD
    have tr3 : TrIs K HD (.ref r3) (.tup (frT f2)) := hrD.tr
    refine ⟨_, rfl, _, _, tr3, ((hplB.tl kC).tl kD).tr, ⟨_, rfl⟩, ⟨_, rfl⟩, simT_refl _, frT_dep60 (by omega), ?_⟩
    rw [if_neg Bool.false_ne_true, eqT_refl _ tr3.ok]
    exact q _
  · have := no _ _ _ _ _ g1 g7
    rw [back] at this
    exact absurd g5 this


end
theorem len_1 {us : List Value} (h : us.length = 1) : ∃ x0, us = [x0] := by
  rcases us with _ | ⟨x0, us⟩
  · cases h
  rcases us with _ | ⟨y, us⟩
  · exact ⟨x0, rfl⟩
  · simp only [List.length_cons] at h; omega
theorem len_2 {us : List Value} (h : us.length = 2) : ∃ x0 x1, us = [x0, x1] := by
  rcases us with _ | ⟨x0, us⟩
  · cases h
  rcases us with _ | ⟨x1, us⟩
  · cases h
  rcases us with _ | ⟨y, us⟩
  · exact ⟨x0, x1, rfl⟩
  · simp only [List.length_cons] at h; omega
theorem len_3 {us : List Value} (h : us.length = 3) : ∃ x0 x1 x2, us = [x0, x1, x2] := by
  rcases us with _ | ⟨x0, us⟩
  · cases h
  rcases us with _ | ⟨x1, us⟩
  · cases h
  rcases us with _ | ⟨x2, us⟩
  · cases h
  rcases us with _ | ⟨y, us⟩
  · exact ⟨x0, x1, x2, rfl⟩
  · simp only [List.length_cons] at h; omega
theorem len_4 {us : List Value} (h : us.length = 4) : ∃ x0 x1 x2 x3, us = [x0, x1, x2, x3] := by
  rcases us with _ | ⟨x0, us⟩
  · cases h
  rcases us with _ | ⟨x1, us⟩
  · cases h
  rcases us with _ | ⟨x2, us⟩
  · cases h
  rcases us with _ | ⟨x3, us⟩
  · cases h
  rcases us with _ | ⟨y, us⟩
  · exact ⟨x0, x1, x2, x3, rfl⟩
  · simp only [List.length_cons] at h; omega
theorem bd_sweep_at {kV doc pm : Value} {an : Option Addr} {cdv ct : Value} {us : List Value} (h : us.length = 2) : bindArgs (PySem.W.fnOf "sweep_at" "sweep_at" (defArgs s_sweep_at) (defBody s_sweep_at) (defScope s_sweep_at) .none kV doc pm an cdv ct) ⟨us, []⟩ = pure ((["plan", "path"] : List Str).zip us) := by
  obtain ⟨_, _, rfl⟩ := len_2 h
  rfl
theorem bd_put_at {kV doc pm : Value} {an : Option Addr} {cdv ct : Value} {us : List Value} (h : us.length = 4) : bindArgs (PySem.W.fnOf "put_at" "put_at" (defArgs s_put_at) (defBody s_put_at) (defScope s_put_at) .none kV doc pm an cdv ct) ⟨us, []⟩ = pure ((["items", "path", "many", "others"] : List Str).zip us) := by
  obtain ⟨_, _, _, _, rfl⟩ := len_4 h
  rfl
theorem bd_deeds_within {kV doc pm : Value} {an : Option Addr} {cdv ct : Value} {us : List Value} (h : us.length = 3) : bindArgs (PySem.W.fnOf "deeds_within" "deeds_within" (defArgs s_deeds_within) (defBody s_deeds_within) (defScope s_deeds_within) .none kV doc pm an cdv ct) ⟨us, []⟩ = pure ((["items", "path", "cuts"] : List Str).zip us) := by
  obtain ⟨_, _, _, rfl⟩ := len_3 h
  rfl
theorem bd_with_places {kV doc pm : Value} {an : Option Addr} {cdv ct : Value} {us : List Value} (h : us.length = 2) : bindArgs (PySem.W.fnOf "with_places" "with_places" (defArgs s_with_places) (defBody s_with_places) (defScope s_with_places) .none kV doc pm an cdv ct) ⟨us, []⟩ = pure ((["items", "change"] : List Str).zip us) := by
  obtain ⟨_, _, rfl⟩ := len_2 h
  rfl
theorem bd_turned {kV doc pm : Value} {an : Option Addr} {cdv ct : Value} {us : List Value} (h : us.length = 2) : bindArgs (PySem.W.fnOf "turned" "turned" (defArgs s_turned) (defBody s_turned) (defScope s_turned) .none kV doc pm an cdv ct) ⟨us, []⟩ = pure ((["plan", "path"] : List Str).zip us) := by
  obtain ⟨_, _, rfl⟩ := len_2 h
  rfl
theorem bd_moved {kV doc pm : Value} {an : Option Addr} {cdv ct : Value} {us : List Value} (h : us.length = 4) : bindArgs (PySem.W.fnOf "moved" "moved" (defArgs s_moved) (defBody s_moved) (defScope s_moved) .none kV doc pm an cdv ct) ⟨us, []⟩ = pure ((["plan", "path", "k", "n"] : List Str).zip us) := by
  obtain ⟨_, _, _, _, rfl⟩ := len_4 h
  rfl
theorem bd_l_cell_at {kV doc pm : Value} {an : Option Addr} {cdv ct : Value} {us : List Value} (h : us.length = 2) : bindArgs (PySem.W.fnOf "_law_cell_at" "_law_cell_at" (defArgs s_l_cell_at) (defBody s_l_cell_at) (defScope s_l_cell_at) .none kV doc pm an cdv ct) ⟨us, []⟩ = pure ((["_law_script", "_law_k"] : List Str).zip us) := by
  obtain ⟨_, _, rfl⟩ := len_2 h
  rfl
theorem bd_l_whole {kV doc pm : Value} {an : Option Addr} {cdv ct : Value} {us : List Value} (h : us.length = 1) : bindArgs (PySem.W.fnOf "_law_whole" "_law_whole" (defArgs s_l_whole) (defBody s_l_whole) (defScope s_l_whole) .none kV doc pm an cdv ct) ⟨us, []⟩ = pure ((["_law_found"] : List Str).zip us) := by
  obtain ⟨_, rfl⟩ := len_1 h
  rfl
theorem bd_l_stream {kV doc pm : Value} {an : Option Addr} {cdv ct : Value} {us : List Value} (h : us.length = 2) : bindArgs (PySem.W.fnOf "_law_stream" "_law_stream" (defArgs s_l_stream) (defBody s_l_stream) (defScope s_l_stream) .none kV doc pm an cdv ct) ⟨us, []⟩ = pure ((["_law_cell", "_law_many"] : List Str).zip us) := by
  obtain ⟨_, _, rfl⟩ := len_2 h
  rfl
theorem bd_l_number {kV doc pm : Value} {an : Option Addr} {cdv ct : Value} {us : List Value} (h : us.length = 2) : bindArgs (PySem.W.fnOf "_law_number" "_law_number" (defArgs s_l_number) (defBody s_l_number) (defScope s_l_number) .none kV doc pm an cdv ct) ⟨us, []⟩ = pure ((["_law_cell", "_law_far"] : List Str).zip us) := by
  obtain ⟨_, _, rfl⟩ := len_2 h
  rfl
theorem bd_l_steps {kV doc pm : Value} {an : Option Addr} {cdv ct : Value} {us : List Value} (h : us.length = 1) : bindArgs (PySem.W.fnOf "_law_steps" "_law_steps" (defArgs s_l_steps) (defBody s_l_steps) (defScope s_l_steps) .none kV doc pm an cdv ct) ⟨us, []⟩ = pure ((["_law_cells"] : List Str).zip us) := by
  obtain ⟨_, rfl⟩ := len_1 h
  rfl
theorem bd_l_places {kV doc pm : Value} {an : Option Addr} {cdv ct : Value} {us : List Value} (h : us.length = 2) : bindArgs (PySem.W.fnOf "_law_places" "_law_places" (defArgs s_l_places) (defBody s_l_places) (defScope s_l_places) .none kV doc pm an cdv ct) ⟨us, []⟩ = pure ((["_law_opened", "_law_cell"] : List Str).zip us) := by
  obtain ⟨_, _, rfl⟩ := len_2 h
  rfl
theorem bd_l_leaves {kV doc pm : Value} {an : Option Addr} {cdv ct : Value} {us : List Value} (h : us.length = 2) : bindArgs (PySem.W.fnOf "_law_leaves" "_law_leaves" (defArgs s_l_leaves) (defBody s_l_leaves) (defScope s_l_leaves) .none kV doc pm an cdv ct) ⟨us, []⟩ = pure ((["_law_cells", "_law_turn_here"] : List Str).zip us) := by
  obtain ⟨_, _, rfl⟩ := len_2 h
  rfl
theorem bd_l_items {kV doc pm : Value} {an : Option Addr} {cdv ct : Value} {us : List Value} (h : us.length = 2) : bindArgs (PySem.W.fnOf "_law_items" "_law_items" (defArgs s_l_items) (defBody s_l_items) (defScope s_l_items) .none kV doc pm an cdv ct) ⟨us, []⟩ = pure ((["_law_leaves_here", "_law_depth"] : List Str).zip us) := by
  obtain ⟨_, _, rfl⟩ := len_2 h
  rfl
theorem bd_l_groups {kV doc pm : Value} {an : Option Addr} {cdv ct : Value} {us : List Value} (h : us.length = 3) : bindArgs (PySem.W.fnOf "_law_groups" "_law_groups" (defArgs s_l_groups) (defBody s_l_groups) (defScope s_l_groups) .none kV doc pm an cdv ct) ⟨us, []⟩ = pure ((["_law_leaves_here", "_law_path_here", "_law_first"] : List Str).zip us) := by
  obtain ⟨_, _, _, rfl⟩ := len_3 h
  rfl
theorem bd_l_at {kV doc pm : Value} {an : Option Addr} {cdv ct : Value} {us : List Value} (h : us.length = 2) : bindArgs (PySem.W.fnOf "_law_at" "_law_at" (defArgs s_l_at) (defBody s_l_at) (defScope s_l_at) .none kV doc pm an cdv ct) ⟨us, []⟩ = pure ((["_law_groups_here", "_law_path_here"] : List Str).zip us) := by
  obtain ⟨_, _, rfl⟩ := len_2 h
  rfl
theorem bd_l_path {kV doc pm : Value} {an : Option Addr} {cdv ct : Value} {us : List Value} (h : us.length = 4) : bindArgs (PySem.W.fnOf "_law_path" "_law_path" (defArgs s_l_path) (defBody s_l_path) (defScope s_l_path) .none kV doc pm an cdv ct) ⟨us, []⟩ = pure ((["_law_groups_here", "_law_fit", "_law_cell", "_law_way"] : List Str).zip us) := by
  obtain ⟨_, _, _, _, rfl⟩ := len_4 h
  rfl
theorem bd_l_kinds {kV doc pm : Value} {an : Option Addr} {cdv ct : Value} {us : List Value} (h : us.length = 1) : bindArgs (PySem.W.fnOf "_law_kinds" "_law_kinds" (defArgs s_l_kinds) (defBody s_l_kinds) (defScope s_l_kinds) .none kV doc pm an cdv ct) ⟨us, []⟩ = pure ((["_law_items_here"] : List Str).zip us) := by
  obtain ⟨_, rfl⟩ := len_1 h
  rfl
theorem bd_l_changed {kV doc pm : Value} {an : Option Addr} {cdv ct : Value} {us : List Value} (h : us.length = 3) : bindArgs (PySem.W.fnOf "_law_changed" "_law_changed" (defArgs s_l_changed) (defBody s_l_changed) (defScope s_l_changed) .none kV doc pm an cdv ct) ⟨us, []⟩ = pure ((["_law_leaves_here", "_law_one", "_law_change"] : List Str).zip us) := by
  obtain ⟨_, _, _, rfl⟩ := len_3 h
  rfl
theorem bd_l_turned {kV doc pm : Value} {an : Option Addr} {cdv ct : Value} {us : List Value} (h : us.length = 2) : bindArgs (PySem.W.fnOf "_law_turned" "_law_turned" (defArgs s_l_turned) (defBody s_l_turned) (defScope s_l_turned) .none kV doc pm an cdv ct) ⟨us, []⟩ = pure ((["_law_leaves_here", "_law_one"] : List Str).zip us) := by
  obtain ⟨_, _, rfl⟩ := len_2 h
  rfl
theorem bd_l_moved {kV doc pm : Value} {an : Option Addr} {cdv ct : Value} {us : List Value} (h : us.length = 4) : bindArgs (PySem.W.fnOf "_law_moved" "_law_moved" (defArgs s_l_moved) (defBody s_l_moved) (defScope s_l_moved) .none kV doc pm an cdv ct) ⟨us, []⟩ = pure ((["_law_leaves_here", "_law_one", "_law_k", "_law_n"] : List Str).zip us) := by
  obtain ⟨_, _, _, _, rfl⟩ := len_4 h
  rfl
theorem bd_l_turn {kV doc pm : Value} {an : Option Addr} {cdv ct : Value} {us : List Value} (h : us.length = 2) : bindArgs (PySem.W.fnOf "_law_turn" "_law_turn" (defArgs s_l_turn) (defBody s_l_turn) (defScope s_l_turn) .none kV doc pm an cdv ct) ⟨us, []⟩ = pure ((["_law_plan", "_law_path_here"] : List Str).zip us) := by
  obtain ⟨_, _, rfl⟩ := len_2 h
  rfl
theorem bd_l_move {kV doc pm : Value} {an : Option Addr} {cdv ct : Value} {us : List Value} (h : us.length = 4) : bindArgs (PySem.W.fnOf "_law_move" "_law_move" (defArgs s_l_move) (defBody s_l_move) (defScope s_l_move) .none kV doc pm an cdv ct) ⟨us, []⟩ = pure ((["_law_plan", "_law_path_here", "_law_k", "_law_n"] : List Str).zip us) := by
  obtain ⟨_, _, _, _, rfl⟩ := len_4 h
  rfl
theorem bd_l_alike {kV doc pm : Value} {an : Option Addr} {cdv ct : Value} {us : List Value} (h : us.length = 2) : bindArgs (PySem.W.fnOf "_law_alike" "_law_alike" (defArgs s_l_alike) (defBody s_l_alike) (defScope s_l_alike) .none kV doc pm an cdv ct) ⟨us, []⟩ = pure ((["_law_found", "_law_due"] : List Str).zip us) := by
  obtain ⟨_, _, rfl⟩ := len_2 h
  rfl
theorem bd_l_by {kV doc pm : Value} {an : Option Addr} {cdv ct : Value} {us : List Value} (h : us.length = 4) : bindArgs (PySem.W.fnOf "_law_by" "_law_by" (defArgs s_l_by) (defBody s_l_by) (defScope s_l_by) .none kV doc pm an cdv ct) ⟨us, []⟩ = pure ((["_law_cell", "_law_leaves_here", "_law_one", "_law_k"] : List Str).zip us) := by
  obtain ⟨_, _, _, _, rfl⟩ := len_4 h
  rfl
theorem bd_law {kV doc pm : Value} {an : Option Addr} {cdv ct : Value} {us : List Value} (h : us.length = 1) : bindArgs (PySem.W.fnOf "law" "law" (defArgs s_law) (defBody s_law) (defScope s_law) .none kV doc pm an cdv ct) ⟨us, []⟩ = pure ((["_law_script"] : List Str).zip us) := by
  obtain ⟨_, rfl⟩ := len_1 h
  rfl
theorem txt_mk {w : World} {K : PySem.W.Frag} {h : Heap} {mg : Str → Option Value} {fa : Addr} (X : K.In h) (G : h.Ns mainGlobals mg) (hfa : mg "law" = some (.ref fa))
    {C_FurrowError : Addr} {C_NoTurning : Addr} {f1 : Addr} {od1 an1 : Option Addr} {sl1 : Array (Option Value)} {oc1 kV1 dc1 pm1 cd1 ct1 : Value} {f2 : Addr} {od2 an2 : Option Addr} {sl2 : Array (Option Value)} {oc2 kV2 dc2 pm2 cd2 ct2 : Value} {f3 : Addr} {od3 an3 : Option Addr} {sl3 : Array (Option Value)} {oc3 kV3 dc3 pm3 cd3 ct3 : Value} {f4 : Addr} {od4 an4 : Option Addr} {sl4 : Array (Option Value)} {oc4 kV4 dc4 pm4 cd4 ct4 : Value} {f5 : Addr} {od5 an5 : Option Addr} {sl5 : Array (Option Value)} {oc5 kV5 dc5 pm5 cd5 ct5 : Value} {f6 : Addr} {od6 an6 : Option Addr} {sl6 : Array (Option Value)} {oc6 kV6 dc6 pm6 ct6 : Value} {f7 : Addr} {od7 an7 : Option Addr} {sl7 : Array (Option Value)} {oc7 kV7 dc7 pm7 cd7 ct7 : Value} {f8 : Addr} {od8 an8 : Option Addr} {sl8 : Array (Option Value)} {oc8 kV8 dc8 pm8 cd8 ct8 : Value} {f9 : Addr} {od9 an9 : Option Addr} {sl9 : Array (Option Value)} {oc9 kV9 dc9 pm9 cd9 ct9 : Value} {f10 : Addr} {od10 an10 : Option Addr} {sl10 : Array (Option Value)} {oc10 kV10 dc10 pm10 cd10 ct10 : Value} {f11 : Addr} {od11 an11 : Option Addr} {sl11 : Array (Option Value)} {oc11 kV11 dc11 pm11 cd11 ct11 : Value} {f12 : Addr} {od12 an12 : Option Addr} {sl12 : Array (Option Value)} {oc12 kV12 dc12 pm12 cd12 ct12 : Value} {f13 : Addr} {od13 an13 : Option Addr} {sl13 : Array (Option Value)} {oc13 kV13 dc13 pm13 cd13 ct13 : Value} {f14 : Addr} {od14 an14 : Option Addr} {sl14 : Array (Option Value)} {oc14 kV14 dc14 pm14 cd14 ct14 : Value} {f15 : Addr} {od15 an15 : Option Addr} {sl15 : Array (Option Value)} {oc15 kV15 dc15 pm15 cd15 ct15 : Value} {f16 : Addr} {od16 an16 : Option Addr} {sl16 : Array (Option Value)} {oc16 kV16 dc16 pm16 cd16 ct16 : Value} {f17 : Addr} {od17 an17 : Option Addr} {sl17 : Array (Option Value)} {oc17 kV17 dc17 pm17 cd17 ct17 : Value} {f18 : Addr} {od18 an18 : Option Addr} {sl18 : Array (Option Value)} {oc18 kV18 dc18 pm18 cd18 ct18 : Value} {f19 : Addr} {od19 an19 : Option Addr} {sl19 : Array (Option Value)} {oc19 kV19 dc19 pm19 cd19 ct19 : Value} {f20 : Addr} {od20 an20 : Option Addr} {sl20 : Array (Option Value)} {oc20 kV20 dc20 pm20 ct20 : Value} {f21 : Addr} {od21 an21 : Option Addr} {sl21 : Array (Option Value)} {oc21 kV21 dc21 pm21 ct21 : Value} {f22 : Addr} {od22 an22 : Option Addr} {sl22 : Array (Option Value)} {oc22 kV22 dc22 pm22 cd22 ct22 : Value} {f23 : Addr} {od23 an23 : Option Addr} {sl23 : Array (Option Value)} {oc23 kV23 dc23 pm23 cd23 ct23 : Value} {f24 : Addr} {od24 an24 : Option Addr} {sl24 : Array (Option Value)} {oc24 kV24 dc24 pm24 cd24 ct24 : Value} {f25 : Addr} {od25 an25 : Option Addr} {sl25 : Array (Option Value)} {oc25 kV25 dc25 pm25 cd25 ct25 : Value} {f26 : Addr} {od26 an26 : Option Addr} {sl26 : Array (Option Value)} {oc26 kV26 dc26 pm26 cd26 ct26 : Value} {t_MOST_SHIFT : Tok} {u_OTHER_WAYS : Addr} {n_OTHER_WAYS : Nat} {h_OTHER_WAYS0 : Int} {k_OTHER_WAYS0 s_OTHER_WAYS0 : Tok} {h_OTHER_WAYS1 : Int} {k_OTHER_WAYS1 s_OTHER_WAYS1 : Tok} {c_tab p_tab : Addr} {o_tab : Obj} {c_tab2 p_tab2 : Addr} {o_tab2 : Obj} {c_tab3 p_tab3 : Addr} {o_tab3 : Obj}
    (a_FurrowError : PySem.W.nsIn K mainGlobals "FurrowError" = some (some (.ref C_FurrowError)))
    (a_NoTurning : PySem.W.nsIn K mainGlobals "NoTurning" = some (some (.ref C_NoTurning)))
    (a1 : PySem.W.nsIn K mainGlobals "sweep_at" = some (some (.ref f1)))
    (l1 : K.lookup f1 = some ⟨oc1, od1, .func (PySem.W.fnOf "sweep_at" "sweep_at" (defArgs s_sweep_at) (defBody s_sweep_at) (defScope s_sweep_at) .none kV1 dc1 pm1 an1 cd1 ct1), sl1⟩) (c1 : PySem.W.codeIn K cd1 "sweep_at" = true) (k1 : PySem.W.keepIn K (.ref f1) = true)
    (a2 : PySem.W.nsIn K mainGlobals "put_at" = some (some (.ref f2)))
    (l2 : K.lookup f2 = some ⟨oc2, od2, .func (PySem.W.fnOf "put_at" "put_at" (defArgs s_put_at) (defBody s_put_at) (defScope s_put_at) .none kV2 dc2 pm2 an2 cd2 ct2), sl2⟩) (c2 : PySem.W.codeIn K cd2 "put_at" = true) (k2 : PySem.W.keepIn K (.ref f2) = true)
    (a3 : PySem.W.nsIn K mainGlobals "deeds_within" = some (some (.ref f3)))
    (l3 : K.lookup f3 = some ⟨oc3, od3, .func (PySem.W.fnOf "deeds_within" "deeds_within" (defArgs s_deeds_within) (defBody s_deeds_within) (defScope s_deeds_within) .none kV3 dc3 pm3 an3 cd3 ct3), sl3⟩) (c3 : PySem.W.codeIn K cd3 "deeds_within" = true) (k3 : PySem.W.keepIn K (.ref f3) = true)
    (a4 : PySem.W.nsIn K mainGlobals "with_places" = some (some (.ref f4)))
    (l4 : K.lookup f4 = some ⟨oc4, od4, .func (PySem.W.fnOf "with_places" "with_places" (defArgs s_with_places) (defBody s_with_places) (defScope s_with_places) .none kV4 dc4 pm4 an4 cd4 ct4), sl4⟩) (c4 : PySem.W.codeIn K cd4 "with_places" = true) (k4 : PySem.W.keepIn K (.ref f4) = true)
    (a5 : PySem.W.nsIn K mainGlobals "turned" = some (some (.ref f5)))
    (l5 : K.lookup f5 = some ⟨oc5, od5, .func (PySem.W.fnOf "turned" "turned" (defArgs s_turned) (defBody s_turned) (defScope s_turned) .none kV5 dc5 pm5 an5 cd5 ct5), sl5⟩) (c5 : PySem.W.codeIn K cd5 "turned" = true) (k5 : PySem.W.keepIn K (.ref f5) = true)
    (a6 : PySem.W.nsIn K mainGlobals "moved" = some (some (.ref f6)))
    (l6 : K.lookup f6 = some ⟨oc6, od6, .func (PySem.W.fnOf "moved" "moved" (defArgs s_moved) (defBody s_moved) (defScope s_moved) .none kV6 dc6 pm6 an6 (.ref c_tab) ct6), sl6⟩) (c6 : PySem.W.codeIn K (.ref c_tab) "moved" = true) (k6 : PySem.W.keepIn K (.ref f6) = true)
    (a7 : PySem.W.nsIn K mainGlobals "_law_cell_at" = some (some (.ref f7)))
    (l7 : K.lookup f7 = some ⟨oc7, od7, .func (PySem.W.fnOf "_law_cell_at" "_law_cell_at" (defArgs s_l_cell_at) (defBody s_l_cell_at) (defScope s_l_cell_at) .none kV7 dc7 pm7 an7 cd7 ct7), sl7⟩) (c7 : PySem.W.codeIn K cd7 "_law_cell_at" = true) (k7 : PySem.W.keepIn K (.ref f7) = true)
    (a8 : PySem.W.nsIn K mainGlobals "_law_whole" = some (some (.ref f8)))
    (l8 : K.lookup f8 = some ⟨oc8, od8, .func (PySem.W.fnOf "_law_whole" "_law_whole" (defArgs s_l_whole) (defBody s_l_whole) (defScope s_l_whole) .none kV8 dc8 pm8 an8 cd8 ct8), sl8⟩) (c8 : PySem.W.codeIn K cd8 "_law_whole" = true) (k8 : PySem.W.keepIn K (.ref f8) = true)
    (a9 : PySem.W.nsIn K mainGlobals "_law_stream" = some (some (.ref f9)))
    (l9 : K.lookup f9 = some ⟨oc9, od9, .func (PySem.W.fnOf "_law_stream" "_law_stream" (defArgs s_l_stream) (defBody s_l_stream) (defScope s_l_stream) .none kV9 dc9 pm9 an9 cd9 ct9), sl9⟩) (c9 : PySem.W.codeIn K cd9 "_law_stream" = true) (k9 : PySem.W.keepIn K (.ref f9) = true)
    (a10 : PySem.W.nsIn K mainGlobals "_law_number" = some (some (.ref f10)))
    (l10 : K.lookup f10 = some ⟨oc10, od10, .func (PySem.W.fnOf "_law_number" "_law_number" (defArgs s_l_number) (defBody s_l_number) (defScope s_l_number) .none kV10 dc10 pm10 an10 cd10 ct10), sl10⟩) (c10 : PySem.W.codeIn K cd10 "_law_number" = true) (k10 : PySem.W.keepIn K (.ref f10) = true)
    (a11 : PySem.W.nsIn K mainGlobals "_law_steps" = some (some (.ref f11)))
    (l11 : K.lookup f11 = some ⟨oc11, od11, .func (PySem.W.fnOf "_law_steps" "_law_steps" (defArgs s_l_steps) (defBody s_l_steps) (defScope s_l_steps) .none kV11 dc11 pm11 an11 cd11 ct11), sl11⟩) (c11 : PySem.W.codeIn K cd11 "_law_steps" = true) (k11 : PySem.W.keepIn K (.ref f11) = true)
    (a12 : PySem.W.nsIn K mainGlobals "_law_places" = some (some (.ref f12)))
    (l12 : K.lookup f12 = some ⟨oc12, od12, .func (PySem.W.fnOf "_law_places" "_law_places" (defArgs s_l_places) (defBody s_l_places) (defScope s_l_places) .none kV12 dc12 pm12 an12 cd12 ct12), sl12⟩) (c12 : PySem.W.codeIn K cd12 "_law_places" = true) (k12 : PySem.W.keepIn K (.ref f12) = true)
    (a13 : PySem.W.nsIn K mainGlobals "_law_leaves" = some (some (.ref f13)))
    (l13 : K.lookup f13 = some ⟨oc13, od13, .func (PySem.W.fnOf "_law_leaves" "_law_leaves" (defArgs s_l_leaves) (defBody s_l_leaves) (defScope s_l_leaves) .none kV13 dc13 pm13 an13 cd13 ct13), sl13⟩) (c13 : PySem.W.codeIn K cd13 "_law_leaves" = true) (k13 : PySem.W.keepIn K (.ref f13) = true)
    (a14 : PySem.W.nsIn K mainGlobals "_law_items" = some (some (.ref f14)))
    (l14 : K.lookup f14 = some ⟨oc14, od14, .func (PySem.W.fnOf "_law_items" "_law_items" (defArgs s_l_items) (defBody s_l_items) (defScope s_l_items) .none kV14 dc14 pm14 an14 cd14 ct14), sl14⟩) (c14 : PySem.W.codeIn K cd14 "_law_items" = true) (k14 : PySem.W.keepIn K (.ref f14) = true)
    (a15 : PySem.W.nsIn K mainGlobals "_law_groups" = some (some (.ref f15)))
    (l15 : K.lookup f15 = some ⟨oc15, od15, .func (PySem.W.fnOf "_law_groups" "_law_groups" (defArgs s_l_groups) (defBody s_l_groups) (defScope s_l_groups) .none kV15 dc15 pm15 an15 cd15 ct15), sl15⟩) (c15 : PySem.W.codeIn K cd15 "_law_groups" = true) (k15 : PySem.W.keepIn K (.ref f15) = true)
    (a16 : PySem.W.nsIn K mainGlobals "_law_at" = some (some (.ref f16)))
    (l16 : K.lookup f16 = some ⟨oc16, od16, .func (PySem.W.fnOf "_law_at" "_law_at" (defArgs s_l_at) (defBody s_l_at) (defScope s_l_at) .none kV16 dc16 pm16 an16 cd16 ct16), sl16⟩) (c16 : PySem.W.codeIn K cd16 "_law_at" = true) (k16 : PySem.W.keepIn K (.ref f16) = true)
    (a17 : PySem.W.nsIn K mainGlobals "_law_path" = some (some (.ref f17)))
    (l17 : K.lookup f17 = some ⟨oc17, od17, .func (PySem.W.fnOf "_law_path" "_law_path" (defArgs s_l_path) (defBody s_l_path) (defScope s_l_path) .none kV17 dc17 pm17 an17 cd17 ct17), sl17⟩) (c17 : PySem.W.codeIn K cd17 "_law_path" = true) (k17 : PySem.W.keepIn K (.ref f17) = true)
    (a18 : PySem.W.nsIn K mainGlobals "_law_kinds" = some (some (.ref f18)))
    (l18 : K.lookup f18 = some ⟨oc18, od18, .func (PySem.W.fnOf "_law_kinds" "_law_kinds" (defArgs s_l_kinds) (defBody s_l_kinds) (defScope s_l_kinds) .none kV18 dc18 pm18 an18 cd18 ct18), sl18⟩) (c18 : PySem.W.codeIn K cd18 "_law_kinds" = true) (k18 : PySem.W.keepIn K (.ref f18) = true)
    (a19 : PySem.W.nsIn K mainGlobals "_law_changed" = some (some (.ref f19)))
    (l19 : K.lookup f19 = some ⟨oc19, od19, .func (PySem.W.fnOf "_law_changed" "_law_changed" (defArgs s_l_changed) (defBody s_l_changed) (defScope s_l_changed) .none kV19 dc19 pm19 an19 cd19 ct19), sl19⟩) (c19 : PySem.W.codeIn K cd19 "_law_changed" = true) (k19 : PySem.W.keepIn K (.ref f19) = true)
    (a20 : PySem.W.nsIn K mainGlobals "_law_turned" = some (some (.ref f20)))
    (l20 : K.lookup f20 = some ⟨oc20, od20, .func (PySem.W.fnOf "_law_turned" "_law_turned" (defArgs s_l_turned) (defBody s_l_turned) (defScope s_l_turned) .none kV20 dc20 pm20 an20 (.ref c_tab2) ct20), sl20⟩) (c20 : PySem.W.codeIn K (.ref c_tab2) "_law_turned" = true) (k20 : PySem.W.keepIn K (.ref f20) = true)
    (a21 : PySem.W.nsIn K mainGlobals "_law_moved" = some (some (.ref f21)))
    (l21 : K.lookup f21 = some ⟨oc21, od21, .func (PySem.W.fnOf "_law_moved" "_law_moved" (defArgs s_l_moved) (defBody s_l_moved) (defScope s_l_moved) .none kV21 dc21 pm21 an21 (.ref c_tab3) ct21), sl21⟩) (c21 : PySem.W.codeIn K (.ref c_tab3) "_law_moved" = true) (k21 : PySem.W.keepIn K (.ref f21) = true)
    (a22 : PySem.W.nsIn K mainGlobals "_law_turn" = some (some (.ref f22)))
    (l22 : K.lookup f22 = some ⟨oc22, od22, .func (PySem.W.fnOf "_law_turn" "_law_turn" (defArgs s_l_turn) (defBody s_l_turn) (defScope s_l_turn) .none kV22 dc22 pm22 an22 cd22 ct22), sl22⟩) (c22 : PySem.W.codeIn K cd22 "_law_turn" = true) (k22 : PySem.W.keepIn K (.ref f22) = true)
    (a23 : PySem.W.nsIn K mainGlobals "_law_move" = some (some (.ref f23)))
    (l23 : K.lookup f23 = some ⟨oc23, od23, .func (PySem.W.fnOf "_law_move" "_law_move" (defArgs s_l_move) (defBody s_l_move) (defScope s_l_move) .none kV23 dc23 pm23 an23 cd23 ct23), sl23⟩) (c23 : PySem.W.codeIn K cd23 "_law_move" = true) (k23 : PySem.W.keepIn K (.ref f23) = true)
    (a24 : PySem.W.nsIn K mainGlobals "_law_alike" = some (some (.ref f24)))
    (l24 : K.lookup f24 = some ⟨oc24, od24, .func (PySem.W.fnOf "_law_alike" "_law_alike" (defArgs s_l_alike) (defBody s_l_alike) (defScope s_l_alike) .none kV24 dc24 pm24 an24 cd24 ct24), sl24⟩) (c24 : PySem.W.codeIn K cd24 "_law_alike" = true) (k24 : PySem.W.keepIn K (.ref f24) = true)
    (a25 : PySem.W.nsIn K mainGlobals "_law_by" = some (some (.ref f25)))
    (l25 : K.lookup f25 = some ⟨oc25, od25, .func (PySem.W.fnOf "_law_by" "_law_by" (defArgs s_l_by) (defBody s_l_by) (defScope s_l_by) .none kV25 dc25 pm25 an25 cd25 ct25), sl25⟩) (c25 : PySem.W.codeIn K cd25 "_law_by" = true) (k25 : PySem.W.keepIn K (.ref f25) = true)
    (a26 : PySem.W.nsIn K mainGlobals "law" = some (some (.ref f26)))
    (l26 : K.lookup f26 = some ⟨oc26, od26, .func (PySem.W.fnOf "law" "law" (defArgs s_law) (defBody s_law) (defScope s_law) .none kV26 dc26 pm26 an26 cd26 ct26), sl26⟩) (c26 : PySem.W.codeIn K cd26 "law" = true) (k26 : PySem.W.keepIn K (.ref f26) = true)
    (hn0 : PySem.W.specialIn K (.builtin "object.__class__") "__get__" = some (some (.builtin "getset_descriptor.__get__"))) (ht0 : PySem.W.takesIn K (.builtin "object.__class__") = some true)
    (xga_FurrowError : PySem.W.findIn K (.ref C_FurrowError) "__getattribute__" = some (some (.builtin "BaseException.__getattribute__"))) (xgh_FurrowError : PySem.W.findIn K (.ref C_FurrowError) "__getattr__" = some none) (xbe_FurrowError : PySem.W.mroIn K C_FurrowError (.type "BaseException") = some true) (xsa_FurrowError : PySem.W.findIn K (.ref C_FurrowError) "__setattr__" = some (some (.builtin "object.__setattr__"))) (xhd_FurrowError : PySem.W.hasDictIn K C_FurrowError = true) (qmt_FurrowError : EX.mroTail K C_FurrowError = true) (xob_FurrowError : PySem.W.mroIn K C_FurrowError (.type "object") = some true) (qct_FurrowError : exIn K C_FurrowError [] = true) (xca_FurrowError : PySem.W.findIn K (.ref C_FurrowError) "__class__" = some (some (.builtin "object.__class__"))) (kc_FurrowError : PySem.W.keepIn K (.ref C_FurrowError) = true)
    (xin_FurrowError : PySem.W.findIn K (.ref C_FurrowError) "__init__" = some (some (.builtin "ValueError.__init__")))
    (xga_NoTurning : PySem.W.findIn K (.ref C_NoTurning) "__getattribute__" = some (some (.builtin "BaseException.__getattribute__"))) (xgh_NoTurning : PySem.W.findIn K (.ref C_NoTurning) "__getattr__" = some none) (xbe_NoTurning : PySem.W.mroIn K C_NoTurning (.type "BaseException") = some true) (xsa_NoTurning : PySem.W.findIn K (.ref C_NoTurning) "__setattr__" = some (some (.builtin "object.__setattr__"))) (xhd_NoTurning : PySem.W.hasDictIn K C_NoTurning = true) (qmt_NoTurning : EX.mroTail K C_NoTurning = true) (xob_NoTurning : PySem.W.mroIn K C_NoTurning (.type "object") = some true) (qct_NoTurning : exIn K C_NoTurning [C_FurrowError] = true) (xca_NoTurning : PySem.W.findIn K (.ref C_NoTurning) "__class__" = some (some (.builtin "object.__class__"))) (kc_NoTurning : PySem.W.keepIn K (.ref C_NoTurning) = true)
    (xin_NoTurning : PySem.W.findIn K (.ref C_NoTurning) "__init__" = some (some (.builtin "ValueError.__init__")))
    (dnd : ([C_FurrowError, C_NoTurning] : List Addr).Nodup)
    (xbg : PySem.W.specialIn K (.ref C_FurrowError) "__getattribute__" = some (some (.builtin "type.__getattribute__"))) (xbr : PySem.W.readsIn K C_FurrowError (.type "type") = true) (xbf : PySem.W.findCls K (.ref C_FurrowError) (.type "type") "__init__" = some (.val (.builtin "ValueError.__init__")))
    (z_abs : PySem.W.nsIn K mainGlobals "abs" = some none)
    (z_bool : PySem.W.nsIn K mainGlobals "bool" = some none)
    (z_enumerate : PySem.W.nsIn K mainGlobals "enumerate" = some none)
    (z_int : PySem.W.nsIn K mainGlobals "int" = some none)
    (z_isinstance : PySem.W.nsIn K mainGlobals "isinstance" = some none)
    (z_len : PySem.W.nsIn K mainGlobals "len" = some none)
    (z_list : PySem.W.nsIn K mainGlobals "list" = some none)
    (z_max : PySem.W.nsIn K mainGlobals "max" = some none)
    (z_min : PySem.W.nsIn K mainGlobals "min" = some none)
    (z_range : PySem.W.nsIn K mainGlobals "range" = some none)
    (z_tuple : PySem.W.nsIn K mainGlobals "tuple" = some none)
    (g_MOST_SHIFT : PySem.W.nsIn K mainGlobals "MOST_SHIFT" = some (some (.int 1000000000000000000 t_MOST_SHIFT)))
    (g_OTHER_WAYS : PySem.W.nsIn K mainGlobals "OTHER_WAYS" = some (some (.ref u_OTHER_WAYS)))
    (q_OTHER_WAYS : K.lookup u_OTHER_WAYS = some ⟨.type "dict", none, .dict #[⟨h_OTHER_WAYS0, .str "up" k_OTHER_WAYS0, .str "down" s_OTHER_WAYS0⟩, ⟨h_OTHER_WAYS1, .str "down" k_OTHER_WAYS1, .str "up" s_OTHER_WAYS1⟩] n_OTHER_WAYS, #[]⟩)
    (hh_OTHER_WAYS0 : h_OTHER_WAYS0 = hashStr w "up")
    (hh_OTHER_WAYS1 : h_OTHER_WAYS1 = hashStr w "down")
    (qsm_OTHER_WAYS : (u_OTHER_WAYS == sysModules) = false)
    (l_tab : K.lookup c_tab = some o_tab) (qvt_tab : tabP o_tab = some p_tab) (qnt_tab : hasNo K p_tab = true)
    (l_tab2 : K.lookup c_tab2 = some o_tab2) (qvt_tab2 : tabP o_tab2 = some p_tab2) (qnt_tab2 : hasNo K p_tab2 = true)
    (qpd1_2 : decide (p_tab = p_tab2) = false)
    (l_tab3 : K.lookup c_tab3 = some o_tab3) (qvt_tab3 : tabP o_tab3 = some p_tab3) (qnt_tab3 : hasNo K p_tab3 = true)
    (qpd1_3 : decide (p_tab = p_tab3) = false)
    (qpd2_3 : decide (p_tab2 = p_tab3) = false) :
    ∃ a : Ad, Tx w K mg a ∧ fa = a.f_law ∧ (∀ (s : Shared) (v : Value), BindsTo s a.d_law ⟨[v], []⟩ [("_law_script", v)]) := by
  have e := hfa.symm.trans (PySem.W.mg_of X G a26)
  cases e
  exact ⟨⟨f1, PySem.W.fnOf "sweep_at" "sweep_at" (defArgs s_sweep_at) (defBody s_sweep_at) (defScope s_sweep_at) .none kV1 dc1 pm1 an1 cd1 ct1, f2, PySem.W.fnOf "put_at" "put_at" (defArgs s_put_at) (defBody s_put_at) (defScope s_put_at) .none kV2 dc2 pm2 an2 cd2 ct2, f3, PySem.W.fnOf "deeds_within" "deeds_within" (defArgs s_deeds_within) (defBody s_deeds_within) (defScope s_deeds_within) .none kV3 dc3 pm3 an3 cd3 ct3, f4, PySem.W.fnOf "with_places" "with_places" (defArgs s_with_places) (defBody s_with_places) (defScope s_with_places) .none kV4 dc4 pm4 an4 cd4 ct4, f5, PySem.W.fnOf "turned" "turned" (defArgs s_turned) (defBody s_turned) (defScope s_turned) .none kV5 dc5 pm5 an5 cd5 ct5, f6, PySem.W.fnOf "moved" "moved" (defArgs s_moved) (defBody s_moved) (defScope s_moved) .none kV6 dc6 pm6 an6 (.ref c_tab) ct6, f7, PySem.W.fnOf "_law_cell_at" "_law_cell_at" (defArgs s_l_cell_at) (defBody s_l_cell_at) (defScope s_l_cell_at) .none kV7 dc7 pm7 an7 cd7 ct7, f8, PySem.W.fnOf "_law_whole" "_law_whole" (defArgs s_l_whole) (defBody s_l_whole) (defScope s_l_whole) .none kV8 dc8 pm8 an8 cd8 ct8, f9, PySem.W.fnOf "_law_stream" "_law_stream" (defArgs s_l_stream) (defBody s_l_stream) (defScope s_l_stream) .none kV9 dc9 pm9 an9 cd9 ct9, f10, PySem.W.fnOf "_law_number" "_law_number" (defArgs s_l_number) (defBody s_l_number) (defScope s_l_number) .none kV10 dc10 pm10 an10 cd10 ct10, f11, PySem.W.fnOf "_law_steps" "_law_steps" (defArgs s_l_steps) (defBody s_l_steps) (defScope s_l_steps) .none kV11 dc11 pm11 an11 cd11 ct11, f12, PySem.W.fnOf "_law_places" "_law_places" (defArgs s_l_places) (defBody s_l_places) (defScope s_l_places) .none kV12 dc12 pm12 an12 cd12 ct12, f13, PySem.W.fnOf "_law_leaves" "_law_leaves" (defArgs s_l_leaves) (defBody s_l_leaves) (defScope s_l_leaves) .none kV13 dc13 pm13 an13 cd13 ct13, f14, PySem.W.fnOf "_law_items" "_law_items" (defArgs s_l_items) (defBody s_l_items) (defScope s_l_items) .none kV14 dc14 pm14 an14 cd14 ct14, f15, PySem.W.fnOf "_law_groups" "_law_groups" (defArgs s_l_groups) (defBody s_l_groups) (defScope s_l_groups) .none kV15 dc15 pm15 an15 cd15 ct15, f16, PySem.W.fnOf "_law_at" "_law_at" (defArgs s_l_at) (defBody s_l_at) (defScope s_l_at) .none kV16 dc16 pm16 an16 cd16 ct16, f17, PySem.W.fnOf "_law_path" "_law_path" (defArgs s_l_path) (defBody s_l_path) (defScope s_l_path) .none kV17 dc17 pm17 an17 cd17 ct17, f18, PySem.W.fnOf "_law_kinds" "_law_kinds" (defArgs s_l_kinds) (defBody s_l_kinds) (defScope s_l_kinds) .none kV18 dc18 pm18 an18 cd18 ct18, f19, PySem.W.fnOf "_law_changed" "_law_changed" (defArgs s_l_changed) (defBody s_l_changed) (defScope s_l_changed) .none kV19 dc19 pm19 an19 cd19 ct19, f20, PySem.W.fnOf "_law_turned" "_law_turned" (defArgs s_l_turned) (defBody s_l_turned) (defScope s_l_turned) .none kV20 dc20 pm20 an20 (.ref c_tab2) ct20, f21, PySem.W.fnOf "_law_moved" "_law_moved" (defArgs s_l_moved) (defBody s_l_moved) (defScope s_l_moved) .none kV21 dc21 pm21 an21 (.ref c_tab3) ct21, f22, PySem.W.fnOf "_law_turn" "_law_turn" (defArgs s_l_turn) (defBody s_l_turn) (defScope s_l_turn) .none kV22 dc22 pm22 an22 cd22 ct22, f23, PySem.W.fnOf "_law_move" "_law_move" (defArgs s_l_move) (defBody s_l_move) (defScope s_l_move) .none kV23 dc23 pm23 an23 cd23 ct23, f24, PySem.W.fnOf "_law_alike" "_law_alike" (defArgs s_l_alike) (defBody s_l_alike) (defScope s_l_alike) .none kV24 dc24 pm24 an24 cd24 ct24, f25, PySem.W.fnOf "_law_by" "_law_by" (defArgs s_l_by) (defBody s_l_by) (defScope s_l_by) .none kV25 dc25 pm25 an25 cd25 ct25, fa, PySem.W.fnOf "law" "law" (defArgs s_law) (defBody s_law) (defScope s_law) .none kV26 dc26 pm26 an26 cd26 ct26, C_FurrowError, C_NoTurning, .int 1000000000000000000 t_MOST_SHIFT, u_OTHER_WAYS, c_tab, p_tab, c_tab2, p_tab2, c_tab3, p_tab3⟩, ⟨fun_mk (st := s_sweep_at) l1 c1 k1, 
    (fun_mk (st := s_sweep_at) l1 c1 k1).binds (ps := ["plan", "path"]) (fun _ _ _ _ _ _ us hl => bd_sweep_at hl), 
    PySem.W.mg_of X G a1, 
    fun_mk (st := s_put_at) l2 c2 k2, 
    (fun_mk (st := s_put_at) l2 c2 k2).binds (ps := ["items", "path", "many", "others"]) (fun _ _ _ _ _ _ us hl => bd_put_at hl), 
    PySem.W.mg_of X G a2, 
    fun_mk (st := s_deeds_within) l3 c3 k3, 
    (fun_mk (st := s_deeds_within) l3 c3 k3).binds (ps := ["items", "path", "cuts"]) (fun _ _ _ _ _ _ us hl => bd_deeds_within hl), 
    PySem.W.mg_of X G a3, 
    fun_mk (st := s_with_places) l4 c4 k4, 
    (fun_mk (st := s_with_places) l4 c4 k4).binds (ps := ["items", "change"]) (fun _ _ _ _ _ _ us hl => bd_with_places hl), 
    PySem.W.mg_of X G a4, 
    fun_mk (st := s_turned) l5 c5 k5, 
    (fun_mk (st := s_turned) l5 c5 k5).binds (ps := ["plan", "path"]) (fun _ _ _ _ _ _ us hl => bd_turned hl), 
    PySem.W.mg_of X G a5, 
    fun_mk (st := s_moved) l6 c6 k6, 
    (fun_mk (st := s_moved) l6 c6 k6).binds (ps := ["plan", "path", "k", "n"]) (fun _ _ _ _ _ _ us hl => bd_moved hl), 
    PySem.W.mg_of X G a6, 
    fun_mk (st := s_l_cell_at) l7 c7 k7, 
    (fun_mk (st := s_l_cell_at) l7 c7 k7).binds (ps := ["_law_script", "_law_k"]) (fun _ _ _ _ _ _ us hl => bd_l_cell_at hl), 
    PySem.W.mg_of X G a7, 
    fun_mk (st := s_l_whole) l8 c8 k8, 
    (fun_mk (st := s_l_whole) l8 c8 k8).binds (ps := ["_law_found"]) (fun _ _ _ _ _ _ us hl => bd_l_whole hl), 
    PySem.W.mg_of X G a8, 
    fun_mk (st := s_l_stream) l9 c9 k9, 
    (fun_mk (st := s_l_stream) l9 c9 k9).binds (ps := ["_law_cell", "_law_many"]) (fun _ _ _ _ _ _ us hl => bd_l_stream hl), 
    PySem.W.mg_of X G a9, 
    fun_mk (st := s_l_number) l10 c10 k10, 
    (fun_mk (st := s_l_number) l10 c10 k10).binds (ps := ["_law_cell", "_law_far"]) (fun _ _ _ _ _ _ us hl => bd_l_number hl), 
    PySem.W.mg_of X G a10, 
    fun_mk (st := s_l_steps) l11 c11 k11, 
    (fun_mk (st := s_l_steps) l11 c11 k11).binds (ps := ["_law_cells"]) (fun _ _ _ _ _ _ us hl => bd_l_steps hl), 
    PySem.W.mg_of X G a11, 
    fun_mk (st := s_l_places) l12 c12 k12, 
    (fun_mk (st := s_l_places) l12 c12 k12).binds (ps := ["_law_opened", "_law_cell"]) (fun _ _ _ _ _ _ us hl => bd_l_places hl), 
    PySem.W.mg_of X G a12, 
    fun_mk (st := s_l_leaves) l13 c13 k13, 
    (fun_mk (st := s_l_leaves) l13 c13 k13).binds (ps := ["_law_cells", "_law_turn_here"]) (fun _ _ _ _ _ _ us hl => bd_l_leaves hl), 
    PySem.W.mg_of X G a13, 
    fun_mk (st := s_l_items) l14 c14 k14, 
    (fun_mk (st := s_l_items) l14 c14 k14).binds (ps := ["_law_leaves_here", "_law_depth"]) (fun _ _ _ _ _ _ us hl => bd_l_items hl), 
    PySem.W.mg_of X G a14, 
    fun_mk (st := s_l_groups) l15 c15 k15, 
    (fun_mk (st := s_l_groups) l15 c15 k15).binds (ps := ["_law_leaves_here", "_law_path_here", "_law_first"]) (fun _ _ _ _ _ _ us hl => bd_l_groups hl), 
    PySem.W.mg_of X G a15, 
    fun_mk (st := s_l_at) l16 c16 k16, 
    (fun_mk (st := s_l_at) l16 c16 k16).binds (ps := ["_law_groups_here", "_law_path_here"]) (fun _ _ _ _ _ _ us hl => bd_l_at hl), 
    PySem.W.mg_of X G a16, 
    fun_mk (st := s_l_path) l17 c17 k17, 
    (fun_mk (st := s_l_path) l17 c17 k17).binds (ps := ["_law_groups_here", "_law_fit", "_law_cell", "_law_way"]) (fun _ _ _ _ _ _ us hl => bd_l_path hl), 
    PySem.W.mg_of X G a17, 
    fun_mk (st := s_l_kinds) l18 c18 k18, 
    (fun_mk (st := s_l_kinds) l18 c18 k18).binds (ps := ["_law_items_here"]) (fun _ _ _ _ _ _ us hl => bd_l_kinds hl), 
    PySem.W.mg_of X G a18, 
    fun_mk (st := s_l_changed) l19 c19 k19, 
    (fun_mk (st := s_l_changed) l19 c19 k19).binds (ps := ["_law_leaves_here", "_law_one", "_law_change"]) (fun _ _ _ _ _ _ us hl => bd_l_changed hl), 
    PySem.W.mg_of X G a19, 
    fun_mk (st := s_l_turned) l20 c20 k20, 
    (fun_mk (st := s_l_turned) l20 c20 k20).binds (ps := ["_law_leaves_here", "_law_one"]) (fun _ _ _ _ _ _ us hl => bd_l_turned hl), 
    PySem.W.mg_of X G a20, 
    fun_mk (st := s_l_moved) l21 c21 k21, 
    (fun_mk (st := s_l_moved) l21 c21 k21).binds (ps := ["_law_leaves_here", "_law_one", "_law_k", "_law_n"]) (fun _ _ _ _ _ _ us hl => bd_l_moved hl), 
    PySem.W.mg_of X G a21, 
    fun_mk (st := s_l_turn) l22 c22 k22, 
    (fun_mk (st := s_l_turn) l22 c22 k22).binds (ps := ["_law_plan", "_law_path_here"]) (fun _ _ _ _ _ _ us hl => bd_l_turn hl), 
    PySem.W.mg_of X G a22, 
    fun_mk (st := s_l_move) l23 c23 k23, 
    (fun_mk (st := s_l_move) l23 c23 k23).binds (ps := ["_law_plan", "_law_path_here", "_law_k", "_law_n"]) (fun _ _ _ _ _ _ us hl => bd_l_move hl), 
    PySem.W.mg_of X G a23, 
    fun_mk (st := s_l_alike) l24 c24 k24, 
    (fun_mk (st := s_l_alike) l24 c24 k24).binds (ps := ["_law_found", "_law_due"]) (fun _ _ _ _ _ _ us hl => bd_l_alike hl), 
    PySem.W.mg_of X G a24, 
    fun_mk (st := s_l_by) l25 c25 k25, 
    (fun_mk (st := s_l_by) l25 c25 k25).binds (ps := ["_law_cell", "_law_leaves_here", "_law_one", "_law_k"]) (fun _ _ _ _ _ _ us hl => bd_l_by hl), 
    PySem.W.mg_of X G a25, 
    fun_mk (st := s_law) l26 c26 k26, 
    (fun_mk (st := s_law) l26 c26 k26).binds (ps := ["_law_script"]) (fun _ _ _ _ _ _ us hl => bd_law hl), 
    PySem.W.mg_of X G a26, 
    PySem.W.mg_of X G a_FurrowError, 
    ⟨⟨xga_FurrowError, xgh_FurrowError, xbe_FurrowError, xsa_FurrowError, xhd_FurrowError, qmt_FurrowError, xob_FurrowError, (ct_of qct_FurrowError).elim fun N z => ⟨N, _, z⟩⟩, xca_FurrowError, hn0, ht0⟩, 
    ct_of qct_FurrowError, 
    ⟨⟨xga_FurrowError, xgh_FurrowError, xbe_FurrowError, xsa_FurrowError, xhd_FurrowError, qmt_FurrowError, xob_FurrowError, (ct_of qct_FurrowError).elim fun N z => ⟨N, _, z⟩⟩, xin_FurrowError, kc_FurrowError⟩, 
    PySem.W.mg_of X G a_NoTurning, 
    ⟨⟨xga_NoTurning, xgh_NoTurning, xbe_NoTurning, xsa_NoTurning, xhd_NoTurning, qmt_NoTurning, xob_NoTurning, (ct_of qct_NoTurning).elim fun N z => ⟨N, _, z⟩⟩, xca_NoTurning, hn0, ht0⟩, 
    ct_of qct_NoTurning, 
    ⟨⟨xga_NoTurning, xgh_NoTurning, xbe_NoTurning, xsa_NoTurning, xhd_NoTurning, qmt_NoTurning, xob_NoTurning, (ct_of qct_NoTurning).elim fun N z => ⟨N, _, z⟩⟩, xin_NoTurning, kc_NoTurning⟩, 
    dnd, 
    ⟨xbg, xbr, xbf⟩, 
    PySem.W.mg_none_of X G z_abs, 
    PySem.W.mg_none_of X G z_bool, 
    PySem.W.mg_none_of X G z_enumerate, 
    PySem.W.mg_none_of X G z_int, 
    PySem.W.mg_none_of X G z_isinstance, 
    PySem.W.mg_none_of X G z_len, 
    PySem.W.mg_none_of X G z_list, 
    PySem.W.mg_none_of X G z_max, 
    PySem.W.mg_none_of X G z_min, 
    PySem.W.mg_none_of X G z_range, 
    PySem.W.mg_none_of X G z_tuple, 
    PySem.W.mg_of X G g_MOST_SHIFT, 
    ⟨_, rfl⟩, 
    PySem.W.mg_of X G g_OTHER_WAYS, 
    rfl, 
    fun P => kdict2s q_OTHER_WAYS hh_OTHER_WAYS0 hh_OTHER_WAYS1 qsm_OTHER_WAYS (by decide +kernel), 
    a6, 
    tab_mk a6 l6 rfl l_tab qvt_tab, 
    hasNo_of qnt_tab, 
    a20, 
    tab_mk a20 l20 rfl l_tab2 qvt_tab2, 
    hasNo_of qnt_tab2, 
    of_decide_eq_false qpd1_2, 
    a21, 
    tab_mk a21 l21 rfl l_tab3 qvt_tab3, 
    hasNo_of qnt_tab3, 
    of_decide_eq_false qpd1_3, 
    of_decide_eq_false qpd2_3⟩, rfl, fun s v => .of_eq rfl⟩
end Fw
open PySem PySem.W PyProof.Rows
def PySem.W.Fast.tw10024327675447337216 : Nat := 0
def PySem.W.Fast.tw10075024764816242840 : Nat := 0
def PySem.W.Fast.tw10250483484564745850 : Nat := 0
def PySem.W.Fast.tw10257386977424138388 : Nat := 0
def PySem.W.Fast.tw10297031760511639115 : Nat := 0
def PySem.W.Fast.tw10335102895134225068 : Nat := 0
def PySem.W.Fast.tw104990863009739826 : Nat := 0
def PySem.W.Fast.tw10540192206893155717 : Nat := 0
def PySem.W.Fast.tw1066739884125528171 : Nat := 0
def PySem.W.Fast.tw1069360871881278527 : Nat := 0
def PySem.W.Fast.tw10873939768436791506 : Nat := 0
def PySem.W.Fast.tw10998648241166333692 : Nat := 0
def PySem.W.Fast.tw11003668343193228367 : Nat := 0
def PySem.W.Fast.tw11041096135359629132 : Nat := 0
def PySem.W.Fast.tw11154643180377286087 : Nat := 0
def PySem.W.Fast.tw111774815131439974 : Nat := 0
def PySem.W.Fast.tw11290859906356504287 : Nat := 0
def PySem.W.Fast.tw11338619692090933535 : Nat := 0
def PySem.W.Fast.tw11512277909549679004 : Nat := 0
def PySem.W.Fast.tw11673124650688958040 : Nat := 0
def PySem.W.Fast.tw11740304891466206560 : Nat := 0
def PySem.W.Fast.tw11808459038227262238 : Nat := 0
def PySem.W.Fast.tw11868700693500677116 : Nat := 0
def PySem.W.Fast.tw11907930426625233245 : Nat := 0
def PySem.W.Fast.tw11925191739837837289 : Nat := 0
def PySem.W.Fast.tw12334940872368987872 : Nat := 0
def PySem.W.Fast.tw12338380890855284622 : Nat := 0
def PySem.W.Fast.tw12352354422011302136 : Nat := 0
def PySem.W.Fast.tw12373666758035857825 : Nat := 0
def PySem.W.Fast.tw12384166176007712508 : Nat := 0
def PySem.W.Fast.tw12476679614864756265 : Nat := 0
def PySem.W.Fast.tw12509976192016848152 : Nat := 0
def PySem.W.Fast.tw12535493960341186645 : Nat := 0
def PySem.W.Fast.tw12587211908014458062 : Nat := 0
def PySem.W.Fast.tw12635952799230728035 : Nat := 0
def PySem.W.Fast.tw12696238199315718887 : Nat := 0
def PySem.W.Fast.tw12749414913136261648 : Nat := 0
def PySem.W.Fast.tw12817613857830204928 : Nat := 0
def PySem.W.Fast.tw13074280411424857763 : Nat := 0
def PySem.W.Fast.tw13317071487433262508 : Nat := 0
def PySem.W.Fast.tw13414748645182604993 : Nat := 0
def PySem.W.Fast.tw13485304418119682120 : Nat := 0
def PySem.W.Fast.tw13594761909811454896 : Nat := 0
def PySem.W.Fast.tw13621079249165851827 : Nat := 0
def PySem.W.Fast.tw13632233844363834064 : Nat := 0
def PySem.W.Fast.tw13665168187318871174 : Nat := 0
def PySem.W.Fast.tw13753036569998753558 : Nat := 0
def PySem.W.Fast.tw13797117376104945647 : Nat := 0
def PySem.W.Fast.tw13805668604178896157 : Nat := 0
def PySem.W.Fast.tw13832076768515093953 : Nat := 0
def PySem.W.Fast.tw13844733769170565994 : Nat := 0
def PySem.W.Fast.tw14166649511221034782 : Nat := 0
def PySem.W.Fast.tw1432241387110275045 : Nat := 0
def PySem.W.Fast.tw14327186387373376492 : Nat := 0
def PySem.W.Fast.tw14396840089712164617 : Nat := 0
def PySem.W.Fast.tw14532648544811715218 : Nat := 0
def PySem.W.Fast.tw14591542808072729891 : Nat := 0
def PySem.W.Fast.tw14599773544108057605 : Nat := 0
def PySem.W.Fast.tw14617646916634009254 : Nat := 0
def PySem.W.Fast.tw14671995158846291757 : Nat := 0
def PySem.W.Fast.tw1470680812626701197 : Nat := 0
def PySem.W.Fast.tw14747142971685241609 : Nat := 0
def PySem.W.Fast.tw15000274051307156829 : Nat := 0
def PySem.W.Fast.tw15008573740090643102 : Nat := 0
def PySem.W.Fast.tw15096316750484453147 : Nat := 0
def PySem.W.Fast.tw15123407097706864879 : Nat := 0
def PySem.W.Fast.tw15233184425631509130 : Nat := 0
def PySem.W.Fast.tw15335923478772019464 : Nat := 0
def PySem.W.Fast.tw15346253048461821000 : Nat := 0
def PySem.W.Fast.tw15474543951073556441 : Nat := 0
def PySem.W.Fast.tw15501012470235685213 : Nat := 0
def PySem.W.Fast.tw15620047090010994250 : Nat := 0
def PySem.W.Fast.tw15695763217021368741 : Nat := 0
def PySem.W.Fast.tw15825591055667057378 : Nat := 0
def PySem.W.Fast.tw15923544108093040556 : Nat := 0
def PySem.W.Fast.tw15970675583547822347 : Nat := 0
def PySem.W.Fast.tw1600154912981064691 : Nat := 0
def PySem.W.Fast.tw16175629201126914445 : Nat := 0
def PySem.W.Fast.tw16250088301424461831 : Nat := 0
def PySem.W.Fast.tw16267490077838773862 : Nat := 0
def PySem.W.Fast.tw16272637012752530210 : Nat := 0
def PySem.W.Fast.tw16319195322319083002 : Nat := 0
def PySem.W.Fast.tw16361281923712781013 : Nat := 0
def PySem.W.Fast.tw16460712809512319467 : Nat := 0
def PySem.W.Fast.tw16641589653386699048 : Nat := 0
def PySem.W.Fast.tw16697864567887240547 : Nat := 0
def PySem.W.Fast.tw16703193078446991852 : Nat := 0
def PySem.W.Fast.tw16772006645397946328 : Nat := 0
def PySem.W.Fast.tw16795219300901610013 : Nat := 0
def PySem.W.Fast.tw16893946678409360285 : Nat := 0
def PySem.W.Fast.tw17193403719349522666 : Nat := 0
def PySem.W.Fast.tw17350970043107067638 : Nat := 0
def PySem.W.Fast.tw17371757747420743336 : Nat := 0
def PySem.W.Fast.tw17497978265780563382 : Nat := 0
def PySem.W.Fast.tw17903555344649036428 : Nat := 0
def PySem.W.Fast.tw17953787516047622170 : Nat := 0
def PySem.W.Fast.tw18032109102828399391 : Nat := 0
def PySem.W.Fast.tw18041046526531572442 : Nat := 0
def PySem.W.Fast.tw18226942330095182851 : Nat := 0
def PySem.W.Fast.tw18308829350060827213 : Nat := 0
def PySem.W.Fast.tw18445053203223922497 : Nat := 0
def PySem.W.Fast.tw2014779805937344382 : Nat := 0
def PySem.W.Fast.tw2107877555403231680 : Nat := 0
def PySem.W.Fast.tw212724062658165963 : Nat := 0
def PySem.W.Fast.tw2210177055991775704 : Nat := 0
def PySem.W.Fast.tw2342926805077383320 : Nat := 0
def PySem.W.Fast.tw2425763751858641440 : Nat := 0
def PySem.W.Fast.tw2437689292573336091 : Nat := 0
def PySem.W.Fast.tw2467798059089388801 : Nat := 0
def PySem.W.Fast.tw2498491889698439521 : Nat := 0
def PySem.W.Fast.tw2535825302040349400 : Nat := 0
def PySem.W.Fast.tw2615709436980993289 : Nat := 0
def PySem.W.Fast.tw2876885433019700544 : Nat := 0
def PySem.W.Fast.tw2887070003286475001 : Nat := 0
def PySem.W.Fast.tw2903801647455318807 : Nat := 0
def PySem.W.Fast.tw3006035331529448771 : Nat := 0
def PySem.W.Fast.tw3165318940398456702 : Nat := 0
def PySem.W.Fast.tw3165421975193530743 : Nat := 0
def PySem.W.Fast.tw3222915524442342168 : Nat := 0
def PySem.W.Fast.tw3252229103246848662 : Nat := 0
def PySem.W.Fast.tw3252668371040625418 : Nat := 0
def PySem.W.Fast.tw3281575688782465553 : Nat := 0
def PySem.W.Fast.tw3285865762256588845 : Nat := 0
def PySem.W.Fast.tw3309283277648104807 : Nat := 0
def PySem.W.Fast.tw3457892372844408101 : Nat := 0
def PySem.W.Fast.tw3553858176515369998 : Nat := 0
def PySem.W.Fast.tw3680117185614486823 : Nat := 0
def PySem.W.Fast.tw374576625860615210 : Nat := 0
def PySem.W.Fast.tw3753938027236852939 : Nat := 0
def PySem.W.Fast.tw3885049331898998502 : Nat := 0
def PySem.W.Fast.tw3898467073896159890 : Nat := 0
def PySem.W.Fast.tw3953010901540864591 : Nat := 0
def PySem.W.Fast.tw4005991344914041700 : Nat := 0
def PySem.W.Fast.tw404271650967817568 : Nat := 0
def PySem.W.Fast.tw4166844607656977173 : Nat := 0
def PySem.W.Fast.tw433845861400125136 : Nat := 0
def PySem.W.Fast.tw4342073022945975565 : Nat := 0
def PySem.W.Fast.tw4446030322691732796 : Nat := 0
def PySem.W.Fast.tw4482880907451026057 : Nat := 0
def PySem.W.Fast.tw4502922429947950756 : Nat := 0
def PySem.W.Fast.tw4563730577488676291 : Nat := 0
def PySem.W.Fast.tw4653111090464448870 : Nat := 0
def PySem.W.Fast.tw4801897820224755381 : Nat := 0
def PySem.W.Fast.tw4832242287074683280 : Nat := 0
def PySem.W.Fast.tw4904970495939967337 : Nat := 0
def PySem.W.Fast.tw5021032037266949137 : Nat := 0
def PySem.W.Fast.tw502833903660200953 : Nat := 0
def PySem.W.Fast.tw5243741104185580337 : Nat := 0
def PySem.W.Fast.tw5248131079785682585 : Nat := 0
def PySem.W.Fast.tw5423941040753801010 : Nat := 0
def PySem.W.Fast.tw5538825368299955589 : Nat := 0
def PySem.W.Fast.tw5655003673675362183 : Nat := 0
def PySem.W.Fast.tw5696371880981292192 : Nat := 0
def PySem.W.Fast.tw5720146421003901014 : Nat := 0
def PySem.W.Fast.tw5737444137611436711 : Nat := 0
def PySem.W.Fast.tw5932420174796495702 : Nat := 0
def PySem.W.Fast.tw6025108414452255571 : Nat := 0
def PySem.W.Fast.tw6235238926085271600 : Nat := 0
def PySem.W.Fast.tw6255531995001264093 : Nat := 0
def PySem.W.Fast.tw6295788774212758758 : Nat := 0
def PySem.W.Fast.tw6337431666178494454 : Nat := 0
def PySem.W.Fast.tw6342847370286665764 : Nat := 0
def PySem.W.Fast.tw6359866919024537946 : Nat := 0
def PySem.W.Fast.tw6608733240974499371 : Nat := 0
def PySem.W.Fast.tw6649677918023051789 : Nat := 0
def PySem.W.Fast.tw6759290219745264213 : Nat := 0
def PySem.W.Fast.tw6890115622528227028 : Nat := 0
def PySem.W.Fast.tw6953677661458021522 : Nat := 0
def PySem.W.Fast.tw6956477735055724151 : Nat := 0
def PySem.W.Fast.tw7051631886034473136 : Nat := 0
def PySem.W.Fast.tw7168832944017967967 : Nat := 0
def PySem.W.Fast.tw7263121931848591088 : Nat := 0
def PySem.W.Fast.tw7386166485535189643 : Nat := 0
def PySem.W.Fast.tw746678778027942678 : Nat := 0
def PySem.W.Fast.tw7517535827876288675 : Nat := 0
def PySem.W.Fast.tw7603924577668465739 : Nat := 0
def PySem.W.Fast.tw7631439822156656268 : Nat := 0
def PySem.W.Fast.tw7771689998178274808 : Nat := 0
def PySem.W.Fast.tw7832056787475752586 : Nat := 0
def PySem.W.Fast.tw7926216459622599950 : Nat := 0
def PySem.W.Fast.tw8002993400777493038 : Nat := 0
def PySem.W.Fast.tw8116057662085085770 : Nat := 0
def PySem.W.Fast.tw8329767585658207218 : Nat := 0
def PySem.W.Fast.tw8532248768568253277 : Nat := 0
def PySem.W.Fast.tw8562021725869257126 : Nat := 0
def PySem.W.Fast.tw8762695594931063166 : Nat := 0
def PySem.W.Fast.tw8906667808051951377 : Nat := 0
def PySem.W.Fast.tw8929264192065853960 : Nat := 0
def PySem.W.Fast.tw9119852395919885611 : Nat := 0
def PySem.W.Fast.tw9149975747559885765 : Nat := 0
def PySem.W.Fast.tw9282918547422160479 : Nat := 0
def PySem.W.Fast.tw9558207931293354858 : Nat := 0
def PySem.W.Fast.tw9603549170830788055 : Nat := 0
def PySem.W.Fast.tw9833238796067403645 : Nat := 0
def PySem.W.Fast.tw9908944571736582073 : Nat := 0
def PySem.W.Fast.tw9930420452287371979 : Nat := 0
def PySem.W.Fast.tw9961118921450732771 : Nat := 0
def PySem.W.Fast.tw9981336625167487402 : Nat := 0
set_option maxRecDepth 100000 in
set_option maxHeartbeats 0 in
theorem PySem.Challenge.cw_furrow_k88_turned_and_moved_holds : PySem.Challenge.rw_furrow_k88_turned_and_moved.Holds := by
  w_on; o_law; k_head; (case hw => w_witness2)
  k_fill
  refine L2.law_walkTs (l := PySem.Challenge.rw_furrow_k88_turned_and_moved) (x := "_law_script") ["moved", "_law_turned", "_law_moved"] 20 (by decide) rfl rfl (by kernel_rfl) (fun w h Y => PySem.W.km_in_of Y) ?F
  case F =>
    intro w mg fa h KX G hmg
    suffices hh : ∃ a : Fw.Ad, Fw.Tx w _ mg a ∧ fa = a.f_law ∧ (∀ (s : Shared) (v : Value), BindsTo s a.d_law ⟨[v], []⟩ [("_law_script", v)]) by
      obtain ⟨a, T, e, b⟩ := hh
      subst e
      exact ⟨a.d_law, [(a.c_tab, a.p_tab), (a.c_tab2, a.p_tab2), (a.c_tab3, a.p_tab3)], (fun x hx => by
        rcases List.mem_cons.mp hx with rfl | hx
        · exact ⟨⟨_, (List.mem_cons_self), T.tb⟩, T.np⟩
        rcases List.mem_cons.mp hx with rfl | hx
        · exact ⟨⟨_, (List.mem_cons_of_mem _ (List.mem_cons_self)), T.tb2⟩, T.np2⟩
        rcases List.mem_cons.mp hx with rfl | hx
        · exact ⟨⟨_, (List.mem_cons_of_mem _ (List.mem_cons_of_mem _ (List.mem_cons_self))), T.tb3⟩, T.np3⟩
        cases hx), b, fun base _ _ LT => Fw.ok_law T (LT _ (List.mem_cons_self)) (LT _ (List.mem_cons_of_mem _ (List.mem_cons_self))) (LT _ (List.mem_cons_of_mem _ (List.mem_cons_of_mem _ (List.mem_cons_self))))⟩
    refine' Fw.txt_mk KX G hmg ?a_FurrowError ?a_NoTurning ?a1 ?l1 ?c1 ?k1 ?a2 ?l2 ?c2 ?k2 ?a3 ?l3 ?c3 ?k3 ?a4 ?l4 ?c4 ?k4 ?a5 ?l5 ?c5 ?k5 ?a6 ?l6 ?c6 ?k6 ?a7 ?l7 ?c7 ?k7 ?a8 ?l8 ?c8 ?k8 ?a9 ?l9 ?c9 ?k9 ?a10 ?l10 ?c10 ?k10 ?a11 ?l11 ?c11 ?k11 ?a12 ?l12 ?c12 ?k12 ?a13 ?l13 ?c13 ?k13 ?a14 ?l14 ?c14 ?k14 ?a15 ?l15 ?c15 ?k15 ?a16 ?l16 ?c16 ?k16 ?a17 ?l17 ?c17 ?k17 ?a18 ?l18 ?c18 ?k18 ?a19 ?l19 ?c19 ?k19 ?a20 ?l20 ?c20 ?k20 ?a21 ?l21 ?c21 ?k21 ?a22 ?l22 ?c22 ?k22 ?a23 ?l23 ?c23 ?k23 ?a24 ?l24 ?c24 ?k24 ?a25 ?l25 ?c25 ?k25 ?a26 ?l26 ?c26 ?k26 ?hn0 ?ht0 ?xga_FurrowError ?xgh_FurrowError ?xbe_FurrowError ?xsa_FurrowError ?xhd_FurrowError ?qmt_FurrowError ?xob_FurrowError ?qct_FurrowError ?xca_FurrowError ?kc_FurrowError ?xin_FurrowError ?xga_NoTurning ?xgh_NoTurning ?xbe_NoTurning ?xsa_NoTurning ?xhd_NoTurning ?qmt_NoTurning ?xob_NoTurning ?qct_NoTurning ?xca_NoTurning ?kc_NoTurning ?xin_NoTurning ?dnd ?xbg ?xbr ?xbf ?z_abs ?z_bool ?z_enumerate ?z_int ?z_isinstance ?z_len ?z_list ?z_max ?z_min ?z_range ?z_tuple ?g_MOST_SHIFT ?g_OTHER_WAYS ?q_OTHER_WAYS ?hh_OTHER_WAYS0 ?hh_OTHER_WAYS1 ?qsm_OTHER_WAYS ?l_tab ?qvt_tab ?qnt_tab ?l_tab2 ?qvt_tab2 ?qnt_tab2 ?qpd1_2 ?l_tab3 ?qvt_tab3 ?qnt_tab3 ?qpd1_3 ?qpd2_3
    (case a_FurrowError => k_is)
    (case a_NoTurning => k_is)
    (case a1 => k_is)
    (case l1 => k_is)
    (case c1 => k_is)
    (case k1 => k_is)
    (case a2 => k_is)
    (case l2 => k_is)
    (case c2 => k_is)
    (case k2 => k_is)
    (case a3 => k_is)
    (case l3 => k_is)
    (case c3 => k_is)
    (case k3 => k_is)
    (case a4 => k_is)
    (case l4 => k_is)
    (case c4 => k_is)
    (case k4 => k_is)
    (case a5 => k_is)
    (case l5 => k_is)
    (case c5 => k_is)
    (case k5 => k_is)
    (case a6 => k_is)
    (case l6 => k_is)
    (case c6 => k_is)
    (case k6 => k_is)
    (case a7 => k_is)
    (case l7 => k_is)
    (case c7 => k_is)
    (case k7 => k_is)
    (case a8 => k_is)
    (case l8 => k_is)
    (case c8 => k_is)
    (case k8 => k_is)
    (case a9 => k_is)
    (case l9 => k_is)
    (case c9 => k_is)
    (case k9 => k_is)
    (case a10 => k_is)
    (case l10 => k_is)
    (case c10 => k_is)
    (case k10 => k_is)
    (case a11 => k_is)
    (case l11 => k_is)
    (case c11 => k_is)
    (case k11 => k_is)
    (case a12 => k_is)
    (case l12 => k_is)
    (case c12 => k_is)
    (case k12 => k_is)
    (case a13 => k_is)
    (case l13 => k_is)
    (case c13 => k_is)
    (case k13 => k_is)
    (case a14 => k_is)
    (case l14 => k_is)
    (case c14 => k_is)
    (case k14 => k_is)
    (case a15 => k_is)
    (case l15 => k_is)
    (case c15 => k_is)
    (case k15 => k_is)
    (case a16 => k_is)
    (case l16 => k_is)
    (case c16 => k_is)
    (case k16 => k_is)
    (case a17 => k_is)
    (case l17 => k_is)
    (case c17 => k_is)
    (case k17 => k_is)
    (case a18 => k_is)
    (case l18 => k_is)
    (case c18 => k_is)
    (case k18 => k_is)
    (case a19 => k_is)
    (case l19 => k_is)
    (case c19 => k_is)
    (case k19 => k_is)
    (case a20 => k_is)
    (case l20 => k_is)
    (case c20 => k_is)
    (case k20 => k_is)
    (case a21 => k_is)
    (case l21 => k_is)
    (case c21 => k_is)
    (case k21 => k_is)
    (case a22 => k_is)
    (case l22 => k_is)
    (case c22 => k_is)
    (case k22 => k_is)
    (case a23 => k_is)
    (case l23 => k_is)
    (case c23 => k_is)
    (case k23 => k_is)
    (case a24 => k_is)
    (case l24 => k_is)
    (case c24 => k_is)
    (case k24 => k_is)
    (case a25 => k_is)
    (case l25 => k_is)
    (case c25 => k_is)
    (case k25 => k_is)
    (case a26 => k_is)
    (case l26 => k_is)
    (case c26 => k_is)
    (case k26 => k_is)
    (case hn0 => k_is)
    (case ht0 => k_is)
    (case xga_FurrowError => k_is)
    (case xgh_FurrowError => k_is)
    (case xbe_FurrowError => k_is)
    (case xsa_FurrowError => k_is)
    (case xhd_FurrowError => k_is)
    (case qmt_FurrowError => kernel_rfl)
    (case xob_FurrowError => k_is)
    (case qct_FurrowError => kernel_rfl)
    (case xca_FurrowError => k_is)
    (case kc_FurrowError => k_is)
    (case xin_FurrowError => k_is)
    (case xga_NoTurning => k_is)
    (case xgh_NoTurning => k_is)
    (case xbe_NoTurning => k_is)
    (case xsa_NoTurning => k_is)
    (case xhd_NoTurning => k_is)
    (case qmt_NoTurning => kernel_rfl)
    (case xob_NoTurning => k_is)
    (case qct_NoTurning => kernel_rfl)
    (case xca_NoTurning => k_is)
    (case kc_NoTurning => k_is)
    (case xin_NoTurning => k_is)
    (case dnd => decide)
    (case xbg => k_is)
    (case xbr => k_is)
    (case xbf => k_is)
    (case z_abs => k_is)
    (case z_bool => k_is)
    (case z_enumerate => k_is)
    (case z_int => k_is)
    (case z_isinstance => k_is)
    (case z_len => k_is)
    (case z_list => k_is)
    (case z_max => k_is)
    (case z_min => k_is)
    (case z_range => k_is)
    (case z_tuple => k_is)
    (case g_MOST_SHIFT => k_is)
    (case g_OTHER_WAYS => k_is)
    (case q_OTHER_WAYS => k_is)
    (case hh_OTHER_WAYS0 => exact rfl)
    (case hh_OTHER_WAYS1 => exact rfl)
    (case qsm_OTHER_WAYS => kernel_rfl)
    (case l_tab => k_is)
    (case qvt_tab => exact rfl)
    (case qnt_tab => kernel_rfl)
    (case l_tab2 => k_is)
    (case qvt_tab2 => exact rfl)
    (case qnt_tab2 => kernel_rfl)
    (case qpd1_2 => decide)
    (case l_tab3 => k_is)
    (case qvt_tab3 => exact rfl)
    (case qnt_tab3 => kernel_rfl)
    (case qpd1_3 => decide)
    (case qpd2_3 => decide)
#print axioms PySem.Challenge.cw_furrow_k88_turned_and_moved_holds
