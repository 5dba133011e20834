import PyProof.Rows.All
import Wide.All
import OpenK.AllK
import Wide.FinOn
import Lean
import PyProof.EqAt
import PyProof.EqKinds
import PyProof.TupleCall
import PyProof.ListMulRoad
import PySem.Challenge.RW_furrow_k68_cut_round_itself
set_option genSizeOf false
set_option genInjectivity false
set_option compiler.extract_closed false
set_option Elab.async false
set_option linter.all false
set_option maxRecDepth 100000
set_option maxHeartbeats 4000000
noncomputable section
abbrev Faa:=PySem.W.Frag
def A9:=@PySem.wpAny_bind
def Af:=@Nat.le_refl
def Al:=@if_neg
def Ap:=@if_pos
def As:=@List.getElem?_eq_getElem
def Au:=@List.length_map
def Ay:=@List.getElem?_eq_some_iff
def AA:=@PySem.wpAny_pure
def AB:=@List.length_append
def AD:=@PySem.Heap.get?_push_of_some
def AG:=@PySem.Heap.lt_size
def AH:=@List.mem_of_getElem?
def AV:=@Nat.ne_of_lt
def AY:=@List.length_take
def AZ:=@List.mem_cons
def B4:=@List.length_singleton
def Bc:=@List.size_toArray
def Be:=@PySem.W.mg_of
def Bj:=@Nat.zero_le
def Bk:=@decide_eq_false
def Bq:=@List.getElem?_map
def Bv:=@List.getD_eq_getElem?_getD
def Bw:=@decide_eq_true
def Bx:=@List.map_cons
def Bz:=@List.getElem?_append_right
def BA:=@List.map_append
def BH:=@List.length_cons
def BL:=@List.mem_singleton
def BO:=@Nat.lt_of_lt_of_le
def BR:=@List.getElem?_append_left
def BX:=@List.mem_append
def C7:=@PySem.Heap.get?_push_size
def Cd:=@List.mem_cons_of_mem
def Ck:=@Option.some.inj
def Cm:=@Bool.false_ne_true
def Cn:=@Nat.sub_self
def Co:=@List.mem_map
def Cv:=@Nat.le_add_right
def Cz:=@List.mem_cons_self
def CA:=@PySem.F.plainAttrs_list
def CD:=@List.mem_append_right
def CL:=@Nat.le_trans
def CM:=@Nat.ne_of_gt
def CN:=@PySem.wpAny_mono
def Da:=@Nat.lt_or_ge
def Dp:=@List.append_assoc
def Dr:=@Int.emod_nonneg
def Dt:=@Int.emod_lt_of_pos
def Du:=@List.take_of_length_le
def Dv:=@List.not_mem_nil
def Dx:=@List.length_range
def Dy:=@PySem.F.slot_list_append
def Dz:=@PySem.F.type_list_append
def DN:=@List.mem_append_left
def DO:=@List.getElem?_take_of_lt
def DP:=@List.getElem?_range
def DQ:=@PySem.wpAny_field
def E5:=@List.mem_iff_getElem
def Er:=@PySem.wpAny_holding
def EJ:=@Bool.and_eq_true
def EK:=@PySem.W.mg_none_of
def F3:=@Nat.lt_irrefl
def Fu:=@Nat.le_of_lt
def Fv:=@PySem.W.kia_one
def Fx:=@List.length_drop
def Fy:=@PySem.wpAny_seqItems
def G3:=@List.mem_range
def G4:=@List.length_nil
def G5:=@Nat.min_eq_left
def G6:=@Int.natCast_nonneg
def Gy:=@Array.length_toList
def Gz:=@Nat.lt_succ_self
def GA:=@List.nodup_cons
def GC:=@PySem.Heap.get?_update_other
def GD:=@List.nil_append
def GE:=@List.lookup_cons
def GF:=@Int.le_refl
def GG:=@List.drop_eq_getElem_cons
def GH:=@Int.zero_add
def GI:=@beq_iff_eq
def GJ:=@PySem.wpAny_setField_rec
def Hs:=@PyProof.Rows.callWith_type1
def Ht:=@Nat.le_succ
def Hu:=@List.getElem_mem
def Hv:=@List.range_succ
def Hw:=@List.getElem?_cons_succ
def Hx:=@List.take_take
def Hy:=@beq_eq_false_iff_ne
def Hz:=@PySem.sizeLine_eq
def HI:=@if_true
def HJ:=@of_decide_eq_true
def IW:=@List.getElem?_eq_none_iff
def IX:=@List.append_nil
def IY:=@List.map_nil
def IZ:=@PySem.Heap.get?_update_self
def J0:=@List.replicate_succ
def J3:=@Nat.succ_mul
def J4:=@Option.map_some
def J5:=@Nat.zero_add
def J6:=@Option.getD_some
def J7:=@List.getElem?_drop
def J8:=@List.mem_of_mem_take
def J9:=@Nat.not_lt_zero
def Ja:=@PySem.wpAny_standAt
def Jb:=@PySem.wpAny_passesOwn
def Jc:=@PySem.wpAny_pyIter_list
def Jd:=@PySem.wpAny_call
def Je:=@PySem.codeAny_mono
def Jf:=@PySem.call_meets
def Jg:=@PySem.wpAny_loadPart_at
def Kw:=@Bool.eq_iff_iff
def Kx:=@PySem.Heap.size_push
def Ky:=@Int.toNat_natCast
def Kz:=@List.find?_cons
def KA:=@List.drop_zero
def KB:=@List.map_map
def KC:=@List.take_length
def KD:=@List.head?_eq_getElem?
def KE:=@List.mem_of_mem_drop
def KF:=@List.take_left'
def KG:=@List.take_append_of_le_length
def KH:=@PySem.wpAny_Call_Name_kw
def KI:=@if_false
def KJ:=@PySem.wpAny_newObj_type
def KL:=@PySem.wpAny_pyIter_zip
def KM:=@PySem.wpAny_letGo
def MH:=@List.mem_filter
def MI:=@PySem.mem_of_lookup
def MJ:=@List.any_cons
def MK:=@Nat.add_comm
def ML:=@Nat.lt_trans
def MM:=@List.forIn_cons
def MN:=@List.drop_eq_nil_of_le
def MO:=@PySem.Heap.get?_push_cases
def MP:=@List.getLast?_eq_getElem?
def MQ:=@Array.getElem?_eq_some_iff
def MS:=@PySem.wpAny_execs_nil
def MU:=@PySem.wpAny_call_entry
def MV:=@PySem.wpAny_typeOf
def MW:=@PySem.wpAny_setField
def MX:=@PySem.wpAny_onRaise
def Ol:=@PySem.W.callWith_K
def Om:=@PyProof.Rows.slot_tuple_getitem
def On:=@List.flatten_cons
def Oo:=@Bool.and_false
def Oq:=@Nat.sub_zero
def Os:=@List.pairwise_map
def Ot:=@List.ext_getElem?
def Ou:=@Classical.choose_spec
def Ov:=@List.mem_iff_getElem?
def Ow:=@List.getElem_map
def Ox:=@List.eq_nil_of_length_eq_zero
def Oy:=@PySem.F.slot_list_extend
def OA:=@PySem.F.type_list_extend
def OB:=@PySem.wpAny_pyIter_tuple
def OC:=@PySem.wpAny_pyIter_enum
def OD:=@PySem.wpAny_isSubtype_exc
def RH:=@List.filterMap_cons
def RI:=@List.of_mem_zip
def RJ:=@PySem.F.slot_tuple_add
def RK:=@PySem.F.entry_tuple_add
def RL:=@PySem.F.args_tuple_add_2
def RM:=@PySem.F.slot_dict_get
def RN:=@List.all_eq_true
def RO:=@List.any_eq_true
def RP:=@List.nodup_iff_pairwise_ne
def RQ:=@List.map_congr_left
def RS:=@List.getElem?_eq_none
def RT:=@Array.getElem?_eq_getElem
def RU:=@PySem.Heap.SameBut.update
def RV:=@Nat.lt_or_eq_of_le
def RW:=@List.pairwise_iff_getElem
def RX:=@Nat.lt_trichotomy
def RY:=@Bool.false_eq_true
def RZ:=@PySem.Heap.IsList.push
def S1:=@Nat.eq_zero_or_pos
def S2:=@List.drop_of_length_le
def S3:=@List.filter_append
def S4:=@List.countP_append
def S5:=@List.length_filter_le
def S6:=@Nat.mul_le_mul_right
def S7:=@PySem.wpAny_truthy_bool
def S8:=@PySem.wpAny_pyNext_list_item
def S9:=@PySem.wpAny_pyNext_list_end
def Sa:=@PySem.noFill_tuple_add
def Sb:=@PySem.tupleKind_room_in1
def Sd:=@decide_eq_true_eq
def Se:=@PySem.wpAny_letOwnedTupleGo_zip
def Sf:=@beq_self_eq_true
def Sg:=@PySem.codeAny_call_builtin
def bx:=@PyProof.Rows.callWith_builtin1
def bI:=@List.idxOf_lt_length_of_mem
def bL:=@PySem.plainObj_wpAny_Assign_Attribute
namespace L2
open PySem PySem.Spec PyProof.Rows
abbrev AC:=Sum Int Str
noncomputable def IC:AC->Value->Bool
 |.inl k,v=>Value.isInt k v
 |.inr x,v=>Value.isStrOf x v
noncomputable def Ya (w:World):AC->Int
 |.inl k=>hashInt k
 |.inr x=>hashStr w x
theorem FH:∀{k:AC} {v:Value},IC k v=true->(∃i t,k=Sum.inl i/\v=Value.int i t)\/(∃x t,k=Sum.inr x/\v=Value.str x t)
 |
  .inl i,v,h=>by
  obtain⟨t,e⟩:=Value.isInt_shape (k:=i) (v:=v) h
  exact .inl ⟨i,t,rfl,e⟩
 |
  .inr x,v,h=>by
  obtain⟨t,e⟩:=Value.isStrOf_shape (x:=x) (v:=v) h
  exact .inr ⟨x,t,rfl,e⟩
theorem W0 (i:Int)(t:Tok):IC (.inl i) (.int i t)=true:=by simp[IC,Value.isInt]
theorem YI (x:Str)(t:Tok):IC (.inr x) (.str x t)=true:=by simp[IC,Value.isStrOf]
theorem Yb (a b:Int):decide ((Sum.inl a:AC)=Sum.inl b)=(a==b):=by
 by_cases e:a=b
 .subst e;simp
 .have h:¬(Sum.inl a:AC)=Sum.inl b:=fun q=>e (Sum.inl.inj q)
  rw[Bk h]
  exact(Hy.mpr e).symm
theorem Xn (a b:Str):decide ((Sum.inr a:AC)=Sum.inr b)=decide (a=b):=by
 by_cases e:a=b
 .subst e;simp
 .have h:¬(Sum.inr a:AC)=Sum.inr b:=fun q=>e (Sum.inr.inj q)
  rw[Bk h,Bk e]
theorem Zs (a:Int)(b:Str):decide ((Sum.inl a:AC)=Sum.inr b)=false:=Bk (fun q=>nomatch q)
theorem Vs (a:Str)(b:Int):decide ((Sum.inr a:AC)=Sum.inl b)=false:=Bk (fun q=>nomatch q)
noncomputable def BQ (prog:Program)(w:World):PySem.KeyKind prog w AC where
 is:=IC
 hash:=Ya w
 inj:=fun v a b ha hb=>by
  rcases FH ha with⟨i,t,rfl,rfl⟩|⟨x,t,rfl,rfl⟩
  .rcases FH hb with⟨j,u,rfl,e⟩|⟨y,u,rfl,e⟩
   .injection e with e1 _;rw[e1]
   .exact nomatch e
  .rcases FH hb with⟨j,u,rfl,e⟩|⟨y,u,rfl,e⟩
   .exact nomatch e
   .injection e with e1 _;rw[e1]
 byValue:=fun k v h=>by
  rcases FH h with⟨i,t,rfl,rfl⟩|⟨x,t,rfl,rfl⟩<;>rfl
 pyHash:=fun hv h=>by
  rcases FH hv with⟨i,t,rfl,rfl⟩|⟨x,t,rfl,rfl⟩
  .exact wpAny_pyHash_int h
  .exact wpAny_pyHash_str h
 eqBool:=fun hu hv h=>by
  rcases FH hu with⟨i,t,rfl,rfl⟩|⟨x,t,rfl,rfl⟩
  .rcases FH hv with⟨j,u,rfl,rfl⟩|⟨y,u,rfl,rfl⟩
   .rw[Yb]at h;exact wpAny_eqBool_int h
   .rw[Zs]at h;exact SeqAt.EqAt.int_str i t y u _ _ _ _ h
  .rcases FH hv with⟨j,u,rfl,rfl⟩|⟨y,u,rfl,rfl⟩
   .rw[Vs]at h;exact SeqAt.EqAt.str_int x t j u _ _ _ _ h
   .rw[Xn]at h;exact wpAny_eqBool_str h
 «strs» := fun k x t v h=>by
  rcases FH h with⟨i,u,rfl,e⟩|⟨y,u,rfl,e⟩
  .exact nomatch e
  .injection e with e1 _
   subst e1
   cases v<;>rfl
theorem Tg (prog:Program)(w:World)(i:Int)(t:Tok):(BQ prog w).is (.inl i) (.int i t)=true:=W0 i t
theorem W9 (prog:Program)(w:World)(x:Str)(t:Tok):(BQ prog w).is (.inr x) (.str x t)=true:=YI x t
set_option genInjectivity true in
inductive V where
 |non|bl (b:Bool)|int (i:Int)|str (x:Str)|byt (b:Array UInt8)|flt (b:UInt64)|ref (a:Addr)|ty (n:String)
 deriving DecidableEq
def AE:V->Value->Prop
 |.non,u=>u=Value.none
 |.bl b,u=>u=Value.bool b
 |.int i,u=>∃t,u=Value.int i t
 |.str x,u=>∃t,u=Value.str x t
 |.byt b,u=>∃t,u=Value.bytes b t
 |.flt b,u=>∃t,u=Value.float b t
 |.ref a,u=>u=Value.ref a
 |.ty n,u=>u=Value.type n
abbrev Aw:List V->List Value->Prop:=Paired AE
theorem Aw.length {xs:List V}{us:List Value}(r:Aw xs us):xs.length=us.length:=Paired.length r
theorem Aw.get:∀{xs:List V} {us:List Value} {i:Nat} {x:V},Aw xs us->xs[i]?=some x->∃u,us[i]?=some u/\AE x u
 |_,_,_,_,.nil,e=>by simp at e
 |_,_,0,_,.cons r _,e=>by simp at e;subst e;exact⟨_,rfl,r⟩
 |
  _,_,i+1,x,.cons _ t,e=>by
  obtain⟨u,h1,h2⟩:=Aw.get (i:=i) (x:=x) t (by simpa using e)
  exact⟨u,by simpa using h1,h2⟩
theorem Aw.set {x:V}{u:Value}(r:AE x u):∀{xs:List V} {us:List Value} (i:Nat),Aw xs us->Aw (xs.set i x) (us.set i u)
 |_,_,_,.nil=>.nil
 |_,_,0,.cons _ t=>.cons r t
 |_,_,i+1,.cons q t=>.cons q (Aw.set r i t)
theorem Aw.append:∀{xs ys:List V} {us ws:List Value},Aw xs us->Aw ys ws->Aw (xs++ys) (us++ws)
 |_,_,_,_,.nil,s=>s
 |_,_,_,_,.cons r t,s=>.cons r (Aw.append t s)
theorem Aw.take:∀{xs:List V} {us:List Value} (n:Nat),Aw xs us->Aw (xs.take n) (us.take n)
 |_,_,0,_=>.nil
 |_,_,_+1,.nil=>.nil
 |_,_,n+1,.cons r t=>.cons r (Aw.take n t)
theorem Aw.drop:∀{xs:List V} {us:List Value} (n:Nat),Aw xs us->Aw (xs.drop n) (us.drop n)
 |_,_,0,r=>r
 |_,_,_+1,.nil=>.nil
 |_,_,n+1,.cons _ t=>Aw.drop n t
theorem Aw.none_of:∀{xs:List V} {us:List Value} {i:Nat},Aw xs us->xs[i]?=none->us[i]?=none:=fun{xs us i} r e=>by
 have h1:=r.length
 have h2:xs.length<=i:=IW.mp e
 exact IW.mpr (by lia)
def DJ:Option V->Option Value->Prop
 |some v,some u=>AE v u
 |none,none=>True
 |_,_=>False
def KV {κ:Type}:List (κ×V)->List (κ×Value)->Prop:=Paired fun(p:κ×V) (q:κ×Value)=>p.1=q.1/\AE p.2 q.2
noncomputable def kV:AC->V
 |.inl i=>.int i
 |.inr x=>.str x
set_option genInjectivity true in
inductive HO where
 |lst (xs:List V)
 |tup (xs:List V)
 |dK (kvs:List (AC×V))|dT (kvs:List (List AC×V))
 |set (S:Int->Bool) (n:Nat)
 |ins (C dx:Addr) (fs:List (Str×V))
 |own (x:Addr)
 |xd (fs:List (Str×V))
 |met (f x:Addr)
 |rng (lo hi:Int)
 |frz (o:Obj) (u:HO)
 |tbl (ps:Array Value)
 |ext (φ:Heap->Prop)
abbrev Hp:=Addr->Option HO
noncomputable def upd (H:Hp)(a:Addr)(o:HO):Hp:=fun b=>if b=a then some o else H b
theorem A7 {H:Hp}{a:Addr}{o:HO}:upd H a o a=some o:=by unfold upd;rw[Ap rfl]
theorem Ai {H:Hp}{a b:Addr}{o:HO}(h:b≠a):upd H a o b=H b:=by unfold upd;rw[Al h]
theorem Sq {H:Hp}{a:Addr}{o u:HO}:upd (upd H a o) a u=upd H a u:=by
 funext b;unfold upd;split<;>rfl
theorem E9 {H:Hp}{a b:Addr}{o u:HO}(h:H a=some o)(h':H b=some u)(d:o≠u):a≠b:=by
 intro e;subst e;rw[h]at h';exact d (Ck h')
theorem AQ {H:Hp}{a b:Addr}{o:HO}(h:H a=some o)(h':H b=none):a≠b:=by
 intro e;subst e;rw[h]at h';cases h'
section
variable (P:Program)(w:World)
def Ep (h:Heap)(a:Addr)(its:Array Value):Prop := ∃o,h.get? a=some o/\o.cls = .type "tuple"/\(∃n,o.data = .seq its n)/\o.dict=none
theorem Ep.tup {h:Heap}{a:Addr}{its:Array Value}(x:Ep h a its):IsTup h a its:=by obtain⟨o,e,c,d,_⟩:=x;exact⟨o,e,c,d⟩
theorem Ep.new (h:Heap)(its:Array Value):Ep (h.push {cls:=.type "tuple",data:=.seq its}) h.objs.size its:=⟨_,C7 _ rfl,rfl,⟨_,rfl⟩,rfl⟩
def BG (H:Hp)(h:Heap)(a:Addr):HO->Prop
 |.lst xs=>xs.length<=sizeLine/\∃(its:List Value) (n:Nat),Aw xs its/\h.get? a=some {cls:=.type "list",data:=.seq its.toArray n}
 |.tup xs=>xs.length<=sizeLine/\∃its:List Value,Aw xs its/\Ep h a its.toArray
 |.dK kvs=>kvs.length<=sizeLine/\(a==sysModules)=false/\∃vs,KV kvs vs/\h.DictOf (BQ P w) a vs
 |.dT kvs=>kvs.length<=sizeLine/\(a==sysModules)=false/\∃xs:List (List AC×Addr×Value),
  Paired (fun(p:List AC×V) (q:List AC×Addr×Value)=>p.1=q.1/\H q.2.1=some (.tup (p.1.map kV))/\AE p.2 q.2.2) kvs xs/\
  ∃o es ep,h.get? a=some o/\o.ExactDict/\o.data = .dict es ep/\es.toList=xs.map (entryOfKey (tupleKind (BQ P w)))/\(xs.map (·.1)).Nodup
 |.set S n=>h.SetOf (intKind P w) a S n
 |.ins C dx fs=>H dx=some (.own a)/\fs.length<=1000/\dx≠a/\h.get? a=some (PySem.W.instObj C dx)/\
  ∃mA,h.Ns1 dx mA/\(∀f,DJ (fs.lookup f) (mA f))/\PySem.Within mA (fs.map (·.1))
 |.own _=>∃o,h.get? a=some o
 |.xd fs=>∃mA,h.Ns1 a mA/\∀f,DJ (fs.lookup f) (mA f)
 |.rng lo hi=>∃t u v,h.get? a=some {cls:=.type "range",data:=.fields #[.int lo t,.int hi u,.int 1 v]}
 |.frz o u=>h.get? a=some o/\BG H h a u
 |.tbl ps=>h.get? a=some {cls:=.none,data:=.fields ps}
 |.met f x=>h.get? a=some (PySem.W.methodObj (.ref f) (.ref x))
 |.ext φ=>φ h/\(∃o,h.get? a=some o)/\∀h1 h2:Heap,φ h1->(∀o,h1.get? a=some o->h2.get? a=some o)->φ h2
def BD (H:Hp)(h:Heap):Prop := ∀a o,H a=some o->BG P w H h a o
end
section
variable {P:Program}{w:World}{H H':Hp}{h h':Heap}{a:Addr}{o:HO}
theorem BG.lt (x:BG P w H h a o):a<h.objs.size:=by
 cases o with
 |lst xs=>obtain⟨_,_,_,_,e⟩:=x;exact AG e
 |tup xs=>obtain⟨_,_,_,p⟩:=x;exact p.tup.lt
 |dK kvs=>obtain⟨_,_,_,_,o,_,_,e,_⟩:=x;exact AG e
 |dT kvs=>obtain⟨_,_,_,_,o,_,_,e,_⟩:=x;exact AG e
 |set S n=>obtain⟨o,_,_,_,e,_⟩:=x;exact AG e
 |ins C dx fs=>obtain⟨_,_,_,e,_⟩:=x;exact AG e
 |own y=>obtain⟨_,e⟩:=x;exact AG e
 |xd fs=>obtain⟨_,⟨_,_,_,e,_⟩,_⟩:=x;exact AG e
 |rng lo hi=>obtain⟨_,_,_,e⟩:=x;exact AG e
 |frz ob u=>obtain⟨e,_⟩:=x;exact AG e
 |tbl ps=>exact AG (show h.get? a=some _ from x)
 |met f y=>exact AG (show h.get? a=some _ from x)
 |ext φ=>obtain⟨_,⟨_,e⟩,_⟩:=x;exact AG e
theorem Paired.mapP {α β:Type}{F G:α->β->Prop}:∀{l₁:List α} {l₂:List β},Paired F l₁ l₂->(∀a b,F a b->G a b)->Paired G l₁ l₂
 |_,_,.nil,_=>.nil
 |_,_,.cons r t,f=>.cons (f _ _ r) (Paired.mapP t f)
theorem BG.stay (x:BG P w H h a o)(k:∀b u,(b=a\/H b=some (.own a))->h.get? b=some u->h'.get? b=some u)
  (ho:∀b,H b=some (.own a)->H' b=some (.own a)) (ht:∀b xs,H b=some (.tup xs)->H' b=some (.tup xs)):BG P w H' h' a o:=by
 induction o with
 |lst xs=>obtain⟨z,its,n,r,e⟩:=x;exact⟨z,its,n,r,k _ _ (.inl rfl) e⟩
 |tup xs=>obtain⟨z,its,r,ob,e,c⟩:=x;exact⟨z,its,r,ob,k _ _ (.inl rfl) e,c⟩
 |dK kvs=>obtain⟨z,y,vs,r,ob,es,ep,e,c⟩:=x;exact⟨z,y,vs,r,ob,es,ep,k _ _ (.inl rfl) e,c⟩
 |
  dT kvs=>
  obtain⟨z,y,xs,r,ob,es,ep,e,c⟩:=x
  exact⟨z,y,xs,Paired.mapP r fun p q z=>⟨z.1,ht _ _ z.2.1,z.2.2⟩,ob,es,ep,k _ _ (.inl rfl) e,c⟩
 |set S n=>obtain⟨ob,es,ep,t,e,c⟩:=x;exact⟨ob,es,ep,t,k _ _ (.inl rfl) e,c⟩
 |
  ins C dx fs=>
  obtain⟨d,z,ne,e,mA,⟨od,es,ep,e2,c⟩,r⟩:=x
  exact⟨ho _ d,z,ne,k _ _ (.inl rfl) e,mA,⟨od,es,ep,k _ _ (.inr d) e2,c⟩,r⟩
 |own y=>obtain⟨ob,e⟩:=x;exact⟨ob,k _ _ (.inl rfl) e⟩
 |xd fs=>obtain⟨mA,⟨od,es,ep,e,c⟩,r⟩:=x;exact⟨mA,⟨od,es,ep,k _ _ (.inl rfl) e,c⟩,r⟩
 |rng lo hi=>obtain⟨t,u,v,e⟩:=x;exact⟨t,u,v,k _ _ (.inl rfl) e⟩
 |frz ob u ih=>obtain⟨e,q⟩:=x;exact⟨k _ _ (.inl rfl) e,ih q⟩
 |
  tbl ps=>
  have e:h.get? a=some {cls:=.none,data:=.fields ps}:=x
  show h'.get? a=some {cls:=.none,data:=.fields ps}
  exact k a _ (.inl rfl) e
 |
  met f y=>
  have e:h.get? a=some (PySem.W.methodObj (.ref f) (.ref y)):=x
  show h'.get? a=some (PySem.W.methodObj (.ref f) (.ref y))
  exact k a _ (.inl rfl) e
 |ext φ=>obtain⟨p,⟨o,e⟩,st⟩:=x;exact⟨st _ _ p fun o q=>k _ _ (.inl rfl) q,⟨o,k _ _ (.inl rfl) e⟩,st⟩
theorem BD.lt (x:BD P w H h)(e:H a=some o):a<h.objs.size:=(x a o e).lt
theorem BD.fresh (x:BD P w H h)(e:h.objs.size<=a):H a=none:=by
 cases q:H a with
 |none=>rfl
 |some u=>exact absurd (BO (x.lt q) e) (F3 _)
theorem BD.kept (x:BD P w H h)(k:∀b u,h.get? b=some u->h'.get? b=some u):BD P w H h':=fun a o e=>
 (x a o e).stay (fun b u _ q=>k b u q) (fun _ q=>q) fun _ _ q=>q
theorem BD.laid (x:BD P w H h)(k:∀b u,h.get? b=some u->h'.get? b=some u)(hp:h.objs.size<=a)(new:BG P w (upd H a o) h' a o):BD P w (upd H a o) h':=fun b u e=>by
 have hn:=x.fresh hp
 by_cases hb:b=a
 .subst hb;rw[A7]at e;cases e;exact new
 .rw[Ai hb]at e
  exact(x b u e).stay (fun c v _ q=>k c v q) (fun c q=>by rw[Ai (AQ q hn)];exact q) fun c xs q=>by rw[Ai (AQ q hn)];exact q
end
def Rd (H:Hp)(a:Addr)(u:HO):Prop:=H a=some u\/∃o,H a=some (.frz o u)
theorem Rd.ok {P:Program}{w:World}{H:Hp}{h:Heap}{a:Addr}{u:HO}(r:Rd H a u)(x:BD P w H h):BG P w H h a u:=by
 rcases r with r|⟨o,r⟩
 .exact x a u r
 .obtain⟨_,q⟩:=x a _ r
  exact q
def JE:Option HO->Prop
 |some (.lst _)=>True
 |some (.dK _)=>True
 |some (.dT _)=>True
 |some (.set _ _)=>True
 |some (.ins _ _ _)=>True
 |some (.ext _)=>True
 |_=>False
section
variable {P:Program}{w:World}{H:Hp}{h h':Heap}{x e:Addr}{o':HO}
theorem BD.write (ok:BD P w H h)(mu:JE (H x))(he:e=x\/H e=some (.own x))(k:∀b u,b≠e->h.get? b=some u->h'.get? b=some u)(heo:∃u,h'.get? e=some u)
  (new:BG P w (upd H x o') h' x o'):BD P w (upd H x o') h':=fun b u q=>by
 have nown:∀c y,H c=some (.own y)->c≠x:=fun c y r z=>by subst z;rw[r]at mu;exact mu
 have ntup:∀c xs,H c=some (.tup xs)->c≠x:=fun c xs r z=>by subst z;rw[r]at mu;exact mu
 by_cases hb:b=x
 .subst hb;rw[A7]at q;cases q;exact new
 .rw[Ai hb]at q
  by_cases hbe:b=e
  .have q':H b=some (.own x):=by
    rcases he with z|z
    .exact absurd (hbe.trans z) hb
    .rw[hbe];exact z
   rw[q]at q';cases q'
   obtain⟨v,hv⟩:=heo
   exact⟨v,by rw[hbe];exact hv⟩
  .refine(ok b u q).stay (fun c v hc r=>k c v ?_ r) (fun c r=>by rw[Ai (nown c b r)];exact r) fun c xs r=>by rw[Ai (ntup c xs r)];exact r
   rcases hc with rfl|hc
   .exact hbe
   .rintro rfl
    rcases he with z|z
    .exact nown c b hc z
    .rw[hc]at z;cases z;exact hb rfl
end
structure Un (fs ex:List Addr)(H H':Hp)(h h':Heap):Prop where
 keep:∀b o,h.get? b=some o->H b=none->b∉fs->b∉ex->h'.get? b=some o
 slot:∀b o,h.get? b=some o->H b=none->b∈fs->b∉ex->∃sl,h'.get? b=some {o with slots:=sl}
 free:∀b o,h.get? b=some o->H b=none->b∉ex->H' b=none
 there:∀b o,h.get? b=some o->b∉ex->∃o',h'.get? b=some o'
 tups:∀b xs,H b=some (.tup xs)->H' b=some (.tup xs)
 frzs:∀b o u,H b=some (.frz o u)->H' b=some (.frz o u)
 tbls:∀b ps,H b=some (.tbl ps)->∃more,H' b=some (.tbl (ps++more))
section
variable {fs fs' ex ex':List Addr}{H H1 H2:Hp}{h h1 h2 h':Heap}{a x e:Addr}{o:HO}
theorem Un.any (u:Un fs ex H H1 h h1){b:Addr}{ob:Obj}(q:h.get? b=some ob)(n:H b=none)(hx:b∉ex):∃sl,h1.get? b=some {ob with slots:=sl}:=by
 by_cases hb:b∈fs
 .exact u.slot b ob q n hb hx
 .exact⟨ob.slots,u.keep b ob q n hb hx⟩
theorem Un.kept (k:∀b u,h.get? b=some u->h'.get? b=some u):Un fs ex H H h h':=
 ⟨fun b ob q _ _ _=>k b ob q,fun b ob q _ _ _=>⟨ob.slots,k b ob q⟩,fun _ _ _ n _=>n,fun b ob q _=>⟨ob,k b ob q⟩,fun _ _ q=>q,fun _ _ _ q=>q,fun _ ps q=>⟨#[],by rw[q];simp⟩⟩
theorem Un.refl:Un fs ex H H h h:=Un.kept fun _ _ q=>q
theorem Un.laid (k:∀b u,h.get? b=some u->h'.get? b=some u)(hp:h.objs.size<=a)(hn:H a=none):Un fs ex H (upd H a o) h h' where
 keep:=fun b u q _ _ _=>k b u q
 slot:=fun b u q _ _ _=>⟨u.slots,k b u q⟩
 free:=fun b u q n _=>by rw[Ai (AV (BO (AG q) hp))];exact n
 there:=fun b u q _=>⟨u,k b u q⟩
 tups:=fun b xs q=>by rw[Ai (AQ q hn)];exact q
 frzs:=fun b u xs q=>by rw[Ai (AQ q hn)];exact q
 tbls:=fun b ps q=>⟨#[],by rw[Ai (AQ q hn),q];simp⟩
theorem Un.write (mu:JE (H x))(he:e=x\/H e=some (.own x))(k:∀b u,b≠e->h.get? b=some u->h'.get? b=some u)(heo:∃u,h'.get? e=some u):Un fs ex H (upd H x o) h h':=by
 have hx:∀b,H b=none->b≠x:=fun b n z=>by subst z;rw[n]at mu;exact mu
 have hb:∀b,H b=none->b≠e:=fun b n z=>by
  subst z
  rcases he with r|r
  .exact hx b n r
  .rw[n]at r;cases r
 have hm:∀b u,H b=some u->¬JE (some u)->b≠x:=fun b u q nm z=>by subst z;rw[q]at mu;exact nm mu
 refine⟨fun b u q n _ _=>k b u (hb b n) q,fun b u q n _ _=>⟨u.slots,k b u (hb b n) q⟩,fun b u q n _=>by rw[Ai (hx b n)];exact n,fun b u q _=>?_,
  fun b xs q=>by rw[Ai (hm b _ q fun z=>z)];exact q,fun b u xs q=>by rw[Ai (hm b _ q fun z=>z)];exact q,fun b ps q=>⟨#[],by rw[Ai (hm b _ q fun z=>z),q];simp⟩⟩
 by_cases hbe:b=e
 .subst hbe;exact heo
 .exact⟨u,k b u hbe q⟩
end
noncomputable def Mu (h:Heap)(H:Hp):List Addr:=(List.range h.objs.size).filter fun a=>(H a).isSome
noncomputable def Fz (h:Heap)(H:Hp):Heap:=PySem.W.hideAll h (Mu h H)
theorem Zt (h:Heap)(H:Hp):(Fz h H).objs.size=h.objs.size:=PySem.W.hideAll_size _ _
theorem Vo {h:Heap}{H:Hp}{b:Addr}{o:Obj}(e:h.get? b=some o)(n:H b=none):(Fz h H).get? b=some o:=
 PySem.W.hideAll_get _ e fun hm=>by
  have q:(H b).isSome=true:=(MH.mp hm).2
  rw[n]at q;simp at q
theorem X9 {h:Heap}{H:Hp}{b:Addr}{o:Obj}(e:(Fz h H).get? b=some o):h.get? b=some o/\H b=none:=by
 have e':h.get? b=some o:=PySem.W.of_hideAll (Mu h H) e
 refine⟨e',?_⟩
 cases q:H b with
 |none=>rfl
 |
  some x=>
  have hm:b∈Mu h H:=MH.mpr ⟨G3.mpr (AG e'),by simp[q]⟩
  have z:(Fz h H).get? b=none:=PySem.W.hideAll_none (Mu h H) hm
  rw[z]at e;cases e
structure Mod (K:Faa)(mg:Str->Option Value)(base:Heap):Prop where
 kin:K.In base
 glob:base.Ns mainGlobals mg
 blt:∃mb,base.Ns builtinsNs mb/\∀x:Str,x≠"__name__"->mb x=bootBuiltins x
 nolimit:base.NoLimit
structure Cx where
 prog:Program
 w:World
 K:Faa
 mg:Str->Option Value
 base:Heap
 A:Around
 N:List Str
 s₀:Shared
 H₀:Hp
 env:Env
 outer:List Env
 stack:List Env
 ex:List Addr
 fn:Str->Bool
 calm:Bool
 pn:List (Addr×Obj)
 xe:Value->Shared->Prop
noncomputable def DK (l:List Env):List Addr:=l.filterMap (·.frame)
abbrev Cx.fs (X:Cx):List Addr:=DK X.outer
def JV (sc:Scope)(x:Str):Prop:=sc.names.lookup x=some .local\/sc.names.lookup x=some .cell\/sc.names.lookup x=some .free
def HK (sc:Scope)(x:Str):Prop:=sc.names.lookup x=some .local\/sc.names.lookup x=some .cell
def V6 (env:Env)(h:Heap)(m:Str->Option Value)(x:Str)(u:Value):Prop:=
 (env.kindOf x=some .local/\m x=some u)\/((env.kindOf x=some .cell\/env.kindOf x=some .free)/\∃c,env.cells.lookup x=some c/\h.IsCell c (some u))
structure Cx.Ok (X:Cx):Prop where
 mod:Mod X.K X.mg X.base
 kind:X.env.scope.kind = .function
 glob:X.env.globals=mainGlobals
 blt:X.env.builtins=builtinsNs
 above:X.s₀.heap.objs.size<=X.env.locals
 inj:∀x y c,X.env.cells.lookup x=some c->X.env.cells.lookup y=some c->x=y
 has:∀x,(X.env.kindOf x=some .cell\/X.env.kindOf x=some .free)->∃c,X.env.cells.lookup x=some c
 cab:∀x c,X.fn x=true->X.env.cells.lookup x=some c->X.s₀.heap.objs.size<=c
 hd:X.calm=true->X.A.handled=none
 frames:X.A.frames=some X.stack
 stk:X.stack=X.outer\/(X.stack=X.env::X.outer/\X.env.frame=some X.env.locals)
 exf:∀b∈X.ex,b≠X.env.locals/\∀x c,X.env.cells.lookup x=some c->c≠b
 bs:∀b o,X.base.get? b=some o->X.s₀.heap.get? b=some o/\X.H₀ b=none
 bsz:X.base.objs.size<=X.s₀.heap.objs.size
 noex:∀b o,X.base.get? b=some o->b∉X.ex
 exfs:∀b∈X.ex,b∉X.fs
 funs:X.s₀.heap.FunFrames X.base X.outer
 frf:∀b∈X.fs,X.H₀ b=none
structure A2 (X:Cx)(pins:List (Addr×Obj))(σ:List (Option V))(H:Hp)(s:Shared):Prop where
 ok:X.Ok
 os:s.os=X.s₀.os
 bare:AllBare s.gens
 base:Un X.fs X.ex X.H₀ H X.s₀.heap s.heap
 loc:∃m,s.heap.Ns X.env.locals m/\∀(i:Nat) (x:Str) (v:V),X.N[i]?=some x->σ[i]?=some (some v)->JV X.env.scope x->∃u,AE v u/\V6 X.env s.heap m x u
 cell:∀x c,X.env.cells.lookup x=some c->∃v,s.heap.IsCell c v
 free:H X.env.locals=none
 freeC:∀x c,X.env.cells.lookup x=some c->H c=none
 pin:∀p∈X.pn++pins,s.heap.get? p.1=some p.2/\H p.1=none/\p.1≠X.env.locals/\p.1∉X.fs/\∀v,p.2.data≠.cell v
 hok:BD X.prog X.w H s.heap
 len:σ.length=X.N.length
section
variable {X:Cx}{pins:List (Addr×Obj)}{σ:List (Option V)}{H H':Hp}{s:Shared}{h':Heap}
theorem Cx.Ok.nofr (ok:X.Ok){b:Addr}{o:Obj}(e:X.base.get? b=some o):b∉X.fs:=fun hb=>by
 have:=(ok.funs.mem hb).1
 rw[e]at this;cases this
theorem A2.bs (I:A2 X pins σ H s):∀b o,X.base.get? b=some o->s.heap.get? b=some o/\H b=none:=fun b o e=>
 ⟨I.base.keep b o (I.ok.bs b o e).1 (I.ok.bs b o e).2 (I.ok.nofr e) (I.ok.noex b o e),I.base.free b o (I.ok.bs b o e).1 (I.ok.bs b o e).2 (I.ok.noex b o e)⟩
theorem A2.bk (I:A2 X pins σ H s):∀b o,X.base.get? b=some o->s.heap.get? b=some o:=fun b o e=>(I.bs b o e).1
theorem A2.mod (I:A2 X pins σ H s):Mod X.K X.mg X.base:=I.ok.mod
theorem A2.kIn (I:A2 X pins σ H s):X.K.In s.heap:=I.ok.mod.kin.keeps I.bk
theorem A2.lt (I:A2 X pins σ H s):X.env.locals<s.heap.objs.size:=by obtain⟨_,hn,_⟩:=I.loc;exact hn.lt
theorem A2.sz (I:A2 X pins σ H s):X.s₀.heap.objs.size<=s.heap.objs.size:=CL I.ok.above (Fu I.lt)
theorem A2.nofs (I:A2 X pins σ H s){a:Addr}(h:s.heap.objs.size<=a):a∉X.fs:=fun hb=>by
 obtain⟨_,o,ho,_⟩:=I.ok.funs.mem hb
 exact absurd (BO (AG ho) (CL I.sz h)) (F3 _)
theorem A2.cne (I:A2 X pins σ H s):∀x c,X.env.cells.lookup x=some c->c≠X.env.locals:=fun x c e z=>by
 obtain⟨v,o,ho,hd⟩:=I.cell x c e
 obtain⟨m,⟨o',es,ep,ho',hd',_⟩,_⟩:=I.loc
 rw[z,ho']at ho;cases ho;rw[hd']at hd;cases hd
theorem A2.funs (I:A2 X pins σ H s):s.heap.FunFrames X.base X.outer:=by
 have all:∀(l:List Env),(∀b∈DK l,b∈X.fs)->X.s₀.heap.FunFrames X.base l->s.heap.FunFrames X.base l:=by
  intro l
  induction l with
  |nil=>intro _ _;trivial
  |
   cons env r ih=>
   intro hs hl
   obtain⟨hk,⟨L,o,hf,hn,ho,hd⟩,hr⟩:=hl
   have hL:L∈X.fs:=hs L (by unfold DK;rw[RH,hf];exact Cz)
   obtain⟨sl,e⟩:=I.base.slot L o ho (I.ok.frf L hL) hL fun z=>I.ok.exfs L z hL
   exact⟨hk,⟨L,_,hf,hn,e,hd⟩,ih (fun b hb=>hs b (by unfold DK;rw[RH,hf];exact Cd _ hb)) hr⟩
 exact all X.outer (fun _ hb=>hb) I.ok.funs
theorem A2.stack (I:A2 X pins σ H s):s.heap.FunFrames X.base X.stack:=by
 rcases I.ok.stk with e|⟨e,hf⟩
 .rw[e];exact I.funs
 .rw[e]
  obtain⟨m,hn,_⟩:=I.loc
  refine .cons (by rw[I.ok.kind];decide) hf hn ?_ I.funs
  exact Heap.get?_none_of_le (CL I.ok.bsz I.ok.above)
theorem A2.stkSub (I:A2 X pins σ H s):∀b∈DK X.stack,b∈X.env.locals::X.fs:=fun b hb=>by
 rcases I.ok.stk with e|⟨e,hf⟩
 .rw[e]at hb;exact Cd _ hb
 .rw[e]at hb
  unfold DK at hb
  rw[RH,hf]at hb
  exact hb
theorem A2.stkFree (I:A2 X pins σ H s):∀b∈DK X.stack,H b=none:=fun b hb=>by
 rcases AZ.mp (I.stkSub b hb) with e|hb
 .rw[e];exact I.free
 .obtain⟨_,o,ho,_⟩:=I.ok.funs.mem hb
  exact I.base.free b o ho (I.ok.frf b hb) fun z=>I.ok.exfs b z hb
theorem A2.step {g':Array GenState}{t':Nat}{d':Drawn}{ch:List Addr}(I:A2 X pins σ H s)
  (hch:∀b∈ch,(b∈X.ex\/X.s₀.heap.objs.size<=b)/\b≠X.env.locals/\(∀x c,X.env.cells.lookup x=some c->c≠b)/\∀p∈X.pn++pins,p.1≠b)
  (keep:∀b o,b≠X.env.locals->b∉X.fs->b∉ch->s.heap.get? b=some o->H b=none->h'.get? b=some o)
  (slot:∀b o,b≠X.env.locals->b∈X.fs->b∉ch->s.heap.get? b=some o->H b=none->∃sl,h'.get? b=some {o with slots:=sl}) (free:∀b o,b∉ch->s.heap.get? b=some o->H b=none->H' b=none)
  (there:∀b o,b∉ch->s.heap.get? b=some o->∃o',h'.get? b=some o')
  (tups:∀b xs,H b=some (.tup xs)->H' b=some (.tup xs)) (frzs:∀b o u,H b=some (.frz o u)->H' b=some (.frz o u)) (tbls:∀b ps,H b=some (.tbl ps)->∃more,H' b=some (.tbl (ps++more)))
  (ns:∀m,s.heap.Ns X.env.locals m->h'.Ns X.env.locals m) (hok:BD X.prog X.w H' h') (hg:AllBare g') :
  A2 X pins σ H' {s with heap:=h',gens:=g',drawn:=d',toks:=t'}:=by
 have neL:∀b o,X.s₀.heap.get? b=some o->b≠X.env.locals:=fun b o e=>AV (BO (AG e) I.ok.above)
 have neC:∀b o,X.s₀.heap.get? b=some o->b∉X.ex->b∉ch:=fun b o e hx hb=>by
  rcases(hch b hb).1 with z|z
  .exact hx z
  .exact absurd (BO (AG e) z) (F3 _)
 have cellK:∀x c,X.env.cells.lookup x=some c->∀v,s.heap.IsCell c v->h'.IsCell c v:=fun x c e v ⟨o,ho,hd⟩=>by
  have nch:c∉ch:=fun z=>(hch c z).2.2.1 x c e rfl
  by_cases hc:c∈X.fs
  .obtain⟨sl,q⟩:=slot c o (I.cne x c e) hc nch ho (I.freeC x c e)
   exact⟨_,q,hd⟩
  .exact⟨o,keep c o (I.cne x c e) hc nch ho (I.freeC x c e),hd⟩
 refine⟨I.ok,I.os,hg,⟨fun b o e n hb hx=>?_,fun b o e n hb hx=>?_,fun b o e n hx=>?_,fun b o e hx=>?_,fun b xs e=>tups b xs (I.base.tups b xs e),fun b o xs e=>frzs b o xs (I.base.frzs b o xs e),fun b ps e=>?_⟩,?_,fun x c e=>?_,?_,fun x c e=>?_,fun p hp=>?_,hok,I.len⟩
 .exact keep b o (neL b o e) hb (neC b o e hx) (I.base.keep b o e n hb hx) (I.base.free b o e n hx)
 .obtain⟨sl,e1⟩:=I.base.slot b o e n hb hx
  obtain⟨sl',e2⟩:=slot b _ (neL b o e) hb (neC b o e hx) e1 (I.base.free b o e n hx)
  exact⟨sl',e2⟩
 .obtain⟨o',e1⟩:=I.base.there b o e hx
  exact free b o' (neC b o e hx) e1 (I.base.free b o e n hx)
 .obtain⟨o',e1⟩:=I.base.there b o e hx
  exact there b o' (neC b o e hx) e1
 .obtain⟨m1,e1⟩:=I.base.tbls b ps e
  obtain⟨m2,e2⟩:=tbls b _ e1
  exact⟨m1++m2,by rw[e2,Array.append_assoc]⟩
 .obtain⟨m,hn,hl⟩:=I.loc
  refine⟨m,ns m hn,fun i x v e1 e2 e3=>?_⟩
  obtain⟨u,r,l⟩:=hl i x v e1 e2 e3
  refine⟨u,r,?_⟩
  rcases l with l|⟨k,c,e,z⟩
  .exact .inl l
  .exact .inr ⟨k,c,e,cellK x c e _ z⟩
 .obtain⟨v,z⟩:=I.cell x c e
  exact⟨v,cellK x c e v z⟩
 .obtain⟨m,⟨o,_,_,ho,_⟩,_⟩:=I.loc
  exact free _ o (fun z=>(hch _ z).2.1 rfl) ho I.free
 .obtain⟨v,o,ho,hd⟩:=I.cell x c e
  exact free c o (fun z=>(hch c z).2.2.1 x c e rfl) ho (I.freeC x c e)
 .obtain⟨e,n,ne,nf,d⟩:=I.pin p hp
  have nch:p.1∉ch:=fun z=>(hch p.1 z).2.2.2 p hp rfl
  exact⟨keep p.1 p.2 ne nf nch e n,free p.1 p.2 nch e n,ne,nf,d⟩
theorem A2.un {t':Nat}(I:A2 X pins σ H s)(u:Un X.fs [] H H' s.heap h')(hok:BD X.prog X.w H' h'):A2 X pins σ H' {s with heap:=h',toks:=t'}:=by
 obtain⟨m,⟨o,es,ep,ho,r⟩,_⟩:=id I.loc
 obtain⟨sl,hL⟩:=u.any ho I.free (by simp)
 exact I.step (g':=s.gens) (d':=s.drawn) (ch:=[]) (fun _ z=>nomatch z) (fun b o _ hb _ e n=>u.keep b o e n hb (by simp)) (fun b o _ hb _ e n=>u.slot b o e n hb (by simp)) (fun b o _ e n=>u.free b o e n (by simp)) (fun b o _ e=>u.there b o e (by simp)) u.tups u.frzs u.tbls (fun m' hm=>by
  obtain⟨o',es',ep',ho',r'⟩:=hm
  rw[ho]at ho';cases ho'
  exact⟨_,es',ep',hL,r'⟩) hok I.bare
theorem A2.call {g':Array GenState}{t':Nat}{d':Drawn}{ch:List Addr}(I:A2 X pins σ H s)(u:Un (DK X.stack) ch H H' s.heap h')(hok:BD X.prog X.w H' h')(hg:AllBare g')
  (hch:∀b∈ch,(b∈X.ex\/X.s₀.heap.objs.size<=b)/\b≠X.env.locals/\(∀x c,X.env.cells.lookup x=some c->c≠b)/\∀p∈X.pn++pins,p.1≠b) :
  A2 X pins σ H' {s with heap:=h',gens:=g',drawn:=d',toks:=t'}:=by
 obtain⟨m,⟨o,es,ep,ho,r⟩,_⟩:=id I.loc
 obtain⟨sl,hL⟩:=u.any ho I.free fun z=>(hch _ z).2.1 rfl
 exact I.step (ch:=ch) hch (fun b o hL hb hc e n=>u.keep b o e n (fun z=>(AZ.mp (I.stkSub b z)).elim hL hb) hc) (fun b o _ _ hc e n=>u.any e n hc) (fun b o hc e n=>u.free b o e n hc) (fun b o hc e=>u.there b o e hc) u.tups u.frzs u.tbls (fun m' hm=>by
  obtain⟨o',es',ep',ho',r'⟩:=hm
  rw[ho]at ho';cases ho'
  exact⟨_,es',ep',hL,r'⟩) hok hg
theorem A2.turned {t':Nat}{it:Addr}(I:A2 X pins σ H s)(k:∀b o,b≠it->s.heap.get? b=some o->h'.get? b=some o)(hn:H it=none)(hL:it≠X.env.locals)
  (h1:it∈X.ex\/X.s₀.heap.objs.size<=it) (h2:∀x c,X.env.cells.lookup x=some c->c≠it) (h3:∀p∈X.pn++pins,p.1≠it):A2 X pins σ H {s with heap:=h',toks:=t'}:=by
 have nit:∀b u,H b=some u->b≠it:=fun b u e z=>by rw[z,hn]at e;cases e
 refine I.step (g':=s.gens) (d':=s.drawn) (ch:=[it]) (fun b hb=>?_) (fun b o _ _ hc e _=>k b o (fun z=>hc (by simp[z])) e) (fun b o _ _ hc e _=>⟨o.slots,k b o (fun z=>hc (by simp[z])) e⟩) (fun _ _ _ _ n=>n)
  (fun b o hc e=>⟨o,k b o (fun z=>hc (by simp[z])) e⟩) (fun _ _ e=>e) (fun _ _ _ e=>e) (fun b ps e=>⟨#[],by rw[e];simp⟩) (fun m hm=>?_) (fun b u e=>?_) I.bare
 .have e:b=it:=by simpa using hb
  subst e
  exact⟨h1,hL,h2,h3⟩
 .obtain⟨o,es,ep,ho,r⟩:=hm
  exact⟨o,es,ep,k _ o (Ne.symm hL) ho,r⟩
 .refine(I.hok b u e).stay (fun c v hc q=>k c v ?_ q) (fun _ q=>q) fun _ _ q=>q
  rcases hc with z|z
  .rw[z];exact nit b u e
  .exact nit c _ z
theorem A2.tok (I:A2 X pins σ H s)(t:Nat):A2 X pins σ H {s with toks:=t}:=I.un (h':=s.heap) (t':=t) Un.refl I.hok
theorem A2.kept {t':Nat}(I:A2 X pins σ H s)(k:∀b u,s.heap.get? b=some u->h'.get? b=some u):A2 X pins σ H {s with heap:=h',toks:=t'}:=I.un (Un.kept k) (I.hok.kept k)
theorem A2.laid {a:Addr}{o:HO}{t':Nat}(I:A2 X pins σ H s)(k:∀b u,s.heap.get? b=some u->h'.get? b=some u)(hp:s.heap.objs.size<=a)(new:BG X.prog X.w (upd H a o) h' a o) :
 A2 X pins σ (upd H a o) {s with heap:=h',toks:=t'}:=I.un (Un.laid k hp (I.hok.fresh hp)) (I.hok.laid k hp new)
theorem A2.write {x e:Addr}{o:HO}{t':Nat}(I:A2 X pins σ H s)(mu:JE (H x))(he:e=x\/H e=some (.own x))(k:∀b u,b≠e->s.heap.get? b=some u->h'.get? b=some u)(heo:∃u,h'.get? e=some u)
 (new:BG X.prog X.w (upd H x o) h' x o):A2 X pins σ (upd H x o) {s with heap:=h',toks:=t'}:=I.un (Un.write mu he k heo) (I.hok.write mu he k heo new)
theorem A2.weak {σ':List (Option V)}(I:A2 X pins σ H s)(hl:σ'.length=σ.length)(w:∀(i:Nat) v,σ'[i]?=some (some v)->σ[i]?=some (some v)):A2 X pins σ' H s:=
 ⟨I.ok,I.os,I.bare,I.base,let ⟨m,hn,hl'⟩:=I.loc;⟨m,hn,fun i x v e1 e2 e3=>hl' i x v e1 (w i v e2) e3⟩,I.cell,I.free,I.freeC,I.pin,I.hok,hl.trans I.len⟩
theorem A2.pins_of {pins':List (Addr×Obj)}(I:A2 X pins σ H s)(h:∀p∈pins',s.heap.get? p.1=some p.2/\H p.1=none/\p.1≠X.env.locals/\p.1∉X.fs/\∀v,p.2.data≠.cell v):A2 X pins' σ H s:=
 ⟨I.ok,I.os,I.bare,I.base,I.loc,I.cell,I.free,I.freeC,fun p hp=>(BX.mp hp).elim (fun z=>I.pin p (DN _ z)) (h p),I.hok,I.len⟩
theorem QQ {N:List Str}(hN:N.Nodup){i j:Nat}{x:Str}(a:N[i]?=some x)(b:N[j]?=some x):i=j:=by
 obtain⟨h1,e1⟩:=Ay.mp a
 obtain⟨h2,e2⟩:=Ay.mp b
 exact(List.getElem_inj hN).mp (e1.trans e2.symm)
theorem Tp {M:Model}{A:Around}{E:Value->Shared->Prop}{i:Nat}{x:Str}{v:V}{u:Value}{Q:Unit->Shared->Prop}(I:A2 X pins σ H s)(hN:X.N.Nodup)(hi:X.N[i]?=some x)(hx:HK X.env.scope x)(r:AE v u)
  (h:∀s',A2 X pins (σ.set i (some v)) H s'->(∃a,Heap.SameBut a s.heap s'.heap/\(a=X.env.locals\/X.env.cells.lookup x=some a))->Q () s') (hf:X.fn x=true\/X.env.scope.names.lookup x=some .local:=by first|exact .inl rfl|exact .inr rfl|assumption):wpAny M A (storeName X.env x u) Q E s:=by
 obtain⟨m,hn,hl⟩:=id I.loc
 have hcls:(X.env.scope.kind == .class||(X.env.scope.kind == .module&&X.env.locals != X.env.globals))=false:=by rw[I.ok.kind];rfl
 have hiσ:i<σ.length:=by rw[I.len];exact(Ay.mp hi).1
 have cne:=I.cne
 have tracked:∀{a:Addr} {h':Heap},(∃o,s.heap.get? a=some o/\H a=none)->Heap.SameBut a s.heap h'->BD X.prog X.w H h':=fun{a h'} ha hs b ob e=>by
  obtain⟨_,_,hfree⟩:=ha
  refine(I.hok b ob e).stay (fun c w' hc q=>(hs.2 c ?_).trans q) (fun _ q=>q) fun _ _ q=>q
  rintro rfl
  rcases hc with rfl|hc
  .rw[hfree]at e;cases e
  .rw[hfree]at hc;cases hc
 rcases hx with hk|hk
 .refine wpAny_storeName_local hk hn (fun h' hn' hs=>?_) hcls
  obtain⟨oL,_,_,hoL,_⟩:=id hn
  refine h _ ⟨I.ok,I.os,I.bare,⟨fun b o e n hb hx=>?_,fun b o e n hb hx=>?_,I.base.free,fun b o e hx=>?_,I.base.tups,I.base.frzs,I.base.tbls⟩,⟨_,hn',fun j y v' e1 e2 e3=>?_⟩,fun y c e=>?_,I.free,I.freeC,fun p hp=>?_,tracked ⟨oL,hoL,I.free⟩ hs,by simpa using I.len⟩ ⟨_,hs,.inl rfl⟩
  .exact(hs.2 b (AV (BO (AG e) I.ok.above))).trans (I.base.keep b o e n hb hx)
  .obtain⟨sl,e1⟩:=I.base.slot b o e n hb hx
   exact⟨sl,(hs.2 b (AV (BO (AG e) I.ok.above))).trans e1⟩
  .obtain⟨o',e1⟩:=I.base.there b o e hx
   exact⟨o',(hs.2 b (AV (BO (AG e) I.ok.above))).trans e1⟩
  .by_cases hj:j=i
   .subst hj
    rw[hi]at e1;cases e1
    rw[List.getElem?_set_self hiσ]at e2
    cases e2
    exact⟨u,r,.inl ⟨hk,by simp⟩⟩
   .rw[List.getElem?_set_ne (Ne.symm hj)]at e2
    obtain⟨u',r',q⟩:=hl j y v' e1 e2 e3
    refine⟨u',r',?_⟩
    rcases q with⟨k,e⟩|⟨k,c,e,z⟩
    .refine .inl ⟨k,?_⟩
     have:y≠x:=fun e=>hj (QQ hN e1 (e▸hi))
     simp[this,e]
    .exact .inr ⟨k,c,e,z.sameBut hs (cne y c e)⟩
  .obtain⟨w',z⟩:=I.cell y c e
   exact⟨w',z.sameBut hs (cne y c e)⟩
  .obtain⟨e,n,ne,nf,d⟩:=I.pin p hp
   exact⟨(hs.2 p.1 ne).trans e,n,ne,nf,d⟩
 .have hfn:X.fn x=true:=by
   rcases hf with z|z
   .exact z
   .rw[z]at hk;cases hk
  obtain⟨c,hc⟩:=I.ok.has x (.inl hk)
  obtain⟨w',z⟩:=I.cell x c hc
  refine wpAny_storeName_cell I.ok.kind hk hc z (fun h' hc' hs=>?_)
  obtain⟨oc,hoc,hocd⟩:=id z
  refine h {s with heap:=h'} ⟨I.ok,I.os,I.bare,⟨fun b o e n hb hx=>?_,fun b o e n hb hx=>?_,I.base.free,fun b o e hx=>?_,I.base.tups,I.base.frzs,I.base.tbls⟩,⟨m,hn.sameBut hs (Ne.symm (cne x c hc)),fun j y v' e1 e2 e3=>?_⟩,fun y c' e=>?_,I.free,I.freeC,fun p hp=>?_,tracked ⟨oc,hoc,I.freeC x c hc⟩ hs,by simpa using I.len⟩ ⟨c,hs,.inr hc⟩
  .exact(hs.2 b (AV (BO (AG e) (I.ok.cab x c hfn hc)))).trans (I.base.keep b o e n hb hx)
  .obtain⟨sl,e1⟩:=I.base.slot b o e n hb hx
   exact⟨sl,(hs.2 b (AV (BO (AG e) (I.ok.cab x c hfn hc)))).trans e1⟩
  .obtain⟨o',e1⟩:=I.base.there b o e hx
   exact⟨o',(hs.2 b (AV (BO (AG e) (I.ok.cab x c hfn hc)))).trans e1⟩
  .by_cases hj:j=i
   .subst hj
    rw[hi]at e1;cases e1
    rw[List.getElem?_set_self hiσ]at e2
    cases e2
    exact⟨u,r,.inr ⟨.inl hk,c,hc,hc'⟩⟩
   .rw[List.getElem?_set_ne (Ne.symm hj)]at e2
    obtain⟨u',r',q⟩:=hl j y v' e1 e2 e3
    refine⟨u',r',?_⟩
    rcases q with q|⟨k,c',e,z'⟩
    .exact .inl q
    .refine .inr ⟨k,c',e,z'.sameBut hs ?_⟩
     rintro rfl
     exact hj (QQ hN e1 (I.ok.inj _ _ _ e hc▸hi))
  .by_cases hcc:c'=c
   .subst hcc;exact⟨_,hc'⟩
   .obtain⟨w2,z2⟩:=I.cell y c' e
    exact⟨w2,z2.sameBut hs hcc⟩
  .obtain⟨e,n,ne,nf,d⟩:=I.pin p hp
   refine⟨(hs.2 p.1 ?_).trans e,n,ne,nf,d⟩
   intro q
   rw[q,hoc]at e
   have q':oc=p.2:=Ck e
   exact d w' (by rw[←q'];exact hocd)
theorem Nc {M:Model}{A:Around}{E:Value->Shared->Prop}{i:Nat}{x:Str}{v:V}{u:Value}{Q:Unit->Shared->Prop}(I:A2 X pins σ H s)(hN:X.N.Nodup)(hi:X.N[i]?=some x)(hx:HK X.env.scope x)(r:AE v u)
  (h:∀s',A2 X pins (σ.set i (some v)) H s'->Q () s') (hf:X.fn x=true\/X.env.scope.names.lookup x=some .local:=by first|exact .inl rfl|exact .inr rfl|assumption):wpAny M A (storeName X.env x u) Q E s:=
 Tp I hN hi hx r (fun s' I' _=>h s' I') hf
theorem A2.call' {s':Shared}{ch:List Addr}(I:A2 X pins σ H s)(ho:s'.os=s.os)(u:Un (DK X.stack) ch H H' s.heap s'.heap)(hok:BD X.prog X.w H' s'.heap)(hg:AllBare s'.gens)
  (hch:∀b∈ch,(b∈X.ex\/X.s₀.heap.objs.size<=b)/\b≠X.env.locals/\(∀x c,X.env.cells.lookup x=some c->c≠b)/\∀p∈X.pn++pins,p.1≠b):A2 X pins σ H' s':=by
 obtain⟨h',g',d',t',o'⟩:=s'
 have e:o'=s.os:=ho
 subst e
 exact I.call (g':=g') (t':=t') (d':=d') u hok hg hch
end
abbrev XK:=Value->Option Addr->Hp->Prop
abbrev St:=List (Option V)
abbrev VK:=V->Hp->Prop
abbrev TE:=St->Hp->VK->Prop
abbrev TT:=St->Hp->(Bool->Hp->Prop)->Prop
abbrev TA:=St->Hp->(List V->Hp->Prop)->Prop
structure CC where
 nx:St->Hp->Prop
 rt:VK
 bk:St->Hp->Prop:=fun _ _=>False
 ct:St->Hp->Prop:=fun _ _=>False
abbrev TS:=CC->St->Hp->Prop
def EP (X:Cx)(pins:List (Addr×Obj))(σ:St)(Q:VK)(u:Value)(s':Shared):Prop := ∃v H',A2 X pins σ H' s'/\AE v u/\Q v H'
def TP (X:Cx)(pins:List (Addr×Obj))(σ:St)(Q:Bool->Hp->Prop)(b:Bool)(s':Shared):Prop := ∃H',A2 X pins σ H' s'/\Q b H'
def AP (X:Cx)(pins:List (Addr×Obj))(σ:St)(Q:List V->Hp->Prop)(us:List Value)(s':Shared):Prop := ∃vs H',A2 X pins σ H' s'/\Aw vs us/\Q vs H'
def SP (X:Cx)(pins:List (Addr×Obj))(D:CC)(f:Flow)(s':Shared):Prop:=
 match f with
 |.next=>∃σ' H',A2 X pins σ' H' s'/\D.nx σ' H'
 |.brk=>∃σ' H',A2 X pins σ' H' s'/\D.bk σ' H'
 |.cont=>∃σ' H',A2 X pins σ' H' s'/\D.ct σ' H'
 |.ret u=>∃v σ' H',A2 X pins σ' H' s'/\AE v u/\D.rt v H'
def PE (X:Cx)(e:Expr)(t:TE):Prop:=
 ∀(pins:List (Addr×Obj)) (s:Shared) (σ:St) (H:Hp) (Q:VK),A2 X pins σ H s->t σ H Q->wpAny (model X.prog X.w) X.A (eval e X.env) (EP X pins σ Q) X.xe s
def PT (X:Cx)(e:Expr)(t:TT):Prop:=
 ∀(pins:List (Addr×Obj)) (s:Shared) (σ:St) (H:Hp) (Q:Bool->Hp->Prop),A2 X pins σ H s->t σ H Q->wpAny (model X.prog X.w) X.A (isTrue e X.env (eval e X.env)) (TP X pins σ Q) X.xe s
def PW (X:Cx)(e:Expr)(t:TT):Prop:=
 ∀(whole:Sem Value) (pins:List (Addr×Obj)) (s:Shared) (σ:St) (H:Hp) (Q:Bool->Hp->Prop),A2 X pins σ H s->t σ H Q->wpAny (model X.prog X.w) X.A (isTrue e X.env whole) (TP X pins σ Q) X.xe s
theorem PW.pt {X:Cx}{e:Expr}{t:TT}(h:PW X e t):PT X e t:=h _
def PA (X:Cx)(es:List Expr)(t:TA):Prop:=
 ∀(pos:Pos) (pins:List (Addr×Obj)) (s:Shared) (σ:St) (H:Hp) (Q:List V->Hp->Prop),A2 X pins σ H s->t σ H Q->wpAny (model X.prog X.w) X.A (spliced (backTo pos (starEach es X.env))) (AP X pins σ Q) X.xe s
def PS (X:Cx)(st:Stmt)(t:TS):Prop:=
 ∀(pins:List (Addr×Obj)) (s:Shared) (σ:St) (H:Hp) (D:CC),A2 X pins σ H s->t D σ H->wpAny (model X.prog X.w) X.A (exec st X.env) (SP X pins D) X.xe s
def DC (X:Cx)(st:List Stmt)(t:TS):Prop:=
 ∀(pins:List (Addr×Obj)) (s:Shared) (σ:St) (H:Hp) (D:CC),A2 X pins σ H s->t D σ H->wpAny (model X.prog X.w) X.A (execs st X.env) (SP X pins D) X.xe s
theorem Az {α:Type}{t:Sem α}{Q Q':α->Shared->Prop}{M:Model}{A:Around}{E:Value->Shared->Prop}{s:Shared}(h:wpAny M A t Q E s)(hQ:∀a s,Q a s->Q' a s):wpAny M A t Q' E s:=CN h hQ fun _ _ x=>x
section
variable {X:Cx}
def QT (i:Nat):TE:=fun σ H Q=>∃v,σ[i]?=some (some v)/\Q v H
def tC (v:V):TE:=fun _ H Q=>Q v H
theorem Yw {i:Nat}{x:Str}{pos:Pos}(hN:X.N[i]?=some x)(hv:JV X.env.scope x)(hd:(x==("__debug__":Str))=false:=by decide)(hcd:(x==("__classdict__":Str))=false:=by decide):PE X (.Name x pos) (QT i):=by
 intro pins s σ H Q I h
 obtain⟨v,e,h⟩:=h
 obtain⟨m,hn,hl⟩:=I.loc
 obtain⟨u,r,l⟩:=hl i x v hN e hv
 have fin:EP X pins σ Q u s:=⟨v,H,I,r,h⟩
 rcases l with⟨hk,hm⟩|⟨hk,c,hc,hcell⟩
 .exact wpAny_Name (wpAny_loadName_local I.ok.kind hk hn hm fin) hd
 .rcases hk with hk|hk
  .exact wpAny_Name (wpAny_loadName_cell I.ok.kind hk hc hcell fin) hd
  .exact wpAny_Name (wpAny_loadName_free I.ok.kind hk hc hcell fin hcd) hd
theorem A1 {i j pos}:PE X (.Constant (.int i) j pos) (tC (.int i)):=fun _ _ _ H _ I h=>wpAny_Constant_int ⟨.int i,H,I.tok _,⟨_,rfl⟩,h⟩
theorem Gg {b j pos}:PE X (.Constant (.bool b) j pos) (tC (.bl b)):=fun _ _ _ H _ I h=>Constant_bool ⟨.bl b,H,I,rfl,h⟩
theorem E2 {j pos}:PE X (.Constant .none j pos) (tC .non):=fun _ _ _ H _ I h=>Constant_none ⟨.non,H,I,rfl,h⟩
theorem C6 {x j pos}:PE X (.Constant (.str x) j pos) (tC (.str x)):=fun _ _ _ H _ I h=>Calls.Constant_str ⟨.str x,H,I.tok _,⟨_,rfl⟩,h⟩
def Gl (X:Cx)(x:Str):Prop:=X.env.kindOf x=some .globalImplicit
theorem II {E:Value->Shared->Prop}{pins:List (Addr×Obj)}{s:Shared}{σ:St}{H:Hp}{x:Str}{u:Value}{pos:Pos}{Q:Value->Shared->Prop}(I:A2 X pins σ H s)(hg:Gl X x)(hm:X.mg x=some u)(h:Q u s)
  (hd:(x==("__debug__":Str))=false:=by decide):wpAny (model X.prog X.w) X.A (eval (.Name x pos) X.env) Q E s:=
 Calls.Name_function_global I.ok.kind hg (Calls.loadGlobal_global (by rw[I.ok.glob];exact I.mod.glob.keeps I.bk) hm h) hd
theorem Fc {E:Value->Shared->Prop}{pins:List (Addr×Obj)}{s:Shared}{σ:St}{H:Hp}{x:Str}{u:Value}{pos:Pos}{Q:Value->Shared->Prop}(I:A2 X pins σ H s)(hg:Gl X x)(hm:X.mg x=none)(hv:bootBuiltins x=some u)(h:Q u s)
  (hn:x≠"__name__":=by decide) (hd:(x==("__debug__":Str))=false:=by decide):wpAny (model X.prog X.w) X.A (eval (.Name x pos) X.env) Q E s:=by
 obtain⟨mb,h1,h2⟩:=I.mod.blt
 exact Calls.Name_function_global I.ok.kind hg (Calls.loadGlobal_builtin (by rw[I.ok.glob];exact I.mod.glob.keeps I.bk) hm (by rw[I.ok.blt];exact h1.keeps I.bk) ((h2 x hn).trans hv) h) hd
theorem W1 {x:Str}{v:V}{u:Value}{pos:Pos}(hg:Gl X x)(hm:X.mg x=none)(hv:bootBuiltins x=some u)(r:AE v u)(hn:x≠"__name__":=by decide)(hd:(x==("__debug__":Str))=false:=by decide):PE X (.Name x pos) (tC v):=
 fun _ _ _ H _ I h=>Fc I hg hm hv ⟨v,H,I,r,h⟩ hn hd
variable {a b:Expr}{ta tb:TE}{pos:Pos}
def tB (t:TE):TT:=fun σ H Q=>t σ H fun x H1=>∃c,x = .bl c/\Q c H1
theorem O7 {e:Expr}{t:TE}(h:PE X e t)(he:∀whole,isTrue e X.env whole=(do let v ←whole;standAt e.pos;holding [v] (truthy v)):=by intro _;rfl):PT X e (tB t):=by
 intro pins s σ H Q I hw
 refine isTrue_plain (Az (h pins s σ H _ I hw) fun v s1 zz=>?_) (he _)
 obtain⟨x,H1,I1,r1,q1⟩:=zz
 obtain⟨d,rfl,q⟩:=q1
 cases r1
 exact S7 ⟨H1,I1,q⟩
variable {tA tB':TT}{rest:List Expr}
def Qx (t u:TT):TT:=fun σ H Q=>t σ H fun c H1=>if c=true then u σ H1 Q else Q false H1
def UC (t u:TT):TT:=fun σ H Q=>t σ H fun c H1=>if c=true then Q true H1 else u σ H1 Q
theorem Pn (ha:PT X a tA):PW X (.BoolOp .And [a] pos) tA:=by
 intro wh pins s σ H Q I h
 refine isTrue_and (Az (ha pins s σ H Q I h) fun c s1 e=>?_)
 cases c with
 |true=>exact isTrue_and_nil e
 |false=>exact e
theorem Q3 (ha:PT X a tA):PW X (.BoolOp .Or [a] pos) tA:=by
 intro wh pins s σ H Q I h
 refine isTrue_or (Az (ha pins s σ H Q I h) fun c s1 e=>?_)
 cases c with
 |false=>exact isTrue_or_nil e
 |true=>exact e
theorem NU (ha:PT X a tA)(hb:PW X (.BoolOp .And (b::rest) pos) tB'):PW X (.BoolOp .And (a::b::rest) pos) (Qx tA tB'):=by
 intro wh pins s σ H Q I h
 refine isTrue_and (Az (ha pins s σ H _ I h) fun c s1 zz=>?_)
 obtain⟨H1,I1,q1⟩:=zz
 cases c with
 |true=>exact hb wh pins s1 σ H1 Q I1 q1
 |false=>exact⟨H1,I1,q1⟩
theorem QK (ha:PT X a tA)(hb:PW X (.BoolOp .Or (b::rest) pos) tB'):PW X (.BoolOp .Or (a::b::rest) pos) (UC tA tB'):=by
 intro wh pins s σ H Q I h
 refine isTrue_or (Az (ha pins s σ H _ I h) fun c s1 zz=>?_)
 obtain⟨H1,I1,q1⟩:=zz
 cases c with
 |true=>exact⟨H1,I1,q1⟩
 |false=>exact hb wh pins s1 σ H1 Q I1 q1
def Xw (ta tb:TE):TE:=fun σ H Q=>ta σ H fun x H1=>∃c,x = .bl c/\if c=true then tb σ H1 Q else Q (.bl false) H1
theorem Sy {op}{t:TE}(h:PE X a t):PE X (.BoolOp op [a] pos) t:=fun pins s σ H Q I hw=>BoolOp_one (h pins s σ H Q I hw)
theorem Z6 (ha:PE X a ta)(hb:PE X (.BoolOp .And (b::rest) pos) tb):PE X (.BoolOp .And (a::b::rest) pos) (Xw ta tb):=by
 intro pins s σ H Q I h
 refine BoolOp_and (Az (ha pins s σ H _ I h) fun v s1 zz=>?_)
 obtain⟨x,H1,I1,r1,q1⟩:=zz
 obtain⟨c,rfl,q1⟩:=q1
 cases r1
 refine S7 ?_
 cases c with
 |true=>exact hb pins s1 σ H1 Q I1 q1
 |false=>exact⟨.bl false,H1,I1,rfl,q1⟩
def SE (t:TT)(ta tb:TE):TE:=fun σ H Q=>t σ H fun c H1=>if c=true then ta σ H1 Q else tb σ H1 Q
theorem P6 {c:Expr}(hc:PT X c tA)(ha:PE X a ta)(hb:PE X b tb):PE X (.IfExp c a b pos) (SE tA ta tb):=by
 intro pins s σ H Q I h
 refine wpAny_IfExp (Az (hc pins s σ H _ I h) fun d s1 zz=>?_)
 obtain⟨H1,I1,q1⟩:=zz
 cases d with
 |true=>exact ha pins s1 σ H1 Q I1 q1
 |false=>exact hb pins s1 σ H1 Q I1 q1
end
def A4 (K:Faa)(H:Hp)(a:Addr)(xs:List V):Prop:=
 Rd H a (.lst xs)\/
  ∃(o:Obj) (its:Array Value) (n:Nat),K.lookup a=some o/\o.cls = .type "list"/\o.dict=none/\o.data = .seq its n/\its.size<=sizeLine/\Aw xs its.toList
def A5 (K:Faa)(H:Hp)(a:Addr)(xs:List V):Prop:=
 Rd H a (.tup xs)\/
  ∃(o:Obj) (its:Array Value) (n:Nat),K.lookup a=some o/\o.cls = .type "tuple"/\o.data = .seq its n/\its.size<=sizeLine/\Aw xs its.toList
noncomputable def SS:Value->Option V
 |.none=>some .non
 |.bool b=>some (.bl b)
 |.int i _=>some (.int i)
 |.str x _=>some (.str x)
 |.bytes b _=>some (.byt b)
 |.float b _=>some (.flt b)
 |.ref a=>some (.ref a)
 |.type n=>some (.ty n)
 |_=>none
theorem AE.abs {x:V}{u:Value}(r:AE x u):SS u=some x:=by
 cases x with
 |non=>cases r;rfl
 |bl _=>cases r;rfl
 |int _=>obtain⟨t,rfl⟩:=r;rfl
 |str _=>obtain⟨t,rfl⟩:=r;rfl
 |byt _=>obtain⟨t,rfl⟩:=r;rfl
 |flt _=>obtain⟨t,rfl⟩:=r;rfl
 |ref _=>cases r;rfl
 |ty _=>cases r;rfl
theorem AE.inj {x y:V}{u:Value}(r:AE x u)(q:AE y u):x=y:=Ck (r.abs.symm.trans q.abs)
theorem Aw.inj:∀{xs ys:List V} {us:List Value},Aw xs us->Aw ys us->xs=ys:=by
 intro xs
 induction xs with
 |
  nil=>
  intro ys us h k
  cases h
  cases k
  rfl
 |
  cons x xs ih=>
  intro ys us h k
  cases h with
  |
   cons r t=>
   cases k with
   |cons r' t'=>rw[r.inj r',ih t t']
section
variable {X:Cx}{pins:List (Addr×Obj)}{σ:St}{H:Hp}{s:Shared}{a:Addr}{xs ys:List V}
theorem A4.of {K:Faa}(h:H a=some (.lst xs)):A4 K H a xs:=.inl (.inl h)
theorem A5.of {K:Faa}(h:H a=some (.tup xs)):A5 K H a xs:=.inl (.inl h)
theorem A2.list (I:A2 X pins σ H s)(h:A4 X.K H a xs):∃its:List Value,Aw xs its/\PlainL s.heap a its.toArray/\xs.length<=sizeLine:=by
 rcases h with h|⟨o,its,n,hk,hc,hd,hs,hz,r⟩
 .obtain⟨z,its,n,r,e⟩:=h.ok I.hok
  exact⟨its,r,⟨_,n,e,rfl,rfl,rfl⟩,z⟩
 .refine⟨its.toList,r,⟨o,n,I.kIn a o hk,hc,hd,by simpa using hs⟩,?_⟩
  have e:=r.length
  simp only[Gy]at e
  lia
theorem A2.tuple (I:A2 X pins σ H s)(h:A5 X.K H a xs):∃its:List Value,Aw xs its/\IsTup s.heap a its.toArray/\xs.length<=sizeLine:=by
 rcases h with h|⟨o,its,n,hk,hc,hs,hz,r⟩
 .obtain⟨z,its,r,p⟩:=h.ok I.hok
  exact⟨its,r,p.tup,z⟩
 .refine⟨its.toList,r,⟨o,I.kIn a o hk,hc,n,by simpa using hs⟩,?_⟩
  have e:=r.length
  simp only[Gy]at e
  lia
theorem A2.list_inj (I:A2 X pins σ H s)(h:A4 X.K H a xs)(h':A4 X.K H a ys):xs=ys:=by
 obtain⟨its,r,⟨o,n,e,_,_,d⟩,_⟩:=I.list h
 obtain⟨its',r',⟨o',n',e',_,_,d'⟩,_⟩:=I.list h'
 rw[e]at e';cases e'
 rw[d]at d'
 injection d' with d1 _
 have:its=its':=by simpa using congrArg Array.toList d1
 subst this
 exact r.inj r'
theorem A2.tuple_inj (I:A2 X pins σ H s)(h:A5 X.K H a xs)(h':A5 X.K H a ys):xs=ys:=by
 obtain⟨its,r,⟨o,e,_,n,d⟩,_⟩:=I.tuple h
 obtain⟨its',r',⟨o',e',_,n',d'⟩,_⟩:=I.tuple h'
 rw[e]at e';cases e'
 rw[d]at d'
 injection d' with d1 _
 have:its=its':=by simpa using congrArg Array.toList d1
 subst this
 exact r.inj r'
end
abbrev Cx.wish (X:Cx)(E:Value->Shared->Prop):Cx:={X with xe:=E}
abbrev Cx.nox (X:Cx):Cx:=X.wish fun _ _=>False
theorem Cx.Ok.wish {X:Cx}(ok:X.Ok)(E:Value->Shared->Prop):(X.wish E).Ok:=
 ⟨ok.mod,ok.kind,ok.glob,ok.blt,ok.above,ok.inj,ok.has,ok.cab,ok.hd,ok.frames,ok.stk,ok.exf,ok.bs,ok.bsz,ok.noex,ok.exfs,ok.funs,ok.frf⟩
theorem Cx.Ok.unwish {X:Cx}{E:Value->Shared->Prop}(ok:(X.wish E).Ok):X.Ok:=
 ⟨ok.mod,ok.kind,ok.glob,ok.blt,ok.above,ok.inj,ok.has,ok.cab,ok.hd,ok.frames,ok.stk,ok.exf,ok.bs,ok.bsz,ok.noex,ok.exfs,ok.funs,ok.frf⟩
section
variable {X:Cx}{pins:List (Addr×Obj)}{σ:St}{H:Hp}{s:Shared}{E:Value->Shared->Prop}
theorem A2.wish (I:A2 X pins σ H s)(E:Value->Shared->Prop):A2 (X.wish E) pins σ H s:=⟨I.ok.wish E,I.os,I.bare,I.base,I.loc,I.cell,I.free,I.freeC,I.pin,I.hok,I.len⟩
theorem A2.unwish (I:A2 (X.wish E) pins σ H s):A2 X pins σ H s:=⟨I.ok.unwish,I.os,I.bare,I.base,I.loc,I.cell,I.free,I.freeC,I.pin,I.hok,I.len⟩
theorem SP.unwish {D:CC}{f:Flow}{s':Shared}(h:SP (X.wish E) pins D f s'):SP X pins D f s':=by
 cases f with
 |next=>obtain⟨σ',H',I,q⟩:=h;exact⟨σ',H',I.unwish,q⟩
 |brk=>obtain⟨σ',H',I,q⟩:=h;exact⟨σ',H',I.unwish,q⟩
 |cont=>obtain⟨σ',H',I,q⟩:=h;exact⟨σ',H',I.unwish,q⟩
 |ret u=>obtain⟨v,σ',H',I,r,q⟩:=h;exact⟨v,σ',H',I.unwish,r,q⟩
theorem DC.nox {st:List Stmt}{t:TS}(h:DC X.nox st t):DC X st t:=fun pins s σ H D I hw=>
 CN (h pins s σ H D (I.wish _) hw) (fun _ _ q=>q.unwish) fun _ _ z=>False.elim z
end
section
variable {X:Cx}{st:Stmt}{rest:List Stmt}{t u:TS}{e:Expr}{te:TE}{pos:Pos}
def YM:TS:=fun D σ H=>D.nx σ H
def GM (t u:TS):TS:=fun D σ H=>t {D with nx:=u D} σ H
theorem BB:DC X [] YM:=fun _ _ σ H _ I h=>MS ⟨σ,H,I,h⟩
theorem A8 (h1:PS X st t)(h2:DC X rest u):DC X (st::rest) (GM t u):=by
 intro pins s σ H D I h
 refine wpAny_execs_cons (Az (h1 pins s σ H {D with nx:=u D} I h) fun f s1 q=>?_)
 cases f with
 |
  next=>
  obtain⟨σ',H',I',q⟩:=q
  exact h2 pins s1 σ' H' D I' q
 |ret v=>exact q
 |brk=>exact q
 |cont=>exact q
theorem Aj (h1:PS X st t):DC X [st] t:=by
 intro pins s σ H D I h
 refine wpAny_execs_cons (Az (h1 pins s σ H D I h) fun f s1 q=>?_)
 cases f with
 |next=>exact MS q
 |ret v=>exact q
 |brk=>exact q
 |cont=>exact q
def YV:TS:=fun D σ H=>D.bk σ H
theorem Xh:PS X (.Break pos) YV:=fun _ _ σ H _ I h=>wpAny_Break ⟨σ,H,I,h⟩
theorem A2.quiet {pins:List (Addr×Obj)}{σ:St}{H:Hp}{s:Shared}(I:A2 X pins σ H s):interactive X.env=false:=by simp[interactive,I.ok.kind]
def bo (te:TE):TS:=fun D σ H=>te σ H fun _ H1=>D.nx σ H1
theorem Cr (he:PE X e te)(hs:swapsWith e none pos.line X.env=pure false:=by rfl):PS X (.Expr e pos) (bo te):=by
 intro pins s σ H D I h
 refine wpAny_Expr_any (Az (he pins s σ H _ I h) fun v s1 zz=>?_) I.quiet hs
 obtain⟨x,H1,I1,r1,q1⟩:=zz
 exact⟨σ,H1,I1,q1⟩
def O2 (te:TE):TS:=fun D σ H=>te σ H D.rt
theorem AM (he:PE X e te):PS X (.Return (some e) pos) (O2 te):=by
 intro pins s σ H D I h
 refine wpAny_Return_some (Az (he pins s σ H _ I h) fun v s1 zz=>?_)
 obtain⟨x,H1,I1,r1,q1⟩:=zz
 exact⟨x,σ,H1,I1,r1,q1⟩
def JL (c:TT)(t u:TS):TS:=fun D σ H=>c σ H fun b H1=>if b=true then t D σ H1 else u D σ H1
theorem Bp {c:Expr}{a b:List Stmt}{tc:TT}(hc:PT X c tc)(ha:DC X a t)(hb:DC X b u):PS X (.If c a b pos) (JL tc t u):=by
 intro pins s σ H D I h
 refine wpAny_If (Az (hc pins s σ H _ I h) fun d s1 zz=>?_)
 obtain⟨H1,I1,q1⟩:=zz
 cases d with
 |true=>exact ha pins s1 σ H1 D I1 q1
 |false=>exact hb pins s1 σ H1 D I1 q1
end
abbrev TG:=V->St->Hp->(St->Hp->Prop)->Prop
abbrev EL:=List V->St->Hp->(St->Hp->Prop)->Prop
def PG (X:Cx)(target:Expr)(t:TG):Prop:=
 ∀(pins:List (Addr×Obj)) (s:Shared) (σ:St) (H:Hp) (v:V) (u:Value) (Q:St->Hp->Prop),A2 X pins σ H s->AE v u->t v σ H Q->
  wpAny (model X.prog X.w) X.A (assign target X.env u) (fun _ s'=>∃σ' H',A2 X pins σ' H' s'/\Q σ' H') X.xe s
def Hq (X:Cx)(ts:List Expr)(t:EL):Prop:=
 ∀(pins:List (Addr×Obj)) (s:Shared) (σ:St) (H:Hp) (vs:List V) (us:List Value) (Q:St->Hp->Prop),A2 X pins σ H s->Aw vs us->t vs σ H Q->
  wpAny (model X.prog X.w) X.A (assignInOrder ((assignEach ts X.env).map (·.2)) us) (fun _ s'=>∃σ' H',A2 X pins σ' H' s'/\Q σ' H') X.xe s
abbrev O1:=V->V->V->Hp->(Hp->Prop)->Prop
def P1 (X:Cx)(t:O1):Prop:=
 ∀(pins:List (Addr×Obj)) (s:Shared) (σ:St) (H:Hp) (o i v:V) (ov iv u:Value) (Q:Hp->Prop),A2 X pins σ H s->AE o ov->AE i iv->AE v u->t o i v H Q->
  wpAny (model X.prog X.w) X.A (setItem ov iv u) (fun _ s'=>∃H',A2 X pins σ H' s'/\Q H') X.xe s
section
variable {X:Cx}{pos:Pos}
def Am (i:Nat):TG:=fun v σ H Q=>Q (σ.set i (some v)) H
theorem Ax {i:Nat}{x:Str}(hN:X.N.Nodup)(hi:X.N[i]?=some x)(hx:HK X.env.scope x)(hf:X.fn x=true\/X.env.scope.names.lookup x=some .local:=by first|exact .inl rfl|exact .inr rfl|assumption):PG X (.Name x pos) (Am i):=by
 intro pins s σ H v u Q I r h
 exact wpAny_assign_Name (Nc I hN hi hx r (fun s' I'=>⟨_,H,I',h⟩) hf)
def Sj:EL:=fun vs σ H Q=>vs=[]/\Q σ H
def Ut (t:TG)(u:EL):EL:=fun vs σ H Q=>∃v r,vs=v::r/\t v σ H fun σ' H'=>u r σ' H' Q
theorem CB:Hq X [] Sj:=by
 intro pins s σ H vs us Q I r h
 obtain⟨e,h⟩:=h
 subst e
 cases r
 exact assignInOrder_nil ⟨σ,H,I,h⟩
theorem Zz {e:Expr}{es:List Expr}{t:TG}{u:EL}(h1:PG X e t)(h2:Hq X es u)
  (hs:(assignEach (e::es) X.env).map (·.2)=assign e X.env::(assignEach es X.env).map (·.2):=by rfl):Hq X (e::es) (Ut t u):=by
 intro pins s σ H vs us Q I r h
 obtain⟨v,vr,e1,h⟩:=h
 subst e1
 cases r with
 |
  cons r rr=>
  rw[hs]
  refine assignInOrder_cons (Az (h1 pins s σ H _ _ _ I r h) fun _ s1 zz=>?_)
  obtain⟨σ1,H1,I1,q1⟩:=zz
  exact h2 pins s1 σ1 H1 _ _ Q I1 rr q1
def NM (K:Faa)(n:Nat)(t:EL):TG:=fun v σ H Q=>∃a xs,v = .ref a/\A5 K H a xs/\xs.length=n/\t xs σ H Q
theorem Dg {es:List Expr}{k:Nat}{t:EL}{n:Nat}(hc:X.calm=true)(h:Hq X es t)
  (hn:(assignEach es X.env).length=n:=by rfl) (hst:(assignEach es X.env).findIdx? (·.1)=none:=by rfl):PG X (.Tuple es k pos) (NM X.K n t):=by
 intro pins s σ H v u Q I r hw
 obtain⟨a,xs,e1,hq,hl,hw⟩:=hw
 subst e1
 cases r
 obtain⟨its,rv,ht,hz⟩:=I.tuple hq
 refine assign_Tuple_tuple (I.ok.hd hc) ht (by simp[hn,←hl,rv.length]) hst fun h' hx=>?_
 have I1:A2 X pins σ H {s with heap:=h'}:=I.kept (t':=s.toks) fun b o e=>hx b o (AV (AG e)) e
 exact h pins _ σ H xs _ Q I1 (by simpa using rv) hw
def VI (to ti:TE)(t:O1):TG:=fun v σ H Q=>to σ H fun o H1=>ti σ H1 fun i H2=>t o i v H2 fun H3=>Q σ H3
theorem Kg {o i:Expr}{to ti:TE}{t:O1}(ho:PE X o to)(hi:PE X i ti)(hs:P1 X t)
  (ha:∀v,assign (.Subscript o i pos) X.env v=(do
   let ov ←holding [v] (eval o X.env)
   let iv ←holding [v,ov] (eval i X.env)
   standAt pos
   holding [v,ov,iv] (setItem ov iv v)
   release [v,ov,iv] []):=by intro _;rfl):PG X (.Subscript o i pos) (VI to ti t):=by
 intro pins s σ H v u Q I r h
 rw[ha]
 refine A9 (Er (Az (ho pins s σ H _ I h) fun ov s1 zz=>?_))
 obtain⟨x,H1,I1,r1,q1⟩:=zz
 refine A9 (Er (Az (hi pins s1 σ H1 _ I1 q1) fun iv s2 zz=>?_))
 obtain⟨y,H2,I2,r2,q2⟩:=zz
 refine A9 (Ja (A9 (Er (Az (hs pins s2 σ H2 x y v ov iv u _ I2 r1 r2 r q2) fun _ s3 zz=>?_))))
 obtain⟨H3,I3,q3⟩:=zz
 exact wpAny_release ⟨σ,H3,I3,q3⟩
def Ip (te:TE)(g:TG):TS:=fun D σ H=>te σ H fun x H1=>g x σ H1 D.nx
theorem ES {tg e:Expr}{te:TE}{g:TG}(he:PE X e te)(hg:PG X tg g)(hs:swapsWithSole [tg] e pos.line X.env=pure false:=by rfl)(hw:swappedStores [tg] e X.env=pure none:=by rfl)
  (h1:(assignEach [tg] X.env).map (·.2)=[assign tg X.env]:=by rfl):PS X (.Assign [tg] e pos) (Ip te g):=by
 intro pins s σ H D I h
 refine wpAny_Assign_stores (Az (he pins s σ H _ I h) fun v s1 zz=>?_) hs hw
 obtain⟨x,H1,I1,r1,q1⟩:=zz
 rw[h1]
 exact Az (hg pins s1 σ H1 x v _ I1 r1 q1) fun _ s2 q=>q
theorem Ah {i:Nat}{x:Str}{e:Expr}{te:TE}{pos':Pos}(hN:X.N.Nodup)(hi:X.N[i]?=some x)(hx:HK X.env.scope x)(he:PE X e te)(hs:swapsWith e (some (.Name x pos')) pos.line X.env=pure false:=by rfl)(hf:X.fn x=true\/X.env.scope.names.lookup x=some .local:=by first|exact .inl rfl|exact .inr rfl|assumption) :
  PS X (.Assign [.Name x pos'] e pos) (Ip te (Am i)):=by
 intro pins s σ H D I h
 refine wpAny_Assign_Name (Az (he pins s σ H _ I h) fun v s1 zz=>?_) hs
 obtain⟨y,H1,I1,r1,q1⟩:=zz
 exact Nc I1 hN hi hx r1 (fun s2 I2=>⟨_,H1,I2,q1⟩) hf
end
section
variable {X:Cx}{pos:Pos}
def Mb (c:TT)(tb:TS):TS:=fun D σ H=>∃W:Nat->St->Hp->Prop,(∃m,W m σ H)/\∀m σ H,W m σ H->
 c σ H fun b H1=>if b=true then ∃N:St->Hp->Prop,(∀σ' H',N σ' H'->∃m',m'<m/\W m' σ' H')/\tb {D with nx:=N,ct:=N,bk:=D.nx} σ H1 else D.nx σ H1
theorem Gn {c:Expr}{body:List Stmt}{tc:TT}{tb:TS}(hp:PassesOwn (model X.prog X.w) X.A X.env X.xe)(hc:PT X c tc)(hb:DC X body tb):PS X (.While c body [] pos) (Mb tc tb):=by
 intro pins s σ H D I h
 obtain⟨W,⟨m0,w0⟩,turn⟩:=h
 refine wpAny_While (codeAny_whileLoop (fun n s'=>∃σ' H',A2 X pins σ' H' s'/\W n σ' H') ?_ m0 ⟨σ,H,I,w0⟩)
 rintro n s1 ⟨σ1,H1,I1,w1⟩
 refine Jb hp (Az (hc pins s1 σ1 H1 _ I1 (turn n σ1 H1 w1)) fun b s2 zz=>?_)
 obtain⟨H2,I2,q2⟩:=zz
 cases b with
 |
  true=>
  obtain⟨N,hN,q2⟩:=q2
  rw[Ap rfl]
  refine Jb hp (Az (hb pins s2 σ1 H2 _ I2 q2) fun f s3 q3=>?_)
  cases f with
  |
   next=>
   obtain⟨σ3,H3,I3,n3⟩:=q3
   obtain⟨m',hm,w3⟩:=hN σ3 H3 n3
   exact⟨m',hm,σ3,H3,I3,w3⟩
  |
   cont=>
   obtain⟨σ3,H3,I3,n3⟩:=q3
   obtain⟨m',hm,w3⟩:=hN σ3 H3 n3
   exact⟨m',hm,σ3,H3,I3,w3⟩
  |brk=>exact q3
  |ret v=>exact q3
 |
  false=>
  rw[Al Cm]
  exact MS ⟨σ1,H2,I2,q2⟩
end
structure It where
 go:Nat->Hp->Prop
 yld:Nat->Hp->V->Hp->Prop
 stop:Nat->Hp->Prop
def EH (X:Cx)(pins:List (Addr×Obj))(H:Hp)(b:Addr):Prop:=
 H b=none/\b≠X.env.locals/\b∉X.fs/\(b∈X.ex\/X.s₀.heap.objs.size<=b)/\(∀x c,X.env.cells.lookup x=some c->c≠b)/\∀p∈X.pn++pins,p.1≠b
theorem A2.fpOk {X:Cx}{pins:List (Addr×Obj)}{σ:St}{H H':Hp}{s:Shared}{b:Addr}(I:A2 X pins σ H s)(hb:s.heap.objs.size<=b)(hn:H' b=none):EH X pins H' b:=by
 refine⟨hn,CM (BO I.lt hb),I.nofs hb,.inr (CL I.sz hb),fun x c e z=>?_,fun p hp z=>?_⟩
 .obtain⟨v,q⟩:=I.cell x c e
  exact absurd (BO q.lt (by rw[z];exact hb)) (F3 _)
 .exact absurd (BO (AG (I.pin p hp).1) (by rw[z];exact hb)) (F3 _)
structure FT (P:Program)(w:World)(K:Faa)(tg:Expr)(J:It)(fp:List Addr)(it:Addr)(tn:Nat->Heap->Prop):Prop where
 mem:it∈fp
 obj:∀i h,tn i h->∀b∈fp,∃o,h.get? b=some o/\∀v,o.data≠.cell v
 keep:∀i h h',tn i h->(∀b∈fp,∀o,h.get? b=some o->h'.get? b=some o)->tn i h'
 item:∀(X:Cx),X.prog=P->X.w=w->X.K=K->X.calm=true->∀(i:Nat) (pins:List (Addr×Obj)) (s:Shared) (σ:St) (H:Hp) (E:Value->Shared->Prop),A2 X pins σ H s->(∀b∈fp,EH X pins H b)->tn i s.heap->J.go i H->
  wpAny (model P w) X.A (pyNext (.ref it)) (fun r s1=>∃u,r=some u/\
   wpAny (model P w) X.A (letOwnedTupleGo tg (.ref it) u) (fun _ s2=>∃x H',A2 X pins σ H' s2/\AE x u/\J.yld i H x H'/\tn (i+1) s2.heap/\∀b∈fp,H' b=none) E s1) E s
 done:∀(X:Cx),X.prog=P->X.w=w->X.K=K->X.calm=true->∀(i:Nat) (pins:List (Addr×Obj)) (s:Shared) (σ:St) (H:Hp) (E:Value->Shared->Prop),A2 X pins σ H s->(∀b∈fp,EH X pins H b)->tn i s.heap->J.stop i H->
  wpAny (model P w) X.A (pyNext (.ref it)) (fun r s1=>r=none/\A2 X pins σ H s1) E s
 self:∀(A:Around) (i:Nat) (s:Shared) (Q:Value->Shared->Prop) (E:Value->Shared->Prop),tn i s.heap->Q (.ref it) s->wpAny (model P w) A (pyIter (.ref it)) Q E s
abbrev TI:=St->Hp->(It->Hp->Prop)->Prop
def Rk (X:Cx)(pins:List (Addr×Obj))(σ:St)(tg:Expr)(R:It->Hp->Prop)(itv:Value)(s2:Shared):Prop:=
 ∃(it:Addr) (fp:List Addr) (tn:Nat->Heap->Prop) (J:It) (H':Hp),itv = .ref it/\A2 X pins σ H' s2/\FT X.prog X.w X.K tg J fp it tn/\tn 0 s2.heap/\(∀b∈fp,EH X pins H' b)/\R J H'
def PI (X:Cx)(tg iter:Expr)(wi:TI):Prop:=
 ∀(pins:List (Addr×Obj)) (s:Shared) (σ:St) (H:Hp) (R:It->Hp->Prop),A2 X pins σ H s->wi σ H R->
  wpAny (model X.prog X.w) X.A (eval iter X.env) (fun v s1=>wpAny (model X.prog X.w) X.A (pyIter v) (Rk X pins σ tg R) X.xe s1) X.xe s
theorem NB {M:Model}{A:Around}{E:Value->Shared->Prop}{s:Shared}{tg:Expr}{it:Addr}{u:Value}{o:Obj}{n:String}{vs:Array Value}{Q:Unit->Shared->Prop}(ho:s.heap.get? it=some o)(hc:o.cls = .type n)(hd:o.data = .fields vs)
  (hn:["enumerate","zip","dict_itemiterator","dict_reverseitemiterator","odict_iterator","itertools.zip_longest","itertools.pairwise"].contains n=false) (hQ:Q () s):wpAny M A (letOwnedTupleGo tg (.ref it) u) Q E s:=by
 unfold letOwnedTupleGo
 cases tg<;>first
  |exact AA hQ
  |(cases u<;>first
   |exact AA hQ
   |(
    refine A9 (wpAny_load ho ?_)
    rw[hc,hd]
    show wpAny M A (if(["enumerate","zip","dict_itemiterator","dict_reverseitemiterator","odict_iterator","itertools.zip_longest","itertools.pairwise"].contains n&&vs[0]?==some (rawInt _))=true then _ else _) Q E s
    rw[Al (by intro h;rw[hn,Bool.false_and]at h;cases h)]
    exact AA hQ))
noncomputable def Hi (K:Faa)(a:Addr):It:=
 ⟨fun i H=>∃xs x,A4 K H a xs/\xs[i]?=some x,fun i H x H'=>H'=H/\∀xs,A4 K H a xs->xs[i]?=some x,fun i H=>∃xs,A4 K H a xs/\xs.length<=i⟩
noncomputable def NH (K:Faa)(a:Addr):It:=
 ⟨fun i H=>∃xs x,A5 K H a xs/\xs[i]?=some x,fun i H x H'=>H'=H/\∀xs,A5 K H a xs->xs[i]?=some x,fun i H=>∃xs,A5 K H a xs/\xs.length<=i⟩
noncomputable def Gj (lo:Int)(n:Nat):It:=⟨fun i _=>i<n,fun i H x H'=>H'=H/\x = .int (lo+i),fun i _=>n<=i⟩
theorem Uv {P:Program}{w:World}{K:Faa}{tg:Expr}(a it:Addr):FT P w K tg (Hi K a) [it] it (fun i h=>h.IsListIter it a i) where
 mem:=by simp
 obj:=fun i h st b hb=>by
  have e:b=it:=by simpa using hb
  subst e
  obtain⟨o,e,c,d⟩:=st
  exact⟨o,e,fun v z=>by rw[d]at z;cases z⟩
 keep:=fun i h h' st k=>st.at fun o e=>k it (by simp) o e
 item:=by
  intro X hP hw hK hc i pins s σ H E I hf st hg
  subst hP hw hK
  obtain⟨xs,x,hq,hx⟩:=hg
  obtain⟨its,rv,p,hz⟩:=I.list hq
  obtain⟨u,hu,ru⟩:=rv.get hx
  obtain⟨f0,f1,f2,f3,f4,f5⟩:=hf it (by simp)
  refine S8 st p.isList (x:=u) (by simpa using hu) fun h' st' sb=>?_
  have I1:A2 X pins σ H {s with heap:=h'}:=I.turned (t':=s.toks) (fun b o hb e=>(sb.2 b hb).trans e) f0 f1 f3 f4 f5
  obtain⟨o,e,c,d⟩:=id st'
  exact⟨u,rfl,NB (s:={s with heap:=h'}) e c d (by decide) ⟨x,H,I1,ru,⟨rfl,fun ys hy=>by rw[I.list_inj hy hq];exact hx⟩,st',fun b hb=>(hf b hb).1⟩⟩
 done:=by
  intro X hP hw hK hc i pins s σ H E I hf st hg
  subst hP hw hK
  obtain⟨xs,hq,hx⟩:=hg
  obtain⟨its,rv,p,hz⟩:=I.list hq
  obtain⟨f0,f1,f2,f3,f4,f5⟩:=hf it (by simp)
  have hl:=rv.length
  exact S9 (I.ok.hd hc) st p.isList (by simp;lia) fun h' eb=>⟨rfl,I.turned (t':=s.toks) (fun b o hb e=>eb b o hb e) f0 f1 f3 f4 f5⟩
 self:=fun _ _ _ _ _ st h=>wpAny_pyIter_listiter st h
theorem Ue {P:Program}{w:World}{K:Faa}{tg:Expr}(a it:Addr):FT P w K tg (NH K a) [it] it (fun i h=>h.IsTupleIter it a i) where
 mem:=by simp
 obj:=fun i h st b hb=>by
  have e:b=it:=by simpa using hb
  subst e
  obtain⟨o,e,c,d⟩:=st
  exact⟨o,e,fun v z=>by rw[d]at z;cases z⟩
 keep:=fun i h h' st k=>st.at fun o e=>k it (by simp) o e
 item:=by
  intro X hP hw hK hc i pins s σ H E I hf st hg
  subst hP hw hK
  obtain⟨xs,x,hq,hx⟩:=hg
  obtain⟨its,rv,p,hz⟩:=I.tuple hq
  obtain⟨u,hu,ru⟩:=rv.get hx
  obtain⟨f0,f1,f2,f3,f4,f5⟩:=hf it (by simp)
  refine wpAny_pyNext_tuple_item st (show s.heap.IsTuple a its.toArray from p) (x:=u) (by simpa using hu) fun h' st' sb=>?_
  have I1:A2 X pins σ H {s with heap:=h'}:=I.turned (t':=s.toks) (fun b o hb e=>(sb.2 b hb).trans e) f0 f1 f3 f4 f5
  obtain⟨o,e,c,d⟩:=id st'
  exact⟨u,rfl,NB (s:={s with heap:=h'}) e c d (by decide) ⟨x,H,I1,ru,⟨rfl,fun ys hy=>by rw[I.tuple_inj hy hq];exact hx⟩,st',fun b hb=>(hf b hb).1⟩⟩
 done:=by
  intro X hP hw hK hc i pins s σ H E I hf st hg
  subst hP hw hK
  obtain⟨xs,hq,hx⟩:=hg
  obtain⟨its,rv,p,hz⟩:=I.tuple hq
  obtain⟨f0,f1,f2,f3,f4,f5⟩:=hf it (by simp)
  have hl:=rv.length
  exact wpAny_pyNext_tuple_end (I.ok.hd hc) st (show s.heap.IsTuple a its.toArray from p) (by simp;lia) fun h' eb=>⟨rfl,I.turned (t':=s.toks) (fun b o hb e=>eb b o hb e) f0 f1 f3 f4 f5⟩
 self:=fun _ _ _ _ _ st h=>wpAny_pyIter_tupleiter st h
theorem SI {P:Program}{w:World}{K:Faa}{tg:Expr}(it:Addr)(lo:Int)(n:Nat):FT P w K tg (Gj lo n) [it] it (fun i h=>IsRangeIter h it (lo+(i:Nat)*1) ((n:Int)-(i:Nat)) 1) where
 mem:=by simp
 obj:=fun i h st b hb=>by
  have e:b=it:=by simpa using hb
  subst e
  exact⟨_,st,fun v z=>by
   have z':Data.fields _=Data.cell v:=z
   cases z'⟩
 keep:=fun i h h' st k=>k it (by simp) _ st
 item:=by
  intro X hP hw hK hc i pins s σ H E I hf st hg
  subst hP hw hK
  obtain⟨f0,f1,f2,f3,f4,f5⟩:=hf it (by simp)
  have W:=Walks.range (prog:=X.prog) (w:=X.w) (I.ok.hd hc) it lo 1 n
  refine W.item i s _ _ hg st fun v h' tk hv st' kk=>?_
  obtain⟨t,rfl⟩:=hv
  have I1:A2 X pins σ H {s with heap:=h',toks:=tk}:=I.turned (fun b o hb e=>kk b o (by simpa using hb) e) f0 f1 f3 f4 f5
  refine⟨_,rfl,NB (s:={s with heap:=h',toks:=tk}) (n:="range_iterator") st' rfl rfl (by decide) ⟨.int (lo+i),H,I1,⟨t,?_⟩,⟨rfl,rfl⟩,st',fun b hb=>(hf b hb).1⟩⟩
  rw[Int.mul_one]
 done:=by
  intro X hP hw hK hc i pins s σ H E I hf st hg
  subst hP hw hK
  obtain⟨f0,f1,f2,f3,f4,f5⟩:=hf it (by simp)
  exact wpAny_pyNext_range_end (I.ok.hd hc) st (by have:n<=i:=hg;lia) fun h' eb=>⟨rfl,I.turned (t':=s.toks) (fun b o hb e=>eb b o hb e) f0 f1 f3 f4 f5⟩
 self:=fun _ _ _ _ _ st h=>wpAny_pyIter_rangeiter st h
section
variable {X:Cx}{tg:Expr}
def SY (K:Faa)(tl:TE):TI:=fun σ H R=>tl σ H fun x H1=>∃a,x = .ref a/\(∃xs,A4 K H1 a xs)/\R (Hi K a) H1
def Z1 (K:Faa)(tl:TE):TI:=fun σ H R=>tl σ H fun x H1=>∃a,x = .ref a/\(∃xs,A5 K H1 a xs)/\R (NH K a) H1
theorem CV {l:Expr}{tl:TE}(hl:PE X l tl):PI X tg l (SY X.K tl):=by
 intro pins s σ H R I h
 refine Az (hl pins s σ H _ I h) fun v s1 zz=>?_
 obtain⟨x,H1,I1,r1,q1⟩:=zz
 obtain⟨a,e,⟨xs,hq⟩,q⟩:=q1
 subst e
 cases r1
 obtain⟨its,rv,p,hz⟩:=I1.list hq
 refine Jc p.isList ?_
 refine⟨s1.heap.objs.size,[s1.heap.objs.size],_,_,H1,rfl,I1.kept (t':=s1.toks) fun b o e=>AD _ e,Uv a _,⟨_,C7 _ rfl,rfl,rfl⟩,fun b hb=>?_,q⟩
 have e:b=s1.heap.objs.size:=by simpa using hb
 subst e
 exact I1.fpOk (Af _) (I1.hok.fresh (Af _))
theorem Zu {l:Expr}{tl:TE}(hl:PE X l tl):PI X tg l (Z1 X.K tl):=by
 intro pins s σ H R I h
 refine Az (hl pins s σ H _ I h) fun v s1 zz=>?_
 obtain⟨x,H1,I1,r1,q1⟩:=zz
 obtain⟨a,e,⟨xs,hq⟩,q⟩:=q1
 subst e
 cases r1
 obtain⟨its,rv,p,hz⟩:=I1.tuple hq
 refine OB (show s1.heap.IsTuple a its.toArray from p) ?_
 refine⟨s1.heap.objs.size,[s1.heap.objs.size],_,_,H1,rfl,I1.kept (t':=s1.toks) fun b o e=>AD _ e,Ue a _,⟨_,C7 _ rfl,rfl,rfl⟩,fun b hb=>?_,q⟩
 have e:b=s1.heap.objs.size:=by simpa using hb
 subst e
 exact I1.fpOk (Af _) (I1.hok.fresh (Af _))
theorem R5 {pins:List (Addr×Obj)}{σ:St}{H:Hp}{s:Shared}{R:It->Hp->Prop}{E:Value->Shared->Prop}{lo hi:Int}{t u v:Tok}{tk:Nat}(I:A2 X pins σ H s)(h1 : -(2 ^ 62)<=lo)(h2:lo<2 ^ 62)(h3 : -(2 ^ 62)<=hi)(h4:hi<2 ^ 62)
  (q:R (Gj lo (hi-lo).toNat) H):wpAny (model X.prog X.w) X.A (pyIter (.ref s.heap.objs.size)) (Rk X pins σ tg R) E {s with heap:=s.heap.push {cls:=.type "range",data:=.fields #[.int lo t,.int hi u,.int 1 v]},toks:=tk}:=by
 refine wpAny_pyIter_range (IsRange.new ..) (small_one h1 h2 h3 h4) ?_
 have I1:A2 X pins σ H {s with heap:=s.heap.push {cls:=.type "range",data:=.fields #[.int lo t,.int hi u,.int 1 v]},toks:=tk}:=I.kept fun b o e=>AD _ e
 refine⟨(s.heap.push {cls:=.type "range",data:=.fields #[.int lo t,.int hi u,.int 1 v]}).objs.size,[(s.heap.push {cls:=.type "range",data:=.fields #[.int lo t,.int hi u,.int 1 v]}).objs.size],_,_,H,rfl,
  I1.kept (t':=tk) fun b o e=>AD _ e,SI _ lo (hi-lo).toNat,?_,fun b hb=>?_,q⟩
 .have e1:lo+((0:Nat):Int)*1=lo:=by simp
  have e2:(((hi-lo).toNat:Nat):Int)-((0:Nat):Int)=Builtin.Range.rangeSize lo hi 1:=by rw[rangeSize_one];split<;>lia
  show IsRangeIter _ _ (lo+((0:Nat):Int)*1) ((((hi-lo).toNat:Nat):Int)-((0:Nat):Int)) 1
  rw[e1,e2]
  exact C7 _ rfl
 .have e:b=(s.heap.push {cls:=.type "range",data:=.fields #[.int lo t,.int hi u,.int 1 v]}).objs.size:=by simpa using hb
  subst e
  exact I1.fpOk (Af _) (I1.hok.fresh (Af _))
def TY (ta:TA):TI:=fun σ H R=>ta σ H fun vs H1=>∃j:Int,vs=[.int j]/\-(2 ^ 62)<=j/\j<2 ^ 62/\R (Gj 0 j.toNat) H1
def Yj (ta:TA):TI:=fun σ H R=>ta σ H fun vs H1=>∃i j:Int,vs=[.int i,.int j]/\(-(2 ^ 62)<=i/\i<2 ^ 62/\-(2 ^ 62)<=j/\j<2 ^ 62)/\R (Gj i (j-i).toNat) H1
theorem F2 {a:Expr}{ta:TA}{p pos:Pos}(hg:Gl X "range")(hm:X.mg "range"=none)(ha:PA X [a] ta)(hs:starEach [a] X.env=[(false,eval a X.env)]:=by rfl):PI X tg (.Call (.Name "range" p) [a] [] pos) (TY ta):=by
 intro pins s σ H R I h
 refine Call_ (Fc I hg hm boot_range (Hs (Az (ha pos pins s σ H _ I h) fun us s1 zz=>?_) hs rfl))
 obtain⟨vs,H1,I1,r1,q1⟩:=zz
 obtain⟨j,e,q1,q2,q⟩:=q1
 subst e
 cases r1 with
 |
  cons r rr=>
  cases rr
  obtain⟨t,rfl⟩:=r
  exact call_range_1 (R5 I1 (by lia) (by lia) q1 q2 (by simpa using q))
theorem aS {a b:Expr}{ta:TA}{p pos:Pos}(hg:Gl X "range")(hm:X.mg "range"=none)(ha:PA X [a,b] ta)(hs:starEach [a,b] X.env=[(false,eval a X.env),(false,eval b X.env)]:=by rfl)(hs2:starEach [b] X.env=[(false,eval b X.env)]:=by rfl) :
  PI X tg (.Call (.Name "range" p) [a,b] [] pos) (Yj ta):=by
 intro pins s σ H R I h
 refine Call_ (Fc I hg hm boot_range (Hs (Az (ha pos pins s σ H _ I h) fun us s1 zz=>?_) (by rw[hs,hs2]) (by rw[hs2];rfl)))
 obtain⟨vs,H1,I1,r1,q1⟩:=zz
 obtain⟨i,j,e,⟨q1,q2,q3,q4⟩,q⟩:=q1
 subst e
 cases r1 with
 |
  cons r rr=>
  cases rr with
  |
   cons r' rr=>
   cases rr
   obtain⟨t,rfl⟩:=r
   obtain⟨t',rfl⟩:=r'
   exact call_range_2 (R5 I1 q1 q2 q3 q4 q)
def TM (wi:TI)(g:TG)(tb:TS):TS:=fun D σ H=>wi σ H fun J H1=>∃W:Nat->Nat->St->Hp->Prop,(∃m,W 0 m σ H1)/\∀i m σ H,W i m σ H->
 (J.stop i H/\D.nx σ H)\/(J.go i H/\∃N:St->Hp->Prop,(∀σ' H',N σ' H'->∃m',m'<m/\W (i+1) m' σ' H')/\∀x H',J.yld i H x H'->g x σ H' fun σ2 H2=>tb {D with nx:=N,ct:=N,bk:=D.nx} σ2 H2)
noncomputable def Ii (fp:List Addr)(h:Heap):List (Addr×Obj):=fp.filterMap fun b=>(h.get? b).map fun o=>(b,o)
theorem Jr {fp:List Addr}{h:Heap}{b:Addr}{o:Obj}(hb:b∈fp)(e:h.get? b=some o):(b,o)∈Ii fp h:=List.mem_filterMap.mpr ⟨b,hb,by rw[e];rfl⟩
theorem WN {fp:List Addr}{h:Heap}{p:Addr×Obj}(hp:p∈Ii fp h):p.1∈fp/\h.get? p.1=some p.2:=by
 obtain⟨b,hb,e⟩:=List.mem_filterMap.mp hp
 cases q:h.get? b with
 |none=>rw[q]at e;cases e
 |
  some o=>
  rw[q]at e
  have e':(b,o)=p:=Ck e
  subst e'
  exact⟨hb,q⟩
theorem A2.pinned {pins:List (Addr×Obj)}{σ:St}{H:Hp}{s:Shared}{fp:List Addr}(I:A2 X pins σ H s)(hf:∀b∈fp,EH X pins H b)(ho:∀b∈fp,∃o,s.heap.get? b=some o/\∀v,o.data≠.cell v):A2 X (pins++Ii fp s.heap) σ H s:=
 I.pins_of fun p hp=>(BX.mp hp).elim (fun z=>I.pin p (CD _ z)) fun z=>by
  obtain⟨hb,e⟩:=WN z
  obtain⟨f0,f1,f2,_⟩:=hf p.1 hb
  obtain⟨o,e',d⟩:=ho p.1 hb
  rw[e]at e';cases e'
  exact⟨e,f0,f1,f2,d⟩
theorem A2.unpinned {pins pl:List (Addr×Obj)}{σ:St}{H:Hp}{s:Shared}(I:A2 X (pins++pl) σ H s):A2 X pins σ H s:=I.pins_of fun p hp=>I.pin p (CD _ (DN _ hp))
theorem C8 {iter:Expr}{body:List Stmt}{wi:TI}{g:TG}{tb:TS}{pos:Pos}(hp:PassesOwn (model X.prog X.w) X.A X.env X.xe)(hc:X.calm=true)(hi:PI X tg iter wi)(hg:PG X tg g)(hb:DC X body tb)
  (hs:∀x,foldedSetIterable iter X.env x=pure x:=by intro _;rfl):PS X (.For tg iter body [] pos) (TM wi g tb):=by
 intro pins s σ H D I h
 refine wpAny_For (Az (hi pins s σ H _ I h) fun v s1 h1=>Az h1 fun itv s2 h2=>?_) hs
 obtain⟨it,fp,tn,J,H2,e,I2,T,st2,f2,W,⟨m0,w0⟩,turn⟩:=h2
 subst e
 have stat:∀{H':Hp},(∀b∈fp,H' b=none)->∀b∈fp,EH X pins H' b:=fun hn b hb=>⟨hn b hb,(f2 b hb).2⟩
 refine codeAny_forLoop_any (fun n s'=>∃i σ' H',A2 X pins σ' H' s'/\tn i s'.heap/\(∀b∈fp,H' b=none)/\W i n σ' H') ?_ m0 ⟨0,σ,H2,I2,st2,fun b hb=>(f2 b hb).1,w0⟩
 rintro n s3 ⟨i,σ3,H3,I3,st3,fr3,w3⟩
 rcases turn i n σ3 H3 w3 with⟨stop,qn⟩|⟨go,N,hN,step⟩
 .refine Jb hp (Az (T.done X rfl rfl rfl hc i pins s3 σ3 H3 X.xe I3 (stat fr3) st3 stop) fun r s4 zz=>?_)
  obtain⟨hr,I4⟩:=zz
  subst hr
  exact MS ⟨σ3,H3,I4,qn⟩
 .refine Jb hp (Az (T.item X rfl rfl rfl hc i pins s3 σ3 H3 X.xe I3 (stat fr3) st3 go) fun r s4 zz=>?_)
  obtain⟨u,hr,h4⟩:=zz
  subst hr
  refine Jb hp (Az h4 fun _ s5 zz=>?_)
  obtain⟨x,H5,I5,r5,y5,st5,fr5⟩:=zz
  have I5':=I5.pinned (stat fr5) (T.obj _ _ st5)
  refine Jb hp (Az (hg _ s5 σ3 H5 x u _ I5' r5 (step x H5 y5)) fun _ s6 zz=>?_)
  obtain⟨σ6,H6,I6,q6⟩:=zz
  refine Jb hp (Az (hb _ s6 σ6 H6 _ I6 q6) fun f s7 q7=>?_)
  have again:∀{σ7:St} {H7:Hp},A2 X (pins++Ii fp s5.heap) σ7 H7 s7->N σ7 H7->∃m,m<n/\∃i σ' H',A2 X pins σ' H' s7/\tn i s7.heap/\(∀b∈fp,H' b=none)/\W i m σ' H':=fun{σ7 H7} I7 n7=>by
   obtain⟨m',hm,w7⟩:=hN σ7 H7 n7
   refine⟨m',hm,i+1,σ7,H7,I7.unpinned,T.keep _ _ _ st5 fun b hb o e=>(I7.pin (b,o) (CD _ (CD _ (Jr hb e)))).1,fun b hb=>?_,w7⟩
   obtain⟨o,e,d⟩:=T.obj _ _ st5 b hb
   exact(I7.pin (b,o) (CD _ (CD _ (Jr hb e)))).2.1
  cases f with
  |next=>obtain⟨σ7,H7,I7,n7⟩:=q7;exact again I7 n7
  |cont=>obtain⟨σ7,H7,I7,n7⟩:=q7;exact again I7 n7
  |brk=>obtain⟨σ7,H7,I7,q7⟩:=q7;exact⟨σ7,H7,I7.unpinned,q7⟩
  |ret v=>obtain⟨x7,σ7,H7,I7,r7,q7⟩:=q7;exact⟨x7,σ7,H7,I7.unpinned,r7,q7⟩
end
theorem FJ {K:Faa}{a:Addr}{xs:List V}{g:TG}{tb:TS}{D:CC}{σ:St}{H:Hp}(Pv:Nat->St->Hp->Prop)(h0:Pv 0 σ H)(hl:∀i σ H,i<=xs.length->Pv i σ H->A4 K H a xs)
  (hs:∀i x σ H,xs[i]?=some x->Pv i σ H->g x σ H fun σ2 H2=>tb {D with nx:=Pv (i+1),ct:=Pv (i+1),bk:=D.nx} σ2 H2) (hd:∀σ H,Pv xs.length σ H->D.nx σ H) :
  ∃W:Nat->Nat->St->Hp->Prop,(∃m,W 0 m σ H)/\∀i m σ H,W i m σ H->
   ((Hi K a).stop i H/\D.nx σ H)\/((Hi K a).go i H/\∃N:St->Hp->Prop,(∀σ' H',N σ' H'->∃m',m'<m/\W (i+1) m' σ' H')/\∀x H',(Hi K a).yld i H x H'->g x σ H' fun σ2 H2=>tb {D with nx:=N,ct:=N,bk:=D.nx} σ2 H2):=by
 refine⟨fun i m σ H=>m=xs.length-i/\i<=xs.length/\Pv i σ H,⟨xs.length,by simp,Bj _,h0⟩,?_⟩
 rintro i m σ H ⟨rfl,hi,p⟩
 have q:=hl i σ H hi p
 by_cases hlt:i<xs.length
 .refine .inr ⟨⟨xs,xs[i],q,by simp[hlt]⟩,Pv (i+1),fun σ' H' p'=>⟨xs.length-(i+1),by lia,rfl,hlt,p'⟩,fun x H' y=>?_⟩
  obtain⟨e,y⟩:=y
  subst e
  exact hs i x σ _ (y xs q) p
 .have e:i=xs.length:=by lia
  subst e
  exact .inl ⟨⟨xs,q,Af _⟩,hd σ H p⟩
theorem Fe {lo:Int}{n:Nat}{g:TG}{tb:TS}{D:CC}{σ:St}{H:Hp}(Pv:Nat->St->Hp->Prop)(h0:Pv 0 σ H)
  (hs:∀i σ H,i<n->Pv i σ H->g (.int (lo+i)) σ H fun σ2 H2=>tb {D with nx:=Pv (i+1),ct:=Pv (i+1),bk:=D.nx} σ2 H2) (hd:∀σ H,Pv n σ H->D.nx σ H) :
  ∃W:Nat->Nat->St->Hp->Prop,(∃m,W 0 m σ H)/\∀i m σ H,W i m σ H->
   ((Gj lo n).stop i H/\D.nx σ H)\/((Gj lo n).go i H/\∃N:St->Hp->Prop,(∀σ' H',N σ' H'->∃m',m'<m/\W (i+1) m' σ' H')/\∀x H',(Gj lo n).yld i H x H'->g x σ H' fun σ2 H2=>tb {D with nx:=N,ct:=N,bk:=D.nx} σ2 H2):=by
 refine⟨fun i m σ H=>m=n-i/\i<=n/\Pv i σ H,⟨n,by simp,Bj _,h0⟩,?_⟩
 rintro i m σ H ⟨rfl,hi,p⟩
 by_cases hlt:i<n
 .refine .inr ⟨hlt,Pv (i+1),fun σ' H' p'=>⟨n-(i+1),by lia,rfl,hlt,p'⟩,fun x H' y=>?_⟩
  obtain⟨e,y⟩:=y
  subst e y
  exact hs i σ _ hlt p
 .have e:i=n:=by lia
  subst e
  exact .inl ⟨Af _,hd σ H p⟩
abbrev R2:=V->V->Hp->VK->Prop
def BC (X:Cx)(f:Value->Value->Sem Value)(r:R2):Prop:=
 ∀(pins:List (Addr×Obj)) (s:Shared) (σ:St) (H:Hp) (x y:V) (v u:Value) (Q:VK),A2 X pins σ H s->AE x v->AE y u->r x y H Q->
  wpAny (model X.prog X.w) X.A (f v u) (EP X pins σ Q) X.xe s
def O9 (X:Cx)(f:Value->Sem Value)(r:V->Hp->VK->Prop):Prop:=
 ∀(pins:List (Addr×Obj)) (s:Shared) (σ:St) (H:Hp) (x:V) (v:Value) (Q:VK),A2 X pins σ H s->AE x v->r x H Q->
  wpAny (model X.prog X.w) X.A (f v) (EP X pins σ Q) X.xe s
def DX (X:Cx)(f:Value)(r:List V->Hp->VK->Prop):Prop:=
 ∀(pins:List (Addr×Obj)) (s:Shared) (σ:St) (H:Hp) (xs:List V) (us:List Value) (Q:VK),A2 X pins σ H s->Aw xs us->r xs H Q->
  wpAny (model X.prog X.w) X.A (call f us) (EP X pins σ Q) X.xe s
def Kk (r:R2)(ta tb:TE):TE:=fun σ H Q=>ta σ H fun x H1=>tb σ H1 fun y H2=>r x y H2 Q
def ZP (r:V->Hp->VK->Prop)(ta:TE):TE:=fun σ H Q=>ta σ H fun x H1=>r x H1 Q
def rI (C:Int->Int->Prop)(g:Int->Int->V):R2:=fun x y H Q=>∃i j,x = .int i/\y = .int j/\C i j/\Q (g i j) H
def He (g:Int->Int->V):R2:=fun x y H Q=>∃i j,x = .int i/\y = .int j/\Q (g i j) H
def rU (g:Int->V):V->Hp->VK->Prop:=fun x H Q=>∃i,x = .int i/\Q (g i) H
section
variable {X:Cx}{a b c:Expr}{ta tb tc:TE}{pos:Pos}
theorem O6 (ha:PE X a ta)(hb:PE X b tb){pins:List (Addr×Obj)}{s:Shared}{σ:St}{H:Hp}{R:V->V->Hp->Prop}(I:A2 X pins σ H s)
  (h:ta σ H fun x H1=>tb σ H1 fun y H2=>R x y H2) {Q:Value->Shared->Prop} {f:Value->Value->Sem Value}
  (hf:∀v u s2 x y H2,A2 X pins σ H2 s2->AE x v->AE y u->R x y H2->wpAny (model X.prog X.w) X.A (f v u) Q X.xe s2) :
  wpAny (model X.prog X.w) X.A (eval a X.env) (fun v s₁=>wpAny (model X.prog X.w) X.A (eval b X.env) (fun u s₂=>wpAny (model X.prog X.w) X.A (f v u) Q X.xe s₂) X.xe s₁) X.xe s:=by
 refine Az (ha pins s σ H _ I h) fun v s1 zz=>?_
 obtain⟨x,H1,I1,r1,q1⟩:=zz
 refine Az (hb pins s1 σ H1 _ I1 q1) fun u s2 zz=>?_
 obtain⟨y,H2,I2,r2,q2⟩:=zz
 exact hf v u s2 x y H2 I2 r1 r2 q2
theorem Ab {op:Operator}{r:R2}(ho:BC X (binaryOp op) r)(ha:PE X a ta)(hb:PE X b tb):PE X (.BinOp a op b pos) (Kk r ta tb):=by
 intro pins s σ H Q I h
 exact wpAny_BinOp (O6 ha hb I h fun v u s2 x y H2 I2 rx ry q=>ho pins s2 σ H2 x y v u Q I2 rx ry q)
theorem Mf {op:UnaryOp}{r:V->Hp->VK->Prop}(ho:O9 X (unaryOp op) r)(ha:PE X a ta):PE X (.UnaryOp op a pos) (ZP r ta):=by
 intro pins s σ H Q I h
 refine UnaryOp_ (Az (ha pins s σ H _ I h) fun v s1 zz=>?_)
 obtain⟨x,H1,I1,r1,q1⟩:=zz
 exact ho pins s1 σ H1 x v Q I1 r1 q1
theorem JM {f:Value->Value->Sem Value}{C:Int->Int->Prop}{g:Int->Int->Int}
  (rule:∀(i j:Int) (t u:Tok) (s:Shared) (Q:Value->Shared->Prop) (E:Value->Shared->Prop),C i j->Q (.int (g i j) s.toks) {s with toks:=s.toks+1}->wpAny (model X.prog X.w) X.A (f (.int i t) (.int j u)) Q E s) :
  BC X f (rI C fun i j=>.int (g i j)):=by
 intro pins s σ H x y v u Q I rx ry h
 obtain⟨i,j,rfl,rfl,hc,q⟩:=h
 obtain⟨t,rfl⟩:=rx
 obtain⟨t',rfl⟩:=ry
 exact rule i j t t' s _ _ hc ⟨.int (g i j),H,I.tok _,⟨_,rfl⟩,q⟩
theorem R7 {f:Value->Value->Sem Value}{g:Int->Int->Int}
  (rule:∀(i j:Int) (t u:Tok) (s:Shared) (Q:Value->Shared->Prop) (E:Value->Shared->Prop),Q (.int (g i j) s.toks) {s with toks:=s.toks+1}->wpAny (model X.prog X.w) X.A (f (.int i t) (.int j u)) Q E s) :
  BC X f (He fun i j=>.int (g i j)):=by
 intro pins s σ H x y v u Q I rx ry h
 obtain⟨i,j,rfl,rfl,q⟩:=h
 obtain⟨t,rfl⟩:=rx
 obtain⟨t',rfl⟩:=ry
 exact rule i j t t' s _ _ ⟨.int (g i j),H,I.tok _,⟨_,rfl⟩,q⟩
theorem RG {f:Value->Value->Sem Value}{g:Int->Int->Bool}
  (rule:∀(i j:Int) (t u:Tok) (s:Shared) (Q:Value->Shared->Prop) (E:Value->Shared->Prop),Q (.bool (g i j)) s->wpAny (model X.prog X.w) X.A (f (.int i t) (.int j u)) Q E s) :
  BC X f (He fun i j=>.bl (g i j)):=by
 intro pins s σ H x y v u Q I rx ry h
 obtain⟨i,j,rfl,rfl,q⟩:=h
 obtain⟨t,rfl⟩:=rx
 obtain⟨t',rfl⟩:=ry
 exact rule i j t t' s _ _ ⟨.bl (g i j),H,I,rfl,q⟩
def Xb (i j:Int):Prop:=0<j/\j<1073741824
def Yo (i j:Int):Prop:=0<=j/\j<=1000000/\i.natAbs<2 ^ 64
def NI (i j:Int):Prop:=(-(2 ^ 64)<i/\i<2 ^ 64)\/(-(2 ^ 64)<j/\j<2 ^ 64)
theorem NI.ok {i j:Int}(h:NI i j):IntMulOk i j:=by
 rcases h with⟨h1,h2⟩|⟨h1,h2⟩
 .exact .of_left (intBits_le_64 h1 h2)
 .exact .of_right (intBits_le_64 h1 h2)
theorem AL:BC X (binaryOp .Add) (He fun i j=>.int (i+j)):=R7 fun _ _ _ _ _ _ _ q=>add_int q
theorem Ci:BC X (binaryOp .Sub) (He fun i j=>.int (i-j)):=R7 fun _ _ _ _ _ _ _ q=>sub_int q
theorem Cp:BC X (binaryOp .Mult) (rI NI fun i j=>.int (i*j)):=JM fun _ _ _ _ _ _ _ hc q=>mul_int q hc.ok
theorem Gc:BC X (binaryOp .FloorDiv) (rI Xb fun i j=>.int (i/j)):=JM fun i j _ _ _ _ _ hc q=>by
 have h1:(0:Int)<j:=hc.1
 have h2:j<1073741824:=hc.2
 exact floordiv_int (by lia) (by rw[Int.fdiv_eq_ediv_of_nonneg i (by lia)];exact q) (.inl (PyProof.noPylong_small (by lia)))
theorem C5:BC X (binaryOp .Mod) (rI (fun _ j=>0<j) fun i j=>.int (i%j)):=JM fun i j _ _ _ _ _ hc q=>by
 have h1:(0:Int)<j:=hc
 exact mod_int' (by lia) (by rw[Int.fmod_eq_emod_of_nonneg i (by lia)];exact q)
theorem IG:BC X (binaryOp .Pow) (rI Yo fun i j=>.int (i ^ j.toNat)):=JM fun _ _ _ _ _ _ _ hc q=>pow_int_small hc.1 hc.2.1 hc.2.2 q
theorem XU {f:Value->Sem Value}{g:Int->Int}
  (rule:∀(i:Int) (t:Tok) (s:Shared) (Q:Value->Shared->Prop) (E:Value->Shared->Prop),Q (.int (g i) s.toks) {s with toks:=s.toks+1}->wpAny (model X.prog X.w) X.A (f (.int i t)) Q E s) :
  O9 X f (rU fun i=>.int (g i)):=by
 intro pins s σ H x v Q I rx h
 obtain⟨i,rfl,q⟩:=h
 obtain⟨t,rfl⟩:=rx
 exact rule i t s _ _ ⟨.int (g i),H,I.tok _,⟨_,rfl⟩,q⟩
theorem Lv:O9 X (unaryOp .USub) (rU fun i=>.int (-i)):=XU fun _ _ _ _ _ q=>neg_int q
end
noncomputable def Pj:V->V->Bool
 |.non,.non=>true|.non,.int _=>true|.int _,.non=>true|.non,.bl _=>true|.bl _,.non=>true|.non,.str _=>true|.str _,.non=>true
 |.int _,.int _=>true|.bl _,.bl _=>true|.str _,.str _=>true|.byt _,.byt _=>true
 |.int _,.str _=>true|.str _,.int _=>true|.bl _,.str _=>true|.str _,.bl _=>true
 |_,_=>false
def Z0:R2:=fun x y H Q=>Pj x y=true/\Q (.bl (decide (x=y))) H
def Xk:R2:=fun x y H Q=>Pj x y=true/\Q (.bl (!decide (x=y))) H
theorem Pd {i j:Int}:decide (V.int i=V.int j)=(i==j):=by
 rw[Kw]
 simp
theorem Qb {i j:Bool}:decide (V.bl i=V.bl j)=(i==j):=by
 rw[Kw]
 simp
theorem Rr {i j:Str}:decide (V.str i=V.str j)=(i==j):=by
 rw[Kw]
 simp
theorem OT {i j:Array UInt8}:decide (V.byt i=V.byt j)=(i.toList==j.toList):=by
 rw[Kw]
 cases i
 cases j
 simp
section
variable {X:Cx}{a b c:Expr}{ta tb tc:TE}{pos:Pos}
theorem BP {pins:List (Addr×Obj)}{σ:St}{H:Hp}{s:Shared}{Q:VK}{k k':Bool}(I:A2 X pins σ H s)(q:Q (.bl k) H)(e:k=k'):EP X pins σ Q (.bool k') s:=by
 subst e
 exact⟨.bl k,H,I,rfl,q⟩
theorem C3:BC X (compareOp .Eq) Z0:=by
 intro pins s σ H x y v u Q I rx ry h
 obtain⟨hs,q⟩:=h
 cases x with
 |
  non=>
  cases rx
  cases y with
  |non=>cases ry;exact PySem.EqNone.eq_none_none (BP I q (by simp))
  |bl j=>cases ry;exact PySem.EqNone.eq_none_bool (BP I q (by simp))
  |int j=>obtain⟨t',rfl⟩:=ry;exact PySem.EqNone.eq_none_int (BP I q (by simp))
  |str j=>obtain⟨t',rfl⟩:=ry;exact PySem.EqNone.eq_none_str (BP I q (by simp))
  |_=>exact absurd (show false=true from hs) Cm
 |
  bl i=>
  cases rx
  cases y with
  |non=>cases ry;exact PySem.EqNone.eq_bool_none (BP I q (by simp))
  |bl j=>cases ry;exact eq_bool (BP I q Qb)
  |str j=>obtain⟨t',rfl⟩:=ry;exact PySem.EqMixed.eq_bool_str (BP I q (by simp))
  |_=>exact absurd (show false=true from hs) Cm
 |
  int i=>
  obtain⟨t,rfl⟩:=rx
  cases y with
  |non=>cases ry;exact PySem.EqNone.eq_int_none (BP I q (by simp))
  |int j=>obtain⟨t',rfl⟩:=ry;exact eq_int (BP I q Pd)
  |str j=>obtain⟨t',rfl⟩:=ry;exact PySem.EqMixed.eq_int_str (BP I q (by simp))
  |_=>exact absurd (show false=true from hs) Cm
 |
  str i=>
  obtain⟨t,rfl⟩:=rx
  cases y with
  |non=>cases ry;exact PySem.EqNone.eq_str_none (BP I q (by simp))
  |bl j=>cases ry;exact PySem.EqMixed.eq_str_bool (BP I q (by simp))
  |int j=>obtain⟨t',rfl⟩:=ry;exact PySem.EqMixed.eq_str_int (BP I q (by simp))
  |str j=>obtain⟨t',rfl⟩:=ry;exact eq_str (BP I q Rr)
  |_=>exact absurd (show false=true from hs) Cm
 |
  byt i=>
  obtain⟨t,rfl⟩:=rx
  cases y with
  |byt j=>obtain⟨t',rfl⟩:=ry;exact PySem.W.eq_bytes (BP I q OT)
  |_=>exact absurd (show false=true from hs) Cm
 |_=>cases y<;>exact absurd (show false=true from hs) Cm
theorem IP:BC X (compareOp .NotEq) Xk:=by
 intro pins s σ H x y v u Q I rx ry h
 obtain⟨hs,q⟩:=h
 cases x with
 |
  non=>
  cases rx
  cases y with
  |non=>cases ry;exact PySem.EqNone.ne_none_none (BP I q (by simp))
  |bl j=>cases ry;exact PySem.EqNone.ne_none_bool (BP I q (by simp))
  |int j=>obtain⟨t',rfl⟩:=ry;exact PySem.EqNone.ne_none_int (BP I q (by simp))
  |str j=>obtain⟨t',rfl⟩:=ry;exact PySem.EqNone.ne_none_str (BP I q (by simp))
  |_=>exact absurd (show false=true from hs) Cm
 |
  bl i=>
  cases rx
  cases y with
  |non=>cases ry;exact PySem.EqNone.ne_bool_none (BP I q (by simp))
  |bl j=>cases ry;exact ne_bool (BP I q (congrArg not Qb))
  |str j=>obtain⟨t',rfl⟩:=ry;exact PySem.EqMixed.ne_bool_str (BP I q (by simp))
  |_=>exact absurd (show false=true from hs) Cm
 |
  int i=>
  obtain⟨t,rfl⟩:=rx
  cases y with
  |non=>cases ry;exact PySem.EqNone.ne_int_none (BP I q (by simp))
  |int j=>obtain⟨t',rfl⟩:=ry;exact ne_int (BP I q (congrArg not Pd))
  |str j=>obtain⟨t',rfl⟩:=ry;exact PySem.EqMixed.ne_int_str (BP I q (by simp))
  |_=>exact absurd (show false=true from hs) Cm
 |
  str i=>
  obtain⟨t,rfl⟩:=rx
  cases y with
  |non=>cases ry;exact PySem.EqNone.ne_str_none (BP I q (by simp))
  |bl j=>cases ry;exact PySem.EqMixed.ne_str_bool (BP I q (by simp))
  |int j=>obtain⟨t',rfl⟩:=ry;exact PySem.EqMixed.ne_str_int (BP I q (by simp))
  |str j=>obtain⟨t',rfl⟩:=ry;exact ne_str (BP I q (congrArg not Rr))
  |_=>exact absurd (show false=true from hs) Cm
 |
  byt i=>
  obtain⟨t,rfl⟩:=rx
  cases y with
  |byt j=>obtain⟨t',rfl⟩:=ry;exact PySem.W.ne_bytes (BP I q (congrArg not OT))
  |_=>exact absurd (show false=true from hs) Cm
 |_=>cases y<;>exact absurd (show false=true from hs) Cm
theorem F4:BC X (compareOp .Lt) (He fun i j=>.bl (decide (i<j))):=RG fun _ _ _ _ _ _ _ q=>lt_int q
theorem FZ:BC X (compareOp .Gt) (He fun i j=>.bl (decide (j<i))):=RG fun _ _ _ _ _ _ _ q=>gt_int q
theorem Kj:BC X (compareOp .Is) (fun x y H Q=>y = .non/\Q (.bl (decide (x = .non))) H):=by
 intro pins s σ H x y v u Q I rx ry h
 obtain⟨rfl,q⟩:=h
 cases ry
 refine is_none_gen (BP I q ?_)
 cases x<;>first
  |(cases rx;rfl)
  |(obtain⟨t,rfl⟩:=rx;rfl)
theorem SH:BC X (compareOp .IsNot) (fun x y H Q=>y = .non/\Q (.bl (!decide (x = .non))) H):=by
 intro pins s σ H x y v u Q I rx ry h
 obtain⟨rfl,q⟩:=h
 cases ry
 refine isnot_none_gen (BP I q ?_)
 cases x<;>first
  |(cases rx;rfl)
  |(obtain⟨t,rfl⟩:=rx;rfl)
theorem AK (b:Expr){op:CmpOp}(h:op≠.In:=by decide)(h2:op≠.NotIn:=by decide):behindInMarks op b=false:=by
 have e1:(op==CmpOp.In)=false:=by cases op<;>first|rfl|exact absurd rfl h
 have e2:(op==CmpOp.NotIn)=false:=by cases op<;>first|rfl|exact absurd rfl h2
 cases b<;>simp[behindInMarks,e1,e2]
theorem Em {op:CmpOp}{r:R2}(ho:BC X (compareOp op) r)(ha:PE X a ta)(hb:PE X b tb)(hm:behindInMarks op b=false):PE X (.Compare a [op] [b] pos) (Kk r ta tb):=by
 intro pins s σ H Q I h
 exact wpAny_Compare1 (O6 ha hb I h fun v u s2 x y H2 I2 rx ry q=>ho pins s2 σ H2 x y v u Q I2 rx ry q) hm
def PM (t:TE):TT:=fun σ H Q=>t σ H fun x H'=>∃k,x = .bl k/\Q k H'
theorem AU {op:CmpOp}{r:R2}(ho:BC X (compareOp op) r)(ha:PE X a ta)(hb:PE X b tb)(hm:behindInMarks op b=false):PT X (.Compare a [op] [b] pos) (PM (Kk r ta tb)):=by
 intro pins s σ H Q I h
 refine wpAny_isTrue_Compare1 (Az (ha pins s σ H _ I h) fun v s1 ⟨x,H1,I1,r1,q1⟩=>Az (hb pins s1 σ H1 _ I1 q1) fun u s2 ⟨y,H2,I2,r2,q2⟩=>
  Az (ho pins s2 σ H2 x y v u _ I2 r1 r2 q2) fun c s3 ⟨z,H3,I3,r3,k,e,q3⟩=>?_) hm
 subst e
 cases r3
 exact S7 ⟨H3,I3,q3⟩
theorem K8:(sizeLine:Nat)<2 ^ 63:=by rw[Hz];decide
theorem Rc:BC X (binaryOp .Add) (fun x y H Q=>∃i j,x = .str i/\y = .str j/\i.length+j.length<=sizeLine/\Q (.str (i++j)) H):=by
 intro pins s σ H x y v u Q I rx ry h
 obtain⟨i,j,rfl,rfl,hz,q⟩:=h
 obtain⟨t,rfl⟩:=rx
 obtain⟨t',rfl⟩:=ry
 exact add_str (fun t' tk=>⟨.str (i++j),H,I.tok _,⟨_,rfl⟩,q⟩) hz
theorem ET {x:V}{us:List Value}(r:Aw [x] us):∃u,us=[u]/\AE x u:=by
 cases r with
 |cons r1 r2=>cases r2;exact⟨_,rfl,r1⟩
theorem V8 {x y:V}{us:List Value}(r:Aw [x,y] us):∃u w',us=[u,w']/\AE x u/\AE y w':=by
 cases r with
 |
  cons r1 r2=>
  cases r2 with
  |cons r3 r4=>cases r4;exact⟨_,_,rfl,r1,r3⟩
theorem Jy (hc:X.calm=true):DX X (.builtin "min") (fun xs H Q=>∃i j,xs=[.int i,.int j]/\Q (.int (if j<i then j else i)) H):=by
 intro pins s σ H xs us Q I r h
 obtain⟨i,j,rfl,q⟩:=h
 obtain⟨u,w',rfl,⟨t,rfl⟩,⟨t',rfl⟩⟩:=V8 r
 refine min_two_ints (I.ok.hd hc) fun h' tk k=>⟨_,H,I.kept k,?_,q⟩
 by_cases hj:j<i
 .rw[Ap hj,Ap hj];exact⟨_,rfl⟩
 .rw[Al hj,Al hj];exact⟨_,rfl⟩
theorem Gb:DX X (.type "int") (fun xs H Q=>(∃i,xs=[.int i]/\Q (.int i) H)\/∃k,xs=[.bl k]/\Q (.int (if k then 1 else 0)) H):=by
 intro pins s σ H xs us Q I r h
 rcases h with⟨i,rfl,q⟩|⟨k,rfl,q⟩
 .obtain⟨u,rfl,t,rfl⟩:=ET r
  exact call_int_int ⟨.int i,H,I,⟨_,rfl⟩,q⟩
 .obtain⟨u,rfl,r1⟩:=ET r
  cases r1
  exact call_int_bool ⟨.int (if k then 1 else 0),H,I.tok _,⟨_,rfl⟩,q⟩
end
structure Ie (h:Heap)(x dx C:Addr)(mA:Str->Option Value):Prop where
 obj:h.get? x=some (PySem.W.instObj C dx)
 ns:h.Ns1 dx mA
 ne:dx≠x
theorem Zv {h:Heap}{dx:Addr}{mA:Str->Option Value}(n:h.Ns1 dx mA):∃od,h.get? dx=some od/\∀name,PySem.W.lookIn name od=some (mA name):=by
 obtain⟨o,es,ep,ho,hd,hk,_,hm⟩:=n
 refine⟨o,ho,fun name=>?_⟩
 have e:=hm name
 unfold nsFind findBy at e
 rw[←Array.find?_toList]at e
 unfold PySem.W.lookIn
 rw[hd]
 dsimp only
 split
 .rename_i y q
  rw[q]at e
  exact congrArg some e
 .rename_i q
  rw[q]at e
  have a:es.toList.any (·.refKey)=false:=by
   rw[List.any_eq_false]
   intro y hy
   obtain⟨z,t,hkey⟩:=hk y (Array.mem_toList_iff.mp hy)
   simp[DictEntry.refKey,hkey]
  have a':¬es.toList.any (·.refKey)=true:=by rw[a];exact Cm
  rw[Al a']
  exact congrArg some e
theorem Ie.look {h:Heap}{x dx C:Addr}{mA:Str->Option Value}(I:Ie h x dx C mA):∃od,PySem.W.InstAt h x (PySem.W.instObj C dx) C (some od)/\∀name,PySem.W.lookIn name od=some (mA name):=
 let ⟨od,ho,hl⟩:=Zv I.ns
 ⟨od,⟨I.obj,rfl,rfl,ho⟩,hl⟩
section
variable {prog:Program}{w:World}{A:Around}{E:Value->Shared->Prop}{s:Shared}{K:Faa}{x dx C f:Addr}{mA:Str->Option Value}{name:Str}{v:Value}
theorem ah {expr:Bool}{Q:Value->Shared->Prop}(X:K.In s.heap)(I:Ie s.heap x dx C mA)(hg:PySem.W.plainGet K C name=true)(hh:PySem.W.hasDictIn K C=true)
  (ha:PySem.W.findIn K (.ref C) name=some none) (hv:mA name=some v) (hv':PySem.W.handedIn v=true) (h:Q v {s with toks:=s.toks+1}) :
  wpAny (model prog w) A (getAttr (.ref x) name expr) Q E s:=by
 obtain⟨od,J,hl⟩:=I.look
 exact PySem.W.get_value X J (PySem.W.plainGet_of hg).1 (PySem.W.findObj_own hh ha rfl (by rw[hl,hv])) hv' h
theorem bf {ns:List Str}{Q:Unit->Shared->Prop}(X:K.In s.heap)(I:Ie s.heap x dx C mA)
  (hs:PySem.W.findIn K (.ref C) "__setattr__"=some (some (.builtin "object.__setattr__"))) (hp:PySem.W.plainOver K C=true) (ht:PySem.W.takerIn K C name=some none) (hh:PySem.W.hasDictIn K C=true)
  (hw:PySem.Within mA ns) (hsz:ns.length<=sizeLine)
  (h:∀h',Ie h' x dx C (fun y=>if y=name then some v else mA y)->Heap.SameBut dx s.heap h'->Q () {s with heap:=h',toks:=s.toks+2}) :
  wpAny (model prog w) A (setAttr (.ref x) name v) Q E s:=by
 obtain⟨od,J,hl⟩:=I.look
 refine PySem.W.set_plain X J hs (PySem.W.osa_open (s:={s with toks:=s.toks+1}) (r:=none) X J hp ht fun b=>?_)
 obtain⟨cd,hc,hd'⟩:=PySem.W.any_some hh
 have hx:s.heap.get? x=some ⟨.ref C,some dx,.plain,#[]⟩:=I.obj
 refine A9 (AA (A9 (A9 (wpAny_loadPart hx (A9 (PySem.W.Looks.here (s:={s with toks:=s.toks+1}) (PySem.W.looks_clsIn X hc) ?_))))))
 rw[hd']
 refine AA (a:=some dx) (A9 (AA (A9 ?_)))
 refine wpAny_nsSet1 (s:={s with toks:=s.toks+1}) I.ns fun h' hn2 hs2=>?_
 obtain⟨oD,esD,epD,hoD,hdD,hcD⟩:=hn2.count (PySem.Within.cons name v hw)
 refine A9 (wpAny_lookBehind hoD (by rw[hdD];exact pastItsLine_dict (CL hcD (by rw[BH];lia))) ?_)
 exact AA (h _ ⟨(hs2.2 _ (Ne.symm I.ne)).trans I.obj,hn2,I.ne⟩ hs2)
theorem TV {R:Result->Shared->Prop}{vs:List Value}{kw:List (Str×Value)}(X:K.In s.heap)(hm:PySem.W.makesIn K C=true)
  (hi:PySem.W.findIn K (.ref C) "__init__"=some (some (.ref f))) (hf:PySem.W.typeIn K (.ref f)=some (.type "function"))
  (h:codeAny (model prog w) (A.under (.builtin "type.__call__" ⟨.ref C::vs,kw⟩)) (.call (.ref f) ⟨.ref (s.heap.objs.size+1)::vs,kw⟩) (PySem.W.InitBack (s.heap.objs.size+1) R)
   {s with heap:=(s.heap.push PySem.W.emptyDict).push (PySem.W.instObj C s.heap.objs.size)}) :
  codeAny (model prog w) A (.call (.ref C) ⟨vs,kw⟩) R s:=by
 obtain⟨hh,g,d,t,os⟩:=s
 exact PySem.W.make_core (PySem.W.makes_of X hm) (PySem.W.looks_findIn X hi) (fun self=>PySem.W.bind_fn X self hf) (.inl rfl) h
end
noncomputable def DE (f:Str)(v:V):List (Str×V)->List (Str×V)
 |[]=>[(f,v)]
 |(g,x)::r=>if g=f then(g,v)::r else(g,x)::DE f v r
theorem Pz (f g:Str)(v:V):∀fs:List (Str×V),(DE f v fs).lookup g=if g=f then some v else fs.lookup g
 |
  []=>by
  show List.lookup g [(f,v)]=_
  by_cases h:g=f
  .have hb:(g==f)=true:=GI.mpr h
   simp only[List.lookup,hb,Ap h]
  .have hb:(g==f)=false:=Hy.mpr h
   simp only[List.lookup,hb,Al h]
 |
  (k,x)::r=>by
  have ih:=Pz f g v r
  rw[show DE f v ((k,x)::r)=(if k=f then(k,v)::r else(k,x)::DE f v r) from rfl]
  by_cases hk:k=f
  .rw[Ap hk]
   by_cases h:g=k
   .have hb:(g==k)=true:=GI.mpr h
    simp only[List.lookup,hb,Ap (h.trans hk)]
   .have hb:(g==k)=false:=Hy.mpr h
    simp only[List.lookup,hb,Al (fun e:g=f=>h (e.trans hk.symm))]
  .rw[Al hk]
   by_cases h:g=k
   .have hb:(g==k)=true:=GI.mpr h
    simp only[List.lookup,hb,Al (fun e:g=f=>hk (h.symm.trans e))]
   .have hb:(g==k)=false:=Hy.mpr h
    simp only[List.lookup,hb]
    exact ih
theorem Og (f:Str)(v:V):∀fs:List (Str×V),f∈(DE f v fs).map (·.1)/\∀g,g∈fs.map (·.1)->g∈(DE f v fs).map (·.1)
 |[]=>⟨by simp[DE],fun g h=>by simp at h⟩
 |
  (k,x)::r=>by
  obtain⟨i1,i2⟩:=Og f v r
  rw[show DE f v ((k,x)::r)=(if k=f then(k,v)::r else(k,x)::DE f v r) from rfl]
  by_cases hk:k=f
  .rw[Ap hk]
   subst hk
   exact⟨by simp,fun g h=>by simpa using h⟩
  .rw[Al hk]
   refine⟨?_,fun g h=>?_⟩
   .rw[Bx]
    exact Cd _ i1
   .rw[Bx]at h ⊢
    rcases AZ.mp h with e|e
    .exact AZ.mpr (.inl e)
    .exact Cd _ (i2 g e)
theorem R9 (f:Str)(v:V):∀fs:List (Str×V),(DE f v fs).length<=fs.length+1
 |[]=>by simp[DE]
 |
  (k,x)::r=>by
  have ih:=R9 f v r
  rw[show DE f v ((k,x)::r)=(if k=f then(k,v)::r else(k,x)::DE f v r) from rfl]
  by_cases hk:k=f
  .rw[Ap hk,BH,BH];lia
  .rw[Al hk,BH,BH];lia
theorem DJ.some_of {v:V}{o:Option Value}(r:DJ (some v) o):∃u,o=some u/\AE v u:=by
 cases o with
 |none=>exact(show False from r).elim
 |some u=>exact⟨u,rfl,r⟩
theorem aZ {v:V}{u:Value}(r:AE v u):PySem.W.handedIn u=true:=by
 cases v with
 |non=>cases (show u=Value.none from r);rfl
 |bl b=>cases (show u=Value.bool b from r);rfl
 |int i=>obtain⟨t,e⟩:=(show ∃t,u=Value.int i t from r);cases e;rfl
 |str x=>obtain⟨t,e⟩:=(show ∃t,u=Value.str x t from r);cases e;rfl
 |byt b=>obtain⟨t,e⟩:=(show ∃t,u=Value.bytes b t from r);cases e;rfl
 |flt b=>obtain⟨t,e⟩:=(show ∃t,u=Value.float b t from r);cases e;rfl
 |ref a=>cases (show u=Value.ref a from r);rfl
 |ty n=>cases (show u=Value.type n from r);rfl
section
variable {P:Program}{w:World}{H H':Hp}{h h':Heap}{a C dx:Addr}{fs fs':List (Str×V)}
theorem Nb (hok:BD P w H h)(e:H a=some (.ins C dx fs)):∃mA,Ie h a dx C mA/\(∀f,DJ (fs.lookup f) (mA f))/\PySem.Within mA (fs.map (·.1))/\fs.length<=1000/\H dx=some (.own a):=by
 obtain⟨d,z,ne,ob,mA,n,r,q⟩:=(show BG P w H h a (.ins C dx fs) from hok a _ e)
 exact⟨mA,⟨ob,n,ne⟩,r,q,z,d⟩
end
structure Fh (K:Faa)(C:Addr):Prop where
 pg:PySem.W.plainGet K C Str.empty=true
 hd:PySem.W.hasDictIn K C=true
 po:PySem.W.plainOver K C=true
 sa:PySem.W.findIn K (.ref C) "__setattr__"=some (some (.builtin "object.__setattr__"))
theorem Fh.get {K:Faa}{C:Addr}(c:Fh K C)(f:Str):PySem.W.plainGet K C f=true:=c.pg
def D7 (K:Faa)(C:Addr)(f:Str):Prop:=PySem.W.findIn K (.ref C) f=some none
theorem D7.taker {K:Faa}{C:Addr}{f:Str}(n:D7 K C f):PySem.W.takerIn K C f=some none:=by
 unfold PySem.W.takerIn
 rw[show PySem.W.findIn K (.ref C) f=some none from n]
 rfl
section
variable {X:Cx}{pins:List (Addr×Obj)}{σ:St}{H:Hp}{s:Shared}{a C dx:Addr}{fs:List (Str×V)}{f:Str}{v:V}{A:Around}{E:Value->Shared->Prop}
theorem Sk {b:Bool}{Q:Value->Shared->Prop}(I:A2 X pins σ H s)(e:H a=some (.ins C dx fs))(c:Fh X.K C)(n:D7 X.K C f)(l:fs.lookup f=some v)
  (h:∀u s',A2 X pins σ H s'->AE v u->Q u s'):wpAny (model X.prog X.w) A (getAttr (.ref a) f b) Q E s:=by
 obtain⟨mA,O,r,_,_,_⟩:=Nb I.hok e
 obtain⟨u,hu,ru⟩:=DJ.some_of (v:=v) (o:=mA f) (by rw[←l];exact r f)
 exact ah I.kIn O (c.get f) c.hd n hu (aZ ru) (h u _ (I.tok _) ru)
theorem U3 {y:V}{u:Value}{Q:Unit->Shared->Prop}(I:A2 X pins σ H s)(e:H a=some (.ins C dx fs))(c:Fh X.K C)(n:D7 X.K C f)(hl:fs.length<1000)(ry:AE y u)
  (h:∀s',A2 X pins σ (upd H a (.ins C dx (DE f y fs))) s'->Q () s'):wpAny (model X.prog X.w) A (setAttr (.ref a) f u) Q E s:=by
 obtain⟨mA,O,r,wi,_,ho⟩:=Nb I.hok e
 have hz:(fs.map (·.1)).length<=sizeLine:=by rw[Au,Hz];lia
 refine bf I.kIn O c.sa c.po n.taker c.hd wi hz fun h' O' sb=>h _ ?_
 have hd:∃o,h'.get? dx=some o:=by obtain⟨o,_,_,e',_⟩:=O'.ns;exact⟨o,e'⟩
 refine I.write (x:=a) (e:=dx) (by rw[e];exact True.intro) (.inr ho) (fun b q hb z=>(sb.2 b hb).trans z) hd ?_
 refine⟨by rw[Ai O.ne];exact ho,?_,O.ne,O'.obj,_,O'.ns,fun g=>?_,fun g hg=>?_⟩
 .have:=R9 f y fs;lia
 .show DJ ((DE f y fs).lookup g) (if g=f then some u else mA g)
  rw[Pz]
  by_cases q:g=f
  .rw[Ap q,Ap q];exact ry
  .rw[Al q,Al q];exact r g
 .by_cases q:g=f
  .rw[q];exact(Og f y fs).1
  .refine(Og f y fs).2 g (wi g fun z=>hg ?_)
   show(if g=f then some u else mA g)=none
   rw[Al q];exact z
theorem A2.made (I:A2 X pins σ H s):A2 X pins σ (upd (upd H s.heap.objs.size (.own (s.heap.objs.size+1))) (s.heap.objs.size+1) (.ins C s.heap.objs.size []))
  {s with heap:=(s.heap.push PySem.W.emptyDict).push (PySem.W.instObj C s.heap.objs.size)}:=by
 have e1:(s.heap.push PySem.W.emptyDict).get? s.heap.objs.size=some PySem.W.emptyDict:=C7 s.heap rfl
 have e2:((s.heap.push PySem.W.emptyDict).push (PySem.W.instObj C s.heap.objs.size)).get? (s.heap.objs.size+1)=some (PySem.W.instObj C s.heap.objs.size):=by
  have:=C7 (s.heap.push PySem.W.emptyDict) (o:=PySem.W.instObj C s.heap.objs.size) rfl
  rwa [Kx]at this
 have e3:(s.heap.push PySem.W.emptyDict).Ns s.heap.objs.size (fun _=>none):=⟨PySem.W.emptyDict,#[],_,e1,rfl,(fun e he=>absurd he (by simp)),fun _=>rfl⟩
 have I1:=I.laid (a:=s.heap.objs.size) (o:=.own (s.heap.objs.size+1)) (h':=s.heap.push PySem.W.emptyDict) (t':=s.toks) (fun b u q=>AD _ q) (Af _) ⟨_,e1⟩
 refine I1.laid (a:=s.heap.objs.size+1) (o:=.ins C s.heap.objs.size []) (t':=s.toks) (fun b u q=>AD _ q) (Nat.le_of_eq (Kx _ _)) ?_
 have ne:s.heap.objs.size≠s.heap.objs.size+1:=AV (Gz _)
 refine⟨by rw[Ai ne,A7],Bj _,ne,e2,fun _=>none,(Heap.Ns1.of_empty e3).at fun o q=>AD _ q,fun _=>True.intro,fun y hy=>absurd rfl hy⟩
theorem UG {prog:Program}{w:World}{env:Env}{e:Expr}{f:Str}{pos:Pos}{s:Shared}{Q:Value->Shared->Prop}(hb:attributeBase e f env (eval e env)=eval e env)
  (h:wpAny (model prog w) A (eval e env) (fun o s₁=>wpAny (model prog w) A (getAttr o f true) Q E s₁) E s):wpAny (model prog w) A (eval (.Attribute e f pos) env) Q E s:=
 Attribute_any_ h (by rw[arm_eval_Attribute,hb])
end
def WQ (K:Faa)(ta:TE)(f:Str):TE:=fun σ H Q=>ta σ H fun x H1=>∃a C dx fs v,x = .ref a/\H1 a=some (.ins C dx fs)/\Fh K C/\D7 K C f/\fs.lookup f=some v/\Q v H1
def Sr (K:Faa)(ta tv:TE)(f:Str):TS:=fun D σ H=>tv σ H fun y H1=>ta σ H1 fun x H2=>∃a C dx fs,x = .ref a/\H2 a=some (.ins C dx fs)/\Fh K C/\D7 K C f/\fs.length<1000/\
 D.nx σ (upd H2 a (.ins C dx (DE f y fs)))
section
variable {X:Cx}{o e value:Expr}{f:Str}{pos pos' tpos:Pos}{ta tv:TE}
theorem GK (he:PE X e ta)(hb:attributeBase e f X.env (eval e X.env)=eval e X.env):PE X (.Attribute e f pos) (WQ X.K ta f):=by
 intro pins s σ H Q I h
 refine UG hb (Az (he pins s σ H _ I h) fun u s1 zz=>?_)
 obtain⟨x,H1,I1,rx,a,C,dx,fs,v,ex,ea,c,n,l,q⟩:=zz
 subst ex
 obtain rfl:u=Value.ref a:=rx
 exact Sk I1 ea c n l fun u' s2 I2 ru=>⟨v,H1,I2,ru,q⟩
theorem Fb (ha:PE X o ta)(hv:PE X value tv)(hs:swapsWith value (some (.Attribute o f pos')) pos.line X.env=pure false):PS X (.Assign [.Attribute o f pos'] value pos) (Sr X.K ta tv f):=by
 intro pins s σ H D I h
 refine bL (Az (hv pins s σ H _ I h) fun u s1 zz=>?_) hs
 obtain⟨y,H1,I1,ry,q⟩:=zz
 refine Az (ha pins s1 σ H1 _ I1 q) fun ov s2 zz=>?_
 obtain⟨x,H2,I2,rx,a,C,dx,fs,ex,ea,c,n,l,q2⟩:=zz
 subst ex
 obtain rfl:ov=Value.ref a:=rx
 exact U3 I2 ea c n l ry fun s3 I3=>⟨σ,_,I3,q2⟩
end
section
variable {X:Cx}{pins:List (Addr×Obj)}{σ:St}{H:Hp}{s:Shared}{A:Around}{E:Value->Shared->Prop}{Q:Value->Shared->Prop}{c:Value}{b:Bool}
inductive Eo (K:Faa)(H:Hp):V->Value->Prop where
 |non:Eo K H .non (.type "NoneType")
 |bl (x:Bool):Eo K H (.bl x) (.type "bool")
 |int (i:Int):Eo K H (.int i) (.type "int")
 |str (x:Str):Eo K H (.str x) (.type "str")
 |flt (x:UInt64):Eo K H (.flt x) (.type "float")
 |lst {a:Addr} {xs:List V} (e:H a=some (.lst xs)):Eo K H (.ref a) (.type "list")
 |frz {a:Addr} {o:Obj} {xs:List V} (e:H a=some (.frz o (.lst xs))):Eo K H (.ref a) (.type "list")
 |tup {a:Addr} {xs:List V} (e:H a=some (.tup xs)):Eo K H (.ref a) (.type "tuple")
 |dK {a:Addr} {kvs:List (AC×V)} (e:H a=some (.dK kvs)):Eo K H (.ref a) (.type "dict")
 |dT {a:Addr} {kvs:List (List AC×V)} (e:H a=some (.dT kvs)):Eo K H (.ref a) (.type "dict")
 |ins {a C dx:Addr} {fs:List (Str×V)} (e:H a=some (.ins C dx fs)) (cl:Fh K C) (ha:PySem.W.findIn K (.ref C) "__class__"=some (some (.builtin "object.__class__")))
  (hn:PySem.W.specialIn K (.builtin "object.__class__") "__get__"=some (some (.builtin "getset_descriptor.__get__"))) (htk:PySem.W.takesIn K (.builtin "object.__class__")=some true)
  (hm:PySem.W.mroIn K C (.type "object")=some true):Eo K H (.ref a) (.ref C)
theorem XJ {x:V}{u t:Value}(I:A2 X pins σ H s)(rx:AE x u)(ty:Eo X.K H x t)(e:PySem.W.kitOne X.K t c=some b)(h:∀tk,Q (.bool b) {s with toks:=tk}) :
  wpAny (model X.prog X.w) A (call (.builtin "isinstance") [u,c]) Q E s:=by
 cases ty with
 |non=>cases (show u=Value.none from rx);exact Fv PySem.W.kitx_none I.kIn True.intro e (fun z=>nomatch z) h
 |bl y=>cases (show u=Value.bool y from rx);exact Fv PySem.W.kitx_bool I.kIn True.intro e (fun z=>nomatch z) h
 |int i=>obtain⟨t,q⟩:=(show ∃t,u=Value.int i t from rx);cases q;exact Fv PySem.W.kitx_int I.kIn True.intro e (fun z=>nomatch z) h
 |str y=>obtain⟨t,q⟩:=(show ∃t,u=Value.str y t from rx);cases q;exact Fv PySem.W.kitx_str I.kIn True.intro e (fun z=>nomatch z) h
 |flt y=>obtain⟨t,q⟩:=(show ∃t,u=Value.float y t from rx);cases q;exact Fv PySem.W.kitx_float I.kIn True.intro e (fun z=>nomatch z) h
 |
  @lst a xs ea=>
  cases (show u=Value.ref a from rx)
  obtain⟨_,_,n,_,h1⟩:=(show BG X.prog X.w H s.heap a (.lst xs) from I.hok a _ ea)
  exact Fv PySem.W.kitx_list I.kIn ⟨_,h1,rfl⟩ e (fun z=>nomatch z) h
 |
  @frz a ob xs ea=>
  cases (show u=Value.ref a from rx)
  obtain⟨_,_,_,n,_,h1⟩:=(show BG X.prog X.w H s.heap a (.frz ob (.lst xs)) from I.hok a _ ea)
  exact Fv PySem.W.kitx_list I.kIn ⟨_,h1,rfl⟩ e (fun z=>nomatch z) h
 |
  @tup a xs ea=>
  cases (show u=Value.ref a from rx)
  obtain⟨_,_,_,p⟩:=(show BG X.prog X.w H s.heap a (.tup xs) from I.hok a _ ea)
  obtain⟨o,h1,h2,_⟩:=p
  exact Fv PySem.W.kitx_tuple I.kIn ⟨o,h1,h2⟩ e (fun z=>nomatch z) h
 |
  @dK a kvs ea=>
  cases (show u=Value.ref a from rx)
  obtain⟨_,_,vs,_,p⟩:=(show BG X.prog X.w H s.heap a (.dK kvs) from I.hok a _ ea)
  obtain⟨o,es,ep,h1,h2,_⟩:=p
  exact Fv PySem.W.kitx_dict I.kIn ⟨o,h1,h2.1⟩ e (fun z=>nomatch z) h
 |
  @dT a kvs ea=>
  cases (show u=Value.ref a from rx)
  obtain⟨_,_,xs,_,o,es,ep,h1,h2,_⟩:=(show BG X.prog X.w H s.heap a (.dT kvs) from I.hok a _ ea)
  exact Fv PySem.W.kitx_dict I.kIn ⟨o,h1,h2.1⟩ e (fun z=>nomatch z) h
 |
  @ins a C dx fs ea cl ha hn htk hm=>
  cases (show u=Value.ref a from rx)
  obtain⟨mA,O,_⟩:=Nb I.hok ea
  obtain⟨od,J,_⟩:=O.look
  exact Fv (PySem.W.kitx_own (cl.get _) cl.hd ha hn htk hm) I.kIn J e (fun z=>nomatch z) h
end
structure C9 (k:Nat)(A:Around):Prop where
 hd:A.handled=none
 dp:A.depth+3*k+5<recursionLimit
 un:A.units+16*k+200<cLine
 gd:A.guards=some []
theorem C9.mono {j k:Nat}{A:Around}(r:C9 k A)(h:j<=k):C9 j A:=⟨r.hd,by have:=r.dp;lia,by have:=r.un;lia,r.gd⟩
theorem C9.deeper {k:Nat}{A:Around}(r:C9 (k+1) A)(env:Env):C9 k (A.deeper env):=
 ⟨r.hd,by have:=r.dp;show A.depth+1+3*k+5<_;lia,by have:=r.un;show A.units+3+16*k+200<_;lia,r.gd⟩
theorem ZK {A:Around}{C:Addr}{us:List Value}{kw:List (Str×Value)}:(A.under (.builtin "type.__call__" ⟨.ref C::us,kw⟩)).depth=A.depth+1:=by
 first|rfl|simp[Around.under,Code.weight,Code.isCreation,Code.isGuard,Code.isCaller,Code.frames,Code.isFrame,guardIds]
theorem Z5 {A:Around}{C:Addr}{us:List Value}{kw:List (Str×Value)}:(A.under (.builtin "type.__call__" ⟨.ref C::us,kw⟩)).units=A.units+1:=by
 first|rfl|simp[Around.under,Code.cUnits,Code.frames,Code.isFrame]
theorem Wa {A:Around}{C:Addr}{us:List Value}{kw:List (Str×Value)}:(A.under (.builtin "type.__call__" ⟨.ref C::us,kw⟩)).guards=A.guards:=by
 have:Code.guards (.builtin "type.__call__" ⟨.ref C::us,kw⟩)=[]:=by first|rfl|simp[Code.guards,Code.isGuard,guardIds]
 show pushGuards (Code.guards (.builtin "type.__call__" ⟨.ref C::us,kw⟩)) A.guards=A.guards
 rw[this]
 cases A.guards<;>rfl
theorem C9.make {k:Nat}{A:Around}(r:C9 (k+1) A)(C:Addr)(us:List Value)(kw:List (Str×Value)):C9 k (A.under (.builtin "type.__call__" ⟨.ref C::us,kw⟩)):=
 ⟨r.hd,by have:=r.dp;rw[ZK];lia,by have:=r.un;rw[Z5];lia,by rw[Wa];exact r.gd⟩
theorem C9.depth {k:Nat}{A:Around}(r:C9 k A):A.depth<recursionLimit:=by have:=r.dp;lia
theorem C9.units {k:Nat}{A:Around}(r:C9 k A):A.units+64<cLine:=by have:=r.un;lia
def NN:TA:=fun _ H Q=>Q [] H
def NK (ta:TE)(tr:TA):TA:=fun σ H Q=>ta σ H fun x H1=>tr σ H1 fun xs H2=>Q (x::xs) H2
section
variable {X:Cx}{e:Expr}{es:List Expr}{te:TE}{t:TA}{pos:Pos}
theorem A3:PA X [] NN:=fun _ _ _ _ H Q I h=>Calls.spliced_nil ⟨[],H,I,.nil,h⟩
theorem A0 (ha:PE X e te)(hr:PA X es t)(hs:starEach (e::es) X.env=(false,eval e X.env)::starEach es X.env:=by rfl):PA X (e::es) (NK te t):=by
 intro pos pins s σ H Q I h
 rw[hs]
 show wpAny _ _ (spliced ((false,eval e X.env)::backTo pos (starEach es X.env))) _ _ s
 refine Calls.spliced_cons (Az (ha pins s σ H _ I h) fun u s1 zz=>?_)
 obtain⟨x,H1,I1,r1,q1⟩:=zz
 refine Az (hr pos pins s1 σ H1 _ I1 q1) fun us s2 zz=>?_
 obtain⟨xs,H2,I2,r2,q2⟩:=zz
 exact⟨x::xs,H2,I2,.cons r1 r2,q2⟩
def PR (t:TA):TE:=fun σ H Q=>t σ H fun xs H1=>xs.length<=sizeLine/\∀p,H1 p=none->Q (.ref p) (upd H1 p (.tup xs))
def Rp (t:TA):TE:=fun σ H Q=>t σ H fun xs H1=>xs.length<=sizeLine/\∀p,H1 p=none->Q (.ref p) (upd H1 p (.lst xs))
theorem Bb {x1}(h:PA X es t):PE X (.Tuple es x1 pos) (PR t):=by
 intro pins s σ H Q I hq
 refine wpAny_Tuple_spliced (Az (h pos pins s σ H _ I hq) fun us s1 zz=>?_)
 obtain⟨xs,H1,I1,r,z,q⟩:=zz
 refine⟨by rw[←r.length];exact z,?_⟩
 have hf:H1 s1.heap.objs.size=none:=I1.hok.fresh (Af _)
 refine⟨.ref s1.heap.objs.size,upd H1 s1.heap.objs.size (.tup xs),I1.laid (t':=s1.toks) (fun b u e=>AD _ e) (Af _) ?_,rfl,q _ hf⟩
 exact⟨z,us,r,⟨_,C7 _ rfl,rfl,⟨_,rfl⟩,rfl⟩⟩
theorem Bs (h:PA X es t):PE X (.List es pos) (Rp t):=by
 intro pins s σ H Q I hq
 refine wpAny_List_spliced (Az (h pos pins s σ H _ I hq) fun us s1 zz=>?_)
 obtain⟨xs,H1,I1,r,z,q⟩:=zz
 refine⟨by rw[←r.length];exact z,?_⟩
 have hf:H1 s1.heap.objs.size=none:=I1.hok.fresh (Af _)
 refine⟨.ref s1.heap.objs.size,upd H1 s1.heap.objs.size (.lst xs),I1.laid (t':=s1.toks) (fun b u e=>AD _ e) (Af _) ?_,rfl,q _ hf⟩
 exact⟨z,us,0,r,C7 _ rfl⟩
end
abbrev Sp:=List V->Hp->VK->XK->Prop
abbrev Ef:=List Env->Hp->Shared->XK->Value->Shared->Prop
structure GY (P:Program)(w:World)(K:Faa)(mg:Str->Option Value)(base:Heap)(A:Around)(outer:List Env)(s:Shared)(H:Hp):Prop where
 frames:A.frames=some outer
 mod:Mod K mg base
 bs:∀b o,base.get? b=some o->s.heap.get? b=some o/\H b=none
 bsz:base.objs.size<=s.heap.objs.size
 funs:s.heap.FunFrames base outer
 frf:∀b∈DK outer,H b=none
 hok:BD P w H s.heap
 bare:AllBare s.gens
def CE (outer:List Env)(P:Program)(w:World)(H:Hp)(s:Shared)(Q:VK)(u:Value)(s':Shared):Prop:=
 ∃v H',s'.os=s.os/\AllBare s'.gens/\Un (DK outer) [] H H' s.heap s'.heap/\BD P w H' s'.heap/\AE v u/\Q v H'
def CR (CX:Ef)(outer:List Env)(P:Program)(w:World)(H:Hp)(s:Shared)(Q:VK)(E:XK)(r:Result)(s':Shared):Prop:=
 match r with
 |.ok (.ret u)=>CE outer P w H s Q u s'
 |.ok _=>False
 |.error e=>CX outer H s E e s'
structure AS (P:Program)(w:World)(K:Faa)(mg:Str->Option Value)(base:Heap)(CX:Ef)(k:Nat)(f:Addr)(fd:FuncData)(ps:List Str)(sp:Sp):Prop where
 len:∀vs H Q E,sp vs H Q E->vs.length=ps.length
 run:∀(A:Around) (outer:List Env) (s:Shared) (H:Hp) (args:Args) (us:List Value) (vs:List V) (Q:VK) (E:XK),C9 k A->GY P w K mg base A outer s H->BindsTo s fd args (ps.zip us)->Aw vs us->sp vs H Q E->
  codeAny (model P w) A (.call (.ref f) args) (CR CX outer P w H s Q E) s
theorem GY.make {P:Program}{w:World}{K:Faa}{mg:Str->Option Value}{base:Heap}{A:Around}{outer:List Env}{s:Shared}{H:Hp}(e:GY P w K mg base A outer s H)(C:Addr)(us:List Value)(kw:List (Str×Value)) :
 GY P w K mg base (A.under (.builtin "type.__call__" ⟨.ref C::us,kw⟩)) outer s H:=⟨by first|exact e.frames|(simpa[Around.under,Code.envs,Code.isFrame,pushEnvs] using e.frames),e.mod,e.bs,e.bsz,e.funs,e.frf,e.hok,e.bare⟩
section
variable {X:Cx}{pins:List (Addr×Obj)}{σ:St}{H:Hp}{s s':Shared}
theorem A2.env0 (I:A2 X pins σ H s):GY X.prog X.w X.K X.mg X.base X.A X.stack s H:=
 ⟨I.ok.frames,I.ok.mod,I.bs,CL I.ok.bsz I.sz,I.stack,I.stkFree,I.hok,I.bare⟩
theorem A2.after {Q:VK}{u:Value}(I:A2 X pins σ H s)(h:CE X.stack X.prog X.w H s Q u s'):EP X pins σ Q u s':=by
 obtain⟨v,H',os,bare,un,hok,r,q⟩:=h
 obtain⟨hh,g,d,t,os'⟩:=s'
 obtain rfl:os'=s.os:=os
 exact⟨v,H',I.call (h':=hh) (g':=g) (d':=d) (t':=t) (ch:=[]) un hok bare (fun b z=>absurd z (by simp)),r,q⟩
end
def ZL (sp:Sp)(dvs:List V)(E:XK)(t:TA):TE:=fun σ H Q=>t σ H fun vs H1=>sp (vs++dvs) H1 Q E
def Xf (C:Addr)(sp:Sp)(dvs:List V)(E:XK)(t:TA):TE:=fun σ H Q=>t σ H fun vs H1=>∀x dx,H1 x=none->H1 dx=none->dx≠x->
 sp (.ref x::(vs++dvs)) (upd (upd H1 dx (.own x)) x (.ins C dx [])) (fun v H2=>v = .non/\Q (.ref x) H2) E
def AX (K:Faa)(fd:FuncData)(ps:List Str)(ds:List Value):Prop:=
 ∀(s:Shared) (us:List Value),K.In s.heap->(us++ds).length=ps.length->BindsTo s fd ⟨us,[]⟩ (ps.zip (us++ds))
theorem AX.all {K:Faa}{fd:FuncData}{ps:List Str}(h:∀us:List Value,us.length=ps.length->bindArgs fd ⟨us,[]⟩=pure (ps.zip us)):AX K fd ps []:=fun s us _ hl=>by
 rw[IX]at hl ⊢
 exact .of_eq (h us hl)
def IF (CX:Ef)(X:Cx)(E:XK):Prop := ∀(pins:List (Addr×Obj)) (σ:St) (H:Hp) (s:Shared) (e:Value) (s':Shared),A2 X pins σ H s->CX X.stack H s E e s'->X.xe e s'
section
variable {X:Cx}{CX:Ef}{k:Nat}{f C:Addr}{fd:FuncData}{ps:List Str}{sp:Sp}{dvs:List V}{ds:List Value}{E:XK}{x m:Str}{p pos apos:Pos}{e o:Expr}{es:List Expr}{ta:TE}{t:TA}
theorem YK {pins:List (Addr×Obj)}{σ:St}{H:Hp}{s:Shared}{Q:VK}{us:List Value}{vs:List V}(F:AS X.prog X.w X.K X.mg X.base CX k f fd ps sp)(hr:C9 k X.A)(hb:AX X.K fd ps ds)(hd:Aw dvs ds)(hx:IF CX X E)
  (I:A2 X pins σ H s) (r:Aw vs us) (h:sp (vs++dvs) H Q E):wpAny (model X.prog X.w) X.A (call (.ref f) us) (EP X pins σ Q) X.xe s:=by
 have r2:Aw (vs++dvs) (us++ds):=r.append hd
 have hl:(us++ds).length=ps.length:=by rw[←r2.length];exact F.len _ _ _ _ h
 refine Jd (Je (F.run X.A X.stack s H ⟨us,[]⟩ (us++ds) (vs++dvs) Q E hr I.env0 (hb s us I.kIn hl) r2 h) fun r s' hq=>?_)
 cases r with
 |error e=>exact hx pins σ H s e s' I hq
 |
  ok fl=>
  cases fl with
  |ret u=>exact I.after hq
  |next=>exact False.elim hq
  |brk=>exact False.elim hq
  |cont=>exact False.elim hq
theorem AJ (F:AS X.prog X.w X.K X.mg X.base CX k f fd ps sp)(hr:C9 k X.A)(hg:Gl X x)(hm:X.mg x=some (.ref f))(hk:PySem.W.keepIn X.K (.ref f)=true)(hb:AX X.K fd ps ds)(hd:Aw dvs ds)(hx:IF CX X E)
  (ha:PA X (e::es) t) (hdb:(x==("__debug__":Str))=false:=by decide) (he:starEach (e::es) X.env=(false,eval e X.env)::starEach es X.env:=by rfl) (hpl:(backTo pos (starEach es X.env)).any (·.1)=false:=by rfl) :
  PE X (.Call (.Name x p) (e::es) [] pos) (ZL sp dvs E t):=by
 intro pins s σ H Q I h
 refine KH (II I hg hm ?_ hdb)
 refine Ol (h₀:=X.base) I.ok.mod.kin hk (Az (ha pos pins s σ H _ I h) fun us s1 zz=>?_) he hpl
 obtain⟨vs,H1,I1,r,q⟩:=zz
 refine⟨I1.kIn,?_⟩
 exact YK F hr hb hd hx I1 r q
structure Mk (K:Faa)(C f:Addr):Prop where
 makes:PySem.W.makesIn K C=true
 init:PySem.W.findIn K (.ref C) "__init__"=some (some (.ref f))
 fn:PySem.W.isFn K (.ref f)=true
 kp:PySem.W.keepIn K (.ref C)=true
theorem Xa {pins:List (Addr×Obj)}{σ:St}{H:Hp}{s:Shared}{Q:VK}{us:List Value}{vs:List V}(M:Mk X.K C f)(F:AS X.prog X.w X.K X.mg X.base CX k f fd ps sp)(hr:C9 (k+1) X.A)(hb:AX X.K fd ps ds)(hd:Aw dvs ds)
  (hx:IF CX X E) (I:A2 X pins σ H s) (r:Aw vs us)
  (h:∀x dx,H x=none->H dx=none->dx≠x->sp (.ref x::(vs++dvs)) (upd (upd H dx (.own x)) x (.ins C dx [])) (fun v H2=>v = .non/\Q (.ref x) H2) E) :
  wpAny (model X.prog X.w) X.A (call (.ref C) us) (EP X pins σ Q) X.xe s:=by
 have hq:=h (s.heap.objs.size+1) s.heap.objs.size (I.hok.fresh (Ht _)) (I.hok.fresh (Af _)) (AV (Gz _))
 have I2:=A2.made (C:=C) I
 have r2:Aw (V.ref (s.heap.objs.size+1)::(vs++dvs)) (Value.ref (s.heap.objs.size+1)::(us++ds)):=.cons rfl (r.append hd)
 have hl:(Value.ref (s.heap.objs.size+1)::us++ds).length=ps.length:=by
  have e:=r2.length
  rw[F.len _ _ _ _ hq]at e
  exact e.symm
 refine Jd (TV (f:=f) I.kIn M.makes M.init (GI.mp M.fn) (Je (F.run _ X.stack _ _ ⟨Value.ref (s.heap.objs.size+1)::us,[]⟩ (Value.ref (s.heap.objs.size+1)::(us++ds)) _ _ E (hr.make C us [])
  (I2.env0.make C us []) (hb _ (Value.ref (s.heap.objs.size+1)::us) I2.kIn hl) r2 hq) fun r s' hq'=>?_))
 cases r with
 |error e=>exact hx pins σ _ _ e s' I2 hq'
 |
  ok fl=>
  cases fl with
  |
   ret u=>
   obtain⟨v,H',I3,rv,ev,q3⟩:=I2.after hq'
   subst ev
   exact⟨rv,⟨V.ref (s.heap.objs.size+1),H',I3,rfl,q3⟩⟩
  |next=>exact False.elim hq'
  |brk=>exact False.elim hq'
  |cont=>exact False.elim hq'
theorem Ng (M:Mk X.K C f)(F:AS X.prog X.w X.K X.mg X.base CX k f fd ps sp)(hr:C9 (k+1) X.A)(hg:Gl X x)(hm:X.mg x=some (.ref C))(hb:AX X.K fd ps ds)(hd:Aw dvs ds)(hx:IF CX X E)
  (ha:PA X (e::es) t) (hdb:(x==("__debug__":Str))=false:=by decide) (he:starEach (e::es) X.env=(false,eval e X.env)::starEach es X.env:=by rfl) (hpl:(backTo pos (starEach es X.env)).any (·.1)=false:=by rfl) :
  PE X (.Call (.Name x p) (e::es) [] pos) (Xf C sp dvs E t):=by
 intro pins s σ H Q I h
 refine KH (II I hg hm ?_ hdb)
 refine Ol (h₀:=X.base) I.ok.mod.kin M.kp (Az (ha pos pins s σ H _ I h) fun us s1 zz=>?_) he hpl
 obtain⟨vs,H1,I1,r,q⟩:=zz
 refine⟨I1.kIn,?_⟩
 exact Xa M F hr hb hd hx I1 r q
end
section
variable {X:Cx}{CX:Ef}{k:Nat}{f C:Addr}{fd:FuncData}{ps ks:List Str}{sp:Sp}{E:XK}{x m:Str}{p pos apos kpos:Pos}{e o:Expr}{es:List Expr}{kws:List Keyword}{te ta:TE}{t tk:TA}{nm:Option Str}
variable {g:List Value->List Value->List Value}{gV:List V->List V->List V}
end
structure B7 (N P:List Str)(sc:Scope):Prop where
 kind:sc.kind = .function
 co:sc.isCoroutine=false
 gen:sc.isGenerator=false
 nd:N.Nodup
 pre:N.take P.length=P
 par:∀x∈P,sc.names.lookup x=some .local\/sc.names.lookup x=some .cell
 nofree:∀y∈sc.names,y.2≠.free
theorem Q6 {kindOf:Str->Option NameKind}{x:Str}:∀{binds:List (Str×Value)} {m:Str->Option Value},(∀v,(x,v)∉binds)->bindL kindOf binds m x=m x
 |[],_,_=>rfl
 |
  (n,v)::r,m,h=>by
  unfold bindL
  rw[Q6 fun w hw=>h w (Cd _ hw)]
  split
  .have:x≠n:=by rintro rfl;exact h v Cz
   simp[this]
  .rfl
theorem Q5 {kindOf:Str->Option NameKind}{x:Str}:∀{binds:List (Str×Value)} {m:Str->Option Value},(∀v,(x,v)∉binds)->bindC kindOf binds m x=m x
 |[],_,_=>rfl
 |
  (n,v)::r,m,h=>by
  unfold bindC
  rw[Q5 fun w hw=>h w (Cd _ hw)]
  split
  .rfl
  .have:x≠n:=by rintro rfl;exact h v Cz
   simp[this]
theorem QI {kindOf:Str->Option NameKind}{x:Str}{v:Value}:∀{P:List Str} {vs:List Value} {i:Nat} {m:Str->Option Value},P.Nodup->P[i]?=some x->vs[i]?=some v->kindOf x=some .local->
  bindL kindOf (P.zip vs) m x=some v
 |[],_,_,_,_,h,_,_=>by simp at h
 |_::_,[],_,_,_,_,h,_=>by simp at h
 |
  p::P,w::vs,0,m,nd,h1,h2,hk=>by
  simp at h1 h2;subst h1;subst h2
  show bindL kindOf ((p,w)::P.zip vs) m p=_
  unfold bindL
  rw[Q6 fun v hv=>(GA.mp nd).1 (RI hv).1,Ap hk]
  simp
 |
  p::P,w::vs,i+1,m,nd,h1,h2,hk=>by
  show bindL kindOf ((p,w)::P.zip vs) m x=_
  unfold bindL
  exact QI (i:=i) (GA.mp nd).2 (by simpa using h1) (by simpa using h2) hk
theorem Qg {kindOf:Str->Option NameKind}{x:Str}{v:Value}:∀{P:List Str} {vs:List Value} {i:Nat} {m:Str->Option Value},P.Nodup->P[i]?=some x->vs[i]?=some v->kindOf x≠some .local->
  bindC kindOf (P.zip vs) m x=some v
 |[],_,_,_,_,h,_,_=>by simp at h
 |_::_,[],_,_,_,_,h,_=>by simp at h
 |
  p::P,w::vs,0,m,nd,h1,h2,hk=>by
  simp at h1 h2;subst h1;subst h2
  show bindC kindOf ((p,w)::P.zip vs) m p=_
  unfold bindC
  rw[Q5 fun v hv=>(GA.mp nd).1 (RI hv).1,Al hk]
  simp
 |
  p::P,w::vs,i+1,m,nd,h1,h2,hk=>by
  show bindC kindOf ((p,w)::P.zip vs) m x=_
  unfold bindC
  exact Qg (i:=i) (GA.mp nd).2 (by simpa using h1) (by simpa using h2) hk
noncomputable def start (N:List Str)(vs:List V):St:=vs.map some++List.replicate (N.length-vs.length) none
noncomputable def Gm (CX:Ef)(P:Program)(w:World)(K:Faa)(mg:Str->Option Value)(base:Heap)(N:List Str)(qual:Str)(scope:Scope)(f:Addr)(cd:Value)(A:Around)(outer:List Env)(s:Shared)(H:Hp)(E:XK):Cx where
 prog:=P
 w:=w
 K:=K
 mg:=mg
 base:=base
 A:=A.deeper (envOfC qual scope s.heap.objs.size f cd)
 N:=N
 s₀:=s
 H₀:=H
 env:=envOfC qual scope s.heap.objs.size f cd
 outer:=outer
 stack:=envOfC qual scope s.heap.objs.size f cd::outer
 ex:=[]
 calm:=true
 fn:=fun _=>true
 pn:=[]
 xe:=fun e s'=>wpAny (model P w) (A.deeper (envOfC qual scope s.heap.objs.size f cd)) (leaving (envOfC qual scope s.heap.objs.size f cd) e) (fun _ s''=>CX outer H s E e s'') (fun e' s''=>CX outer H s E e' s'') s'
theorem Q4 {sc:Scope}{n:Nat}{x:Str}(h:sc.names.lookup x=some .cell):∃c,(cellsFrom n sc.names []).lookup x=some c:=by
 have q:=PySem.W.cellsFrom_some sc.names n [] (.inl h)
 exact Option.isSome_iff_exists.mp q
theorem V5 {CX:Ef}{P:Program}{w:World}{K:Faa}{mg:Str->Option Value}{base:Heap}{N ps:List Str}{qual:Str}{scope:Scope}{f:Addr}{cd:Value}{A:Around}{outer:List Env}{s s1:Shared}{H:Hp}{E:XK}{us:List Value}{vs:List V}
  (S:B7 N ps scope) (hd:A.handled=none) (e0:GY P w K mg base A outer s H) (hl:vs.length=ps.length) (r:Aw vs us)
  (x:InCallC s s.heap.objs.size (bindL (envOfC qual scope s.heap.objs.size f cd).kindOf (ps.zip us) fun _=>none) (cellsFrom (s.heap.objs.size+1) scope.names []) (bindC (envOfC qual scope s.heap.objs.size f cd).kindOf (ps.zip us) fun _=>none) s1) :
  A2 (Gm CX P w K mg base N qual scope f cd A outer s H E) [] (start N vs) H s1:=by
 have hpl:ps.length<=N.length:=by have:=congrArg List.length S.pre;rw[AY]at this;lia
 obtain⟨h1,tk,rfl,hk⟩:=x.done
 have noA:∀b:Addr,b∉(Gm CX P w K mg base N qual scope f cd A outer s H E).ex:=fun b z=>absurd (show b∈([]:List Addr) from z) (by simp)
 refine⟨⟨e0.mod,S.kind,rfl,rfl,Af _,fun y z c h1 h2=>?_,fun y hy=>?_,fun y c _ h=>?_,fun _=>hd,Around.frames_deeper e0.frames,.inr ⟨rfl,rfl⟩,fun b z=>absurd z (noA b),e0.bs,e0.bsz,fun b _ _=>noA b,fun b z=>absurd z (noA b),e0.funs,e0.frf⟩,
  rfl,e0.bare,Un.kept hk,⟨_,x.toInCall.ns,fun i y v h1 h2 h3=>?_⟩,fun y c h=>⟨_,x.cell y c h⟩,e0.hok.fresh (Af _),fun y c h=>?_,fun p hp=>absurd (show p∈([]:List (Addr×Obj)) from hp) (by simp),e0.hok.kept hk,?_⟩
 .exact name_of_addr x.apart (MI h1) (MI h2)
 .have hy:scope.names.lookup y=some .cell\/scope.names.lookup y=some .free:=hy
  rcases hy with hy|hy
  .exact Q4 hy
  .exact absurd rfl (S.nofree _ (MI hy))
 .exact Fu (x.above y c (MI h))
 .have hi:i<vs.length:=by
   unfold start at h2
   by_cases hi:i<vs.length
   .exact hi
   .rw[Bz (by simpa using hi)]at h2
    rw[List.getElem?_replicate]at h2
    split at h2<;>cases h2
  have ha:vs[i]?=some v:=by
   unfold start at h2
   rw[BR (by simpa using hi),Bq]at h2
   cases e:vs[i]? with
   |none=>rw[e]at h2;cases h2
   |some a=>rw[e]at h2;cases h2;rfl
  obtain⟨u,hu,rv⟩:=r.get ha
  have hp:ps[i]?=some y:=by
   rw[←S.pre,DO (by lia)];exact h1
  have ndP:ps.Nodup:=by rw[←S.pre];exact S.nd.sublist (List.take_sublist _ _)
  refine⟨u,rv,?_⟩
  rcases S.par y (AH hp) with k|k
  .exact .inl ⟨k,QI ndP hp hu k⟩
  .obtain⟨c,e⟩:=Q4 (n:=s.heap.objs.size+1) k
   refine .inr ⟨.inl k,c,e,?_⟩
   have q:=x.cell y c e
   rw[Qg ndP hp hu (by show scope.names.lookup y≠_;rw[k];decide)]at q
   exact q
 .exact e0.hok.fresh (Fu (x.above y c (MI h)))
 .unfold start
  show _=N.length
  rw[AB,Au,List.length_replicate]
  lia
theorem Pa {CX:Ef}{P:Program}{w:World}{K:Faa}{mg:Str->Option Value}{base:Heap}{k:Nat}{f:Addr}{name qual:Str}{params:Arguments}{body:List Stmt}{scope:Scope}{dV kV doc pm cdv ct oc:Value}{an od:Option Addr}
  {osl:Array (Option Value)} {N ps:List Str} {sp:Sp} (lk:K.lookup f=some ⟨oc,od,.func (PySem.W.fnOf name qual params body scope dV kV doc pm an cdv ct),osl⟩) (hcd:PySem.W.codeIn K cdv qual=true) (S:B7 N ps scope)
  (len:∀vs H Q E,sp vs H Q E->vs.length=ps.length)
  (hbody:∀(A:Around) (outer:List Env) (s:Shared) (H:Hp) (vs:List V) (Q:VK) (E:XK),C9 k (A.deeper (envOfC qual scope s.heap.objs.size f cdv))->sp vs H Q E->
   ∃t,DC (Gm CX P w K mg base N qual scope f cdv A outer s H E) body t/\t {nx:=fun _ H'=>Q .non H',rt:=Q} (start N vs) H) :
  AS P w K mg base CX (k+1) f (PySem.W.fnOf name qual params body scope dV kV doc pm an cdv ct) ps sp:=by
 refine⟨len,fun A outer s H args us vs Q E hr e0 hb r hsp=>?_⟩
 have hl:=len _ _ _ _ hsp
 have KX:K.In s.heap:=e0.mod.kin.keeps fun b o e=>(e0.bs b o e).1
 have lim:s.heap.NoLimit:=e0.mod.nolimit.keeps fun b o e=>(e0.bs b o e).1
 have hkind:∀y∈ps.zip us,scope.names.lookup y.1=some .local\/(scope.names.lookup y.1=some .cell/\((cellsFrom (s.heap.objs.size+1) scope.names []).lookup y.1).isSome=true):=fun⟨n,v⟩ hy=>by
  rcases S.par n (RI hy).1 with q|q
  .exact .inl q
  .exact .inr ⟨q,PySem.W.cellsFrom_some _ _ _ (.inl q)⟩
 refine codeAny_call_function hr.depth (KX _ _ lk) rfl S.co S.gen rfl (PySem.W.codeRec_of KX hcd) (hb _ _ _ _ ?_)
 refine wpAny_newFunctionEnv_cells S.kind hkind fun env he s1 x=>?_
 subst he
 refine⟨lim.keeps x.toInCall.keep,codeAny_func ?_⟩
 obtain⟨t,ht,hq⟩:=hbody A outer s H vs Q E (hr.deeper _) hsp
 have I:A2 (Gm CX P w K mg base N qual scope f cdv A outer s H E) [] (start N vs) H s1:=V5 S hr.hd e0 hl r x
 refine CN (ht [] s1 (start N vs) H _ I hq) (fun fl s' hs=>?_) fun e s' hs=>hs
 have fin:∀{σ':St} {H':Hp} {v:V} {u:Value},A2 (Gm CX P w K mg base N qual scope f cdv A outer s H E) [] σ' H' s'->AE v u->Q v H'->CE outer P w H s Q u s':=
  fun{σ' H' v u} J rv q=>⟨v,H',J.os,J.bare,J.base,J.hok,rv,q⟩
 cases fl with
 |
  ret u=>
  obtain⟨v,σ',H',J,rv,q⟩:=hs
  exact fin J rv q
 |
  next=>
  obtain⟨σ',H',J,q⟩:=hs
  exact fin (v:=V.non) (u:=Value.none) J rfl q
 |
  brk=>
  obtain⟨_,_,_,q⟩:=hs
  exact False.elim q
 |
  cont=>
  obtain⟨_,_,_,q⟩:=hs
  exact False.elim q
section
variable {X:Cx}{x:Str}{p pos:Pos}{e:Expr}{es:List Expr}{t:TA}{id T:String}{r:List V->Hp->VK->Prop}
def NX (r:List V->Hp->VK->Prop)(t:TA):TE:=fun σ H Q=>t σ H fun vs H1=>r vs H1 Q
theorem Bf (hc:DX X (.builtin id) r)(hg:Gl X x)(hm:X.mg x=none)(hv:bootBuiltins x=some (.builtin id))(ha:PA X (e::es) t)(hn:x≠"__name__":=by decide)(hdb:(x==("__debug__":Str))=false:=by decide)
  (he:starEach (e::es) X.env=(false,eval e X.env)::starEach es X.env:=by rfl) (hpl:(backTo pos (starEach es X.env)).any (·.1)=false:=by rfl):PE X (.Call (.Name x p) (e::es) [] pos) (NX r t):=by
 intro pins s σ H Q I h
 refine KH (Fc I hg hm hv ?_ hn hdb)
 refine bx (Az (ha pos pins s σ H _ I h) fun us s1 zz=>?_) he hpl
 obtain⟨vs,H1,I1,r1,q1⟩:=zz
 exact hc pins s1 σ H1 vs us Q I1 r1 q1
theorem Do (hc:DX X (.type T) r)(hg:Gl X x)(hm:X.mg x=none)(hv:bootBuiltins x=some (.type T))(ha:PA X (e::es) t)(hn:x≠"__name__":=by decide)(hdb:(x==("__debug__":Str))=false:=by decide)
  (he:starEach (e::es) X.env=(false,eval e X.env)::starEach es X.env:=by rfl) (hpl:(backTo pos (starEach es X.env)).any (·.1)=false:=by rfl):PE X (.Call (.Name x p) (e::es) [] pos) (NX r t):=by
 intro pins s σ H Q I h
 refine KH (Fc I hg hm hv ?_ hn hdb)
 refine Hs (Az (ha pos pins s σ H _ I h) fun us s1 zz=>?_) he hpl
 obtain⟨vs,H1,I1,r1,q1⟩:=zz
 exact hc pins s1 σ H1 vs us Q I1 r1 q1
end
end L2
namespace HT
open PySem PyProof.Rows
noncomputable def lexLt:List Int->List Int->Bool
 |[],[]=>false
 |[],_::_=>true
 |_::_,[]=>false
 |x::xs,y::ys=>if x=y then lexLt xs ys else decide (x<y)
theorem Uc (x y:Int)(xs ys:List Int):lexLt (x::xs) (y::ys)=if x=y then lexLt xs ys else decide (x<y):=rfl
theorem ZG:lexLt [] []=false:=rfl
theorem Ss (y:Int)(ys:List Int):lexLt [] (y::ys)=true:=rfl
theorem YS (x:Int)(xs:List Int):lexLt (x::xs) []=false:=rfl
theorem ZW (A:Around)(s:Shared)(a:Int)(t:Tok)(c:Int)(u:Tok):∃e,SeqAt.EqAt A s (.int a t) (.int c u) e/\(e=true↔a=c):=
 ⟨(a==c),SeqAt.EqAt.int_int a t c u,by simp⟩
theorem Y4 (A:Around)(s:Shared)(a:Int)(t:Tok)(c:Int)(u:Tok)(prog:Program)(w:World)(E:Value->Shared->Prop)(Q:Value->Shared->Prop)(h:Q (.bool (decide (a<c))) s) :
  wpAny (model prog w) A (richCompare .Lt (.int a t) (.int c u)) Q E s:=
 (PyProof.Rows.lt_int h:wpAny (model prog w) A (compareOp .Lt (.int a t) (.int c u)) Q E s)
section
open PySem.SeqAt
open PySem.AutoSeq1 (wpAny_loadPart')
open PySem.MeetsSeq PySem.MeetsSeq2 PySem.MeetsSeq3
theorem Xy (l b:Addr)(items items2:Array Value)(n n2:Nat)(dd dd2:Option Addr)(sl sl2:Array (Option Value))(ns ms:List Int)(hi:IntsAre items.toList ns)(hj:IntsAre items2.toList ms) :
  Meets (Builtin.«tuple.__lt__» ⟨[.ref l,.ref b],[]⟩)
   (fun _ R s=>s.heap.get? l=some {cls:=.type "tuple",dict:=dd,data:=.seq items n,slots:=sl}/\s.heap.get? b=some {cls:=.type "tuple",dict:=dd2,data:=.seq items2 n2,slots:=sl2}/\
    R (.ok (.ret (.bool (lexLt ns ms)))) s):=
 .of_wp fun prog w A R s h=>by
  obtain⟨hp,g,d,tk,os⟩:=s;obtain⟨hl,hb,h⟩:=h
  have f2:=AutoSeq1.sub_tuple_tuple
  have z1:items.size=ns.length:=by rw[←hi.length];simp
  have z2:items2.size=ms.length:=by rw[←hj.length];simp
  wp_walk using wpAny_loadPart' hl,wpAny_loadPart' hb,wpAny_forIn_list _ (fun rest b s'=>b.1=none/\s'=⟨hp,g,d,tk,os⟩/\∃(vs ws:List Value) (ns' ms':List Int),rest=vs.zip ws/\
   IntsAre vs ns'/\IntsAre ws ms'/\ns'.length+items2.size=ms'.length+items.size/\R (.ok (.ret (.bool (lexLt ns' ms')))) ⟨hp,g,d,tk,os⟩) _
  case turn=>
   rintro ⟨y,x⟩ rest b s' ⟨hb',rfl,vs,ws,ns',ms',hz,hvi,hwi,hlen,hR⟩
   cases hvi with
   |nil=>rw[List.zip_nil_left]at hz;cases hz
   |
    cons a t hvi'=>
    cases hwi with
    |nil=>rw[List.zip_nil_right]at hz;cases hz
    |
     cons c u hwi'=>
     rw[List.zip_cons_cons]at hz
     injection hz with hyx hrest
     injection hyx with hy hx
     subst hy hx
     rw[Uc]at hR
     simp only[BH]at hlen
     obtain⟨e,he,hiff⟩:=ZW A.in1 ⟨hp,g,d,tk,os⟩ a t c u
     refine A9 (he prog w _ _ ?_)
     cases e with
     |
      true=>
      rw[Ap (hiff.mp rfl)]at hR
      wp_walk
      exact⟨rfl,rfl,_,_,_,_,hrest,hvi',hwi',by lia,hR⟩
     |
      false=>
      rw[Al (fun q=>absurd (hiff.mpr q) Cm)]at hR
      have hri:=Y4 A.in1 ⟨hp,g,d,tk,os⟩ a t c u prog w
      wp_walk using hri
      exact⟨_,rfl,by simpa using hR⟩
  case fin=>
   rintro ⟨b1,b2⟩ s' ⟨hb',rfl,vs,ws,ns',ms',hz,hvi,hwi,hlen,hR⟩
   simp only at hb'
   subst hb'
   have hv:lexLt ns' ms'=decide (items.size<items2.size):=by
    cases hvi with
    |
     nil=>
     cases hwi with
     |
      nil=>
      simp only[G4]at hlen
      rw[ZG]
      exact(Bk (by lia)).symm
     |
      cons c u hw=>
      simp only[G4,BH]at hlen
      rw[Ss]
      exact(Bw (by lia)).symm
    |
     cons a t hv=>
     cases hwi with
     |
      nil=>
      simp only[G4,BH]at hlen
      rw[YS]
      exact(Bk (by lia)).symm
     |
      cons c u hw=>
      rw[List.zip_cons_cons]at hz
      cases hz
   rw[hv]at hR
   wp_walk
   exact⟨_,rfl,by simpa[Builtin.Tuple.tupleCompareSizes] using hR⟩
  case h=>
   exact⟨rfl,rfl,items.toList,items2.toList,ns,ms,rfl,hi,hj,by lia,h⟩
end
section
variable {prog:Program}{w:World}{A:Around}{E:Value->Shared->Prop}{s:Shared}
theorem lt_tupInts {l b:Addr}{items items2:Array Value}{ns ms:List Int}{Q:Value->Shared->Prop}(hl:IsTup s.heap l items)(hb:IsTup s.heap b items2)(hi:IntsAre items.toList ns)(hj:IntsAre items2.toList ms)
  (hu:A.units<cLine) (h:Q (.bool (lexLt ns ms)) s):wpAny (model prog w) A (compareOp .Lt (.ref l) (.ref b)) Q E s:=by
 obtain⟨⟨cls,dd,data,sl⟩,ho,hc,n,hd⟩:=id hl
 obtain⟨⟨cls2,dd2,data2,sl2⟩,ho2,hc2,n2,hd2⟩:=id hb
 simp only at hc hd hc2 hd2
 subst hc hd hc2 hd2
 exact richCompare_meets_room (op:=.Lt) ⟨_,ho,rfl⟩ ⟨_,ho2,rfl⟩ PySem.F.slot_tuple_lt PySem.F.entry_tuple_lt (PySem.F.args_tuple_lt_2 _ _) (Xy l b items items2 n n2 dd dd2 sl sl2 ns ms hi hj)
  ⟨ho,ho2,show Value.bool (lexLt ns ms)≠Value.notImplemented/\Q (.bool (lexLt ns ms)) s from⟨(fun x=>nomatch x),h⟩⟩ hu
theorem cat_tup {t b:Addr}{vs ws:List Value}{Q:Value->Shared->Prop}(ht:IsTup s.heap t vs.toArray)(hb:IsTup s.heap b ws.toArray)(hv:vs≠[])
  (h1:ws=[]->Q (.ref t) s) (h2:ws≠[]->Q (.ref s.heap.objs.size) {s with heap:=s.heap.push {cls:=.type "tuple",data:=.seq (vs++ws).toArray}})
  (hsz:vs.length+ws.length<=sizeLine):wpAny (model prog w) A (binaryOp .Add (.ref t) (.ref b)) Q E s:=by
 obtain⟨⟨cls,dd,data,sl⟩,ho,hc,n,hd⟩:=id ht
 obtain⟨⟨cls2,dd2,data2,sl2⟩,ho2,hc2,n2,hd2⟩:=id hb
 simp only at hc hd hc2 hd2
 subst hc hd hc2 hd2
 have e:vs.toArray++ws.toArray=(vs++ws).toArray:=by simp
 by_cases hw:ws=[]
 .exact concat_meets ⟨_,ho,rfl⟩ ⟨_,ho2,rfl⟩ Sa seq_tuple_add RJ RK (RL _ _)
   (tuple_addW1 t b vs.toArray ws.toArray n n2 dd dd2 sl sl2 (by simpa using hv) (by simp[hw])) ⟨ho,ho2,h1 hw⟩
 .refine concat_meets ⟨_,ho,rfl⟩ ⟨_,ho2,rfl⟩ Sa seq_tuple_add RJ RK (RL _ _)
   (tuple_addW2 t b vs.toArray ws.toArray n n2 dd dd2 sl sl2 (by simpa using hv) (by simpa using hw) (by rw[Bc,Bc];exact hsz)) ⟨ho,ho2,?_⟩
  rw[e]
  exact h2 hw
noncomputable def sIx (n d:Nat):Option Int->Nat
 |none=>d
 |some v=>if v<0 then(v+(n:Int)).toNat else min v.toNat n
theorem sIx_none (n d:Nat):sIx n d none=d:=rfl
theorem sIx_nat (n d k:Nat):sIx n d (some (k:Int))=min k n:=by
 show(if(k:Int)<0 then((k:Int)+(n:Int)).toNat else min (k:Int).toNat n)=min k n
 rw[Al (by lia),Ky]
theorem Ux (n d:Nat)(hd:d<=n)(o:Option Int):sIx n d o<=n:=by
 cases o with
 |none=>exact hd
 |
  some v=>
  show(if v<0 then(v+(n:Int)).toNat else min v.toNat n)<=n
  by_cases hv:v<0
  .rw[Ap hv];lia
  .rw[Al hv];exact Nat.min_le_right _ _
theorem PD (v:Int)(n d:Nat):(if v<0 then max (v+(n:Int)) 0 else min v (n:Int))=((sIx n d (some v):Nat):Int):=by
 show(if v<0 then max (v+(n:Int)) 0 else min v (n:Int))=(((if v<0 then(v+(n:Int)).toNat else min v.toNat n):Nat):Int)
 by_cases hv:v<0
 .simp only[Ap hv];lia
 .simp only[Al hv];lia
theorem aP (lo hi:Option Int)(n:Nat):Builtin.Slice.sliceAdjust lo hi 1 (n:Int)=(((sIx n 0 lo:Nat):Int),((sIx n n hi:Nat):Int)):=by
 have h1:¬((1:Int)<0):=by lia
 unfold Builtin.Slice.sliceAdjust
 simp only[h1,KI]
 refine Prod.ext ?_ ?_
 .cases lo with
  |none=>rfl
  |some v=>exact PD v n 0
 .cases hi with
  |none=>rfl
  |some v=>exact PD v n n
theorem US (i j:Nat):Builtin.Slice.slicePlaces (i:Int) (j:Int) 1=j-i:=by
 unfold Builtin.Slice.slicePlaces
 have h1:(1:Int)>0:=by lia
 simp only[h1,HI,Int.ediv_one]
 split<;>lia
theorem QU {v:Value}{o:Option Int}{Q:Option Int->Shared->Prop}(p:IsPart v o)(h:Q o s):wpAny (model prog w) A (Builtin.Slice.slicePartIndex v) Q E s:=by
 cases p with
 |none=>exact slicePart_none h
 |int i t=>exact slicePart_int h
theorem Ro {sl:Addr}{vl vu:Value}{lo hi:Option Int}{n:Nat}{Q:Int×Int×Nat->Shared->Prop}(hs:s.heap.IsSliceOf sl vl vu .none)(pl:IsPart vl lo)(pu:IsPart vu hi)
  (h:Q (((sIx n 0 lo:Nat):Int),1,sIx n n hi-sIx n 0 lo) s):wpAny (model prog w) A (Builtin.Slice.sliceApplied (.ref sl) (pure (n:Int))) Q E s:=by
 obtain⟨os,hos,hcs,hds⟩:=id hs
 unfold Builtin.Slice.sliceApplied Builtin.Slice.sliceFields
 refine A9 (A9 (DQ hos hds (x:=vl) rfl (A9 (DQ hos hds (x:=vu) rfl (A9 (DQ hos hds (x:=.none) rfl (AA ?_)))))))
 refine A9 (slicePart_none ?_)
 show wpAny _ _ (if((1:Int)==0)=true then _ else _) _ _ s
 rw[Al (by decide)]
 refine A9 (QU pl (A9 (QU pu (A9 (AA ?_)))))
 show wpAny _ _ (match Builtin.Slice.sliceAdjust lo hi 1 (n:Int) with|(lo,hi)=>pure (lo,(1:Int),Builtin.Slice.slicePlaces lo hi 1)) _ _ s
 rw[aP lo hi n]
 show wpAny _ _ (pure (((sIx n 0 lo:Nat):Int),(1:Int),Builtin.Slice.slicePlaces ((sIx n 0 lo:Nat):Int) ((sIx n n hi:Nat):Int) 1)) _ _ s
 rw[US]
 exact AA h
theorem Sh (xs:Array Value)(i k:Nat):((List.range k).filterMap fun(m:Nat)=>xs[((i:Int)+(m:Int)*1).toNat]?).toArray=((xs.toList.drop i).take k).toArray:=by
 have e:(fun(m:Nat)=>xs[((i:Int)+(m:Int)*1).toNat]?)=fun m=>xs[i+m]?:=by
  funext m
  have:((i:Int)+(m:Int)*1).toNat=i+m:=by lia
  rw[this]
 rw[e]
 have:=pick_run xs i k
 rw[List.filterMap_map]at this
 have e2:((fun x=>xs[x]?)∘fun x=>i+x)=fun m=>xs[i+m]?:=rfl
 rw[e2]at this
 rw[this]
theorem getItem_tuple_cut {t sl:Addr}{items:Array Value}{vl vu:Value}{lo hi:Option Int}{Q:Value->Shared->Prop}(ht:IsTup s.heap t items)(hs:s.heap.IsSliceOf sl vl vu .none)(pl:IsPart vl lo)(pu:IsPart vu hi)
  (hw:¬(sIx items.size 0 lo=0/\sIx items.size items.size hi=items.size))
  (h:Q (.ref s.heap.objs.size) {s with heap:=s.heap.push {cls:=.type "tuple",data:=.seq ((items.toList.drop (sIx items.size 0 lo)).take (sIx items.size items.size hi-sIx items.size 0 lo)).toArray}})
  (hsz:items.size<=sizeLine):wpAny (model prog w) A (getItem (.ref t) (.ref sl)) Q E s:=by
 have htake:sizeOk (.seq ((items.toList.drop (sIx items.size 0 lo)).take (sIx items.size items.size hi-sIx items.size 0 lo)).toArray):=by
  show((items.toList.drop (sIx items.size 0 lo)).take (sIx items.size items.size hi-sIx items.size 0 lo)).toArray.size<=sizeLine
  rw[Bc,AY,Fx,Gy]
  lia
 have hj:sIx items.size items.size hi<=items.size:=Ux _ _ (Af _) hi
 obtain⟨os,hos,hcs,hds⟩:=id hs
 have hTs:s.TypeIs (.ref sl) "slice":=⟨os,hos,hcs⟩
 unfold getItem
 try with_reducible refine Er ?_
 first|refine A9 (AA ?_)|skip
 refine A9 (wpAny_sequenceKey ht.typeIs (by decide) ?_)
 refine A9 (wpAny_callSpecial?_slot (name:=Str.ofString "__getitem__") ht.typeIs Om
  (MU Om ht.typeIs entry_tuple_getitem ?_ (args_tuple_getitem _ _)))
 show wpAny _ _ (Builtin.Tuple.tupleItemsOf (.ref t)>>=_) _ _ s
 refine A9 (tupleItemsOf_ ht ?_)
 refine A9 (MV hTs ?_)
 rw[Ap (by decide)]
 refine A9 (Ro hs pl pu ?_)
 have hno:¬((((sIx items.size 0 lo:Nat):Int)==0&&(1:Int)==1&&(sIx items.size items.size hi-sIx items.size 0 lo)==items.size)=true):=by
  intro q
  rw[EJ,EJ]at q
  have q1:((sIx items.size 0 lo:Nat):Int)=0:=eq_of_beq q.1.1
  have q2:sIx items.size items.size hi-sIx items.size 0 lo=items.size:=eq_of_beq q.2
  exact hw ⟨by lia,by lia⟩
 show wpAny _ _ (if(((sIx items.size 0 lo:Nat):Int)==0&&(1:Int)==1&&(sIx items.size items.size hi-sIx items.size 0 lo)==items.size)=true then _ else _) _ _ s
 rw[Al hno,Sh]
 first
  |exact A9 (m:=Builtin.Tuple.tupleExact _) (KJ (AA ⟨_,rfl,AA h⟩) htake)
  |exact A9 (m:=Builtin.Tuple.tupleExact _) (KJ (A9 (AA (AA ⟨_,rfl,AA h⟩))) htake)
  |exact A9 (A9 (m:=Builtin.Tuple.tupleExact _) (KJ (AA (AA ⟨_,rfl,AA h⟩)) htake))
  |exact A9 (A9 (m:=Builtin.Tuple.tupleExact _) (KJ (AA ⟨_,rfl,AA h⟩) htake))
end
end HT
namespace L2
open PySem PySem.Spec PyProof.Rows
abbrev TO:=St->Hp->(Option Int->Hp->Prop)->Prop
def PO (X:Cx)(e:Option Expr)(t:TO):Prop:=
 ∀(pins:List (Addr×Obj)) (s:Shared) (σ:St) (H:Hp) (Q:Option Int->Hp->Prop),A2 X pins σ H s->t σ H Q->
  wpAny (model X.prog X.w) X.A (evalPart e X.env) (fun u s'=>∃o H',A2 X pins σ H' s'/\IsPart u o/\Q o H') X.xe s
def XW:TO:=fun _ H Q=>Q none H
def XM (t:TE):TO:=fun σ H Q=>t σ H fun x H1=>∃i,x = .int i/\Q (some i) H1
theorem OU {ns:List Int}:∀{us:List Value},Aw (ns.map V.int) us->IntsAre us ns:=by
 induction ns with
 |nil=>intro us r;rw[IY]at r;cases r;exact .nil
 |
  cons n ns ih=>
  intro us r
  rw[Bx]at r
  cases r with
  |
   cons r1 r2=>
   obtain⟨t,e⟩:=r1
   subst e
   exact .cons n t (ih r2)
section
variable {X:Cx}{e:Expr}{te:TE}{lo hi:Option Expr}{tl th:TO}{pos p2:Pos}
theorem Ee:PO X none XW:=by
 intro pins s σ H Q I h
 rw[evalPart_none]
 exact AA ⟨none,H,I,.none,h⟩
theorem DM (h:PE X e te):PO X (some e) (XM te):=by
 intro pins s σ H Q I hw
 rw[evalPart_some]
 refine Az (h pins s σ H _ I hw) fun u s1 zz=>?_
 obtain⟨x,H1,I1,r1,q1⟩:=zz
 obtain⟨i,rfl,q⟩:=q1
 obtain⟨t,rfl⟩:=r1
 exact⟨some i,H1,I1,.int i t,q⟩
def Md (X:Cx)(r:V->Option Int->Option Int->Hp->VK->Prop):Prop:=
 ∀(pins:List (Addr×Obj)) (s:Shared) (σ:St) (H:Hp) (x:V) (v vl vu:Value) (lo hi:Option Int) (sl:Addr) (Q:VK),A2 X pins σ H s->AE x v->s.heap.IsSliceOf sl vl vu .none->IsPart vl lo->IsPart vu hi->r x lo hi H Q->
  ∃T id,typeLookup (.type T) "__getitem__"=pure (some (.builtin id))/\s.TypeIs v T/\wpAny (model X.prog X.w) X.A (getItem v (.ref sl)) (EP X pins σ Q) X.xe s
def WJ (r:V->Option Int->Option Int->Hp->VK->Prop)(te:TE)(tl th:TO):TE:=fun σ H Q=>te σ H fun x H1=>tl σ H1 fun l H2=>th σ H2 fun u H3=>r x l u H3 Q
theorem DV {r:V->Option Int->Option Int->Hp->VK->Prop}(hr:Md X r)(he:PE X e te)(hl:PO X lo tl)(hu:PO X hi th):PE X (.Subscript e (.Slice lo hi none p2) pos) (WJ r te tl th):=by
 intro pins s σ H Q I h
 refine Subscript_ (Az (he pins s σ H _ I h) fun v s1 zz=>?_)
 obtain⟨x,H1,I1,r1,q1⟩:=zz
 refine wpAny_Slice (Az (hl pins s1 σ H1 _ I1 q1) fun vl s2 zz=>?_)
 obtain⟨l,H2,I2,pl,q2⟩:=zz
 refine Az (hu pins s2 σ H2 _ I2 q2) fun vu s3 zz=>?_
 obtain⟨u,H3,I3,pu,q3⟩:=zz
 rw[evalPart_none]
 refine AA ?_
 have I4:A2 X pins σ H3 {s3 with heap:=s3.heap.push {cls:=.type "slice",data:=.fields #[vl,vu,.none]}}:=I3.kept (t':=s3.toks) fun b ob q=>AD _ q
 obtain⟨T,id,hT,ht,hg⟩:=hr pins {s3 with heap:=s3.heap.push {cls:=.type "slice",data:=.fields #[vl,vu,.none]}} σ H3 x v vl vu l u s3.heap.objs.size Q I4 r1 (Heap.IsSliceOf.new ..) pl pu q3
 show wpAny (model X.prog X.w) X.A (subscriptTail e (.Slice lo hi none p2) v (.ref s3.heap.objs.size)) (EP X pins σ Q) X.xe {s3 with heap:=s3.heap.push {cls:=.type "slice",data:=.fields #[vl,vu,.none]}}
 exact tail_any (ops:=[.ref s3.heap.objs.size,v]) ht hT hg (by with_unfolding_all rfl)
noncomputable def BS (xs:List V)(lo hi:Option Int):List V:=(xs.drop (HT.sIx xs.length 0 lo)).take (HT.sIx xs.length xs.length hi-HT.sIx xs.length 0 lo)
theorem OL (xs:List V)(lo hi:Option Int):(BS xs lo hi).length<=xs.length:=by
 unfold BS
 rw[AY,Fx]
 lia
def Xz (K:Faa):V->Option Int->Option Int->Hp->VK->Prop:=fun x lo hi H Q=>∃a xs,x = .ref a/\A5 K H a xs/\
 ¬(HT.sIx xs.length 0 lo=0/\HT.sIx xs.length xs.length hi=xs.length)/\∀p,H p=none->Q (.ref p) (upd H p (.tup (BS xs lo hi)))
theorem UP:Md X (Xz X.K):=by
 intro pins s σ H x v vl vu lo hi sl Q I rx hs pl pu h
 obtain⟨a,xs,rfl,hx,hw,q⟩:=h
 cases rx
 obtain⟨its,r,ht,hz⟩:=I.tuple hx
 have hlen:its.toArray.size=xs.length:=by rw[Bc];exact r.length.symm
 refine⟨"tuple",_,PyProof.Rows.slot_tuple_getitem.lookup,ht.typeIs,?_⟩
 refine HT.getItem_tuple_cut ht hs pl pu (by rw[hlen];exact hw) ?_ (by rw[hlen];exact hz)
 rw[hlen]
 refine⟨.ref s.heap.objs.size,_,I.laid (t':=s.toks) (o:=.tup (BS xs lo hi)) (fun b ob q=>AD _ q) (Af _) ?_,rfl,q _ (I.hok.fresh (Af _))⟩
 exact⟨CL (OL xs lo hi) hz,_,(r.drop (HT.sIx xs.length 0 lo)).take (HT.sIx xs.length xs.length hi-HT.sIx xs.length 0 lo),Ep.new _ _⟩
def UB (K:Faa):R2:=fun x y H Q=>∃a b ns ms,x = .ref a/\y = .ref b/\A5 K H a (ns.map V.int)/\A5 K H b (ms.map V.int)/\Q (.bl (HT.lexLt ns ms)) H
theorem Yi (hu:X.A.units<cLine):BC X (compareOp .Lt) (UB X.K):=by
 intro pins s σ H x y v u Q I rx ry h
 obtain⟨a,b,ns,ms,rfl,rfl,ha,hb,q⟩:=h
 cases rx
 cases ry
 obtain⟨its,r1,p1,_⟩:=I.tuple ha
 obtain⟨its2,r2,p2,_⟩:=I.tuple hb
 have i1:IntsAre its.toArray.toList ns:=OU r1
 have i2:IntsAre its2.toArray.toList ms:=OU r2
 exact HT.lt_tupInts p1 p2 i1 i2 hu ⟨.bl (HT.lexLt ns ms),H,I,rfl,q⟩
def ZJ (K:Faa):R2:=fun x y H Q=>∃a b xs ys,x = .ref a/\y = .ref b/\A5 K H a xs/\A5 K H b ys/\xs≠[]/\xs.length+ys.length<=sizeLine/\
 (ys=[]->Q (.ref a) H)/\(ys≠[]->∀p,H p=none->Q (.ref p) (upd H p (.tup (xs++ys))))
theorem Aw.nil_iff {xs:List V}{us:List Value}(r:Aw xs us):us=[]↔xs=[]:=by
 cases r with
 |nil=>simp
 |cons _ _=>simp
theorem aa:BC X (binaryOp .Add) (ZJ X.K):=by
 intro pins s σ H x y v u Q I rx ry h
 obtain⟨a,b,xs,ys,rfl,rfl,ha,hb,hx,hz,q1,q2⟩:=h
 cases rx
 cases ry
 obtain⟨its,r1,p1,_⟩:=I.tuple ha
 obtain⟨its2,r2,p2,_⟩:=I.tuple hb
 refine HT.cat_tup p1 p2 (fun z=>hx (r1.nil_iff.mp z)) (fun z=>⟨.ref a,H,I,rfl,q1 (r2.nil_iff.mp z)⟩) (fun z=>?_) (by rw[←r1.length,←r2.length];exact hz)
 refine⟨.ref s.heap.objs.size,_,I.laid (t':=s.toks) (o:=.tup (xs++ys)) (fun b ob q=>AD _ q) (Af _) ?_,rfl,q2 (fun w=>z (r2.nil_iff.mpr w)) _ (I.hok.fresh (Af _))⟩
 exact⟨by rw[AB];exact hz,_,r1.append r2,Ep.new _ _⟩
end
noncomputable def FR (n:Nat)(i:Int):Option Nat:=if 0<=i then(if i<n then some i.toNat else none) else if -(n:Int)<=i then some (i+n).toNat else none
noncomputable def B5 {α:Type}(xs:List α)(i:Int):Option α:=(FR xs.length i).bind fun j=>xs[j]?
theorem PK {n:Nat}{i:Int}{j:Nat}(h:FR n i=some j):seqIndex? i n=some j/\j<n/\-(n:Int)<=i/\i<n:=by
 unfold FR at h
 by_cases h0:0<=i
 .rw[Ap h0]at h
  by_cases h1:i<n
  .rw[Ap h1]at h
   have e:i.toNat=j:=Ck h
   exact⟨by rw[seqIndex_of h0 h1,e],by lia,by lia,h1⟩
  .rw[Al h1]at h;cases h
 .rw[Al h0]at h
  by_cases h1 : -(n:Int)<=i
  .rw[Ap h1]at h
   have e:(i+n).toNat=j:=Ck h
   exact⟨by rw[seqIndex_neg (by lia) h1,e],by lia,h1,by lia⟩
  .rw[Al h1]at h;cases h
theorem N5 {α:Type}{xs:List α}{i:Int}{v:α}(h:B5 xs i=some v):∃j,seqIndex? i xs.length=some j/\xs[j]?=some v/\j<xs.length/\-(xs.length:Int)<=i/\i<xs.length:=by
 unfold B5 at h
 cases e:FR xs.length i with
 |none=>rw[e]at h;cases h
 |
  some j=>
  rw[e]at h
  obtain⟨h1,h2,h3,h4⟩:=PK e
  exact⟨j,h1,h,h2,h3,h4⟩
theorem Br {α:Type}{xs:List α}{j:Nat}{v:α}(h:xs[j]?=some v):B5 xs (j:Int)=some v:=by
 have hj:j<xs.length:=(Ay.mp h).1
 have e:FR xs.length (j:Int)=some j:=by
  unfold FR
  rw[Ap (by lia),Ap (by lia)];simp
 unfold B5;rw[e];exact h
def XN (b:Expr):Prop := ∀o i,subscripted b false o i=operate [o,i] (getItem o i)
def D4 (X:Cx)(r:R2):Prop:=
 ∀(value slice:Expr) (pins:List (Addr×Obj)) (s:Shared) (σ:St) (H:Hp) (x y:V) (v u:Value) (Q:VK),A2 X pins σ H s->AE x v->AE y u->r x y H Q->
  subscripted slice false v u=operate [v,u] (getItem v u)->wpAny (model X.prog X.w) X.A (subscriptTail value slice v u) (EP X pins σ Q) X.xe s
def P8 (X:Cx)(id:String)(r:V->List V->Hp->VK->Prop):Prop:=
 ∀(pins:List (Addr×Obj)) (s:Shared) (σ:St) (H:Hp) (x:V) (xs:List V) (v:Value) (us:List Value) (Q:VK),A2 X pins σ H s->AE x v->Aw xs us->r x xs H Q->
  wpAny (model X.prog X.w) X.A (call (.builtin id) (v::us)) (EP X pins σ Q) X.xe s
section
variable {X:Cx}{a b:Expr}{ta tb:TE}{pos:Pos}
theorem A6 {r:R2}(hr:D4 X r)(ha:PE X a ta)(hb:PE X b tb)(hs:XN b):PE X (.Subscript a b pos) (Kk r ta tb):=by
 intro pins s σ H Q I h
 exact Subscript_ (O6 ha hb I h fun v u s2 x y H2 I2 rx ry q=>hr a b pins s2 σ H2 x y v u Q I2 rx ry q (hs _ _))
def IK (K:Faa):R2:=fun x y H Q=>∃p xs i v,x = .ref p/\y = .int i/\A4 K H p xs/\B5 xs i=some v/\Q v H
def DT (K:Faa):R2:=fun x y H Q=>∃p xs i v,x = .ref p/\y = .int i/\A5 K H p xs/\B5 xs i=some v/\Q v H
def W2:R2:=fun x y H Q=>∃z i c,x = .str z/\y = .int i/\z.length<=sizeLine/\B5 z.cps.toList i=some c/\Q (.str ⟨#[c]⟩) H
theorem AO:D4 X (IK X.K):=by
 intro value slice pins s σ H x y v u Q I rx ry h hs
 obtain⟨p,xs,i,z,rfl,rfl,hq,he,q⟩:=h
 cases rx
 obtain⟨t,rfl⟩:=ry
 obtain⟨its,r,pl,hz⟩:=I.list hq
 obtain⟨j,h1,h2,h3,h4,h5⟩:=N5 he
 obtain⟨w,ew,rw'⟩:=r.get h2
 have hl:=r.length
 have hn:=K8
 have fin:EP X pins σ Q w s:=⟨z,H,I,rw',q⟩
 by_cases h0:0<=i
 .have hj:i.toNat=j:=by
   rw[seqIndex_of h0 h5]at h1
   exact Ck h1
  exact item_listR pl.isList h0 (by lia) (by rw[hj];simpa using ew) fin hs
 .have hj:(i+(its.toArray.size:Int)).toNat=j:=by
   rw[seqIndex_neg (by lia) h4]at h1
   rw[Bc,←hl]
   exact Ck h1
  exact subscriptTail_builtinR (x:=w) pl.isList.typeIs slot_list_getitem.lookup
   (wpAny_getItem_list_neg (Q:=fun r s'=>r=w/\EP X pins σ Q r s') pl.isList (by lia) (by rw[Bc]<;>lia) (by lia) (by rw[hj];simpa using ew) ⟨rfl,fin⟩) hs
theorem Ae:D4 X (DT X.K):=by
 intro value slice pins s σ H x y v u Q I rx ry h hs
 obtain⟨p,xs,i,z,rfl,rfl,hq,he,q⟩:=h
 cases rx
 obtain⟨t,rfl⟩:=ry
 obtain⟨its,r,pl,hz⟩:=I.tuple hq
 obtain⟨j,h1,h2,h3,h4,h5⟩:=N5 he
 obtain⟨w,ew,rw'⟩:=r.get h2
 have hl:=r.length
 have hn:=K8
 have fin:EP X pins σ Q w s:=⟨z,H,I,rw',q⟩
 exact subscriptTail_builtinR (x:=w) pl.typeIs slot_tuple_getitem.lookup
  (getItem_tuple (j:=j) (Q:=fun r s'=>r=w/\EP X pins σ Q r s') pl (by lia) (by lia) (by rw[Bc,←hl];exact h1) (by simpa using ew) ⟨rfl,fin⟩) hs
theorem RD:D4 X W2:=by
 intro value slice pins s σ H x y v u Q I rx ry h hs
 obtain⟨z,i,c,rfl,rfl,hz,he,q⟩:=h
 obtain⟨t,rfl⟩:=rx
 obtain⟨t',rfl⟩:=ry
 obtain⟨j,h1,h2,h3,h4,h5⟩:=N5 he
 have hl:z.cps.toList.length=z.length:=by simp[Str.length]
 rw[hl]at h1 h4 h5
 have hn:=K8
 exact tail_any (typeIs_str s z t) slot_str_getitem.lookup (getItem_str (c:=c) (by
  have e1:decide (i < -(2 ^ 63:Int))=false:=Bk (by lia)
  have e2:decide (i≥2 ^ 63)=false:=Bk (by lia)
  rw[e1,e2,Bool.or_false]) (by rw[h1];simpa using h2) ⟨.str ⟨#[c]⟩,H,I.tok _,⟨_,rfl⟩,q⟩) hs
theorem Tc (its:List Value)(n j:Nat)(u:Value):Obj.mapSeq (·.setIfInBounds j u) {cls:=.type "list",data:=.seq its.toArray n}={cls:=.type "list",data:=.seq (its.set j u).toArray n}:=by
 simp[Obj.mapSeq]
theorem A2.lst {pins:List (Addr×Obj)}{σ:St}{H:Hp}{s:Shared}{p:Addr}{xs:List V}(I:A2 X pins σ H s)(h:H p=some (.lst xs)) :
  ∃(its:List Value) (n:Nat),Aw xs its/\s.heap.get? p=some {cls:=.type "list",data:=.seq its.toArray n}/\xs.length<=sizeLine:=by
 obtain⟨z,its,n,r,e⟩:=I.hok p _ h
 exact⟨its,n,r,e,z⟩
theorem A2.lstUpd {pins:List (Addr×Obj)}{σ:St}{H:Hp}{s:Shared}{p:Addr}{xs ys:List V}{its its':List Value}{n n':Nat}{f:Obj->Obj}(I:A2 X pins σ H s)(h:H p=some (.lst xs))
  (ho:s.heap.get? p=some {cls:=.type "list",data:=.seq its.toArray n}) (hf:f {cls:=.type "list",data:=.seq its.toArray n}={cls:=.type "list",data:=.seq its'.toArray n'}) (r:Aw ys its') (hz:ys.length<=sizeLine) (t:Nat) :
  A2 X pins σ (upd H p (.lst ys)) {s with heap:=s.heap.update p f,toks:=t}:=by
 have e:(s.heap.update p f).get? p=some {cls:=.type "list",data:=.seq its'.toArray n'}:=by
  rw[IZ f ho (by rw[hf]<;>rfl),hf]
 refine I.write (x:=p) (e:=p) (by rw[h];trivial) (.inl rfl) (fun b u hb q=>(GC _ _ (Ne.symm hb)).trans q) ⟨_,e⟩ ?_
 exact⟨hz,its',n',r,e⟩
def ZE:V->V->V->Hp->(Hp->Prop)->Prop:=fun o i v H Q=>∃p xs k j,o = .ref p/\i = .int k/\H p=some (.lst xs)/\FR xs.length k=some j/\Q (upd H p (.lst (xs.set j v)))
theorem Kd:P1 X ZE:=by
 intro pins s σ H o i v ov iv u Q I ro ri rv h
 obtain⟨p,xs,k,j,rfl,rfl,hp,hj,q⟩:=h
 cases ro
 obtain⟨t,rfl⟩:=ri
 obtain⟨its,n,r,ho,hz⟩:=I.lst hp
 obtain⟨h1,h2,h3,h4⟩:=PK hj
 have hl:=r.length
 have hn:=K8
 have I':A2 X pins σ (upd H p (.lst (xs.set j v))) {s with heap:=s.heap.update p (Obj.mapSeq (·.setIfInBounds j u))}:=
  I.lstUpd hp ho (Tc its n j u) (r.set rv j) (by rw[List.length_set];exact hz) s.toks
 by_cases h0:0<=k
 .have hk:k.toNat=j:=by
   rw[seqIndex_of h0 h4]at h1
   exact Ck h1
  exact PySem.W.ki_setAt ho h0 (by lia) (by rw[Bc,←hl];exact h4) (by rw[hk];exact⟨_,I',q⟩)
 .have hk:(k+(its.toArray.size:Int)).toNat=j:=by
   rw[seqIndex_neg (by lia) h3]at h1
   rw[Bc,←hl]
   exact Ck h1
  exact PySem.W.ki_setBack ho (by lia) (by rw[Bc,←hl];exact h3) (by lia) (by rw[hk];exact⟨_,I',q⟩)
theorem UZ (lo hi:Option Int)(n:Nat):(sliceBounds lo hi none n).1=((HT.sIx n 0 lo:Nat):Int)/\(sliceBounds lo hi none n).2.1=((HT.sIx n n hi:Nat):Int)/\(sliceBounds lo hi none n).2.2=1:=by
 refine⟨?_,?_,rfl⟩
 .cases lo with
  |none=>simp[sliceBounds,HT.sIx]
  |
   some i=>
   simp only[sliceBounds,HT.sIx,Option.getD_none,show(1:Int)>0 by decide,HI]
   by_cases h:i<0
   .simp only[h,HI]<;>lia
   .simp only[h,KI]<;>lia
 .cases hi with
  |none=>simp[sliceBounds,HT.sIx]
  |
   some i=>
   simp only[sliceBounds,HT.sIx,Option.getD_none,show(1:Int)>0 by decide,HI]
   by_cases h:i<0
   .simp only[h,HI]<;>lia
   .simp only[h,KI]<;>lia
theorem Xx (its:List Value)(lo hi:Option Int):slicePick its.toArray lo hi none=((its.drop (HT.sIx its.length 0 lo)).take (HT.sIx its.length its.length hi-HT.sIx its.length 0 lo)).toArray:=by
 obtain⟨h1,h2,h3⟩:=UZ lo hi its.toArray.size
 unfold slicePick
 rw[h1,h2,h3]
 simp only[sliceRange_one,pick_run,Bc]<;>rfl
def U5 (K:Faa):V->Option Int->Option Int->Hp->VK->Prop:=fun x lo hi H Q=>∃a xs,x = .ref a/\A4 K H a xs/\∀p,H p=none->Q (.ref p) (upd H p (.lst (BS xs lo hi)))
theorem FF:Md X (U5 X.K):=by
 intro pins s σ H x v vl vu lo hi sl Q I rx hs pl pu h
 obtain⟨a,xs,rfl,hx,q⟩:=h
 cases rx
 obtain⟨its,r,ht,hz⟩:=I.list hx
 have hlen:=r.length
 refine⟨"list",_,slot_list_getitem.lookup,ht.isList.typeIs,?_⟩
 refine wpAny_getItem_list_slice ht.isList hs pl pu .none (by simp) ?_ (by rw[Bc]<;>lia)
 rw[Xx,←hlen]
 refine⟨.ref s.heap.objs.size,_,I.laid (t':=s.toks) (o:=.lst (BS xs lo hi)) (fun b ob q=>AD _ q) (Af _) ?_,rfl,q _ (I.hok.fresh (Af _))⟩
 exact⟨CL (OL xs lo hi) hz,_,0,(r.drop (HT.sIx xs.length 0 lo)).take (HT.sIx xs.length xs.length hi-HT.sIx xs.length 0 lo),C7 _ rfl⟩
noncomputable def Eu:V->Bool
 |.non=>true
 |.bl _=>true
 |.int _=>true
 |.str _=>true
 |_=>false
noncomputable def DY:V->V->Bool
 |.non,.non=>true
 |.bl a,.bl b=>a==b
 |.bl a,.int b=>(if a then 1 else 0)==b
 |.int a,.bl b=>a==(if b then 1 else 0)
 |.int a,.int b=>a==b
 |.str a,.str b=>a==b
 |_,_=>false
theorem N3 {A:Around}{s:Shared}{y x:V}{u v:Value}(ry:AE y u)(rx:AE x v)(fy:Eu y=true)(fx:Eu x=true):SeqAt.EqAt A s u v (DY y x):=by
 cases y with
 |
  non=>
  cases ry
  cases x with
  |non=>cases rx;exact SeqAt.EqAt.same _
  |bl b=>cases rx;exact SeqAt.EqAt.none_bool b
  |int b=>obtain⟨t,rfl⟩:=rx;exact SeqAt.EqAt.none_int b t
  |str b=>obtain⟨t,rfl⟩:=rx;exact SeqAt.EqAt.none_str b t
  |_=>exact absurd (show false=true from fx) Cm
 |
  bl a=>
  cases ry
  cases x with
  |non=>cases rx;exact SeqAt.EqAt.bool_none a
  |bl b=>cases rx;exact SeqAt.EqAt.bool_bool a b
  |int b=>obtain⟨t,rfl⟩:=rx;exact SeqAt.EqAt.bool_int a b t
  |str b=>obtain⟨t,rfl⟩:=rx;exact SeqAt.EqAt.bool_str a b t
  |_=>exact absurd (show false=true from fx) Cm
 |
  int a=>
  obtain⟨t',rfl⟩:=ry
  cases x with
  |non=>cases rx;exact SeqAt.EqAt.int_none a t'
  |bl b=>cases rx;exact SeqAt.EqAt.int_bool a t' b
  |int b=>obtain⟨t,rfl⟩:=rx;exact SeqAt.EqAt.int_int a t' b t
  |str b=>obtain⟨t,rfl⟩:=rx;exact SeqAt.EqAt.int_str a t' b t
  |_=>exact absurd (show false=true from fx) Cm
 |
  str a=>
  obtain⟨t',rfl⟩:=ry
  cases x with
  |non=>cases rx;exact SeqAt.EqAt.str_none a t'
  |bl b=>cases rx;exact SeqAt.EqAt.str_bool a t' b
  |int b=>obtain⟨t,rfl⟩:=rx;exact SeqAt.EqAt.str_int a t' b t
  |str b=>obtain⟨t,rfl⟩:=rx;exact SeqAt.EqAt.str_str a t' b t
  |_=>exact absurd (show false=true from fx) Cm
 |_=>exact absurd (show false=true from fy) Cm
noncomputable def FO (x:V)(u:Value):Bool:=match u with
 |.none=>DY .non x
 |.bool b=>DY (.bl b) x
 |.int i _=>DY (.int i) x
 |.str z _=>DY (.str z) x
 |_=>false
theorem OR {x y:V}{u:Value}(r:AE y u)(f:Eu y=true):FO x u=DY y x:=by
 cases y with
 |non=>cases r;rfl
 |bl b=>cases r;rfl
 |int i=>obtain⟨t,rfl⟩:=r;rfl
 |str z=>obtain⟨t,rfl⟩:=r;rfl
 |_=>exact absurd (show false=true from f) Cm
theorem N0 {x:V}:∀{xs:List V} {us:List Value},Aw xs us->xs.all Eu=true->us.any (FO x)=xs.any fun y=>DY y x
 |_,_,.nil,_=>rfl
 |
  y::xs,u::us,.cons r t,f=>by
  rw[List.all_cons,EJ]at f
  rw[MJ,MJ,OR r f.1,N0 t f.2]
theorem Nh {A:Around}{s:Shared}{x:V}{v:Value}(rx:AE x v)(fx:Eu x=true):∀{xs:List V} {us:List Value},Aw xs us->xs.all Eu=true->∀u∈us,SeqAt.EqAt A s u v (FO x u)
 |_,_,.nil,_=>fun u hu=>by cases hu
 |
  y::xs,u::us,.cons r t,f=>fun u' hu=>by
  rw[List.all_cons,EJ]at f
  rcases AZ.mp hu with rfl|hu
  .rw[OR r f.1];exact N3 r rx f.1 fx
  .exact Nh rx fx t f.2 u' hu
noncomputable def Lm (x:V)(xs:List V):Bool:=xs.any fun y=>DY y x
def OJ (K:Faa)(neg:Bool):R2:=fun x y H Q=>∃p xs,y = .ref p/\(A4 K H p xs\/A5 K H p xs)/\Eu x=true/\xs.all Eu=true/\Q (.bl (if neg then !Lm x xs else Lm x xs)) H
theorem Xd:BC X (compareOp .In) (OJ X.K false):=by
 intro pins s σ H x y v u Q I rx ry h
 obtain⟨p,xs,rfl,hq,fx,fs,q⟩:=h
 cases ry
 rcases hq with hq|hq
 .obtain⟨its,r,pl,hz⟩:=I.list hq
  refine SeqAt.in_listAt (FO x) pl.isList (fun w hw=>Nh rx fx r fs w (by simpa using hw)) ⟨.bl _,H,I,rfl,?_⟩
  rw[show its.toArray.any (FO x)=its.any (FO x) by simp,N0 r fs]
  exact q
 .obtain⟨its,r,pl,hz⟩:=I.tuple hq
  refine SeqAt.in_tupleAt (FO x) pl (fun w hw=>Nh rx fx r fs w (by simpa using hw)) ⟨.bl _,H,I,rfl,?_⟩
  rw[show its.toArray.any (FO x)=its.any (FO x) by simp,N0 r fs]
  exact q
theorem BI:DX X (.builtin "len") (fun xs H Q=>∃p ys,xs=[.ref p]/\(A4 X.K H p ys\/A5 X.K H p ys)/\Q (.int ys.length) H):=by
 intro pins s σ H xs us Q I r h
 obtain⟨p,ys,rfl,hq,q⟩:=h
 obtain⟨u,rfl,rx⟩:=ET r
 cases rx
 have hn:=K8
 rcases hq with hq|hq
 .obtain⟨its,r',pl,hz⟩:=I.list hq
  have hlen:=r'.length
  exact Calls.call_len_list pl.isList (by simp only[Bc]<;>lia) ⟨.int ys.length,H,I.tok _,⟨s.toks+1,by rw[Bc,hlen]⟩,q⟩
 .obtain⟨its,r',pl,hz⟩:=I.tuple hq
  have hlen:=r'.length
  exact len_tuple pl (by simp only[Bc]<;>lia) ⟨.int ys.length,H,I.tok _,⟨s.toks+1,by rw[Bc,hlen]⟩,q⟩
theorem Rh:DX X (.type "list") (fun xs H Q=>∃p ys,xs=[.ref p]/\(A4 X.K H p ys\/A5 X.K H p ys)/\∀l,H l=none->Q (.ref l) (upd H l (.lst ys))):=by
 intro pins s σ H xs us Q I r h
 obtain⟨p,ys,rfl,hq,q⟩:=h
 obtain⟨u,rfl,rx⟩:=ET r
 cases rx
 have fin:∀(its:List Value),Aw ys its->ys.length<=sizeLine->∀(h':Heap) (c':Nat),(∀b o',s.heap.get? b=some o'->h'.get? b=some o')->
   h'.get? s.heap.objs.size=some {cls:=.type "list",dict:=none,data:=.seq its.toArray c',slots := #[]}->EP X pins σ Q (.ref s.heap.objs.size) {s with heap:=h'}:=fun its r' hz h' c' kp e=>
  ⟨.ref s.heap.objs.size,_,I.laid (t':=s.toks) kp (Af _) (show BG X.prog X.w _ h' _ (.lst ys) from⟨hz,its,c',r',e⟩),rfl,q _ (I.hok.fresh (Af _))⟩
 rcases hq with hq|hq
 .obtain⟨its,r',pl,hz⟩:=I.list hq
  have hlen:=r'.length
  obtain⟨o,ho,hc,n,hd⟩:=pl.isList
  exact call_list_seq p (.inl rfl) ho hc hd (fun h' c' kp e=>fin its r' hz h' c' kp e) (by simp only[Bc]<;>lia)
 .obtain⟨its,r',pl,hz⟩:=I.tuple hq
  have hlen:=r'.length
  obtain⟨o,ho,hc,n,hd⟩:=pl
  exact call_list_seq p (.inr rfl) ho hc hd (fun h' c' kp e=>fin its r' hz h' c' kp e) (by simp only[Bc]<;>lia)
theorem IA:DX X (.type "tuple") (fun xs H Q=>∃p ys,xs=[.ref p]/\((A4 X.K H p ys/\∀l,H l=none->Q (.ref l) (upd H l (.tup ys)))\/(A5 X.K H p ys/\Q (.ref p) H))):=by
 intro pins s σ H xs us Q I r h
 obtain⟨p,ys,rfl,h⟩:=h
 obtain⟨u,rfl,rx⟩:=ET r
 cases rx
 rcases h with⟨hq,q⟩|⟨hq,q⟩
 .obtain⟨its,r',pl,hz⟩:=I.list hq
  have hlen:=r'.length
  refine call_tuple_list pl.isList (fun h' kp=>?_) (by simp only[Bc]<;>lia)
  have I1:A2 X pins σ H {s with heap:=h'}:=I.kept (t':=s.toks) kp
  have I2:A2 X pins σ (upd H h'.objs.size (.tup ys)) {s with heap:=h'.push {cls:=.type "tuple",data:=.seq its.toArray}}:=
   I1.laid (t':=s.toks) (fun b o e=>AD _ e) (Af _) (show BG X.prog X.w _ _ _ (.tup ys) from⟨hz,its,r',Ep.new _ _⟩)
  exact⟨.ref h'.objs.size,_,I2,rfl,q _ (I1.hok.fresh (Af _))⟩
 .obtain⟨its,r',pl,hz⟩:=I.tuple hq
  exact call_tuple_same pl ⟨.ref p,H,I,rfl,q⟩
def NV (K:Faa)(T:String)(x:V)(H:Hp):Prop:=match x with
 |.str _=>T="str"
 |.int _=>T="int"
 |.ref p=>(T="list"/\∃xs,A4 K H p xs)\/(T="tuple"/\∃o,K.lookup p=some o/\o.cls = .type "tuple"/\o.dict=none)\/
  (T="dict"/\((∃kvs,H p=some (.dK kvs))\/∃kvs,H p=some (.dT kvs)))\/(T="set"/\∃S n,H p=some (.set S n))
 |_=>False
theorem P4 {pins:List (Addr×Obj)}{σ:St}{H:Hp}{s:Shared}{T:String}{x:V}{v:Value}(I:A2 X pins σ H s)(r:AE x v)(ty:NV X.K T x H) :
  s.TypeIs v T/\∀a,v = .ref a->∃ob,s.heap.get? a=some ob/\ob.dict=none:=by
 cases x with
 |
  str z=>
  obtain⟨t,rfl⟩:=r
  cases (show T="str" from ty)
  exact⟨typeIs_str s z t,fun _ e=>nomatch e⟩
 |
  int i=>
  obtain⟨t,rfl⟩:=r
  cases (show T="int" from ty)
  exact⟨typeIs_int s i t,fun _ e=>nomatch e⟩
 |
  ref p=>
  cases r
  rcases ty with⟨rfl,xs,hq⟩|⟨rfl,o,hk,hc,hd⟩|⟨rfl,hk⟩|⟨rfl,S,n,hk⟩
  .obtain⟨its,_,pl,_⟩:=I.list hq
   refine⟨pl.isList.typeIs,fun a e=>?_⟩
   cases e
   obtain⟨o,n,e,c,hd,_⟩:=pl
   exact⟨o,e,hd⟩
  .refine⟨⟨o,I.kIn p o hk,hc⟩,fun a e=>?_⟩
   cases e
   exact⟨o,I.kIn _ o hk,hd⟩
  .have z:∃o,s.heap.get? p=some o/\o.ExactDict:=by
    rcases hk with⟨kvs,hk⟩|⟨kvs,hk⟩
    .obtain⟨_,_,_,_,o,_,_,e,ex,_⟩:=I.hok p _ hk
     exact⟨o,e,ex⟩
    .obtain⟨_,_,_,_,o,_,_,e,ex,_⟩:=I.hok p _ hk
     exact⟨o,e,ex⟩
   obtain⟨o,e,ex⟩:=z
   refine⟨⟨o,e,ex.1⟩,fun a e2=>?_⟩
   cases e2
   exact⟨o,e,ex.2.1⟩
  .obtain⟨o,_,_,_,e,ex,_⟩:=I.hok p _ hk
   refine⟨⟨o,e,ex.1⟩,fun a e2=>?_⟩
   cases e2
   exact⟨o,e,ex.2.1⟩
 |_=>exact False.elim ty
def Zx (K:Faa)(T:String)(r:V->List V->Hp->VK->Prop)(to:TE):TE:=fun σ H Q=>to σ H fun x H1=>NV K T x H1/\r x [] H1 Q
def aX (K:Faa)(T:String)(r:V->List V->Hp->VK->Prop)(to:TE)(t:TA):TE:=fun σ H Q=>to σ H fun x H1=>NV K T x H1/\t σ H1 fun xs H2=>r x xs H2 Q
variable {o e:Expr}{es:List Expr}{to:TE}{t:TA}{name:Str}{apos cpos:Pos}{T id:String}{r:V->List V->Hp->VK->Prop}
theorem Xs (pa:PlainAttrs T)(slot:Slot T name id)(hty:typeOf (.builtin id)=pure (.type "method_descriptor"))(hm:P8 X id r)(ho:PE X o to)
  (hbase:attributeBase o name X.env (eval o X.env)=eval o X.env:=by rfl) (hline:(apos.endLine==cpos.line)=true:=by rfl):PE X (.Call (.Attribute o name apos) [] [] cpos) (Zx X.K T r to):=by
 intro pins s σ H Q I h
 refine wpAny_Call_method0_late hbase hline (Az (ho pins s σ H _ I h) fun v s1 zz=>?_)
 obtain⟨x,H1,I1,r1,ty,q1⟩:=zz
 obtain⟨h1,h2⟩:=P4 I1 r1 ty
 exact⟨T,id,pa,slot,hty,h1,h2,Calls.callWith_builtin rfl (PySem.evalArgs_none (hm pins s1 σ H1 x [] v [] Q I1 r1 .nil q1))⟩
theorem Cw (pa:PlainAttrs T)(slot:Slot T name id)(hty:typeOf (.builtin id)=pure (.type "method_descriptor"))(hm:P8 X id r)(ho:PE X o to)(ha:PA X (e::es) t)
  (hbase:attributeBase o name X.env (eval o X.env)=eval o X.env:=by rfl)
  (hfew:((backTo cpos (starEach (e::es) X.env)).all (fun x=>!x.1)&&(backToKw cpos (keywordEach [] X.env)).all (fun x=>x.1.isSome)
   && decide ((e::es).length+([]:List Keyword).length+(if([]:List Keyword).isEmpty then 0 else 1)<30))=true:=by rfl)
  (hline:(apos.endLine==cpos.line)=true:=by rfl) (hs:starEach (e::es) X.env=(false,eval e X.env)::starEach es X.env:=by rfl) (hplain:(backTo cpos (starEach es X.env)).any (·.1)=false:=by rfl) :
  PE X (.Call (.Attribute o name apos) (e::es) [] cpos) (aX X.K T r to t):=by
 intro pins s σ H Q I h
 refine wpAny_Call_method_late hbase hfew hline rfl (Az (ho pins s σ H _ I h) fun v s1 zz=>?_)
 obtain⟨x,H1,I1,r1,ty,q1⟩:=zz
 obtain⟨h1,h2⟩:=P4 I1 r1 ty
 refine⟨T,id,pa,slot,hty,h1,h2,?_⟩
 have hA:=ha cpos pins s1 σ H1 _ I1 q1
 rw[hs]at hA ⊢
 refine Calls.callWith_builtin (by show(false||(backTo cpos (starEach es X.env)).any (·.1))=false;rw[hplain]<;>rfl) (Calls.evalArgs_plain ?_)
 refine Az hA fun us s2 zz=>?_
 obtain⟨vs,H2,I2,r2,q2⟩:=zz
 exact hm pins s2 σ H2 x vs v us Q I2 r1 r2 q2
end
def JJ (X:Cx)(id:String)(r:V->List V->Hp->VK->Prop):Prop:=
 ∀(pins:List (Addr×Obj)) (s:Shared) (σ:St) (H:Hp) (x:V) (xs:List V) (v:Value) (us:List Value) (Q:VK),A2 X pins σ H s->AE x v->Aw xs us->r x xs H Q->
  wpAny (model X.prog X.w) X.A (call (.builtin id) (v::us)) (EP X pins σ Q) X.xe s
theorem Aw.one:∀{x:V} {us:List Value},Aw [x] us->∃u,us=[u]/\AE x u:=by
 intro x us h
 cases h with
 |
  cons r q=>
  cases q
  exact⟨_,rfl,r⟩
theorem Aw.two:∀{x y:V} {us:List Value},Aw [x,y] us->∃u v,us=[u,v]/\AE x u/\AE y v:=by
 intro x y us h
 cases h with
 |
  cons r q=>
  obtain⟨v,rfl,z⟩:=Aw.one q
  exact⟨_,_,rfl,r,z⟩
theorem Aw.zero:∀{us:List Value},Aw [] us->us=[]
 |_,.nil=>rfl
theorem Aw.reverse {xs:List V}{us:List Value}(h:Aw xs us):Aw xs.reverse us.reverse:=by
 induction h with
 |nil=>exact .nil
 |cons r t ih=>rw[List.reverse_cons,List.reverse_cons];exact Aw.append ih (.cons r .nil)
theorem Aw.rep {xs:List V}{us:List Value}(h:Aw xs us):∀k:Nat,Aw (List.replicate k xs).flatten (List.replicate k us).flatten
 |0=>.nil
 |
  k+1=>by
  rw[J0,J0,On,On]
  exact Aw.append h (Aw.rep h k)
theorem PU (its:List Value):∀(k:Nat) (acc:List Value),
  List.foldl (fun x1 x2=>x1++x2) acc.toArray (List.replicate k its.toArray)=(acc++(List.replicate k its).flatten).toArray
 |0,acc=>by simp
 |
  k+1,acc=>by
  have e:acc.toArray++its.toArray=(acc++its).toArray:=by simp
  have e2:(acc++its)++(List.replicate k its).flatten=acc++(List.replicate (k+1) its).flatten:=by
   rw[J0,On,Dp]
  rw[←e2,←PU its k (acc++its),←e,J0,List.foldl_cons]
section
variable {X:Cx}{pins:List (Addr×Obj)}{σ:St}{H:Hp}{s:Shared}{l b:Addr}{xs ys zs:List V}
theorem A2.lset {its its':List Value}{n:Nat}{f:Array Value->Array Value}{t':Nat}(I:A2 X pins σ H s)(hH:H l=some (.lst xs))
  (e:s.heap.get? l=some {cls:=.type "list",data:=.seq its.toArray n}) (hf:f its.toArray=its'.toArray) (hv:Aw ys its') (hz:ys.length<=sizeLine) :
  A2 X pins σ (upd H l (.lst ys)) {s with heap:=s.heap.update l (Obj.mapSeq f),toks:=t'}:=by
 have q:=PySem.IsL.update e f
 rw[hf]at q
 refine I.write (x:=l) (e:=l) (by rw[hH];exact trivial) (.inl rfl) (fun b' u hb hu=>(GC s.heap (Obj.mapSeq f) (Ne.symm hb)).trans hu) ⟨_,q⟩ ?_
 exact⟨hz,its',_,hv,q⟩
theorem A2.lnew {its:List Value}{t':Nat}(I:A2 X pins σ H s)(hv:Aw ys its)(hz:ys.length<=sizeLine) :
  A2 X pins σ (upd H s.heap.objs.size (.lst ys)) {s with heap:=s.heap.push {cls:=.type "list",data:=.seq its.toArray},toks:=t'}:=
 I.laid (fun _ _ q=>AD _ q) (Af _) ⟨hz,its,0,hv,C7 _ rfl⟩
theorem A2.fresh (I:A2 X pins σ H s):H s.heap.objs.size=none:=I.hok.fresh (Af _)
theorem A2.lstM (I:A2 X pins σ H s)(hH:H l=some (.lst xs)):xs.length<=sizeLine/\∃(its:List Value) (n:Nat),Aw xs its/\xs.length=its.length/\s.heap.get? l=some {cls:=.type "list",data:=.seq its.toArray n}:=by
 obtain⟨z,its,n,r,e⟩:=I.hok l _ hH
 exact⟨z,its,n,r,r.length,e⟩
theorem P7 {n:Nat}(h:n<=sizeLine):Builtin.List.listTooLong n=false:=by
 unfold Builtin.List.listTooLong
 exact Bk (by lia)
end
section
variable {X:Cx}
def Si:V->List V->Hp->VK->Prop:=fun x vs H Q=>∃l xs y,x = .ref l/\vs=[y]/\H l=some (.lst xs)/\xs.length<sizeLine/\Q .non (upd H l (.lst (xs++[y])))
theorem D9:JJ X "list.append" Si:=by
 intro pins s σ H x vs v us Q I rx rv h
 obtain⟨l,xs,y,rfl,rfl,hH,hz,q⟩:=h
 cases rx
 obtain⟨u,rfl,ru⟩:=rv.one
 obtain⟨z,its,n,r,hl,e⟩:=I.lstM hH
 refine Jf F.slot_list_append ⟨_,e,rfl⟩ F.entry_list_append (F.args_list_append_2 _ _) (PySem.list_append l its.toArray n u (by rw[Bc];lia)) ⟨e,?_⟩
 refine⟨.non,_,I.lset (its':=its++[u]) hH e (by simp) (r.append (.cons ru .nil)) ?_,rfl,q⟩
 rw[AB,B4]
 lia
def U2:V->List V->Hp->VK->Prop:=fun x vs H Q=>∃l b xs zs,x = .ref l/\vs=[.ref b]/\H l=some (.lst xs)/\H b=some (.lst zs)/\xs.length+zs.length<=sizeLine/\Q .non (upd H l (.lst (xs++zs)))
theorem Lz:JJ X "list.extend" U2:=by
 intro pins s σ H x vs v us Q I rx rv h
 obtain⟨l,b,xs,zs,rfl,rfl,hH,hB,hz,q⟩:=h
 cases rx
 obtain⟨u,rfl,ru⟩:=rv.one
 cases ru
 obtain⟨z,its,n,r,hl,e⟩:=I.lstM hH
 obtain⟨z2,its2,n2,r2,hl2,e2⟩:=I.lstM hB
 have hsz:its.toArray.size+its2.toArray.size<=sizeLine:=by rw[Bc,Bc];lia
 have hlong:¬(!its.toArray.isEmpty&&Builtin.List.listTooLong (its.toArray.size+its2.toArray.size))=true:=by
  rw[P7 hsz,Oo]
  exact Cm
 refine Jf F.slot_list_extend ⟨_,e,rfl⟩ F.entry_list_extend (F.args_list_extend_2 _ _)
  (AutoSeq1.list_extend_list_list_0 l its.toArray n b its2.toArray n2 hlong (by rw[Bc];lia) (by lia)) ⟨e,e2,?_⟩
 refine⟨.non,_,I.lset (its':=its++its2) hH e (by simp) (r.append r2) ?_,rfl,q⟩
 rw[AB]
 lia
def Wy:V->List V->Hp->VK->Prop:=fun x vs H Q=>∃l xs,x = .ref l/\vs=[]/\H l=some (.lst xs)/\Q .non (upd H l (.lst xs.reverse))
theorem VR:JJ X "list.reverse" Wy:=by
 intro pins s σ H x vs v us Q I rx rv h
 obtain⟨l,xs,rfl,rfl,hH,q⟩:=h
 cases rx
 have hus:=rv.zero
 subst hus
 obtain⟨z,its,n,r,hl,e⟩:=I.lstM hH
 refine Jf F.slot_list_reverse ⟨_,e,rfl⟩ F.entry_list_reverse (F.args_list_reverse_1 _) (AutoSeq1.list_reverse_list_0 l its.toArray n (by rw[Bc];lia)) ⟨e,?_⟩
 refine⟨.non,_,I.lset (its':=its.reverse) hH e (by simp) r.reverse ?_,rfl,q⟩
 rw[List.length_reverse]
 lia
def aH:R2:=fun x y H Q=>∃l b xs zs,x = .ref l/\y = .ref b/\H l=some (.lst xs)/\H b=some (.lst zs)/\xs.length+zs.length<=sizeLine/\∀p,H p=none->Q (.ref p) (upd H p (.lst (xs++zs)))
theorem GP:BC X (binaryOp .Add) aH:=by
 intro pins s σ H x y v u Q I rx ry h
 obtain⟨l,b,xs,zs,rfl,rfl,hH,hB,hz,q⟩:=h
 cases rx
 cases ry
 obtain⟨z,its,n,r,hl,e⟩:=I.lstM hH
 obtain⟨z2,its2,n2,r2,hl2,e2⟩:=I.lstM hB
 refine PySem.P.add_list e e2 ?_ (by rw[Bc,Bc];lia)
 have ea:its.toArray++its2.toArray=(its++its2).toArray:=by simp
 rw[ea]
 exact⟨.ref _,_,I.lnew (t':=s.toks) (r.append r2) (by rw[AB];lia),rfl,q _ I.fresh⟩
def SD:R2:=fun x y H Q=>∃l k xs,x = .ref l/\y = .int k/\H l=some (.lst xs)/\-(2 ^ 63)<=k/\k<2 ^ 63/\xs.length*k.toNat<=sizeLine/\
 ∀p,H p=none->Q (.ref p) (upd H p (.lst (List.replicate k.toNat xs).flatten))
theorem VZ {α:Type}(xs:List α)(k:Nat):(List.replicate k xs).flatten.length=k*xs.length:=by
 induction k with
 |zero=>simp
 |succ k ih=>rw[J0,On,AB,ih,J3,MK]
theorem Mn:BC X (binaryOp .Mult) SD:=by
 intro pins s σ H x y v u Q I rx ry h
 obtain⟨l,k,xs,rfl,rfl,hH,h1,h2,hz,q⟩:=h
 cases rx
 obtain⟨t,rfl⟩:=ry
 obtain⟨z,its,n,r,hl,e⟩:=I.lstM hH
 have hlen:its.toArray.size*k.toNat<=sizeLine:=by rw[Bc,←hl];exact hz
 have hcap:¬its.toArray.size*k.toNat>(2 ^ 63-1)/8:=by
  have:(sizeLine:Nat)<=(2 ^ 63-1)/8:=by decide
  lia
 have hfit:¬(!Builtin.List.listFitsIndex k)=true:=by
  rw[fitsIndex_both h1 h2]
  exact Cm
 have hlong:¬Builtin.List.listTooLong (its.toArray.size*k.toNat)=true:=by
  rw[P7 hlen]
  exact Cm
 have hnew:List.foldl (fun x1 x2=>x1++x2) #[] (List.replicate (if its.toArray.isEmpty=true then 0 else k.toNat) its.toArray)=(List.replicate k.toNat its).flatten.toArray:=by
  have f0:∀m:Nat,List.foldl (fun x1 x2=>x1++x2) #[] (List.replicate m its.toArray)=(List.replicate m its).flatten.toArray:=fun m=>by
   have:=PU its m []
   rw[GD]at this
   exact this
  rw[f0]
  cases its with
  |nil=>simp
  |cons a r'=>rw[Al (by simp)]
 refine wpAny_binaryOp_repeat_ref (T:="list") (U:="int") (by decide) ⟨_,e,rfl⟩ (fun s'=>typeIs_int s' k t) noFill_list_mul F.fills_int_mul F.slot_int_rmul repeat_list F.slot_int_index.lookup
  (Jf F.slot_int_rmul (typeIs_int s k t) F.entry_int_rmul (F.args_int_rmul_2 _ _) (int___rmul___int_list k t l its.toArray n)
   ⟨e,rfl,⟨_,e,rfl⟩,Jf F.slot_list_mul ⟨_,e,rfl⟩ F.entry_list_mul (F.args_list_mul_2 _ _) (AutoListH.list___mul___list_int_3 l its.toArray n k t hfit hcap hlong) ⟨e,?_⟩⟩)
 rw[hnew]
 exact⟨.ref _,_,I.lnew (t':=s.toks) (r.rep k.toNat) (by rw[VZ,Nat.mul_comm];exact hz),rfl,q _ I.fresh⟩
end
section
variable {prog:Program}{w:World}{A:Around}{E:Value->Shared->Prop}{s:Shared}
set_option maxRecDepth 100000 in
end
section
variable {X:Cx}
end
section
variable {κ:Type}[DecidableEq κ]
noncomputable def Ca (kvs:List (κ×V))(k:κ):Option V:=(kvs.find? fun kv=>decide (kv.1=k)).map (·.2)
noncomputable def CU (kvs:List (κ×V))(k:κ)(v:V):List (κ×V):=
 if(kvs.any fun kv=>decide (kv.1=k))=true then kvs.map (fun kv=>if kv.1=k then(kv.1,v) else kv) else kvs++[(k,v)]
theorem Ed {p:κ×V}{r:List (κ×V)}{k:κ}(e:p.1=k):Ca (p::r) k=some p.2:=by simp[Ca,Kz,e]
theorem Eh {p:κ×V}{r:List (κ×V)}{k:κ}(e:¬p.1=k):Ca (p::r) k=Ca r k:=by simp[Ca,Kz,e]
theorem Ms (k:κ):∀kvs:List (κ×V),(kvs.any fun kv=>decide (kv.1=k))=(Ca kvs k).isSome
 |[]=>rfl
 |
  p::r=>by
  rw[MJ]
  by_cases e:p.1=k
  .simp only[Ed e,Bw e,Bool.true_or,Option.isSome_some]
  .rw[Eh e,Bk e,Bool.false_or];exact Ms k r
theorem OQ (k j:κ)(y:V):∀kvs:List (κ×V),Ca (kvs.map fun kv=>if kv.1=k then(kv.1,y) else kv) j=(Ca kvs j).map fun x=>if j=k then y else x
 |[]=>rfl
 |
  p::r=>by
  have ih:=OQ k j y r
  rw[Bx]
  by_cases h:p.1=k
  .rw[Ap h]
   by_cases e:p.1=j
   .rw[Ed (p:=(p.1,y)) e,Ed e,J4,Ap (e.symm.trans h)]
   .rw[Eh (p:=(p.1,y)) e,Eh e,ih]
  .rw[Al h]
   by_cases e:p.1=j
   .rw[Ed (p:=p) e,Ed e,J4,Al (fun z=>h (e.trans z))]
   .rw[Eh (p:=p) e,Eh e,ih]
theorem QY (k j:κ)(y:V):∀kvs:List (κ×V),Ca kvs k=none->Ca (kvs++[(k,y)]) j=if j=k then some y else Ca kvs j
 |
  [],_=>by
  by_cases e:k=j
  .rw[Ap e.symm];exact Ed (p:=(k,y)) e
  .rw[Al (fun z=>e z.symm)];exact Eh (p:=(k,y)) e
 |
  p::r,hn=>by
  rw[List.cons_append]
  have hk:¬p.1=k:=fun z=>by rw[Ed z]at hn;cases hn
  rw[Eh hk]at hn
  have ih:=QY k j y r hn
  by_cases e:p.1=j
  .rw[Ed e,Ed e,Al (fun z=>hk (e.trans z))]
  .rw[Eh e,Eh e,ih]
theorem MF (kvs:List (κ×V))(k j:κ)(y:V):Ca (CU kvs k y) j=if j=k then some y else Ca kvs j:=by
 unfold CU
 by_cases a:(kvs.any fun kv=>decide (kv.1=k))=true
 .rw[Ap a,OQ]
  rw[Ms]at a
  by_cases e:j=k
  .obtain⟨x,hx⟩:=Option.isSome_iff_exists.mp a
   rw[Ap e,e,hx,J4,Ap rfl]
  .rw[Al e]
   cases Ca kvs j with
   |none=>rfl
   |some x=>rw[J4,Al e]
 .rw[Al a]
  refine QY k j y kvs ?_
  rw[Ms]at a
  cases q:Ca kvs k with
  |none=>rfl
  |some x=>rw[q]at a;exact(a rfl).elim
theorem M9 (kvs:List (κ×V))(k:κ)(v:V):(CU kvs k v).length<=kvs.length+1:=by
 unfold CU
 split
 .rw[Au];lia
 .rw[AB,BH,G4];lia
theorem DJ.isSome_eq {o:Option V}{u:Option Value}(r:DJ o u):o.isSome=u.isSome:=by
 cases o with
 |
  none=>cases u with
  |none=>rfl
  |some _=>exact(show False from r).elim
 |
  some _=>cases u with
  |none=>exact(show False from r).elim
  |some _=>rfl
theorem DJ.getD {o:Option V}{u:Option Value}{d:V}{d':Value}(r:DJ o u)(rd:AE d d'):AE (o.getD d) (u.getD d'):=by
 cases o with
 |
  none=>cases u with
  |none=>exact rd
  |some _=>exact(show False from r).elim
 |
  some _=>cases u with
  |none=>exact(show False from r).elim
  |some _=>exact r
theorem KV.val {kvs:List (κ×V)}{vs:List (κ×Value)}(r:KV kvs vs)(k:κ):DJ (Ca kvs k) (valueAt vs k):=by
 unfold KV at r
 induction r with
 |nil=>exact True.intro
 |
  @cons p q ps qs h t ih=>
  obtain⟨h1,h2⟩:=h
  by_cases e:p.1=k
  .have e':q.1=k:=h1.symm.trans e
   have b:valueAt (q::qs) k=some q.2:=by simp[valueAt,Kz,e']
   rw[Ed e,b];exact h2
  .have e':¬q.1=k:=fun z=>e (h1.trans z)
   have b:valueAt (q::qs) k=valueAt qs k:=by simp[valueAt,Kz,e']
   rw[Eh e,b];exact ih
theorem KV.any {kvs:List (κ×V)}{vs:List (κ×Value)}(r:KV kvs vs)(k:κ):(kvs.any fun kv=>decide (kv.1=k))=vs.any fun kv=>decide (kv.1=k):=by
 unfold KV at r
 induction r with
 |nil=>rfl
 |cons h t ih=>rw[MJ,MJ,ih,h.1]
theorem KV.repl {kvs:List (κ×V)}{vs:List (κ×Value)}(r:KV kvs vs)(k:κ){y:V}{u:Value}(ry:AE y u) :
  KV (kvs.map fun kv=>if kv.1=k then(kv.1,y) else kv) (vs.map fun kv=>if kv.1=k then(kv.1,u) else kv):=by
 unfold KV at r ⊢
 induction r with
 |nil=>exact .nil
 |
  @cons p q ps qs h t ih=>
  rw[Bx,Bx]
  refine .cons ?_ ih
  obtain⟨h1,h2⟩:=h
  by_cases e:p.1=k
  .rw[Ap e,Ap (h1.symm.trans e)];exact⟨h1,ry⟩
  .rw[Al e,Al (fun z=>e (h1.trans z))];exact⟨h1,h2⟩
theorem KV.put {kvs:List (κ×V)}{vs:List (κ×Value)}(r:KV kvs vs)(k:κ){y:V}{u:Value}(ry:AE y u):KV (CU kvs k y) (stored vs k u):=by
 unfold CU stored
 rw[r.any k]
 by_cases e:(vs.any fun kv=>decide (kv.1=k))=true
 .rw[Ap e,Ap e];exact r.repl k ry
 .rw[Al e,Al e];exact Paired.snoc r ⟨rfl,ry⟩
theorem KV.length {kvs:List (κ×V)}{vs:List (κ×Value)}(r:KV kvs vs):kvs.length=vs.length:=Paired.length r
end
theorem Jh {P:Program}{w:World}{k:AC}{u:Value}(r:AE (kV k) u):(BQ P w).is k u=true:=by
 cases k with
 |inl i=>obtain⟨t,e⟩:=(show ∃t,u=Value.int i t from r);subst e;exact Tg P w i t
 |inr x=>obtain⟨t,e⟩:=(show ∃t,u=Value.str x t from r);subst e;exact W9 P w x t
theorem Rf {P:Program}{w:World}:∀{ks:List AC} {us:List Value},Aw (ks.map kV) us->ItemsAre (BQ P w) ks us
 |[],_,r=>by rw[IY]at r;cases r;exact .nil
 |
  k::ks,_,r=>by
  rw[Bx]at r
  cases r with
  |cons h t=>exact .cons (Jh h) (Rf t)
abbrev KT (H:Hp):List (List AC×V)->List (List AC×Addr×Value)->Prop:=Paired fun p q=>p.1=q.1/\H q.2.1=some (.tup (p.1.map kV))/\AE p.2 q.2.2
theorem KT.val {H:Hp}{kvs:List (List AC×V)}{xs:List (List AC×Addr×Value)}(r:KT H kvs xs)(k:List AC):DJ (Ca kvs k) ((atKey xs k).map (·.2)):=by
 induction r with
 |nil=>exact True.intro
 |
  @cons p q ps qs h t ih=>
  obtain⟨h1,_,h2⟩:=h
  by_cases e:p.1=k
  .have e':q.1=k:=h1.symm.trans e
   have b:atKey (q::qs) k=some q.2:=by simp[atKey,Kz,e']
   rw[Ed e,b];exact h2
  .have e':¬q.1=k:=fun z=>e (h1.trans z)
   have b:atKey (q::qs) k=atKey qs k:=by simp[atKey,Kz,e']
   rw[Eh e,b];exact ih
theorem KT.repl {H:Hp}{kvs:List (List AC×V)}{xs:List (List AC×Addr×Value)}(r:KT H kvs xs)(k:List AC){y:V}{u:Value}(ry:AE y u) :
  KT H (kvs.map fun kv=>if kv.1=k then(kv.1,y) else kv) (xs.map (putAt k u)):=by
 induction r with
 |nil=>exact .nil
 |
  @cons p q ps qs h t ih=>
  rw[Bx,Bx]
  refine .cons ?_ ih
  obtain⟨h1,h2,h3⟩:=h
  unfold putAt
  by_cases e:p.1=k
  .rw[Ap e,Ap (h1.symm.trans e)];exact⟨h1,h2,ry⟩
  .rw[Al e,Al (fun z=>e (h1.trans z))];exact⟨h1,h2,h3⟩
theorem KT.put {H:Hp}{kvs:List (List AC×V)}{xs:List (List AC×Addr×Value)}(r:KT H kvs xs)(k:List AC){b:Addr}{y:V}{u:Value}(hb:H b=some (.tup (k.map kV)))(ry:AE y u) :
  KT H (CU kvs k y) (storedH xs k b u):=by
 have e:(kvs.any fun kv=>decide (kv.1=k))=(atKey xs k).isSome:=by
  rw[Ms,(r.val k).isSome_eq,Option.isSome_map]
 unfold CU storedH
 rw[e]
 by_cases q:(atKey xs k).isSome=true
 .rw[Ap q,Ap q];exact r.repl k ry
 .rw[Al q,Al q];exact Paired.snoc r ⟨rfl,hb,ry⟩
theorem KT.keeps {H H':Hp}{kvs:List (List AC×V)}{xs:List (List AC×Addr×Value)}(r:KT H kvs xs)(ht:∀b ys,H b=some (.tup ys)->H' b=some (.tup ys)):KT H' kvs xs:=
 Paired.mapP r fun _ _ z=>⟨z.1,ht _ _ z.2.1,z.2.2⟩
section
variable {P:Program}{w:World}{H:Hp}{h:Heap}{a:Addr}
theorem P0 {u:HO}(ok:BD P w H h)(e:Rd H a u):BG P w H h a u:=e.ok ok
theorem JY {kvs:List (AC×V)}(ok:BD P w H h)(e:Rd H a (.dK kvs)):kvs.length<=sizeLine/\(a==sysModules)=false/\∃vs,KV kvs vs/\h.DictOf (BQ P w) a vs:=
 show BG P w H h a (.dK kvs) from P0 ok e
theorem PN {kvs:List (AC×V)}(ok:BD P w H h)(e:H a=some (.dK kvs)):kvs.length<=sizeLine/\(a==sysModules)=false/\∃vs,KV kvs vs/\h.DictOf (BQ P w) a vs:=JY ok (.inl e)
theorem Kr {ks:List AC}(ok:BD P w H h)(e:H a=some (.tup (ks.map kV))):(tupleKind (BQ P w)).is h ks a:=by
 obtain⟨_,its,r,o,h1,h2,⟨n,h3⟩,_⟩:=(show BG P w H h a (.tup (ks.map kV)) from ok a _ e)
 exact⟨o,its.toArray,n,h1,h2,h3,by simpa using Rf r⟩
theorem K5 {kvs:List (List AC×V)}(ok:BD P w H h)(e:Rd H a (.dT kvs)):kvs.length<=sizeLine/\(a==sysModules)=false/\
  ∃xs,KT H kvs xs/\h.DictOfH (tupleKind (BQ P w)) a xs:=by
 obtain⟨z,y,xs,r,o,es,ep,h1,h2,h3,h4,h5⟩:=(show BG P w H h a (.dT kvs) from P0 ok e)
 refine⟨z,y,xs,r,o,es,ep,h1,h2,h3,h4,fun x hx=>?_,h5⟩
 have all:∀{l:List (List AC×V)} {m:List (List AC×Addr×Value)},KT H l m->∀x∈m,(tupleKind (BQ P w)).is h x.1 x.2.1:=by
  intro l m q
  induction q with
  |nil=>intro x hx;exact nomatch hx
  |
   @cons p q ps qs hq t ih=>
   intro x hx
   rcases AZ.mp hx with e|hx
   .subst e
    exact Kr ok (by rw[←hq.1];exact hq.2.1)
   .exact ih x hx
 exact all r x hx
theorem Zj {kvs:List (List AC×V)}(ok:BD P w H h)(e:H a=some (.dT kvs)):kvs.length<=sizeLine/\(a==sysModules)=false/\
 ∃xs,KT H kvs xs/\h.DictOfH (tupleKind (BQ P w)) a xs:=K5 ok (.inl e)
end
def FI (H:Hp)(a:Addr)(y:V)(r:Option V):Prop:=
 (∃kvs k,Rd H a (.dK kvs)/\y=kV k/\r=Ca kvs k)\/∃kvs k b,Rd H a (.dT kvs)/\y = .ref b/\H b=some (.tup (k.map kV))/\r=Ca kvs k
def Kb (H:Hp)(a:Addr)(y v:V)(H':Hp):Prop:=
 (∃kvs k,H a=some (.dK kvs)/\y=kV k/\kvs.length<sizeLine/\H'=upd H a (.dK (CU kvs k v)))\/
 ∃kvs k b,H a=some (.dT kvs)/\y = .ref b/\H b=some (.tup (k.map kV))/\kvs.length<sizeLine/\H'=upd H a (.dT (CU kvs k v))
theorem Kb.k {H:Hp}{a:Addr}{kvs:List (AC×V)}{k:AC}{v:V}(e:H a=some (.dK kvs))(hl:kvs.length<sizeLine):Kb H a (kV k) v (upd H a (.dK (CU kvs k v))):=.inl ⟨kvs,k,e,rfl,hl,rfl⟩
section
variable {X:Cx}{pins:List (Addr×Obj)}{σ:St}{H:Hp}{s:Shared}{a:Addr}{y v:V}{u r:Value}{o:Option V}{A:Around}{E:Value->Shared->Prop}
theorem A2.big (I:A2 X pins σ H s):sysModules<s.heap.objs.size:=by
 have h:mainGlobals<s.heap.objs.size:=(I.mod.glob.keeps I.bk).lt
 exact ML (by decide) h
theorem VS {Q:Value->Shared->Prop}(hu:A.units+1<cLine)(I:A2 X pins σ H s)(g:FI H a y (some v))(ry:AE y u)(h:∀w' s',A2 X pins σ H s'->AE v w'->Q w' s') :
  wpAny (model X.prog X.w) A (getItem (.ref a) u) Q E s:=by
 rcases g with⟨kvs,k,e,ey,l⟩|⟨kvs,k,b,e,ey,eb,l⟩
 .subst ey
  obtain⟨z,hd,vs,rel,dd⟩:=JY I.hok e
  obtain⟨w',hw,rw'⟩:=DJ.some_of (v:=v) (o:=valueAt vs k) (by rw[l];exact rel.val k)
  exact wpAny_getItem_of (Jh ry) dd.mapOf hw (h w' _ (I.tok _) rw')
 .subst ey
  cases (show u=Value.ref b from ry)
  obtain⟨z,hd,xs,rel,dd⟩:=K5 I.hok e
  obtain⟨w',hw,rw'⟩:=DJ.some_of (v:=v) (o:=(atKey xs k).map (·.2)) (by rw[l];exact rel.val k)
  obtain⟨p,hp,hp2⟩:=Option.map_eq_some_iff.mp hw
  refine wpAny_getItem_heap (Sb hu) (Kr I.hok eb) dd hp ?_
  rw[hp2]
  exact h w' _ (I.tok _) rw'
theorem NF {h':Heap}{t':Nat}{ob:HO}(I:A2 X pins σ H s)(mu:JE (H a))(hs:Heap.SameBut a s.heap h')(he:∃q,h'.get? a=some q)(new:BG X.prog X.w (upd H a ob) h' a ob) :
  A2 X pins σ (upd H a ob) {s with heap:=h',toks:=t'}:=
 I.write (x:=a) (e:=a) mu (.inl rfl) (fun b q hb z=>(hs.2 b hb).trans z) he new
theorem OI {P:Program}{w:World}{H':Hp}{h':Heap}{kvs:List (AC×V)}{vs:List (AC×Value)}(z:kvs.length<=sizeLine)(hd:(a==sysModules)=false)(rel:KV kvs vs)(dd:h'.DictOf (BQ P w) a vs) :
 BG P w H' h' a (.dK kvs):=⟨z,hd,vs,rel,dd⟩
theorem Yv {H':Hp}{Q:Unit->Shared->Prop}(hu:A.units+1<cLine)(I:A2 X pins σ H s)(g:Kb H a y v H')(ry:AE y u)(rv:AE v r)(h:∀s',A2 X pins σ H' s'->Q () s') :
  wpAny (model X.prog X.w) A (setItem (.ref a) u r) Q E s:=by
 rcases g with⟨kvs,k,e,ey,l,eH⟩|⟨kvs,k,b,e,ey,eb,l,eH⟩
 .subst ey eH
  obtain⟨z,hd,vs,rel,dd⟩:=PN I.hok e
  have hz:vs.length<=sizeLine:=by rw[←rel.length];exact z
  have hl:(CU kvs k v).length<=sizeLine:=by have:=M9 kvs k v;lia
  refine wpAny_setItem_pairs (hsz:=hz) (Jh ry) dd fun h' dd' hs=>h _ ?_
  have he:∃q,h'.get? a=some q:=by obtain⟨q,_,_,hq,_⟩:=dd';exact⟨q,hq⟩
  exact NF I (by rw[e];exact True.intro) hs he (OI hl hd (rel.put k rv) dd')
 .subst ey eH
  cases (show u=Value.ref b from ry)
  obtain⟨z,hd,xs,rel,dd⟩:=Zj I.hok e
  have hz:xs.length<=sizeLine:=by rw[←Paired.length rel];exact z
  have hl:(CU kvs k v).length<=sizeLine:=by have:=M9 kvs k v;lia
  refine wpAny_setItem_heap (hsz:=hz) (Sb hu) (Kr I.hok eb) dd fun h' dd' hs=>h _ ?_
  obtain⟨q,es,ep,hq,h2,h3,h4,_,h5⟩:=dd'
  refine NF I (by rw[e];exact True.intro) hs ⟨q,hq⟩ ⟨hl,hd,_,(rel.put k eb rv).keeps fun c ys ec=>?_,q,es,ep,hq,h2,h3,h4,h5⟩
  rw[Ai (E9 ec e (fun z=>nomatch z))]
  exact ec
end
section
variable {X:Cx}{pins:List (Addr×Obj)}{σ:St}{H:Hp}{s:Shared}{a:Addr}{kvs:List (AC×V)}{k:AC}{u:Value}{A:Around}{E:Value->Shared->Prop}
end
def RE (i:Expr):Prop := ∀ov iv,subscripted i false ov iv=operate [ov,iv] (getItem ov iv)
theorem SM {prog:Program}{w:World}{A:Around}{E:Value->Shared->Prop}{s:Shared}{env:Env}{value slice:Expr}{pos:Pos}{T id:String}{Q:Value->Shared->Prop}
  (hl:typeLookup (.type T) "__getitem__"=pure (some (.builtin id))) (hs:RE slice)
  (h:wpAny (model prog w) A (eval value env) (fun o s₁=>wpAny (model prog w) A (eval slice env) (fun i s₂=>s₂.TypeIs o T/\wpAny (model prog w) A (getItem o i) Q E s₂) E s₁) E s) :
  wpAny (model prog w) A (eval (.Subscript value slice pos) env) Q E s:=by
 refine Subscript_ (CN h (fun o s₁ h₁=>CN h₁ (fun i s₂ h₂=>?_) fun _ _ x=>x) fun _ _ x=>x)
 obtain⟨hT,h₂⟩:=h₂
 unfold subscriptTail
 refine A9 ?_
 rw[getitemInPython_of_ne hT.not_modules]
 refine A9 (wpAny_specialOf hT hl ?_)
 have fin:wpAny (model prog w) A (subscripted slice false o i) (fun r s₃=>wpAny (model prog w) A (letTemporaryGo value o r>>=fun _=>pure r) Q E s₃) E s₂:=by
  rw[hs o i]
  exact wpAny_operating (CN h₂ (fun r s₃ h₃=>A9 (wpAny_letTemporaryGo (AA h₃))) fun _ _ x=>x)
 first
  |exact AA (A9 fin)
  |exact A9 (AA (A9 fin))
  |exact A9 fin
theorem XZ {X:Cx}{pins:List (Addr×Obj)}{σ:St}{H:Hp}{s:Shared}{a:Addr}{y:V}{o:Option V}(I:A2 X pins σ H s)(g:FI H a y o):s.TypeIs (.ref a) "dict":=by
 rcases g with⟨kvs,k,e,_,_⟩|⟨kvs,k,b,e,_,_,_⟩
 .obtain⟨_,_,vs,_,dd⟩:=JY I.hok e
  exact dd.typeIs
 .obtain⟨_,_,xs,_,dd⟩:=K5 I.hok e
  exact dd.typeIs
def Tf (td ty:TE):TE:=fun σ H Q=>td σ H fun x H1=>ty σ H1 fun y H2=>∃a v,x = .ref a/\FI H2 a y (some v)/\Q v H2
def YF (td ty tv:TE):TS:=fun D σ H=>tv σ H fun v H1=>td σ H1 fun x H2=>ty σ H2 fun y H3=>∃a H4,x = .ref a/\Kb H3 a y v H4/\D.nx σ H4
section
variable {X:Cx}{o i e value:Expr}{pos pos' tpos:Pos}{td ty tv:TE}
theorem Qp (hu:X.A.units+1<cLine)(ho:PE X o td)(hi:PE X i ty)(hs:RE i):PE X (.Subscript o i pos) (Tf td ty):=by
 intro pins s σ H Q I h
 refine SM PySem.F.slot_dict_getitem.lookup hs (Az (ho pins s σ H _ I h) fun u s1 zz=>?_)
 obtain⟨x,H1,I1,rx,q1⟩:=zz
 refine Az (hi pins s1 σ H1 _ I1 q1) fun iv s2 zz=>?_
 obtain⟨y,H2,I2,ry,a,v,ex,g,q2⟩:=zz
 subst ex
 obtain rfl:u=Value.ref a:=rx
 exact⟨XZ I2 g,VS hu I2 g ry fun w' s3 I3 rw'=>⟨v,H2,I3,rw',q2⟩⟩
theorem WI (hu:X.A.units+1<cLine)(ho:PE X o td)(hi:PE X i ty)(hv:PE X value tv)(hs:swapsWith value (some (.Subscript o i pos')) pos.line X.env=pure false) :
  PS X (.Assign [.Subscript o i pos'] value pos) (YF td ty tv):=by
 intro pins s σ H D I h
 refine wpAny_Assign_Subscript (Az (hv pins s σ H _ I h) fun r s1 zz=>?_) hs
 obtain⟨v,H1,I1,rv,q1⟩:=zz
 refine Az (ho pins s1 σ H1 _ I1 q1) fun u s2 zz=>?_
 obtain⟨x,H2,I2,rx,q2⟩:=zz
 refine Az (hi pins s2 σ H2 _ I2 q2) fun iv s3 zz=>?_
 obtain⟨y,H3,I3,ry,a,H4,ex,g,q3⟩:=zz
 subst ex
 obtain rfl:u=Value.ref a:=rx
 exact Yv hu I3 g ry rv fun s4 I4=>⟨σ,H4,I4,q3⟩
end
theorem Y8 {P:Program}{w:World}{H:Hp}(h:Heap)(hb:sysModules<h.objs.size):BG P w H (h.push {cls:=.type "dict",data:=.dict #[]}) h.objs.size (.dK []):=
 ⟨Bj _,Hy.mpr (Ne.symm (AV hb)),[],.nil,Heap.DictOf.new h⟩
section
variable {X:Cx}{pos:Pos}
end
structure M1 (X:Cx)(o:Expr)(m:Str)(apos:Pos)(e:Expr)(cpos:Pos):Prop where
 base:attributeBase o m X.env (eval o X.env)=eval o X.env
 few:((backTo cpos (starEach [e] X.env)).all (fun x=>!x.1)&&(backToKw cpos (keywordEach [] X.env)).all (fun x=>x.1.isSome)
  && decide (([e]:List Expr).length+([]:List Keyword).length+(if([]:List Keyword).isEmpty then 0 else 1)<30))=true
 line:(apos.endLine==cpos.line)=true
 trees:backTo cpos (starEach [e] X.env)=[(false,eval e X.env)]
def Qz (H:Hp)(a:Addr):Prop:=(∃kvs,Rd H a (.dK kvs))\/∃kvs,Rd H a (.dT kvs)
theorem Te {X:Cx}{pins:List (Addr×Obj)}{σ:St}{H:Hp}{s:Shared}{a:Addr}(I:A2 X pins σ H s)(d:Qz H a) :
  s.TypeIs (.ref a) "dict"/\(∀b,Value.ref a = .ref b->∃ob,s.heap.get? b=some ob/\ob.dict=none)/\(a==sysModules)=false:=by
 rcases d with⟨kvs,e⟩|⟨kvs,e⟩
 .obtain⟨_,hd,vs,_,dd⟩:=JY I.hok e
  refine⟨dd.typeIs,fun b q=>?_,hd⟩
  cases q
  obtain⟨ob,_,_,h1,h2,_⟩:=dd
  exact⟨ob,h1,h2.2.1⟩
 .obtain⟨_,hd,xs,_,dd⟩:=K5 I.hok e
  refine⟨dd.typeIs,fun b q=>?_,hd⟩
  cases q
  obtain⟨ob,_,_,h1,h2,_⟩:=dd
  exact⟨ob,h1,h2.2.1⟩
section
variable {X:Cx}{pins:List (Addr×Obj)}{σ:St}{H:Hp}{s:Shared}{a:Addr}{y d:V}{u r:Value}{o:Option V}{A:Around}{E:Value->Shared->Prop}
theorem Zi {Q:Value->Shared->Prop}(hu:A.units+1<cLine)(I:A2 X pins σ H s)(g:FI H a y o)(ry:AE y u)(h:∀w' s',A2 X pins σ H s'->AE (o.getD .non) w'->Q w' s') :
  wpAny (model X.prog X.w) A (call (.builtin "dict.get") [.ref a,u]) Q E s:=by
 rcases g with⟨kvs,k,e,ey,l⟩|⟨kvs,k,b,e,ey,eb,l⟩
 .subst ey
  obtain⟨z,hd,vs,rel,dd⟩:=JY I.hok e
  refine call_meetsIn RM dd.typeIs PySem.F.entry_dict_get (PySem.F.args_dict_get_2 _ _) (meets_dict_get (BQ X.prog X.w) a (Jh ry) hd) ⟨_,dd.mapOf,h _ _ (I.tok _) ?_⟩
  rw[l]
  exact(rel.val k).getD rfl
 .subst ey
  cases (show u=Value.ref b from ry)
  obtain⟨z,hd,xs,rel,dd⟩:=K5 I.hok e
  refine call_meetsIn RM dd.typeIs PySem.F.entry_dict_get (PySem.F.args_dict_get_2 _ _) (meetsH_dict_get (tupleKind (BQ X.prog X.w)) a b hd) ⟨Sb hu,k,xs,Kr I.hok eb,dd,h _ _ (I.tok _) ?_⟩
  rw[l]
  exact(rel.val k).getD rfl
end
def aO (td ty:TE):TE:=fun σ H Q=>td σ H fun x H1=>∃a,x = .ref a/\Qz H1 a/\ty σ H1 fun y H2=>∃o,FI H2 a y o/\Q (o.getD .non) H2
section
variable {X:Cx}{o e f:Expr}{apos cpos:Pos}{td ty tx:TE}
theorem Q9 (hu:X.A.units+1<cLine)(ho:PE X o td)(he:PE X e ty)(m:M1 X o "get" apos e cpos):PE X (.Call (.Attribute o "get" apos) [e] [] cpos) (aO td ty):=by
 intro pins s σ H Q I h
 refine wpAny_Call_method m.base m.few m.line PySem.F.plainAttrs_dict RM PySem.F.type_dict_get (Az (ho pins s σ H _ I h) fun u s1 zz=>?_)
 obtain⟨x,H1,I1,rx,a,ex,d,q1⟩:=zz
 subst ex
 obtain rfl:u=Value.ref a:=rx
 obtain⟨t1,t2,_⟩:=Te I1 d
 refine⟨t1,t2,?_⟩
 rw[m.trees]
 refine Calls.callWith_builtin rfl (Calls.evalArgs_plain (Calls.spliced_cons (Az (he pins s1 σ H1 _ I1 q1) fun iv s2 zz=>?_)))
 obtain⟨y,H2,I2,ry,ov,g,q2⟩:=zz
 refine Calls.spliced_nil ?_
 exact Zi hu I2 g ry fun w' s3 I3 rw'=>⟨_,H2,I3,rw',q2⟩
end
section
variable {X:Cx}{pins:List (Addr×Obj)}{σ:St}{H:Hp}{s:Shared}{a:Addr}{kvs:List (AC×V)}{A:Around}{E:Value->Shared->Prop}
end
section
variable {X:Cx}{pins:List (Addr×Obj)}{σ:St}{H:Hp}{s:Shared}{a:Addr}{y:V}{u:Value}{A:Around}{E:Value->Shared->Prop}
end
end L2
namespace Att
open PySem PySem.W PySem.Calls PyProof.Rows
theorem Vl {P:Params}{h:Heap}:∀(ns:List Int) (vs:List Value),WellAll P h vs (ns.map WData.int)->IntsAre vs ns:=by
 intro ns
 induction ns with
 |
  nil=>
  intro vs w
  rw[IY]at w
  cases w
  exact .nil
 |
  cons n ns ih=>
  intro vs w
  rw[Bx]at w
  cases w with
  |
   cons a b=>
   cases a
   exact .cons _ _ (ih _ b)
theorem bq {l:OpenLaw}{n:Nat}(hn:l.most=some n){P:Params}{h:Heap}{args:List WData}{vals:List Value}
  (hpre:l.row.toRowW.claim.pre args=true) (hwl:WellAll P h vals args) :
  ∃a vs ns,vals=[Value.ref a]/\args=[WData.list (ns.map WData.int)]/\h.get? a=some {cls:=.type "list",data:=.seq vs.toArray}/\IntsAre vs ns/\ns.length<=n:=by
 have hsh:WShape.hasAll [] args [.list .int]=true:=(pre_splitW hpre).1
 have hc:l.pre.holds [] {args:=args}=true:=(pre_splitW hpre).2
 obtain⟨d,r,rfl,h1,h2⟩:=hasAllW_cons hsh
 obtain rfl:=hasAllW_nil h2
 obtain⟨xs,rfl,h3⟩:=hasW_list h1
 obtain⟨ns,rfl⟩:=items_int h3
 have hlen:ns.length<=n:=by
  unfold OpenLaw.pre at hc
  have h4:(WTm.not (.lt (.lit (.int (n:Int))) (.len (.arg 0)))).holds [] {args:=[.list (ns.map .int)]}=true:=by
   have h4:=(holds_andW hc).1
   rw[hn]at h4
   exact h4
  have h5:=condW_of h4 (w_not (w_lt w_lit (w_len_list (w_arg rfl))))
  rw[Au]at h5
  refine Nat.le_of_not_lt fun q=>?_
  have q':(n:Int)<((ns.length:Nat):Int):=by lia
  first
   |(rw[Bw q']at h5;exact absurd h5 (by decide))
   |(simp at h5;lia)
 cases hwl with
 |
  cons w1 w2=>
  cases w2
  cases w1 with
  |list ho hall=>exact⟨_,_,ns,rfl,rfl,ho,Vl ns _ hall,hlen⟩
theorem UD (l:OpenLaw)(args:List WData):l.row.toRowW.claim.post args (.bool true) args=true:=
 postW_of (r:=l.row.toRowW) (X:=(true==true))
  (show WShape.has [] (.bool true) .bool=true by first|rfl|decide|simp[WShape.has,WShape.arms,WShape.armsAll])
  (show(WTm.eq .res (.lit (.bool true))).value [] {args:=args,res:=some (.bool true),after:=args}=some (.bool (true==true)) from w_eq_bool (w_res rfl) w_lit) rfl
theorem attach_call {l:OpenLaw}{n:Nat}{q:Program}{loose:List Str}{XP:(Str->Option Value)->Heap->Prop}{YP:World->Heap->Prop}{d:DefRec}
  (hn:l.most=some n) (hdf:d.params.defaults=[])
  (call:∀(w:World) (s₀ s₁:Shared) (mg mb:Str->Option Value) (fa:Addr) (o:Obj) (pm cd doc:Value) (a:Addr) (vs:List Value) (ns:List Int),
   Ground q loose [] XP w s₀ mg mb s₁.heap->YP w s₁.heap->
   s₁.heap.get? fa=some o->o.data = .func (docDef d.name d.params d.body d.scope pm cd doc)->s₁.heap.CodeRec cd d.name->mg d.name=some (.ref fa)->
   s₁.heap.get? a=some {cls:=.type "list",data:=.seq vs.toArray}->IntsAre vs ns->ns.length<=n->s₁.gens = #[]->
   codeAny (model l.prog w) callerA (.call (.ref fa) ⟨[.ref a],[]⟩) (fun r s'=>r = .ok (.ret (.bool true))/\OldK s₁.heap s'.heap/\s'.os=s₁.os/\AllBare s'.gens) s₁) :
  WalkO q loose XP YP l.row.toRowW d [] (fun f vs=>PySem.call f vs):=by
 intro w s₀ s₁ mg mb G Y fa o pm cd doc dV kV ho hd hcd hD hmg hg args vals as hpre hlay hrd hwl hlo
 obtain rfl:dV = .none:=Dflts.none hD hdf
 obtain rfl:kV = .none:=Dflts.noKw hD
 obtain⟨a,vs,ns,rfl,rfl,hobj,hints,hlen⟩:=bq hn hpre hwl
 refine enter_call (Je (call w s₀ s₁ mg mb fa o pm cd doc a vs ns G Y ho (fd_plain hd) hcd hmg hobj hints hlen hg) fun r s' hq=>?_)
 obtain⟨rfl,h2,h3,h4⟩:=hq
 exact⟨.inl ⟨.bool true,.bool true,[],rfl,fun _=>rfl,.bool true,UD l _,fun _=>⟨List.Pairwise.nil,fun _ hm=>(nomatch hm)⟩⟩,h2,h3,h4⟩
section
variable {prog:Program}{w:World}{A:Around}{E:Value->Shared->Prop}{s:Shared}{K:Frag}
end
end Att
namespace L2
open PySem PySem.Spec PyProof.Rows
theorem QO:∀{vs:List Value} {ns:List Int},IntsAre vs ns->Aw (ns.map V.int) vs
 |_,_,.nil=>.nil
 |_,_,.cons n t h=>.cons ⟨t,rfl⟩ (QO h)
def Ly (H:Hp):Prop := ∀b,H b=none\/∃o xs,H b=some (.frz o (.lst xs))
theorem Td {P:Program}{w:World}{K:Faa}{mg mb:Str->Option Value}{CX:Ef}{k:Nat}{fa a:Addr}{fd:FuncData}{x:Str}{sp:Sp}{s₁:Shared}{vs:List Value}{ns:List Int}
  (KX:K.In s₁.heap) (hns:s₁.heap.Ns mainGlobals mg) (hb:s₁.heap.Ns builtinsNs mb) (hbb:∀x:Str,x≠"__name__"->mb x=bootBuiltins x) (hlim:s₁.heap.NoLimit) (hg:s₁.gens = #[])
  (ha:s₁.heap.get? a=some {cls:=.type "list",data:=.seq vs.toArray}) (hi:IntsAre vs ns) (hl:ns.length<=sizeLine) (hr:C9 k callerA)
  (F:∀base:Heap,K.In base->base.Ns mainGlobals mg->AS P w K mg base CX k fa fd [x] sp) (hbind:∀(s:Shared) (u:Value),BindsTo s fd ⟨[u],[]⟩ [(x,u)])
  (hsp:∀H:Hp,Ly H->A4 K H a (ns.map V.int)->sp [.ref a] H (fun v _=>v = .bl true) fun _ _ _=>False)
  (hCX:∀H e s',CX [] H s₁ (fun _ _ _=>False) e s'->False) :
  codeAny (model P w) callerA (.call (.ref fa) ⟨[.ref a],[]⟩) (fun r s'=>r = .ok (.ret (.bool true))/\OldK s₁.heap s'.heap/\s'.os=s₁.os/\AllBare s'.gens) s₁:=by
 have rv:=QO hi
 have lenV:=hi.length
 have core:∀H:Hp,Ly H->A4 K H a (ns.map V.int)->BD P w H s₁.heap->(∀b,H b≠none->b=a)->(H a≠none->K.lookup a=none)->
   codeAny (model P w) callerA (.call (.ref fa) ⟨[.ref a],[]⟩) (fun r s'=>r = .ok (.ret (.bool true))/\OldK s₁.heap s'.heap/\s'.os=s₁.os/\AllBare s'.gens) s₁:=by
  intro H hO hS hok hA hK
  have base_of:∀{b:Addr} {o:Obj},s₁.heap.get? b=some o->H b=none->(Fz s₁.heap H).get? b=some o:=fun e n=>Vo e n
  have noA:∀{b:Addr} {o:Obj} {es:Array DictEntry} {ep:Nat},s₁.heap.get? b=some o->o.data = .dict es ep->H b=none:=fun{b o es ep} e d=>by
   cases q:H b with
   |none=>rfl
   |
    some u=>
    have e':b=a:=hA b (by rw[q];simp)
    subst e'
    rw[ha]at e;cases e
    have d':Data.seq vs.toArray _=Data.dict es ep:=d
    cases d'
  have nsK:∀{b:Addr} {m:Str->Option Value},s₁.heap.Ns b m->(Fz s₁.heap H).Ns b m:=fun{b m} ⟨o,es,ep,e,d,r⟩=>⟨o,es,ep,base_of e (noA e d),d,r⟩
  have hKb:K.In (Fz s₁.heap H):=fun b o e=>base_of (KX b o e) (by
   cases q:H b with
   |none=>rfl
   |
    some u=>
    have e':b=a:=hA b (by rw[q];simp)
    subst e'
    rw[hK (by rw[q];simp)]at e;cases e)
  have hM:Mod K mg (Fz s₁.heap H):=⟨hKb,nsK hns,⟨mb,nsK hb,hbb⟩,let ⟨mc,h1,h2⟩:=hlim;⟨mc,nsK h1,h2⟩⟩
  have e0:GY P w K mg (Fz s₁.heap H) callerA [] s₁ H:=⟨rfl,hM,fun b o e=>X9 e,Nat.le_of_eq (Zt _ _),trivial,fun b hb=>absurd (show b∈([]:List Addr) from hb) (by simp),hok,.of_eq hg⟩
  refine Je ((F _ hKb (nsK hns)).run callerA [] s₁ H ⟨[.ref a],[]⟩ [.ref a] [.ref a] _ _ hr e0 (hbind s₁ (.ref a)) (.cons rfl .nil) (hsp H hO hS)) fun r s' h=>?_
  cases r with
  |error e=>exact(hCX H e s' h).elim
  |
   ok fl=>
   cases fl with
   |next=>exact False.elim h
   |brk=>exact False.elim h
   |cont=>exact False.elim h
   |
    ret u=>
    obtain⟨v,H',os,bare,un,hok',r',q⟩:=h
    have q':v = .bl true:=q
    subst q'
    obtain rfl:u=Value.bool true:=r'
    refine⟨rfl,OldK.of_keep fun b o e=>?_,os,bare⟩
    cases q:H b with
    |none=>exact un.keep b o e q (by intro z;exact absurd (show b∈([]:List Addr) from z) (by simp)) (by simp)
    |
     some u=>
     rcases hO b with z|⟨ob,xs,z⟩
     .rw[q]at z;cases z
     .have z2:=un.frzs b ob _ z
      obtain⟨e1,_⟩:=hok b _ z
      obtain⟨e2,_⟩:=hok' b _ z2
      rw[e]at e1;cases e1
      exact e2
 cases hk:K.lookup a with
 |
  some o=>
  have e:=KX a o hk
  rw[ha]at e
  cases e
  refine core (fun _=>none) (fun _=>.inl rfl) (.inr ⟨_,vs.toArray,_,hk,rfl,rfl,rfl,by rw[Bc,lenV];exact hl,by simpa using rv⟩) (fun b u z=>by have z':(none:Option HO)=some u:=z;cases z') (fun b z=>absurd rfl z) fun z=>absurd rfl z
 |
  none=>
  refine core (fun b=>if b=a then some (.frz {cls:=.type "list",data:=.seq vs.toArray} (.lst (ns.map V.int))) else none) (fun b=>?_) (.inl (.inr ⟨{cls:=.type "list",data:=.seq vs.toArray},Ap rfl⟩)) (fun b u z=>?_) (fun b z=>?_) fun _=>hk
  .by_cases hb:b=a
   .exact .inr ⟨_,_,Ap hb⟩
   .exact .inl (Al hb)
  .by_cases hb:b=a
   .have z':=(Ap hb).symm.trans z
    cases z'
    subst hb
    exact⟨ha,by rw[Au];exact hl,vs,_,rv,ha⟩
   .have z':=(Al hb).symm.trans z
    cases z'
  .by_cases hb:b=a
   .exact hb
   .exact absurd (Al hb) z
theorem walk_of {l:PySem.W.OpenLaw}{n k:Nat}{q:Program}{loose:List Str}{XP:(Str->Option Value)->Heap->Prop}{YP:World->Heap->Prop}{d:DefRec}{K:Params->Faa}{CX:World->Ef}{sp:World->Sp}{x:Str}
  (hn:l.most=some n) (hn2:n<=sizeLine) (hdf:d.params.defaults=[]) (hr:C9 k callerA)
  (hY:∀(w:World) (h:Heap),YP w h->(K w.params).In h)
  (F:∀(w:World) (mg:Str->Option Value) (fa:Addr) (h:Heap),(K w.params).In h->h.Ns mainGlobals mg->mg d.name=some (.ref fa)->
   ∃fd:FuncData,(∀(s:Shared) (u:Value),BindsTo s fd ⟨[u],[]⟩ [(x,u)])/\
    ∀base:Heap,(K w.params).In base->base.Ns mainGlobals mg->AS l.prog w (K w.params) mg base (CX w) k fa fd [x] (sp w))
  (hsp:∀(w:World) (H:Hp) (a:Addr) (ns:List Int),ns.length<=n->Ly H->A4 (K w.params) H a (ns.map V.int)->sp w [.ref a] H (fun v _=>v = .bl true) fun _ _ _=>False)
  (hCX:∀(w:World) (H:Hp) (s:Shared) (e:Value) (s':Shared),CX w [] H s (fun _ _ _=>False) e s'->False) :
  PySem.W.WalkO q loose XP YP l.row.toRowW d [] (fun f vs=>PySem.call f vs):=by
 refine Att.attach_call hn hdf fun w s₀ s₁ mg mb fa o pm cd doc a vs ns G Y ho hd hcd hmg hobj hints hlen hg=>?_
 have KX:=hY w _ Y
 obtain⟨fd,hb,hF⟩:=F w mg fa _ KX G.T.g hmg
 exact Td KX G.T.g G.T.b G.T.builtins G.T.nolimit hg hobj hints (CL hlen hn2) hr hF hb (fun H hO hS=>hsp w H a ns hlen hO hS) fun H e s'=>hCX w H s₁ e s'
noncomputable def Mj (s:Stmt)(j:Nat):Stmt:=match s with
 |.ClassDef _ _ _ body _ _ _ _ _ _ _=>body.getD j (.Pass ⟨0,0,0,0⟩)
 |_=>.Pass ⟨0,0,0,0⟩
noncomputable def Ks (s:Stmt):Arguments:=match s with
 |.FunctionDef _ a _ _ _ _ _ _ _ _=>a
 |_=>{posonlyargs:=[],args:=[],vararg:=none,kwonlyargs:=[],kw_defaults:=[],kwarg:=none,defaults:=[]}
noncomputable def GT (s:Stmt):List Stmt:=match s with
 |.FunctionDef _ _ b _ _ _ _ _ _ _=>b
 |_=>[]
noncomputable def AI (s:Stmt):Scope:=match s with
 |.FunctionDef _ _ _ _ _ _ sc _ _ _=>sc
 |_=>{kind:=.function,names:=[],isGenerator:=false,isCoroutine:=false}
abbrev B9:Ef:=fun _ _ _ _ _ _=>False
abbrev E0:XK:=fun _ _ _=>False
theorem AF {X:Cx}:IF B9 X E0:=fun _ _ _ _ _ _ _ h=>h.elim
structure AW (K:Faa)(x qual:Str)(st:Stmt)(f:Addr)(fd:FuncData):Prop where
 ex:∃(oc:Value) (od:Option Addr) (kV doc pm:Value) (an:Option Addr) (cdv ct:Value) (osl:Array (Option Value)),
  fd=PySem.W.fnOf x qual (Ks st) (GT st) (AI st) .none kV doc pm an cdv ct/\K.lookup f=some ⟨oc,od,.func fd,osl⟩/\PySem.W.codeIn K cdv qual=true
 kp:PySem.W.keepIn K (.ref f)=true
section
variable {P:Program}{w:World}{K:Faa}{mg:Str->Option Value}{base:Heap}
theorem AW.ok {x qual:Str}{st:Stmt}{f:Addr}{fd:FuncData}{N ps:List Str}{k:Nat}{sp:Sp}(F:AW K x qual st f fd)(S:B7 N ps (AI st))(len:∀vs H Q E,sp vs H Q E->vs.length=ps.length)
  (hbody:∀(cdv:Value) (A:Around) (outer:List Env) (s:Shared) (H:Hp) (vs:List V) (Q:VK) (E:XK),C9 k (A.deeper (envOfC qual (AI st) s.heap.objs.size f cdv))->sp vs H Q E->
   ∃t,DC (Gm B9 P w K mg base N qual (AI st) f cdv A outer s H E).nox (GT st) t/\t {nx:=fun _ H'=>Q .non H',rt:=Q} (start N vs) H):AS P w K mg base B9 (k+1) f fd ps sp:=by
 obtain⟨oc,od,kV,doc,pm,an,cdv,ct,osl,rfl,lk,hcd⟩:=F.ex
 refine Pa lk hcd S len fun A outer s H vs Q E hr hsp=>?_
 obtain⟨t,h,q⟩:=hbody cdv A outer s H vs Q E hr hsp
 exact⟨t,h.nox,q⟩
theorem AW.binds {x qual:Str}{st:Stmt}{f:Addr}{fd:FuncData}{ps:List Str}(F:AW K x qual st f fd)
  (h:∀(kV doc pm:Value) (an:Option Addr) (cdv ct:Value) (us:List Value),us.length=ps.length->bindArgs (PySem.W.fnOf x qual (Ks st) (GT st) (AI st) .none kV doc pm an cdv ct) ⟨us,[]⟩=pure (ps.zip us)):AX K fd ps []:=by
 obtain⟨oc,od,kV,doc,pm,an,cdv,ct,osl,rfl,lk,hcd⟩:=F.ex
 exact .all (h kV doc pm an cdv ct)
theorem fun_mk {x qual:Str}{st:Stmt}{f:Addr}{oc:Value}{od an:Option Addr}{osl:Array (Option Value)}{kV doc pm cdv ct:Value}(l:K.lookup f=some ⟨oc,od,.func (PySem.W.fnOf x qual (Ks st) (GT st) (AI st) .none kV doc pm an cdv ct),osl⟩)
 (c:PySem.W.codeIn K cdv qual=true) (k:PySem.W.keepIn K (.ref f)=true):AW K x qual st f (PySem.W.fnOf x qual (Ks st) (GT st) (AI st) .none kV doc pm an cdv ct):=⟨⟨oc,od,kV,doc,pm,an,cdv,ct,osl,rfl,l,c⟩,k⟩
end
theorem ID {A:Around}{k:Nat}(hr:C9 k A):A.units+1<cLine:=Nat.lt_of_le_of_lt (Nat.add_le_add_left (by decide:1<=64) _) hr.units
section
variable {X:Cx}
theorem pv (i:Nat){x:Str}{pos:Pos}(hN:X.N[i]?=some x:=by rfl)(hv:JV X.env.scope x:=by first|exact Or.inl rfl|exact Or.inr (.inl rfl)|exact Or.inr (.inr rfl))(hd:(x==("__debug__":Str))=false:=by decide)
 (hcd:(x==("__classdict__":Str))=false:=by decide):PE X (.Name x pos) (QT i):=Yw hN hv hd hcd
end
theorem BZ {A B:Prop}(h:B):if false=true then A else B:=by
 rw[Al Cm]
 exact h
theorem BY {A B:Prop}(h:A):if true=true then A else B:=by
 rw[Ap rfl]
 exact h
theorem BV {c A B:Prop}[Decidable c](h1:c->A)(h2:¬c->B):if c then A else B:=by
 by_cases h:c
 .rw[Ap h]
  exact h1 h
 .rw[Al h]
  exact h2 h
def Aa (H H':Hp):Prop := ∀b o,H b=some o->H' b=some o
theorem Aa.refl (H:Hp):Aa H H:=fun _ _ h=>h
theorem Aa.trans {H H1 H2:Hp}(a:Aa H H1)(b:Aa H1 H2):Aa H H2:=fun c o h=>b c o (a c o h)
theorem Aa.free {H H':Hp}(e:Aa H H'){l:Addr}(h:H' l=Option.none):H l=Option.none:=by
 cases q:H l with
 |none=>rfl
 |
  some o=>
  rw[e l o q]at h
  cases h
theorem Aa.seq {K:Faa}{H H':Hp}{a:Addr}{xs:List V}(e:Aa H H')(h:A4 K H a xs):A4 K H' a xs:=by
 rcases h with(h|⟨o,h⟩)|h
 .exact .inl (.inl (e _ _ h))
 .exact .inl (.inr ⟨o,e _ _ h⟩)
 .exact .inr h
section
variable {κ:Type}[DecidableEq κ]
end
theorem O0 (env:Env):∀(l:List (Str×NameKind)) (cs:List (Str×Addr)),(∀n,(n,NameKind.free)∈l->∃c,env.cells.lookup n=some c)->(∀x c,cs.lookup x=some c->env.cells.lookup x=some c)->
  ∃cl,(forIn l cs fun x s=>if(x.snd==NameKind.free)=true then do let c ←cellOf env x.fst;pure (ForInStep.yield ((x.fst,c)::s)) else pure (ForInStep.yield s))=(pure cl:Sem (List (Str×Addr)))/\
   (∀x c,cl.lookup x=some c->env.cells.lookup x=some c)/\(∀n,(n,NameKind.free)∈l->∃c,cl.lookup n=some c)/\∀n c,cs.lookup n=some c->∃c',cl.lookup n=some c'
 |[],cs,_,h=>⟨cs,rfl,h,(fun _ z=>nomatch z),(fun n c e=>⟨c,e⟩)⟩
 |
  (n,k)::r,cs,hf,h=>by
  by_cases hk:k = .free
  .subst hk
   obtain⟨c,hc⟩:=hf n Cz
   have e:cellOf env n=pure c:=by unfold cellOf;rw[hc]
   obtain⟨cl,e1,h1,h2,h3⟩:=O0 env r ((n,c)::cs) (fun m hm=>hf m (Cd _ hm)) (fun x c' q=>by
    rw[GE]at q
    by_cases hx:x=n
    .subst hx;simp at q;subst q;exact hc
    .have:(x==n)=false:=by simpa using hx
     rw[this]at q;exact h x c' q)
   refine⟨cl,?_,h1,fun m hm=>?_,fun m c' q=>?_⟩
   .rw[MM]
    show((do let c ←cellOf env n;pure (ForInStep.yield ((n,c)::cs)))>>=_)=_
    rw[e]
    exact e1
   .rcases AZ.mp hm with z|z
    .cases z;exact h3 n c (by simp)
    .exact h2 m z
   .by_cases hx:m=n
    .subst hx;exact h3 m c (by simp)
    .have:(m==n)=false:=by simpa using hx
     exact h3 m c' (by rw[GE,this];exact q)
  .have hb:(k==NameKind.free)=false:=by simpa using hk
   obtain⟨cl,e1,h1,h2,h3⟩:=O0 env r cs (fun m hm=>hf m (Cd _ hm)) h
   refine⟨cl,?_,h1,fun m hm=>?_,h3⟩
   .rw[MM]
    dsimp only
    rw[hb]
    exact e1
   .rcases AZ.mp hm with z|z
    .cases z;exact absurd rfl hk
    .exact h2 m z
theorem Re {scope:Scope}{env:Env}(h:∀n,(n,NameKind.free)∈scope.names->∃c,env.cells.lookup n=some c) :
  ∃cl,closureFor scope env=pure cl/\(∀x c,cl.lookup x=some c->env.cells.lookup x=some c)/\∀n,(n,NameKind.free)∈scope.names->∃c,cl.lookup n=some c:=by
 obtain⟨cl,e,h1,h2,_⟩:=O0 env scope.names [] h (fun _ _ z=>by simp at z)
 refine⟨cl,?_,h1,h2⟩
 simp only[closureFor]
 rw[e]
 rfl
noncomputable def CY (X:Cx)(scope:Scope)(N':List Str)(cl:List (Str×Addr))(C:Addr)(s:Shared)(H:Hp)(fp:List Addr)(pins:List (Addr×Obj)):Cx where
 prog:=X.prog
 w:=X.w
 K:=X.K
 mg:=X.mg
 base:=X.base
 A:=X.A
 N:=N'
 s₀:=s
 H₀:=H
 env:=compEnvC scope cl C X.env
 outer:=X.stack
 stack:=X.stack
 ex:=fp
 calm:=X.calm
 fn:=fun _=>false
 pn:=X.pn++pins
 xe:=fun _ _=>False
structure Iy (sc:Scope)(out:Scope):Prop where
 kind:sc.kind = .function
 cell:∀y∈sc.names,y.2≠.cell
 loc:∀y∈sc.names,y.2 = .local->sc.names.lookup y.1=some .local
 free:∀y∈sc.names,y.2 = .free->out.names.lookup y.1=some .cell\/out.names.lookup y.1=some .free
noncomputable def C4 (ρ:List (Option Nat))(σ:St):St:=ρ.map fun o=>match o with|some i=>(σ[i]?).getD none|none=>none
def Jq (sc:Scope)(env:Env)(N N':List Str)(ρ:List (Option Nat)):Prop:=
 ρ.length=N'.length/\∀(j i:Nat) (x:Str),ρ[j]?=some (some i)->N'[j]?=some x->N[i]?=some x/\JV env.scope x/\(x,NameKind.free)∈sc.names
theorem Qy {names:List (Str×NameKind)}{env:Env}{x:Str}{k:NameKind}(h:(names.map fun(n,k)=>if(k==NameKind.free&&env.scope.kind == .function&&env.kindOf n==some .cell) then(n,NameKind.cell) else(n,k)).lookup x=some k)
  (hk:k = .cell\/k = .free) (hc:∀y∈names,y.2≠.cell):(x,NameKind.free)∈names:=by
 induction names with
 |nil=>simp at h
 |
  cons p r ih=>
  obtain⟨n,k'⟩:=p
  by_cases hx:x=n
  .subst hx
   have hk':k' = .free:=by
    by_cases hc':(k'==NameKind.free&&env.scope.kind == .function&&env.kindOf x==some .cell)=true
    .simp only[EJ,GI]at hc'
     exact hc'.1.1
    .simp only[Bx]at h
     rw[Al hc']at h
     simp at h
     subst h
     rcases hk with z|z
     .exact absurd z (hc (x,k') Cz)
     .exact z
   rw[hk'];exact Cz
  .have hb:(x==n)=false:=by simpa using hx
   refine Cd _ (ih ?_ fun y hy=>hc y (Cd _ hy))
   simp only[Bx]at h
   by_cases hc':(k'==NameKind.free&&env.scope.kind == .function&&env.kindOf n==some .cell)=true
   .rw[Ap hc',GE,hb]at h;exact h
   .rw[Al hc',GE,hb]at h;exact h
theorem XY:∀{names:List (Str×NameKind)} {env:Env} {x:Str},(x,NameKind.free)∈names->(names.map fun(n,k)=>if(k==NameKind.free&&env.scope.kind == .function&&env.kindOf n==some .cell) then(n,NameKind.cell) else(n,k)).lookup x=some .cell\/
  (names.map fun(n,k)=>if(k==NameKind.free&&env.scope.kind == .function&&env.kindOf n==some .cell) then(n,NameKind.cell) else(n,k)).lookup x=some .free\/names.lookup x≠some .free:=by
 intro names env x hm
 by_cases hl:names.lookup x=some .free
 .induction names with
  |nil=>simp at hl
  |
   cons p r ih=>
   obtain⟨n,k'⟩:=p
   by_cases hx:x=n
   .subst hx
    simp at hl
    subst hl
    by_cases hc':(NameKind.free==NameKind.free&&env.scope.kind == .function&&env.kindOf x==some .cell)=true
    .left;simp only[Bx];rw[Ap hc'];simp
    .right;left;simp only[Bx];rw[Al hc'];simp
   .have hb:(x==n)=false:=by simpa using hx
    rw[GE,hb]at hl
    have hm':(x,NameKind.free)∈r:=by
     rcases AZ.mp hm with z|z
     .cases z;exact absurd rfl hx
     .exact z
    have q:=ih hm' hl
    simp only[Bx]
    by_cases hc':(k'==NameKind.free&&env.scope.kind == .function&&env.kindOf n==some .cell)=true
    .rw[Ap hc',GE,hb,GE,hb];exact q
    .rw[Al hc',GE,hb,GE,hb];exact q
 .exact .inr (.inr hl)
section
variable {X:Cx}{pins:List (Addr×Obj)}{σ:St}{H:Hp}{s:Shared}{scope:Scope}{N':List Str}{ρ:List (Option Nat)}{cl:List (Str×Addr)}{fp:List Addr}{C D:Addr}
theorem Xu (I:A2 X pins σ H s)(S:Iy scope X.env.scope)(hf:∀b∈fp,EH X pins H b)(h1:∀x c,cl.lookup x=some c->X.env.cells.lookup x=some c)(h2:∀n,(n,NameKind.free)∈scope.names->∃c,cl.lookup n=some c)
  (hC:s.heap.objs.size<=C) (hfs:∀b∈fp,b<s.heap.objs.size):(CY X scope N' cl C s H fp pins).Ok where
 mod:=I.ok.mod
 kind:=S.kind
 glob:=I.ok.glob
 blt:=I.ok.blt
 above:=hC
 inj:=fun x y c e1 e2=>I.ok.inj x y c (h1 x c e1) (h1 y c e2)
 has:=fun x hk=>h2 x (by
  rcases hk with hk|hk
  .exact Qy (env:=X.env) hk (.inl rfl) S.cell
  .exact Qy (env:=X.env) hk (.inr rfl) S.cell)
 cab:=fun _ _ z=>nomatch z
 hd:=I.ok.hd
 frames:=I.ok.frames
 stk:=.inl rfl
 exf:=fun b hb=>⟨AV (BO (hfs b hb) hC),fun x c e=>(hf b hb).2.2.2.2.1 x c (h1 x c e)⟩
 bs:=I.bs
 bsz:=CL I.ok.bsz I.sz
 noex:=fun b o e hb=>by
  rcases(hf b hb).2.2.2.1 with z|z
  .exact I.ok.noex b o e z
  .exact absurd (BO (BO (AG e) I.ok.bsz) z) (F3 _)
 exfs:=fun b hb z=>by
  rcases AZ.mp (I.stkSub b z) with q|q
  .exact(hf b hb).2.1 q
  .exact(hf b hb).2.2.1 q
 funs:=I.stack
 frf:=I.stkFree
theorem TF {h₁:Heap}{tk:Nat}(I:A2 X pins σ H s)(S:Iy scope X.env.scope)(hρ:Jq scope X.env X.N N' ρ)(hf:∀b∈fp,EH X pins H b)(h1:∀x c,cl.lookup x=some c->X.env.cells.lookup x=some c)
  (h2:∀n,(n,NameKind.free)∈scope.names->∃c,cl.lookup n=some c) (hC:s.heap.objs.size<=C) (hfs:∀b∈fp,b<s.heap.objs.size) (hn:h₁.Ns C (fun _=>none)) (hk:∀b o,s.heap.get? b=some o->h₁.get? b=some o)
  (hl:∀x,(x,NameKind.free)∈scope.names->scope.names.lookup x=some .free) :
  A2 (CY X scope N' cl C s H fp pins) [] (C4 ρ σ) H {s with heap:=h₁,toks:=tk} where
 ok:=Xu I S hf h1 h2 hC hfs
 os:=rfl
 bare:=I.bare
 base:=Un.kept hk
 loc:=by
  refine⟨_,hn,fun j x v e1 e2 hv=>?_⟩
  obtain⟨m,hm,hl'⟩:=I.loc
  unfold C4 at e2
  rw[Bq]at e2
  cases hr:ρ[j]? with
  |none=>rw[hr]at e2;simp at e2
  |
   some o=>
   cases o with
   |none=>rw[hr]at e2;simp at e2
   |
    some i=>
    rw[hr]at e2
    obtain⟨q1,q2,q3⟩:=hρ.2 j i x hr e1
    have e3:σ[i]?=some (some v):=by
     cases hσ:σ[i]? with
     |none=>simp[hσ]at e2
     |some z=>simp[hσ]at e2;rw[e2]
    obtain⟨u,r,lk⟩:=hl' i x v q1 e3 q2
    refine⟨u,r,?_⟩
    obtain⟨c,hc⟩:=h2 x q3
    have hkind:(relabel scope X.env).names.lookup x=some .cell\/(relabel scope X.env).names.lookup x=some .free:=by
     rcases XY (env:=X.env) q3 with z|z|z
     .exact .inl z
     .exact .inr z
     .exact absurd (hl x q3) z
    refine .inr ⟨hkind,c,hc,?_⟩
    rcases lk with⟨k,_⟩|⟨_,c',e',z⟩
    .rcases S.free (x,.free) q3 rfl with z|z
     .have k':X.env.scope.names.lookup x=some .local:=k
      rw[z]at k';cases k'
     .have k':X.env.scope.names.lookup x=some .local:=k
      rw[z]at k';cases k'
    .have:=h1 x c hc
     rw[e']at this;cases this
     obtain⟨o,ho,hd⟩:=z
     exact⟨o,hk _ _ ho,hd⟩
 cell:=fun x c e=>by
  obtain⟨v,o,ho,hd⟩:=I.cell x c (h1 x c e)
  exact⟨v,o,hk _ _ ho,hd⟩
 free:=I.hok.fresh hC
 freeC:=fun x c e=>I.freeC x c (h1 x c e)
 pin:=fun p hp=>by
  have hp':p∈X.pn++pins:=by simpa[CY] using hp
  obtain⟨e,n,ne,nf,d⟩:=I.pin p hp'
  refine⟨hk _ _ e,n,AV (BO (AG e) hC),fun z=>?_,d⟩
  rcases AZ.mp (I.stkSub p.1 z) with q|q
  .exact ne q
  .exact nf q
 hok:=I.hok.kept hk
 len:=by
  show(C4 ρ σ).length=N'.length
  unfold C4
  rw[Au];exact hρ.1
end
theorem BD.track {P:Program}{w:World}{H:Hp}{h:Heap}{D:Addr}{o:HO}(x:BD P w H h)(n:H D=none)(new:BG P w (upd H D o) h D o):BD P w (upd H D o) h:=fun b u e=>by
 by_cases hb:b=D
 .subst hb;rw[A7]at e;cases e;exact new
 .rw[Ai hb]at e
  exact(x b u e).stay (fun c v _ q=>q) (fun c q=>by rw[Ai (AQ q n)];exact q) fun c xs q=>by rw[Ai (AQ q n)];exact q
section
variable {prog:Program}{w:World}{A:Around}{R:Result->Shared->Prop}{s:Shared}
theorem XE {elt target iter:Expr}{ifs:List Expr}{scope:Scope}{pos:Pos}{it acc:Value}{env:Env}(I:Nat->Shared->Prop)
  (turn:∀n s,I n s->wpAny (model prog w) A (pyNext it) (fun r s₁=>match r with
   |none=>R (.ok .next) s₁
   |some v=>wpAny (model prog w) A (letOwnedTupleGo target it v) (fun _ s₁'=>wpAny (model prog w) A (assign target env v) (fun _ s₂=>
    wpAny (model prog w) A (forIn ifs true fun c r=>if r=true then do let ok ←isTrue c env (eval c env);pure (ForInStep.yield ok) else pure (ForInStep.yield r)) (fun ok s₃=>
     if ok=true then wpAny (model prog w) A (eval elt env) (fun x s₄=>
      wpAny (model prog w) A (call (.builtin "list.append") [acc,x]) (fun _ s₅=>∃m,m<n/\I m s₅) (fun _ _=>False) s₄) (fun _ _=>False) s₃
     else ∃m,m<n/\I m s₃) (fun _ _=>False) s₂) (fun _ _=>False) s₁') (fun _ _=>False) s₁) (fun _ _=>False) s)
  (n:Nat) (h:I n s) :
  codeAny (model prog w) A (.compLoop (.ListComp elt [⟨target,iter,ifs,0⟩] scope pos) 0 it acc env) R s:=by
 refine codeAny_loop rfl I (fun n s hI=>?_) n h
 show wpAny _ A ((compTurn (.ListComp elt [⟨target,iter,ifs,0⟩] scope pos) 0 it acc env).onRaise (fun x=>do noteFrame x env;theTreesLotGoes x)) _ _ s
 refine wpAny_noted ?_
 rw[compTurn_list]
 refine A9 (Ja (A9 (CN (turn n s hI) (fun r s₁ h₁=>?_) fun _ _ h'=>h'.elim)))
 cases r with
 |none=>exact AA h₁
 |
  some v=>
  refine A9 (CN h₁ (fun _ s₁' h₁=>?_) fun _ _ h'=>h'.elim)
  refine A9 (CN h₁ (fun _ s₂ h₂=>A9 (CN h₂ (fun ok s₃ h₃=>?_) fun _ _ h'=>h'.elim)) fun _ _ h'=>h'.elim)
  cases ok with
  |false=>exact AA ⟨rfl,h₃⟩
  |
   true=>
   exact A9 (A9 (CN h₃ (fun x s₄ h₄=>A9 (CN h₄ (fun _ s₅ h₅=>AA (AA ⟨rfl,h₅⟩)) fun _ _ h'=>h'.elim)) fun _ _ h'=>h'.elim))
end
def Hd (X:Cx)(ifs:List Expr)(t:TT):Prop:=
 ∀(pins:List (Addr×Obj)) (s:Shared) (σ:St) (H:Hp) (Q:Bool->Hp->Prop),A2 X pins σ H s->t σ H Q->
  wpAny (model X.prog X.w) X.A (forIn ifs true fun c r=>if r=true then do let ok ←isTrue c X.env (eval c X.env);pure (ForInStep.yield ok) else pure (ForInStep.yield r)) (TP X pins σ Q) X.xe s
def YU:TT:=fun _ H Q=>Q true H
theorem EE {X:Cx}:Hd X [] YU:=fun _ _ _ H _ I h=>wpAny_tests_nil ⟨H,I,h⟩
theorem RA {X:Cx}{c:Expr}{t:TT}(h:PT X c t):Hd X [c] t:=fun pins s σ H Q I hw=>wpAny_tests_one (h pins s σ H Q I hw)
def Jm (ρ:List (Option Nat))(σ σ2:St):Prop:=σ2.length=ρ.length/\∀(j:Nat) v,(C4 ρ σ)[j]?=some (some v)->σ2[j]?=some (some v)
def GW (ρ:List (Option Nat))(g:TG)(tt:TT)(te:TE)(σ:St)(Q:VK)(J:It)(H1:Hp):Prop := ∃W:Nat->Nat->List V->Hp->Prop,(∃m,W 0 m [] H1)/\∀i m ys H',W i m ys H'->
 (J.stop i H'/\ys.length<=sizeLine/\∀p,H' p=none->Q (.ref p) (upd H' p (.lst ys)))\/
 (J.go i H'/\ys.length<sizeLine/\∃N:List V->Hp->Prop,(∀ys' H'',N ys' H''->∃m',m'<m/\W (i+1) m' ys' H'')/\∀x H2,J.yld i H' x H2->g x (C4 ρ σ) H2 fun σ2 H3=>Jm ρ σ σ2/\tt σ2 H3 fun ok H4=>if ok=true then te σ2 H4 fun v H5=>N (ys++[v]) H5 else N ys H4)
def IB (ρ:List (Option Nat))(wi:TI)(g:TG)(tt:TT)(te:TE):TE:=fun σ H Q=>wi σ H fun J H1=>GW ρ g tt te σ Q J H1
theorem Ra {X:Cx}{elt iter tg:Expr}{ifs:List Expr}{scope:Scope}{pos:Pos}{N':List Str}{ρ:List (Option Nat)}{wi:TI}{g:TG}{tt:TT}{te:TE}{cl:List (Str×Addr)}{RR:Value->Addr->Result->Shared->Prop}(hc:X.calm=true)(hi:PI X tg iter wi)(S:Iy scope X.env.scope)(hρ:Jq scope X.env X.N N' ρ)
  (hl:∀x,(x,NameKind.free)∈scope.names->scope.names.lookup x=some .free)
  (inner:∀(cl:List (Str×Addr)) (C:Addr) (s:Shared) (H:Hp) (fp:List Addr) (pins:List (Addr×Obj)),PG (CY X scope N' cl C s H fp pins) tg g/\Hd (CY X scope N' cl C s H fp pins) ifs tt/\PE (CY X scope N' cl C s H fp pins) elt te)
  {pins:List (Addr×Obj)} {s:Shared} {σ:St} {H:Hp} {Q:VK} (I:A2 X pins σ H s) (h:IB ρ wi g tt te σ H Q)
  (h1:∀x c,cl.lookup x=some c->X.env.cells.lookup x=some c) (h2:∀n,(n,NameKind.free)∈scope.names->∃c,cl.lookup n=some c)
  (fin:∀D C s' H' m,A2 X pins σ H' s'->Q (.ref D) H'->s'.heap.Ns C m->EH X pins H' C->RR (.ref D) C (.ok .next) s') :
  wpAny (model X.prog X.w) X.A (eval iter X.env) (fun x s₁=>wpAny (model X.prog X.w) X.A (pyIter x) (fun it s₂=>wpAny (model X.prog X.w) X.A (newList []) (fun acc s₃=>
   wpAny (model X.prog X.w) X.A (newFunctionEnv scope X.env.globals cl [] X.env.qual none .none (some X.env)) (fun cenv s₄=>
    codeAny (model X.prog X.w) X.A (.compStart (.ListComp elt [⟨tg,iter,ifs,0⟩] scope pos) 0 it acc {cenv with scope:=relabel scope X.env}) (RR acc cenv.locals) s₄) X.xe s₃) X.xe s₂) X.xe s₁) X.xe s:=by
 refine Az (hi pins s σ H _ I h) fun v s1 h1'=>Az h1' fun itv s2 hx=>?_
 obtain⟨it,fp,tn,J,H2,e,I2,T,st2,f2,W,⟨m0,w0⟩,turn⟩:=hx
 subst e
 have hfs:∀b∈fp,b<s2.heap.objs.size:=fun b hb=>by
  obtain⟨o,e,_⟩:=T.obj _ _ st2 b hb
  exact AG e
 refine KJ (wpAny_newFunctionEnv S.cell (by intro y hy;simp at hy) (fun h₁ hns₁ hsb₁=>?_) S.kind)
 dsimp only at hns₁ hsb₁ ⊢
 generalize hH2:s2.heap.push {cls:=.type "list",dict:=none,data:=.seq ([]:List Value).toArray}=G at hns₁ hsb₁ ⊢
 have hC:G.objs.size=s2.heap.objs.size+1:=by rw[←hH2,Kx]
 have hDC:s2.heap.objs.size≠G.objs.size:=by rw[hC];exact AV (Gz _)
 have hCle:s2.heap.objs.size<=G.objs.size:=by rw[hC];exact Ht _
 have old:∀b o,s2.heap.get? b=some o->h₁.get? b=some o:=fun b o e=>hsb₁.extBut b o (AV (BO (AG e) hCle)) (AD _ (hH2▸AD _ e))
 have hacc:h₁.get? s2.heap.objs.size=some {cls:=.type "list",dict:=none,data:=.seq ([]:List Value).toArray}:=hsb₁.extBut _ _ hDC (AD _ (hH2▸C7 _ rfl))
 have hns₂:h₁.Ns G.objs.size (fun _=>none):=hns₁
 generalize hXX:CY X scope N' cl G.objs.size s2 H2 fp pins=XX at *
 have IN:∀(tk:Nat),A2 XX [] (C4 ρ σ) H2 {s2 with heap:=h₁,toks:=tk}:=fun tk=>hXX▸TF (N':=N') I2 S hρ f2 h1 h2 hCle hfs hns₂ old hl
 obtain⟨pg,pt,pe⟩:=inner cl G.objs.size s2 H2 fp pins
 rw[hXX]at pg pt pe
 have eP:XX.prog=X.prog:=by rw[←hXX];rfl
 have eW:XX.w=X.w:=by rw[←hXX];rfl
 have eK:XX.K=X.K:=by rw[←hXX];rfl
 have eA:XX.A=X.A:=by rw[←hXX];rfl
 have eE:XX.env=compEnvC scope cl G.objs.size X.env:=by rw[←hXX];rfl
 have eL:XX.env.locals=G.objs.size:=by rw[eE];rfl
 have ec:XX.calm=true:=by rw[←hXX];exact hc
 have ex:XX.xe=fun _ _=>False:=by rw[←hXX];rfl
 have es0:XX.s₀=s2:=by rw[←hXX];rfl
 have eex:XX.ex=fp:=by rw[←hXX];rfl
 have efs:XX.fs=DK X.stack:=by rw[←hXX];rfl
 have eH0:XX.H₀=H2:=by rw[←hXX];rfl
 have epn:XX.pn=X.pn++pins:=by rw[←hXX];rfl
 have ecl:XX.env.cells=cl:=by rw[eE];rfl
 have stat:∀{H':Hp} {ps:List (Addr×Obj)},(∀b∈fp,H' b=none)->(∀p∈ps,p.1=s2.heap.objs.size)->∀b∈fp,EH XX ps H' b:=fun{H' ps} hn hp b hb=>by
  refine⟨hn b hb,?_,?_,?_,?_,?_⟩
  .rw[eL];exact AV (BO (hfs b hb) hCle)
  .rw[efs]
   intro z
   rcases AZ.mp (I2.stkSub b z) with q|q
   .exact(f2 b hb).2.1 q
   .exact(f2 b hb).2.2.1 q
  .rw[eex];exact .inl hb
  .rw[ecl];exact fun x c e=>(f2 b hb).2.2.2.2.1 x c (h1 x c e)
  .intro p hp' z
   rw[epn]at hp'
   rcases BX.mp hp' with q|q
   .exact(f2 b hb).2.2.2.2.2 p q z
   .rw[hp p q]at z
    exact absurd (hfs b hb) (by rw[z];exact F3 _)
 have nofsD:s2.heap.objs.size∉XX.fs:=by
  rw[efs];intro z
  rcases AZ.mp (I2.stkSub _ z) with q|q
  .exact absurd I2.lt (by rw[←q];exact F3 _)
  .exact I2.nofs (Af _) q
 have pinD:∀{σ':St} {H':Hp} {s':Shared} {its:List Value} {n:Nat},A2 XX [] σ' H' s'->H' s2.heap.objs.size=none->s'.heap.get? s2.heap.objs.size=some {cls:=.type "list",data:=.seq its.toArray n}->
   A2 XX [(s2.heap.objs.size,{cls:=.type "list",data:=.seq its.toArray n})] σ' H' s':=fun{σ' H' s' its n} I' hn ho=>I'.pins_of fun p hp=>by
  have e:p=(s2.heap.objs.size,{cls:=.type "list",data:=.seq its.toArray n}):=by simpa using hp
  subst e
  refine⟨ho,hn,by rw[eL];exact hDC,nofsD,fun v z=>?_⟩
  have z':Data.seq its.toArray n=Data.cell v:=z
  cases z'
 have loop:∀s₃:Shared,(∃tk,s₃={s2 with heap:=h₁,toks:=tk})->
   codeAny (model X.prog X.w) X.A (.compLoop (.ListComp elt [⟨tg,iter,ifs,0⟩] scope pos) 0 (.ref it) (.ref s2.heap.objs.size) (compEnvC scope cl G.objs.size X.env)) (RR (.ref s2.heap.objs.size) G.objs.size) s₃:=by
  rintro s₃ ⟨tk,rfl⟩
  refine XE (fun n s'=>∃i ys its k H',A2 XX [] (C4 ρ σ) H' s'/\tn i s'.heap/\(∀b∈fp,H' b=none)/\H' s2.heap.objs.size=none/\Aw ys its/\
   s'.heap.get? s2.heap.objs.size=some {cls:=.type "list",data:=.seq its.toArray k}/\W i n ys H') ?_ m0
   ⟨0,[],[],0,H2,IN tk,T.keep _ _ _ st2 fun b _ o e=>old b o e,fun b hb=>(f2 b hb).1,I2.hok.fresh (Af _),.nil,hacc,w0⟩
  rintro n s3 ⟨i,ys,its,k,H3,I3,st3,fr3,hD3,rv,ho3,w3⟩
  rcases turn i n ys H3 w3 with⟨stop,hz,qn⟩|⟨go,hz,N,hN,step⟩
  .have I3p:=pinD I3 hD3 ho3
   have q:=T.done XX eP eW eK ec i _ s3 (C4 ρ σ) H3 (fun _ _=>False) I3p (stat fr3 (by simp)) st3 stop
   rw[eA]at q
   refine Az q fun r s4 zz=>?_
   obtain⟨hr,I4⟩:=zz
   subst hr
   have ho4:=(I4.pin (s2.heap.objs.size,{cls:=.type "list",data:=.seq its.toArray k}) (by simp)).1
   obtain⟨m,hm,_⟩:=I4.loc
   rw[eL]at hm
   have hun:Un (DK X.stack) fp H2 (upd H3 s2.heap.objs.size (.lst ys)) s2.heap s4.heap:=by
    have u:=I4.base
    rw[efs,eex,eH0,es0]at u
    refine⟨u.keep,u.slot,fun b o e n hx=>?_,u.there,fun b xs e=>?_,fun b o xs e=>?_,fun b ps e=>?_⟩
    .rw[Ai (AV (AG e))];exact u.free b o e n hx
    .have q:=u.tups b xs e
     rw[Ai (AQ q hD3)];exact q
    .have q:=u.frzs b o xs e
     rw[Ai (AQ q hD3)];exact q
    .obtain⟨more,q⟩:=u.tbls b ps e
     exact⟨more,by rw[Ai (AQ q hD3)];exact q⟩
   have hok:BD X.prog X.w (upd H3 s2.heap.objs.size (.lst ys)) s4.heap:=by
    have q:=I4.hok
    rw[eP,eW]at q
    exact q.track hD3 ⟨hz,its,k,rv,ho4⟩
   have hfr:∀b∈fp,(b∈X.ex\/X.s₀.heap.objs.size<=b)/\b≠X.env.locals/\(∀x c,X.env.cells.lookup x=some c->c≠b)/\∀p∈X.pn++pins,p.1≠b:=fun b hb=>⟨(f2 b hb).2.2.2.1,(f2 b hb).2.1,(f2 b hb).2.2.2.2.1,(f2 b hb).2.2.2.2.2⟩
   have IO:A2 X pins σ (upd H3 s2.heap.objs.size (.lst ys)) s4:=I2.call' (by have:=I4.os;rw[es0]at this;exact this) hun hok I4.bare hfr
   refine fin _ _ s4 _ m IO (qn _ hD3) hm (I2.fpOk hCle ?_)
   rw[Ai (Ne.symm hDC)]
   have:=I4.free
   rw[eL]at this
   exact this
  .have I3p:=pinD I3 hD3 ho3
   have q:=T.item XX eP eW eK ec i _ s3 (C4 ρ σ) H3 (fun _ _=>False) I3p (stat fr3 (by simp)) st3 go
   rw[eA]at q
   refine Az q fun r s4 zz=>?_
   obtain⟨u,hr,h4⟩:=zz
   subst hr
   refine Az h4 fun _ s5 zz=>?_
   obtain⟨x,H5,I5,r5,y5,st5,fr5⟩:=zz
   have I5':=I5.pinned (stat fr5 (by simp)) (T.obj _ _ st5)
   have qa:=pg _ s5 (C4 ρ σ) H5 x u _ I5' r5 (step x H5 y5)
   rw[eP,eW,eA,eE,ex]at qa
   refine Az qa fun _ s6 zz=>?_
   obtain⟨σ6,H6,I6,⟨ou1,ou2⟩,q6⟩:=zz
   have hw6:(C4 ρ σ).length=σ6.length:=by rw[ou1];unfold C4;rw[Au]
   have qt:=pt _ s6 σ6 H6 _ I6 q6
   rw[eP,eW,eA,eE,ex]at qt
   refine Az qt fun ok s7 zz=>?_
   obtain⟨H7,I7,q7⟩:=zz
   have back:∀{s8:Shared} {H8:Hp},A2 XX ([(s2.heap.objs.size,{cls:=.type "list",data:=.seq its.toArray k})]++Ii fp s5.heap) σ6 H8 s8->tn (i+1) s8.heap/\(∀b∈fp,H8 b=none)/\H8 s2.heap.objs.size=none/\
     s8.heap.get? s2.heap.objs.size=some {cls:=.type "list",data:=.seq its.toArray k}:=fun{s8 H8} I8=>by
    refine⟨T.keep _ _ _ st5 fun b hb o e=>(I8.pin (b,o) (CD _ (CD _ (Jr hb e)))).1,fun b hb=>?_,?_,?_⟩
    .obtain⟨o,e,d⟩:=T.obj _ _ st5 b hb
     exact(I8.pin (b,o) (CD _ (CD _ (Jr hb e)))).2.1
    .exact(I8.pin (s2.heap.objs.size,{cls:=.type "list",data:=.seq its.toArray k}) (by simp)).2.1
    .exact(I8.pin (s2.heap.objs.size,{cls:=.type "list",data:=.seq its.toArray k}) (by simp)).1
   cases ok with
   |
    false=>
    obtain⟨m',hm,w7⟩:=hN _ _ q7
    obtain⟨b1,b2,b3,b4⟩:=back I7
    exact⟨m',hm,i+1,ys,its,k,H7,(I7.pins_of (pins':=[]) (fun _ z=>nomatch z)).weak hw6 ou2,b1,b2,b3,rv,b4,w7⟩
   |
    true=>
    have qe:=pe _ s7 σ6 H7 _ I7 q7
    rw[eP,eW,eA,eE,ex]at qe
    refine Az qe fun y s8 zz=>?_
    obtain⟨v8,H8,I8,r8,n8⟩:=zz
    obtain⟨m',hm,w8⟩:=hN _ _ n8
    obtain⟨b1,b2,b3,b4⟩:=back I8
    have hlen:=rv.length
    refine Jf F.slot_list_append ⟨_,b4,rfl⟩ F.entry_list_append (F.args_list_append_2 _ _) (PySem.list_append s2.heap.objs.size its.toArray k y (by rw[Bc];lia)) ⟨b4,?_⟩
    have qL:=PySem.IsL.update b4 (fun xs=>xs.push y)
    have I8':A2 XX [] σ6 H8 s8:=I8.pins_of (fun _ z=>nomatch z)
    have I9:A2 XX [] σ6 H8 {s8 with heap:=s8.heap.update s2.heap.objs.size (Obj.mapSeq fun xs=>xs.push y),toks:=s8.toks}:=I8'.turned (it:=s2.heap.objs.size) (fun b o hb e=>(GC s8.heap _ (Ne.symm hb)).trans e) b3
     (by rw[eL];exact hDC) (.inr (by rw[es0];exact Af _)) (by
      rw[ecl];intro x c e z
      obtain⟨v,qc⟩:=I2.cell x c (h1 x c e)
      exact absurd qc.lt (by rw[z];exact F3 _)) (by
      intro p hp z
      have hp':p∈X.pn++pins:=by rw[epn]at hp;simpa using hp
      exact absurd (AG (I2.pin p hp').1) (by rw[z];exact F3 _))
    have hnd:s2.heap.objs.size∉fp:=fun z=>F3 _ (hfs _ z)
    rw[show its.toArray.push y=(its++[y]).toArray by simp]at qL
    refine⟨m',hm,i+1,ys++[v8],its++[y],_,H8,I9.weak hw6 ou2,T.keep _ _ _ b1 fun b hb o e=>(GC s8.heap _ (by rintro rfl;exact hnd hb)).trans e,b2,b3,rv.append (.cons r8 .nil),qL,w8⟩
 refine codeAny_compStart_list (loop _ ⟨_,rfl⟩) (T.self X.A 0 _ _ _ (T.keep _ _ _ st2 fun b _ o e=>old b o e) (loop _ ⟨_,rfl⟩))
theorem Wr {X:Cx}{elt iter tg:Expr}{ifs:List Expr}{scope:Scope}{pos:Pos}(N':List Str)(ρ:List (Option Nat)){wi:TI}{g:TG}{tt:TT}{te:TE}(hc:X.calm=true)(hi:PI X tg iter wi)(S:Iy scope X.env.scope)(hρ:Jq scope X.env X.N N' ρ)
  (hl:∀x,(x,NameKind.free)∈scope.names->scope.names.lookup x=some .free)
  (inner:∀(cl:List (Str×Addr)) (C:Addr) (s:Shared) (H:Hp) (fp:List Addr) (pins:List (Addr×Obj)),PG (CY X scope N' cl C s H fp pins) tg g/\Hd (CY X scope N' cl C s H fp pins) ifs tt/\PE (CY X scope N' cl C s H fp pins) elt te)
  (hs:∀x,foldedSetIterable iter X.env x=pure x:=by intro _;rfl):PE X (.ListComp elt [⟨tg,iter,ifs,0⟩] scope pos) (IB ρ wi g tt te):=by
 intro pins s σ H Q I h
 obtain⟨cl,hcl,h1,h2⟩:=Re (scope:=scope) (env:=X.env) (fun n hn=>I.ok.has n (S.free (n,.free) hn rfl))
 rw[eval_ListComp]
 refine wpAny_comprehension_free (use:=none) rfl hs hcl S.kind S.loc ?_
 refine Ra (RR:=fun acc C=>compPost (model X.prog X.w) X.A X.xe none (EP X pins σ Q) acc C) hc hi S hρ hl inner I h h1 h2 ?_
 intro D C s' H' m I' q hm hf
 refine⟨m,hm,fun h' sb=>⟨.ref D,H',?_,rfl,q⟩⟩
 exact I'.turned (t':=s'.toks) (fun b o hb e=>(sb.2 b hb).trans e) hf.1 hf.2.1 hf.2.2.2.1 hf.2.2.2.2.1 hf.2.2.2.2.2
theorem VA {X:Cx}{elt iter tg:Expr}{ifs:List Expr}{scope:Scope}{pos pos' spos:Pos}{i:Nat}{x:Str}(N':List Str)(ρ:List (Option Nat)){wi:TI}{g:TG}{tt:TT}{te:TE}(hN:X.N.Nodup)(hix:X.N[i]?=some x)(hx:HK X.env.scope x)
  (hc:X.calm=true) (hi:PI X tg iter wi) (S:Iy scope X.env.scope) (hρ:Jq scope X.env X.N N' ρ)
  (hl:∀x,(x,NameKind.free)∈scope.names->scope.names.lookup x=some .free)
  (inner:∀(cl:List (Str×Addr)) (C:Addr) (s:Shared) (H:Hp) (fp:List Addr) (pins:List (Addr×Obj)),PG (CY X scope N' cl C s H fp pins) tg g/\Hd (CY X scope N' cl C s H fp pins) ifs tt/\PE (CY X scope N' cl C s H fp pins) elt te)
  (hsw:swapsWith (.ListComp elt [⟨tg,iter,ifs,0⟩] scope pos) (some (.Name x pos')) spos.line X.env=pure true:=by rfl)
  (hs:∀x,foldedSetIterable iter X.env x=pure x:=by intro _;rfl) (hf:X.fn x=true\/X.env.scope.names.lookup x=some .local:=by first|exact .inl rfl|exact .inr rfl|assumption) :
  PS X (.Assign [.Name x pos'] (.ListComp elt [⟨tg,iter,ifs,0⟩] scope pos) spos) (Ip (IB ρ wi g tt te) (Am i)):=by
 intro pins s σ H Dn I h
 obtain⟨cl,hcl,h1,h2⟩:=Re (scope:=scope) (env:=X.env) (fun n hn=>I.ok.has n (S.free (n,.free) hn rfl))
 rw[exec_Assign_Name_used _ _ _ _ hsw]
 refine A9 (Ja (A9 ?_))
 show wpAny _ X.A (do let _ ←comprehension (.ListComp elt [⟨tg,iter,ifs,0⟩] scope pos) scope X.env _ (newList []) false (eval iter X.env) (some (assign (.Name x pos') X.env))) _ _ s
 refine A9 (CN (wpAny_comprehension_free (use:=some (assign (.Name x pos') X.env)) (Q:=fun _ s'=>SP X pins Dn .next s') rfl hs hcl S.kind S.loc ?_) (fun _ s' hq=>AA (AA hq)) fun _ _ e=>e)
 refine Ra (RR:=fun acc C=>compPost (model X.prog X.w) X.A X.xe (some (assign (.Name x pos') X.env)) (fun _ s'=>SP X pins Dn .next s') acc C) hc hi S hρ hl inner I h h1 h2 ?_
 intro D C s' H' m I' q hm hfC
 obtain⟨oC,es,ep,hoC,hr⟩:=id hm
 have pin:A2 X (pins++Ii [C] s'.heap) σ H' s':=I'.pinned (fun b hb=>by
  have e:b=C:=by simpa using hb
  subst e
  exact hfC) (fun b hb=>by
  have e:b=C:=by simpa using hb
  subst e
  exact⟨oC,hoC,fun v z=>by rw[hr.1]at z;cases z⟩)
 show wpAny _ X.A (assign (.Name x pos') X.env (.ref D)) _ _ _
 refine wpAny_assign_Name ?_
 refine Nc (M:=model X.prog X.w) (A:=X.A) (E:=X.xe) pin hN hix hx (v:=.ref D) (u:=.ref D) rfl (fun s'' I''=>?_) hf
 have pC:=(I''.pin (C,oC) (CD _ (CD _ (Jr (by simp) hoC))))
 refine⟨m,⟨oC,es,ep,pC.1,hr⟩,fun h' sb=>⟨_,H',?_,q⟩⟩
 have I2:A2 X pins (σ.set i (some (.ref D))) H' s'':=I''.unpinned
 exact I2.turned (t':=s''.toks) (fun b o hb e=>(sb.2 b hb).trans e) hfC.1 hfC.2.1 hfC.2.2.2.1 hfC.2.2.2.2.1 hfC.2.2.2.2.2
theorem Kh (σ:St)(o:Option Nat)(ρ:List (Option Nat)):C4 (o::ρ) σ=(match o with|some i=>(σ[i]?).getD none|none=>none)::C4 ρ σ:=rfl
theorem YE {ρ:List (Option Nat)}{σ:St}(o:Option V):Jm (none::ρ) σ (o::C4 ρ σ):=by
 refine⟨by unfold C4;simp,fun j v e=>?_⟩
 cases j with
 |zero=>rw[Kh]at e;simp at e
 |succ j=>rw[Kh]at e;simpa using e
theorem N2 {J:It}{n:Nat}{X:Nat->V->Prop}{ρ:List (Option Nat)}{tt:TT}{te:TE}{σ:St}{H:Hp}{Q:VK}(Pv:Nat->List V->Hp->Prop)(h0:Pv 0 [] H)(hlen:n<=sizeLine)
  (hy:∀i ys H,i<=n->Pv i ys H->ys.length<=i) (hgo:∀i ys H,i<n->Pv i ys H->J.go i H) (hyl:∀i ys H x H',i<n->Pv i ys H->J.yld i H x H'->H'=H/\X i x) (hst:∀ys H,Pv n ys H->J.stop n H)
  (hs:∀i x ys H,i<n->X i x->Pv i ys H->tt (some x::C4 ρ σ) H fun ok H4=>if ok=true then te (some x::C4 ρ σ) H4 fun v H5=>Pv (i+1) (ys++[v]) H5 else Pv (i+1) ys H4)
  (hd:∀ys H,Pv n ys H->∀p,H p=none->Q (.ref p) (upd H p (.lst ys))) :
  GW (none::ρ) (Am 0) tt te σ Q J H:=by
 refine⟨fun i m ys H=>m=n-i/\i<=n/\Pv i ys H,⟨n,by simp,Bj _,h0⟩,?_⟩
 rintro i m ys H ⟨rfl,hi,p⟩
 have hl:=hy i ys H hi p
 by_cases hlt:i<n
 .refine .inr ⟨hgo i ys H hlt p,by lia,Pv (i+1),fun ys' H'' p'=>⟨n-(i+1),by lia,rfl,hlt,p'⟩,fun x H' y=>?_⟩
  obtain⟨e,y2⟩:=hyl i ys H x H' hlt p y
  subst e
  exact⟨YE _,hs i x ys _ hlt y2 p⟩
 .have e:i=n:=by lia
  subst e
  exact .inl ⟨hst ys H p,by lia,hd ys H p⟩
theorem Vi {K:Faa}{a:Addr}{xs:List V}{ρ:List (Option Nat)}{tt:TT}{te:TE}{σ:St}{H:Hp}{Q:VK}(Pv:Nat->List V->Hp->Prop)(h0:Pv 0 [] H)(hlen:xs.length<=sizeLine)(hl:∀i ys H,i<=xs.length->Pv i ys H->A5 K H a xs/\ys.length<=i)
  (hs:∀i x ys H,xs[i]?=some x->Pv i ys H->tt (some x::C4 ρ σ) H fun ok H4=>if ok=true then te (some x::C4 ρ σ) H4 fun v H5=>Pv (i+1) (ys++[v]) H5 else Pv (i+1) ys H4)
  (hd:∀ys H,Pv xs.length ys H->∀p,H p=none->Q (.ref p) (upd H p (.lst ys))) :
  GW (none::ρ) (Am 0) tt te σ Q (NH K a) H:=
 N2 (n:=xs.length) (X:=fun i x=>xs[i]?=some x) Pv h0 hlen (fun i ys H hi p=>(hl i ys H hi p).2) (fun i ys H hi p=>⟨xs,xs[i],(hl i ys H (Fu hi) p).1,by simp[hi]⟩) (fun i ys H x H' hi p y=>⟨y.1,y.2 xs (hl i ys H (Fu hi) p).1⟩)
  (fun ys H p=>⟨xs,(hl _ ys H (Af _) p).1,Af _⟩) (fun i x ys H _ e p=>hs i x ys H e p) hd
theorem FM {K:Faa}{a:Addr}{xs:List V}{ρ:List (Option Nat)}{tt:TT}{te:TE}{σ:St}{H:Hp}{Q:VK}(Pv:Nat->List V->Hp->Prop)(h0:Pv 0 [] H)(hlen:xs.length<=sizeLine)(hl:∀i ys H,i<=xs.length->Pv i ys H->A4 K H a xs/\ys.length<=i)
  (hs:∀i x ys H,xs[i]?=some x->Pv i ys H->tt (some x::C4 ρ σ) H fun ok H4=>if ok=true then te (some x::C4 ρ σ) H4 fun v H5=>Pv (i+1) (ys++[v]) H5 else Pv (i+1) ys H4)
  (hd:∀ys H,Pv xs.length ys H->∀p,H p=none->Q (.ref p) (upd H p (.lst ys))) :
  GW (none::ρ) (Am 0) tt te σ Q (Hi K a) H:=
 N2 (n:=xs.length) (X:=fun i x=>xs[i]?=some x) Pv h0 hlen (fun i ys H hi p=>(hl i ys H hi p).2) (fun i ys H hi p=>⟨xs,xs[i],(hl i ys H (Fu hi) p).1,by simp[hi]⟩) (fun i ys H x H' hi p y=>⟨y.1,y.2 xs (hl i ys H (Fu hi) p).1⟩)
  (fun ys H p=>⟨xs,(hl _ ys H (Af _) p).1,Af _⟩) (fun i x ys H _ e p=>hs i x ys H e p) hd
theorem PQ {lo:Int}{n:Nat}{ρ:List (Option Nat)}{tt:TT}{te:TE}{σ:St}{H:Hp}{Q:VK}(Pv:Nat->List V->Hp->Prop)(h0:Pv 0 [] H)(hlen:n<=sizeLine)(hl:∀i ys H,i<=n->Pv i ys H->ys.length<=i)
  (hs:∀i ys H,i<n->Pv i ys H->tt (some (.int (lo+i))::C4 ρ σ) H fun ok H4=>if ok=true then te (some (.int (lo+i))::C4 ρ σ) H4 fun v H5=>Pv (i+1) (ys++[v]) H5 else Pv (i+1) ys H4)
  (hd:∀ys H,Pv n ys H->∀p,H p=none->Q (.ref p) (upd H p (.lst ys))) :
  GW (none::ρ) (Am 0) tt te σ Q (Gj lo n) H:=
 N2 (n:=n) (X:=fun i x=>x = .int (lo+i)) Pv h0 hlen hl (fun i ys H hi p=>hi) (fun i ys H x H' hi p y=>y) (fun ys H p=>Af _) (fun i x ys H hi e p=>by subst e;exact hs i ys H hi p) hd
abbrev F6 (x:Str):List Nat:=x.cps.toList
theorem KU (x:Str):(F6 x).length=x.length:=by simp[F6,Str.length]
theorem WA (x y:Str):F6 (x++y)=F6 x++F6 y:=by simp[F6,Str.cps_append]
noncomputable def HN {α:Type}(xs:List α)(lo hi:Option Int):List α:=(xs.drop (HT.sIx xs.length 0 lo)).take (HT.sIx xs.length xs.length hi-HT.sIx xs.length 0 lo)
section
variable {X:Cx}
def Wi:R2:=fun x y H Q=>∃z n,x = .str z/\y = .int n/\-(2 ^ 63:Int)<=n/\n<=4096/\z.length<=4096/\Q (.str (Txt.mul z n)) H
theorem YQ:BC X (binaryOp .Mult) Wi:=by
 intro pins s σ H x y v u Q I rx ry h
 obtain⟨z,n,rfl,rfl,h1,h2,h3,q⟩:=h
 obtain⟨t,rfl⟩:=rx
 obtain⟨t',rfl⟩:=ry
 exact SB.mul (mulOk_of 4096 4096 h3 h2 h1 (by decide) (by decide)) fun t' k=>⟨.str _,H,I.tok _,⟨_,rfl⟩,q⟩
theorem U8 (c:Nat)(n:Int):F6 (Txt.mul ⟨#[c]⟩ n)=List.replicate n.toNat c:=mul_one_list c n
end
section
variable {X:Cx}
noncomputable def YY:V->Option Value
 |.ty n=>some (.type n)
 |.ref a=>some (.ref a)
 |_=>none
theorem Uj:DX X (.builtin "isinstance") (fun xs H Q=>∃x c t cv b,xs=[x,c]/\YY c=some cv/\Eo X.K H x t/\PySem.W.kitOne X.K t cv=some b/\Q (.bl b) H):=by
 intro pins s σ H xs us Q I r h
 obtain⟨x,c,t,cv,b,rfl,rc,ty,e,q⟩:=h
 obtain⟨u,w',rfl,rx,rw'⟩:=r.two
 have:w'=cv:=by
  cases c with
  |ref a=>cases rc;exact rw'
  |ty a=>cases rc;exact rw'
  |_=>cases rc
 subst this
 exact XJ I rx ty e fun tk=>⟨.bl b,H,I.tok _,rfl,q⟩
end
noncomputable def D8 (sc out:Scope)(N N':List Str)(ρ:List (Option Nat)):Bool:=
 decide (sc.kind = .function)&&sc.names.all (fun y=>decide (y.2≠.cell))&&sc.names.all (fun y=>decide (y.2 = .local->sc.names.lookup y.1=some .local)) &&
 sc.names.all (fun y=>decide (y.2 = .free->sc.names.lookup y.1=some .free/\(out.names.lookup y.1=some .cell\/out.names.lookup y.1=some .free))) &&
 decide (ρ.length=N'.length)&&decide N'.Nodup &&
 (ρ.zip N').all (fun p=>match p.1 with|none=>true|some i=>decide (N[i]?=some p.2)&&decide (out.names.lookup p.2=some .local\/out.names.lookup p.2=some .cell\/out.names.lookup p.2=some .free)&&sc.names.any (fun y=>decide (y=(p.2,NameKind.free))))
structure YX (sc:Scope)(env:Env)(N N':List Str)(ρ:List (Option Nat)):Prop where
 S:Iy sc env.scope
 sl:Jq sc env N N' ρ
 hl:∀x,(x,NameKind.free)∈sc.names->sc.names.lookup x=some .free
 nd:N'.Nodup
theorem Pk {sc:Scope}{env:Env}{N N':List Str}{ρ:List (Option Nat)}(h:D8 sc env.scope N N' ρ=true):YX sc env N N' ρ:=by
 unfold D8 at h
 simp only[EJ,Sd,RN]at h
 obtain⟨⟨⟨⟨⟨⟨h1,h2⟩,h3⟩,h4⟩,h5⟩,h6⟩,h7⟩:=h
 refine⟨⟨h1,h2,h3,fun y hy e=>(h4 y hy e).2⟩,⟨h5,fun j i x e1 e2=>?_⟩,fun x hx=>(h4 _ hx rfl).1,h6⟩
 have hm:(some i,x)∈ρ.zip N':=by
  refine AH (i:=j) ?_
  rw[List.getElem?_zip_eq_some]
  exact⟨e1,e2⟩
 have q:=h7 _ hm
 simp only[EJ,Sd,RO]at q
 obtain⟨⟨q1,q2⟩,y,hy,e⟩:=q
 exact⟨q1,q2,e▸hy⟩
theorem Et {X:Cx}{elt iter tg:Expr}{ifs:List Expr}{scope:Scope}{pos:Pos}(N':List Str)(ρ:List (Option Nat)){wi:TI}{g:TG}{tt:TT}{te:TE}(hc:X.calm=true)(hi:PI X tg iter wi)(h:D8 scope X.env.scope X.N N' ρ=true)
  (inner:∀(cl:List (Str×Addr)) (C:Addr) (s:Shared) (H:Hp) (fp:List Addr) (pins:List (Addr×Obj)),PG (CY X scope N' cl C s H fp pins) tg g/\Hd (CY X scope N' cl C s H fp pins) ifs tt/\PE (CY X scope N' cl C s H fp pins) elt te)
  (hs:∀x,foldedSetIterable iter X.env x=pure x:=by intro _;rfl):PE X (.ListComp elt [⟨tg,iter,ifs,0⟩] scope pos) (IB ρ wi g tt te):=
 have F:=Pk h
 Wr N' ρ hc hi F.S F.sl F.hl inner hs
theorem PX {X:Cx}{elt iter tg:Expr}{ifs:List Expr}{scope:Scope}{pos pos' spos:Pos}{i:Nat}{x:Str}(N':List Str)(ρ:List (Option Nat)){wi:TI}{g:TG}{tt:TT}{te:TE}(hN:X.N.Nodup)(hix:X.N[i]?=some x)(hx:HK X.env.scope x)
  (hc:X.calm=true) (hi:PI X tg iter wi) (h:D8 scope X.env.scope X.N N' ρ=true)
  (inner:∀(cl:List (Str×Addr)) (C:Addr) (s:Shared) (H:Hp) (fp:List Addr) (pins:List (Addr×Obj)),PG (CY X scope N' cl C s H fp pins) tg g/\Hd (CY X scope N' cl C s H fp pins) ifs tt/\PE (CY X scope N' cl C s H fp pins) elt te)
  (hsw:swapsWith (.ListComp elt [⟨tg,iter,ifs,0⟩] scope pos) (some (.Name x pos')) spos.line X.env=pure true:=by rfl)
  (hs:∀x,foldedSetIterable iter X.env x=pure x:=by intro _;rfl) (hf:X.fn x=true\/X.env.scope.names.lookup x=some .local:=by first|exact .inl rfl|exact .inr rfl|assumption) :
  PS X (.Assign [.Name x pos'] (.ListComp elt [⟨tg,iter,ifs,0⟩] scope pos) spos) (Ip (IB ρ wi g tt te) (Am i)):=
 have F:=Pk h
 VA N' ρ hN hix hx hc hi F.S F.sl F.hl inner hsw hs hf
def NG (K:Faa):Sp:=fun vs H Q _=>∃(a:Addr) (ns:List Int),vs=[.ref a]/\A4 K H a (ns.map V.int)/\ns.length<=63/\Ly H/\∀H',Q (.bl true) H'
theorem law_walk {l:PySem.W.OpenLaw}{q:Program}{loose:List Str}{XP:(Str->Option Value)->Heap->Prop}{YP:World->Heap->Prop}{d:DefRec}{K:Params->Faa}{x:Str}(k:Nat)(hk:k<=200)(hn:l.most=some 63)(hdf:d.params.defaults=[])
  (hY:∀(w:World) (h:Heap),YP w h->(K w.params).In h)
  (F:∀(w:World) (mg:Str->Option Value) (fa:Addr) (h:Heap),(K w.params).In h->h.Ns mainGlobals mg->mg d.name=some (.ref fa)->
   ∃fd:FuncData,(∀(s:Shared) (u:Value),BindsTo s fd ⟨[u],[]⟩ [(x,u)])/\∀base:Heap,(K w.params).In base->base.Ns mainGlobals mg->AS l.prog w (K w.params) mg base B9 k fa fd [x] (NG (K w.params))) :
  PySem.W.WalkO q loose XP YP l.row.toRowW d [] (fun f vs=>PySem.call f vs):=
 L2.walk_of (n:=63) (k:=k) (x:=x) (CX:=fun _=>B9) (sp:=fun w=>NG (K w.params)) hn (by decide) hdf
  ⟨rfl,by
    have:callerA.depth+605<recursionLimit:=by decide
    lia,by
     have:callerA.units+3400<cLine:=by decide
     lia,rfl⟩ hY F (fun _ H a ns hl hO hS=>⟨a,ns,rfl,hS,hl,hO,fun _=>rfl⟩) fun _ _ _ _ _ z=>z
noncomputable def E4 (l:List (Str×NameKind)):Scope:={kind:=.function,names:=l,isGenerator:=false,isCoroutine:=false,more:=[]}
theorem BJ:bootBuiltins "len"=some (.builtin "len"):=by decide +kernel
theorem Yq:bootBuiltins "isinstance"=some (.builtin "isinstance"):=by decide +kernel
theorem GO:bootBuiltins "min"=some (.builtin "min"):=by decide +kernel
theorem Ym:bootBuiltins "max"=some (.builtin "max"):=by decide +kernel
theorem Xg:bootBuiltins "sum"=some (.builtin "sum"):=by decide +kernel
theorem G8:bootBuiltins "int"=some (.type "int"):=by decide +kernel
theorem WS:bootBuiltins "bool"=some (.type "bool"):=by decide +kernel
theorem Pr:bootBuiltins "list"=some (.type "list"):=by decide +kernel
theorem IH:bootBuiltins "tuple"=some (.type "tuple"):=by decide +kernel
theorem SL:bootBuiltins "dict"=some (.type "dict"):=by decide +kernel
theorem Bu {n:Nat}(h:n<=1000000):n<=sizeLine:=by rw[Hz];lia
theorem An {n:Nat}(h:Nat.ble n 1000000=true):n<=sizeLine:=Bu (Nat.le_of_ble_eq_true h)
theorem CT {n:Nat}(h:n<1000000):n<sizeLine:=by rw[Hz];lia
theorem Ac {H:Hp}{p:Addr}(h:H p=none)(o:HO):Aa H (upd H p o):=fun b u q=>by rw[Ai (AQ q h)];exact q
theorem dT {p:Prop}[Decidable p](h:decide p=true):p:=HJ h
theorem dF {p:Prop}[Decidable p](h:¬decide p=true):¬p:=fun z=>h (Bw z)
theorem Ho {ns:List Int}{k:Int}(h0:0<=k)(h:k<(ns.length:Int)):B5 (ns.map V.int) k=some (.int (ns.getD k.toNat 0)):=by
 have hk:k.toNat<ns.length:=by lia
 have ek:k=((k.toNat:Nat):Int):=by lia
 have q:B5 (ns.map V.int) ((k.toNat:Nat):Int)=some (.int (ns.getD k.toNat 0)):=Br (by rw[Bq,As hk];simp[Bv,hk])
 rw[←ek]at q
 exact q
theorem DI {α:Type}{l:List α}{i:Nat}{c:α}(h:l[i]?=some c):l.take (i+1)=l.take i++[c]:=by
 rw[List.take_succ,h];rfl
theorem E8 {t u:TS}{D:CC}{σ:St}{H:Hp}(M:St->Hp->Prop)(hu:∀σ' H',M σ' H'->u D σ' H')(ht:(∀σ' H',M σ' H'->u D σ' H')->t {D with nx:=u D} σ H):GM t u D σ H:=ht hu
theorem Iv {p:Prop}[Decidable p](h:p):(!decide p)=false:=by rw[Bw h];rfl
theorem K6 {p:Prop}[Decidable p](h:¬p):(!decide p)=true:=by rw[Bk h];rfl
theorem B8 {b:Bool}{A B:Prop}{v:Bool}(e:b=v)(h:if v=true then A else B):if b=true then A else B:=by rw[e];exact h
set_option genInjectivity true in
inductive Tr where
 |v (x:V)
 |lst (l:List Tr)
 |tup (l:List Tr)
mutual
inductive BE (K:Faa)(H:Hp):V->Tr->Prop
 |flat {x:V}:Eu x=true->BE K H x (.v x)
 |lst {p:Addr} {xs:List V} {l:List Tr}:A4 K H p xs->Cc K H xs l->BE K H (.ref p) (.lst l)
 |tup {p:Addr} {xs:List V} {l:List Tr}:A5 K H p xs->Cc K H xs l->BE K H (.ref p) (.tup l)
inductive Cc (K:Faa)(H:Hp):List V->List Tr->Prop
 |nil:Cc K H [] []
 |cons {x:V} {t:Tr} {xs:List V} {l:List Tr}:BE K H x t->Cc K H xs l->Cc K H (x::xs) (t::l)
end
mutual
noncomputable def BW:Tr->Tr->Bool
 |.v x,.v y=>DY x y
 |.lst l,.lst m=>BN l m
 |.tup l,.tup m=>BN l m
 |_,_=>false
noncomputable def BN:List Tr->List Tr->Bool
 |[],[]=>true
 |x::l,y::m=>BW x y&&BN l m
 |_,_=>false
end
mutual
noncomputable def Cf:Tr->Tr->Bool
 |.v _,.v _=>true
 |.lst l,.lst m=>Ft l m
 |.tup l,.tup m=>Ft l m
 |_,_=>false
noncomputable def Ft:List Tr->List Tr->Bool
 |x::l,y::m=>Cf x y&&Ft l m
 |_,_=>true
end
mutual
noncomputable def Ct:Tr->Nat
 |.v _=>0
 |.lst l=>CK l+1
 |.tup l=>CK l+1
noncomputable def CK:List Tr->Nat
 |[]=>0
 |x::l=>max (Ct x) (CK l)
end
theorem Qo {x:V}(h:Eu x=true):DY x x=true:=by
 cases x<;>first|rfl|(simp[DY];done)|(simp[Eu]at h)
mutual
noncomputable def FW:Tr->Bool
 |.v x=>Eu x
 |.lst l=>Ge l
 |.tup l=>Ge l
noncomputable def Ge:List Tr->Bool
 |[]=>true
 |x::l=>FW x&&Ge l
end
mutual
theorem ND:∀t:Tr,FW t=true->BW t t=true
 |.v x,h=>by rw[BW];exact Qo (by simpa[FW] using h)
 |.lst l,h=>by rw[BW];exact Nq l (by simpa[FW] using h)
 |.tup l,h=>by rw[BW];exact Nq l (by simpa[FW] using h)
theorem Nq:∀l:List Tr,Ge l=true->BN l l=true
 |[],_=>by rw[BN]
 |
  x::l,h=>by
  rw[Ge,EJ]at h
  rw[BN,ND x h.1,Nq l h.2];rfl
end
mutual
theorem BE.ok {K:Faa}{H:Hp}:∀{x:V} {t:Tr},BE K H x t->FW t=true
 |
  _,_,h=>by
  cases h with
  |flat h=>rw[FW];exact h
  |lst _ h=>rw[FW];exact h.ok
  |tup _ h=>rw[FW];exact h.ok
theorem Cc.ok {K:Faa}{H:Hp}:∀{xs:List V} {l:List Tr},Cc K H xs l->Ge l=true
 |
  _,_,h=>by
  cases h with
  |nil=>rw[Ge]
  |cons h r=>rw[Ge,h.ok,r.ok];rfl
end
theorem Cc.length {K:Faa}{H:Hp}:∀{xs:List V} {l:List Tr},Cc K H xs l->xs.length=l.length
 |
  _,_,h=>by
  cases h with
  |nil=>rfl
  |cons _ r=>simp[r.length]
theorem LS:∀{l m:List Tr},l.length≠m.length->BN l m=false
 |[],[],h=>absurd rfl h
 |[],_::_,_=>by rw[BN]<;>simp
 |_::_,[],_=>by rw[BN]<;>simp
 |
  x::l,y::m,h=>by
  rw[BN,LS (l:=l) (m:=m) (fun e=>h (by simp[e])),Oo]
section
variable {X:Cx}{pins:List (Addr×Obj)}{σ:St}{H:Hp}{s:Shared}
mutual
theorem BE.inj (I:A2 X pins σ H s):∀{t t':Tr} {x:V},BE X.K H x t->BE X.K H x t'->t=t'
 |
  _,_,_,h,h'=>by
  cases h with
  |
   flat h=>
   cases h' with
   |flat _=>rfl
   |lst _ _=>cases h
   |tup _ _=>cases h
  |
   lst hq hr=>
   cases h' with
   |flat h=>cases h
   |
    lst hq' hr'=>
    have e:=I.list_inj hq hq'
    subst e
    rw[Cc.inj I hr hr']
   |
    tup hq' hr'=>
    obtain⟨_,_,⟨o,n,e1,c1,_⟩,_⟩:=I.list hq
    obtain⟨_,_,⟨o',e2,c2,_⟩,_⟩:=I.tuple hq'
    rw[e1]at e2;cases e2
    rw[c1]at c2;simp at c2
  |
   tup hq hr=>
   cases h' with
   |flat h=>cases h
   |
    tup hq' hr'=>
    have e:=I.tuple_inj hq hq'
    subst e
    rw[Cc.inj I hr hr']
   |
    lst hq' hr'=>
    obtain⟨_,_,⟨o,n,e1,c1,_⟩,_⟩:=I.list hq'
    obtain⟨_,_,⟨o',e2,c2,_⟩,_⟩:=I.tuple hq
    rw[e1]at e2;cases e2
    rw[c1]at c2;simp at c2
theorem Cc.inj (I:A2 X pins σ H s):∀{l l':List Tr} {xs:List V},Cc X.K H xs l->Cc X.K H xs l'->l=l'
 |
  _,_,_,h,h'=>by
  cases h with
  |
   nil=>
   cases h'
   rfl
  |
   cons h r=>
   cases h' with
   |cons h2 r2=>rw[BE.inj I h h2,Cc.inj I r r2]
end
theorem Xr {α:Type}{e:Nat->Bool}{f:α->Bool}:∀{l:List α},(∀j x,l[j]?=some x->e j=f x)->(List.range l.length).all e=l.all f:=by
 intro l h
 rw[Kw]
 simp only[RN,G3]
 constructor
 .intro q x hx
  obtain⟨i,hi,hx⟩:=E5.mp hx
  rw[←h i x (by rw[As hi,hx])]
  exact q i hi
 .intro q i hi
  rw[h i l[i] (As hi)]
  exact q _ (Hu hi)
theorem QC:∀{l m:List Tr},l.length=m.length->BN l m=(l.zip m).all fun p=>BW p.1 p.2
 |[],[],_=>by rw[BN];rfl
 |[],_::_,h=>by simp at h
 |_::_,[],h=>by simp at h
 |
  x::l,y::m,h=>by
  rw[BN,QC (l:=l) (m:=m) (by simpa using h)]
  rfl
theorem Cc.at {K:Faa}{H:Hp}:∀{xs:List V} {l:List Tr} {j:Nat} {t:Tr},Cc K H xs l->l[j]?=some t->∃x,xs[j]?=some x/\BE K H x t
 |_,_,_,_,.nil,h=>by simp at h
 |_,_,0,_,.cons h _,e=>by simp at e;subst e;exact⟨_,rfl,h⟩
 |
  _,_,j+1,_,.cons _ r,e=>by
  obtain⟨x,h1,h2⟩:=r.at (j:=j) (by simpa using e)
  exact⟨x,by simpa using h1,h2⟩
theorem Ki:∀{l m:List Tr} {j:Nat} {t t':Tr},Ft l m=true->l[j]?=some t->m[j]?=some t'->Cf t t'=true
 |[],_,_,_,_,_,h,_=>by simp at h
 |_::_,[],_,_,_,_,_,h=>by simp at h
 |
  x::l,y::m,0,t,t',h,e1,e2=>by
  simp at e1 e2;subst e1 e2
  rw[Ft,EJ]at h;exact h.1
 |
  x::l,y::m,j+1,t,t',h,e1,e2=>by
  rw[Ft,EJ]at h
  exact Ki (j:=j) h.2 (by simpa using e1) (by simpa using e2)
theorem Jw:∀{l:List Tr} {j:Nat} {t:Tr},l[j]?=some t->Ct t<=CK l
 |[],_,_,h=>by simp at h
 |x::l,0,t,h=>by simp at h;subst h;rw[CK];lia
 |
  x::l,j+1,t,h=>by
  have:=Jw (l:=l) (j:=j) (t:=t) (by simpa using h)
  rw[CK];lia
theorem My {A:Around}{l m:List Tr}{xs ys:List V}{its jts:List Value}(hr:Cc X.K H xs l)(hr':Cc X.K H ys m)(rv:Aw xs its)(rv':Aw ys jts)
  (ih:∀(j:Nat) (t t':Tr) (x y:V) (u v:Value),l[j]?=some t->m[j]?=some t'->BE X.K H x t->AE x u->BE X.K H y t'->AE y v->SeqAt.EqAt A.in1 s u v (BW t t')) :
  ∀j (h1:j<its.toArray.size) (h2:j<jts.toArray.size),SeqAt.EqAt A.in1 s its.toArray[j] jts.toArray[j] (match l[j]?,m[j]? with|some t,some t'=>BW t t'|_,_=>true):=by
 intro j h1 h2
 have l1:=hr.length;have l2:=hr'.length;have l3:=rv.length;have l4:=rv'.length
 rw[Bc]at h1 h2
 obtain⟨t,ht⟩:∃t,l[j]?=some t:=⟨l[j]'(by lia),As (by lia)⟩
 obtain⟨t',ht'⟩:∃t',m[j]?=some t':=⟨m[j]'(by lia),As (by lia)⟩
 obtain⟨x,hx,hxt⟩:=hr.at ht
 obtain⟨y,hy,hyt⟩:=hr'.at ht'
 obtain⟨u,hu,ru⟩:=rv.get hx
 obtain⟨v,hv,rw'⟩:=rv'.get hy
 rw[ht,ht']
 have e1:its.toArray[j]=u:=by
  have:=As (l:=its) (i:=j) h1
  rw[hu]at this
  simpa using(Ck this).symm
 have e2:jts.toArray[j]=v:=by
  have:=As (l:=jts) (i:=j) h2
  rw[hv]at this
  simpa using(Ck this).symm
 rw[e1,e2]
 exact ih j t t' x y u v ht ht' hxt ru hyt rw'
theorem Ph {l m:List Tr}(h:l.length=m.length):(List.range l.length).all (fun j=>match l[j]?,m[j]? with|some t,some t'=>BW t t'|_,_=>true)=BN l m:=by
 rw[QC h]
 have e:l.length=(l.zip m).length:=by rw[List.length_zip];lia
 rw[e]
 refine Xr fun j p hp=>?_
 obtain⟨h1,h2⟩:=List.getElem?_zip_eq_some.mp hp
 rw[h1,h2]
theorem Qu {A:Around}{p q:Addr}{xs ys:List V}{l m:List Tr}(I:A2 X pins σ H s)(hu:A.units<cLine)(hq:A4 X.K H p xs)(hr:Cc X.K H xs l)(hq':A4 X.K H q ys)(hr':Cc X.K H ys m)
  (ih:∀(j:Nat) (t t':Tr) (x y:V) (u v:Value),l[j]?=some t->m[j]?=some t'->BE X.K H x t->AE x u->BE X.K H y t'->AE y v->SeqAt.EqAt A.in1 s u v (BW t t')) :
  SeqAt.RcAt A s (.ref p) (.ref q) (BN l m)/\SeqAt.RcNeAt A s (.ref p) (.ref q) (!BN l m):=by
 obtain⟨its,rv,pl,_⟩:=I.list hq
 obtain⟨jts,rv',pl',_⟩:=I.list hq'
 have l1:=hr.length;have l2:=hr'.length;have l3:=rv.length;have l4:=rv'.length
 by_cases hl:l.length=m.length
 .have e:its.toArray.size=l.length:=by rw[Bc];lia
  have a:=SeqAt.RcAt.lists (A:=A) pl.isList pl'.isList (by rw[Bc,Bc];lia) hu (My hr hr' rv rv' ih)
  have b:=SeqAt.RcNeAt.lists (A:=A) pl.isList pl'.isList (by rw[Bc,Bc];lia) hu (My hr hr' rv rv' ih)
  rw[e,Ph hl]at a b
  exact⟨a,b⟩
 .rw[LS hl]
  have hne:(its.toArray.size != jts.toArray.size)=true:=by
   rw[Bc,Bc]
   simp only[bne_iff_ne,ne_eq];lia
  exact⟨SeqAt.RcAt.lists_lengths pl.isList pl'.isList hne hu,SeqAt.RcNeAt.lists_lengths pl.isList pl'.isList hne hu⟩
theorem OO {A:Around}{p q:Addr}{xs ys:List V}{l m:List Tr}(I:A2 X pins σ H s)(hu:A.units<cLine)(hq:A5 X.K H p xs)(hr:Cc X.K H xs l)(hq':A5 X.K H q ys)(hr':Cc X.K H ys m)
  (ih:∀(j:Nat) (t t':Tr) (x y:V) (u v:Value),l[j]?=some t->m[j]?=some t'->BE X.K H x t->AE x u->BE X.K H y t'->AE y v->SeqAt.EqAt A.in1 s u v (BW t t')) :
  SeqAt.RcAt A s (.ref p) (.ref q) (BN l m)/\SeqAt.RcNeAt A s (.ref p) (.ref q) (!BN l m):=by
 obtain⟨its,rv,pl,_⟩:=I.tuple hq
 obtain⟨jts,rv',pl',_⟩:=I.tuple hq'
 have l1:=hr.length;have l2:=hr'.length;have l3:=rv.length;have l4:=rv'.length
 have a:=SeqAt.RcAt.tuples (A:=A) (show s.heap.IsTuple p its.toArray from pl) (show s.heap.IsTuple q jts.toArray from pl') hu (My hr hr' rv rv' ih)
 have b:=SeqAt.RcNeAt.tuples (A:=A) (show s.heap.IsTuple p its.toArray from pl) (show s.heap.IsTuple q jts.toArray from pl') hu (My hr hr' rv rv' ih)
 have e:((List.range (min its.toArray.size jts.toArray.size)).all (fun j=>match l[j]?,m[j]? with|some t,some t'=>BW t t'|_,_=>true)&&its.toArray.size==jts.toArray.size)=BN l m:=by
  by_cases hl:l.length=m.length
  .have e1:min its.toArray.size jts.toArray.size=l.length:=by rw[Bc,Bc];lia
   have e2:(its.toArray.size==jts.toArray.size)=true:=by rw[Bc,Bc];simp;lia
   rw[e1,e2,Ph hl,Bool.and_true]
  .have e2:(its.toArray.size==jts.toArray.size)=false:=by rw[Bc,Bc];simp;lia
   rw[e2,LS hl,Oo]
 rw[e]at a b
 exact⟨a,b⟩
theorem Nk (I:A2 X pins σ H s)(n:Nat):∀(A:Around) (t t':Tr) (x y:V) (u v:Value),Ct t<=n->A.units+n<cLine->Cf t t'=true->BE X.K H x t->AE x u->BE X.K H y t'->AE y v->SeqAt.EqAt A s u v (BW t t'):=by
 induction n with
 |
  zero=>
  intro A t t' x y u v hd hu hs hx rx hy ry
  cases hx with
  |
   flat fx=>
   cases hy with
   |flat fy=>rw[BW];exact N3 rx ry fx fy
   |lst _ _=>simp[Cf]at hs
   |tup _ _=>simp[Cf]at hs
  |lst _ _=>simp[Ct]at hd
  |tup _ _=>simp[Ct]at hd
 |
  succ n ih=>
  intro A t t' x y u v hd hu hs hx rx hy ry
  cases hx with
  |
   flat fx=>
   cases hy with
   |flat fy=>rw[BW];exact N3 rx ry fx fy
   |lst _ _=>simp[Cf]at hs
   |tup _ _=>simp[Cf]at hs
  |
   @lst p xs l hq hr=>
   cases hy with
   |flat fy=>simp[Cf]at hs
   |tup _ _=>simp[Cf]at hs
   |
    @lst q ys m hq' hr'=>
    cases rx;cases ry
    rw[Ct]at hd
    rw[Cf]at hs
    by_cases e:p=q
    .subst e
     have e1:=BE.inj I (BE.lst hq hr) (BE.lst hq' hr')
     rw[←e1,ND _ (BE.lst hq hr).ok]
     exact SeqAt.EqAt.same _
    .rw[BW]
     refine SeqAt.EqAt.of_refs e (Qu I (by lia) hq hr hq' hr' fun j t t' x y u v h1 h2 h3 h4 h5 h6=>?_).1
     exact ih A.in1 t t' x y u v (by have:=Jw h1;lia) (by show A.units+1+n<cLine;lia) (Ki hs h1 h2) h3 h4 h5 h6
  |
   @tup p xs l hq hr=>
   cases hy with
   |flat fy=>simp[Cf]at hs
   |lst _ _=>simp[Cf]at hs
   |
    @tup q ys m hq' hr'=>
    cases rx;cases ry
    rw[Ct]at hd
    rw[Cf]at hs
    by_cases e:p=q
    .subst e
     have e1:=BE.inj I (BE.tup hq hr) (BE.tup hq' hr')
     rw[←e1,ND _ (BE.tup hq hr).ok]
     exact SeqAt.EqAt.same _
    .rw[BW]
     refine SeqAt.EqAt.of_refs e (OO I (by lia) hq hr hq' hr' fun j t t' x y u v h1 h2 h3 h4 h5 h6=>?_).1
     exact ih A.in1 t t' x y u v (by have:=Jw h1;lia) (by show A.units+1+n<cLine;lia) (Ki hs h1 h2) h3 h4 h5 h6
end
section
variable {X:Cx}
def Na (K:Faa)(neg:Bool):R2:=fun x y H Q=>∃t t',BE K H x t/\BE K H y t'/\(∃p,x = .ref p)/\(∃p,y = .ref p)/\Cf t t'=true/\Ct t<=60/\Q (.bl (if neg then !BW t t' else BW t t')) H
theorem QP {neg:Bool}(hu:X.A.units+64<cLine):BC X (compareOp (if neg then .NotEq else .Eq)) (Na X.K neg):=by
 intro pins s σ H x y v u Q I rx ry h
 obtain⟨t,t',hx,hy,⟨p,rfl⟩,⟨q,rfl⟩,hs,hd,q'⟩:=h
 cases rx;cases ry
 have done:∀l m,SeqAt.RcAt X.A s (.ref p) (.ref q) (BN l m)/\SeqAt.RcNeAt X.A s (.ref p) (.ref q) (!BN l m)->Q (.bl (if neg then !BN l m else BN l m)) H->
   wpAny (model X.prog X.w) X.A (compareOp (if neg then .NotEq else .Eq) (.ref p) (.ref q)) (EP X pins σ Q) X.xe s:=fun l m hb hq=>by
  cases neg with
  |false=>exact hb.1 X.prog X.w X.xe _ ⟨.bl _,H,I,rfl,hq⟩
  |true=>exact hb.2 X.prog X.w X.xe _ ⟨.bl _,H,I,rfl,hq⟩
 cases hx with
 |flat fx=>cases fx
 |
  @lst _ xs l hq hr=>
  cases hy with
  |flat fy=>cases fy
  |tup _ _=>simp[Cf]at hs
  |
   @lst _ ys m hq' hr'=>
   rw[Ct]at hd
   rw[Cf]at hs
   rw[BW]at q'
   refine done l m (Qu I (by lia) hq hr hq' hr' fun j t t' x y u v h1 h2 h3 h4 h5 h6=>?_) q'
   exact Nk I 60 X.A.in1 t t' x y u v (by have:=Jw h1;lia) (by show X.A.units+1+60<cLine;lia) (Ki hs h1 h2) h3 h4 h5 h6
 |
  @tup _ xs l hq hr=>
  cases hy with
  |flat fy=>cases fy
  |lst _ _=>simp[Cf]at hs
  |
   @tup _ ys m hq' hr'=>
   rw[Ct]at hd
   rw[Cf]at hs
   rw[BW]at q'
   refine done l m (OO I (by lia) hq hr hq' hr' fun j t t' x y u v h1 h2 h3 h4 h5 h6=>?_) q'
   exact Nk I 60 X.A.in1 t t' x y u v (by have:=Jw h1;lia) (by show X.A.units+1+60<cLine;lia) (Ki hs h1 h2) h3 h4 h5 h6
theorem JK (hu:X.A.units+64<cLine):BC X (compareOp .Eq) (Na X.K false):=QP (neg:=false) hu
theorem Tj (hu:X.A.units+64<cLine):BC X (compareOp .NotEq) (Na X.K true):=QP (neg:=true) hu
theorem FE {A:Around}{k:Nat}(hr:C9 k A):A.units+64<cLine:=by have:=hr.un;lia
end
section
variable {X:Cx}
end
abbrev FS:Str:="abcdefghijklmnopqrstuvwxyz"
theorem bj:F6 FS=(List.range 26).map (97 + ·):=by decide +kernel
noncomputable def IJ (x:Int):Nat:=97+(x%26).toNat
theorem QJ (x:Int):B5 (F6 FS) (x%26)=some (IJ x):=by
 have h0:=Dr x (show(26:Int)≠0 by decide)
 have h1:=Dt x (show(0:Int)<26 by decide)
 have e:x%26=(((x%26).toNat:Nat):Int):=by lia
 rw[e]
 refine Br ?_
 rw[bj,Bq,DP (by lia)]
 rfl
theorem ON:FS.length<=sizeLine:=Bu (by decide +kernel)
theorem Hj {α:Type}(l:List α){k:Int}(h:0<=k):HN l none (some k)=l.take k.toNat:=by
 unfold HN
 have e:k=((k.toNat:Nat):Int):=by lia
 rw[HT.sIx_none,e,HT.sIx_nat,KA,Oq]
 rw[show(((k.toNat:Nat):Int)).toNat=k.toNat by lia]
 by_cases h:k.toNat<=l.length
 .rw[G5 h]
 .rw[Nat.min_eq_right (by lia),Du (by lia),Du (by lia)]
theorem Y7 {α:Type}(l:List α){i j:Int}(hi:0<=i)(hj:0<=j)(hl:j<=(l.length:Int))(hij:i<=j):HN l (some i) (some j)=(l.drop i.toNat).take (j.toNat-i.toNat):=by
 unfold HN
 have e1:i=((i.toNat:Nat):Int):=by lia
 have e2:j=((j.toNat:Nat):Int):=by lia
 rw[e1,e2,HT.sIx_nat,HT.sIx_nat]
 rw[show(((i.toNat:Nat):Int)).toNat=i.toNat by lia,show(((j.toNat:Nat):Int)).toNat=j.toNat by lia,G5 (by lia),G5 (by lia)]
theorem Nv {α:Type}(l:List α){i:Int}(hi:0<=i):HN l (some i) none=l.drop i.toNat:=by
 unfold HN
 have e1:i=((i.toNat:Nat):Int):=by lia
 rw[e1,HT.sIx_nat,HT.sIx_none,show(((i.toNat:Nat):Int)).toNat=i.toNat by lia]
 by_cases h:i.toNat<=l.length
 .rw[G5 h,Du (by rw[Fx];lia)]
 .rw[Nat.min_eq_right (by lia),Cn,List.take_zero,MN (by lia)]
def SO (C:Addr):Sp:=fun vs H Q _=>∃(x dx:Addr) (n:V),vs=[.ref x,n]/\H x=some (.ins C dx [])/\∀H',(∀b o,H b=some o->b≠x->H' b=some o)->(∃dx,H' x=some (.ins C dx [("n",n)]))->Q .non H'
def aq (C:Addr):Sp:=fun vs H Q _=>∃(x dx:Addr) (v1 v2 v3 v4 v5 v6 v7:V),vs=[.ref x,v1,v2,v3,v4,v5,v6,v7]/\H x=some (.ins C dx [])/\∀H',(∀b o,H b=some o->b≠x->H' b=some o)->(∃dx,H' x=some (.ins C dx [("names",v1),("lows",v2),("highs",v3),("table",v4),("spots",v5),("term",v6),("path",v7)]))->Q .non H'
def SZ:Sp:=fun vs H Q _=>∃(p1 p2:Addr) (xs ys:List Int) (m k:Nat),vs=[.ref p1,.ref p2,.int (m:Int)]/\H p1=some (.tup (xs.map V.int))/\H p2=some (.tup (ys.map V.int))/\m<=xs.length/\m<=ys.length/\m<=1000/\k<=m/\(∀e<k,xs.getD e 0=ys.getD e 0)/\(k<m->xs.getD k 0≠ys.getD k 0)/\Q (.int (k:Int)) H
theorem Ik {α:Type}[DecidableEq α]:∀{l k:List α},l.Nodup->(∀x∈l,x∈k)->l.length<=k.length
 |[],_,_,_=>Bj _
 |
  a::l,k,hn,hs=>by
  have ha:=hs a Cz
  have h2:=GA.mp hn
  have:=Ik (l:=l) (k:=k.erase a) h2.2 fun x hx=>(List.mem_erase_of_ne (show x≠a from fun e=>h2.1 (by rw[←e];exact hx))).mpr (hs x (Cd _ hx))
  rw[List.length_erase_of_mem ha]at this
  have:0<k.length:=List.length_pos_of_mem ha
  simp only[BH]
  lia
theorem Nz {H H2:Hp}{x dx C:Addr}(hx:H x=none)(hdx:H dx=none)(k:∀b o,(upd (upd H dx (.own x)) x (.ins C dx [])) b=some o->b≠x->H2 b=some o):Aa H H2:=fun b o e=>by
 have n1:=AQ e hx
 have n2:=AQ e hdx
 exact k b o (by rw[Ai n1,Ai n2];exact e) n1
section
variable {X:Cx}{pins:List (Addr×Obj)}{σ:St}{H:Hp}{s:Shared}{h':Heap}
theorem A2.turnedL {t':Nat}{ch:List Addr}(I:A2 X pins σ H s)(k:∀b o,b∉ch->s.heap.get? b=some o->h'.get? b=some o)(hf:∀b∈ch,EH X pins H b):A2 X pins σ H {s with heap:=h',toks:=t'}:=by
 have nit:∀b u,H b=some u->b∉ch:=fun b u e z=>by rw[(hf b z).1]at e;cases e
 have hL:X.env.locals∉ch:=fun z=>(hf _ z).2.1 rfl
 refine I.step (g':=s.gens) (d':=s.drawn) (ch:=ch) (fun b hb=>?_) (fun b o _ _ hc e _=>k b o hc e) (fun b o _ _ hc e _=>⟨o.slots,k b o hc e⟩) (fun _ _ _ _ n=>n)
  (fun b o hc e=>⟨o,k b o hc e⟩) (fun _ _ e=>e) (fun _ _ _ e=>e) (fun b ps e=>⟨#[],by rw[e];simp⟩) (fun m hm=>?_) (fun b u e=>?_) I.bare
 .obtain⟨f0,f1,f2,f3,f4,f5⟩:=hf b hb
  exact⟨f3,f1,f4,f5⟩
 .obtain⟨o,es,ep,ho,r⟩:=hm
  exact⟨o,es,ep,k _ o hL ho,r⟩
 .refine(I.hok b u e).stay (fun c v hc q=>k c v ?_ q) (fun _ q=>q) fun _ _ q=>q
  rcases hc with z|z
  .rw[z];exact nit b u e
  .exact nit c _ z
end
noncomputable def JP (K:Faa)(a:Addr):It:=
 ⟨fun i H=>∃xs x,A4 K H a xs/\xs[i]?=some x,fun i H v H'=>∃x T,(∀xs,A4 K H a xs->xs[i]?=some x)/\H T=none/\v = .ref T/\H'=upd H T (.tup [.int i,x]),fun i H=>∃xs,A4 K H a xs/\xs.length<=i⟩
theorem XO {P:Program}{w:World}{K:Faa}{elts:List Expr}{x1:Nat}{pos:Pos}(a e it:Addr)(hei:e≠it):FT P w K (.Tuple elts x1 pos) (JP K a) [e,it] e (fun i h=>(∃old,IsEnum h e it i old)/\h.IsListIter it a i) where
 mem:=by simp
 obj:=fun i h st b hb=>by
  obtain⟨⟨old,he⟩,hit⟩:=st
  rcases AZ.mp hb with rfl|hb
  .exact⟨_,he,fun v z=>by cases z⟩
  .have e:b=it:=by simpa using hb
   subst e
   obtain⟨o,e,c,d⟩:=hit
   exact⟨o,e,fun v z=>by rw[d]at z;cases z⟩
 keep:=fun i h h' st k=>by
  obtain⟨⟨old,he⟩,hit⟩:=st
  exact⟨⟨old,k e (by simp) _ he⟩,hit.at fun o e=>k it (by simp) o e⟩
 item:=by
  intro X hP hw hK hc i pins s σ H E I hf st hg
  subst hP hw hK
  obtain⟨xs,x,hq,hx⟩:=hg
  obtain⟨its,rv,p,hz⟩:=I.list hq
  obtain⟨u,hu,ru⟩:=rv.get hx
  obtain⟨⟨old,he⟩,hit⟩:=st
  refine wpAny_pyNext_enum_item he hit p.isList (x:=u) (by simpa using hu) hei fun h1 ho hit' hT hsz hk=>⟨_,rfl,?_⟩
  refine wpAny_letOwnedTupleGo_enum ho fun h2 he2 hs2=>?_
  have hTn:H s.heap.objs.size=none:=I.hok.fresh (Af _)
  have helt:e<s.heap.objs.size:=AG he
  have hilt:it<s.heap.objs.size:=by obtain⟨_,x,_⟩:=hit;exact AG x
  have I1:A2 X pins σ (upd H s.heap.objs.size (.tup [.int i,x])) {s with heap:=s.heap.push {cls:=.type "tuple",data:=.seq #[.int i s.toks,u]},toks:=s.toks+1}:=I.laid (t':=s.toks+1) (o:=.tup [.int i,x]) (fun b o e=>AD _ e) (Af _) ⟨An rfl,[.int i s.toks,u],.cons ⟨_,rfl⟩ (.cons ru .nil),Ep.new _ _⟩
  have I2:A2 X pins σ (upd H s.heap.objs.size (.tup [.int i,x])) {s with heap:=h2,toks:=s.toks+1}:=by
   refine A2.turnedL (s:={s with heap:=s.heap.push {cls:=.type "tuple",data:=.seq #[.int i s.toks,u]},toks:=s.toks+1}) (h':=h2) (ch:=[e,it]) (t':=s.toks+1) I1 (fun b o hb q=>?_) (fun b hb=>?_)
   .have nbe:b≠e:=fun z=>hb (by simp[z])
    have nbi:b≠it:=fun z=>hb (by simp[z])
    show h2.get? b=some o
    rw[hs2.2 b nbe]
    rcases MO q with⟨rfl,rfl⟩|q
    .exact hT
    .exact hk b o nbe nbi q
   .obtain⟨f0,f1,f2,f3,f4,f5⟩:=hf b hb
    have nb:b≠s.heap.objs.size:=by
     rcases AZ.mp hb with rfl|hb
     .exact AV helt
     .have:b=it:=by simpa using hb
      subst this
      exact AV hilt
    exact⟨by rw[Ai nb];exact f0,f1,f2,f3,f4,f5⟩
  refine⟨.ref s.heap.objs.size,_,I2,rfl,⟨x,_,fun ys hy=>by rw[I.list_inj hy hq];exact hx,hTn,rfl,rfl⟩,⟨⟨_,by simpa using he2⟩,hit'.at fun o y=>(hs2.2 it hei.symm).trans y⟩,fun b hb=>?_⟩
  obtain⟨f0,f1,f2,f3,f4,f5⟩:=hf b hb
  have nb:b≠s.heap.objs.size:=by
   rcases AZ.mp hb with rfl|hb
   .exact AV helt
   .have:b=it:=by simpa using hb
    subst this
    exact AV hilt
  rw[Ai nb]
  exact f0
 done:=by
  intro X hP hw hK hc i pins s σ H E I hf st hg
  subst hP hw hK
  obtain⟨xs,hq,hx⟩:=hg
  obtain⟨its,rv,p,hz⟩:=I.list hq
  obtain⟨⟨old,he⟩,hit⟩:=st
  have hl:=rv.length
  refine wpAny_pyNext_enum_end (I.ok.hd hc) he hit p.isList (by simp;lia) fun h' eb=>⟨rfl,?_⟩
  exact I.turnedL (ch:=[e,it]) (t':=s.toks) (fun b o hb q=>eb b o (fun z=>hb (by simp[z])) q) hf
 self:=fun _ _ _ _ _ st h=>by
  obtain⟨⟨old,he⟩,_⟩:=st
  exact OC he h
def VL (K:Faa)(ta:TA):TI:=fun σ H R=>ta σ H fun vs H1=>∃a:Addr,vs=[.ref a]/\(∃xs,A4 K H1 a xs)/\R (JP K a) H1
theorem Jz {X:Cx}{a:Expr}{ta:TA}{p pos:Pos}{elts:List Expr}{x1:Nat}{pos2:Pos}(hg:Gl X "enumerate")(hm:X.mg "enumerate"=none)(ha:PA X [a] ta)(hs:starEach [a] X.env=[(false,eval a X.env)]:=by rfl):PI X (.Tuple elts x1 pos2) (.Call (.Name "enumerate" p) [a] [] pos) (VL X.K ta):=by
 intro pins s σ H R I h
 refine Call_ (Fc I hg hm boot_enumerate (Hs (Az (ha pos pins s σ H _ I h) fun us s1 zz=>?_) hs rfl))
 obtain⟨vs,H1,I1,r1,q1⟩:=zz
 obtain⟨l,rfl,⟨xs,hq⟩,q⟩:=q1
 cases r1 with
 |
  cons r rr=>
  cases rr
  cases r
  obtain⟨its,rv,pl,hz⟩:=I1.list hq
  refine call_enumerate_list pl.isList fun h' he hit hsz hk=>?_
  refine OC he ?_
  refine⟨_,[s1.heap.objs.size+1,s1.heap.objs.size],_,_,H1,rfl,I1.kept (t':=s1.toks) hk,XO l _ _ (CM (Gz _)),⟨⟨_,he⟩,hit⟩,fun b hb=>?_,q⟩
  rcases AZ.mp hb with rfl|hb
  .exact I1.fpOk (Ht _) (I1.hok.fresh (Ht _))
  .have e:b=s1.heap.objs.size:=by simpa using hb
   subst e
   exact I1.fpOk (Af _) (I1.hok.fresh (Af _))
theorem Ju {K:Faa}{a:Addr}{xs:List V}{g:TG}{tb:TS}{D:CC}{σ:St}{H:Hp}(Pv:Nat->St->Hp->Prop)(h0:Pv 0 σ H)(hl:∀i σ H,i<=xs.length->Pv i σ H->A4 K H a xs)
  (hs:∀i x T σ H,xs[i]?=some x->Pv i σ H->H T=none->g (.ref T) σ (upd H T (.tup [.int i,x])) fun σ2 H2=>tb {D with nx:=Pv (i+1),ct:=Pv (i+1),bk:=D.nx} σ2 H2) (hd:∀σ H,Pv xs.length σ H->D.nx σ H) :
  ∃W:Nat->Nat->St->Hp->Prop,(∃m,W 0 m σ H)/\∀i m σ H,W i m σ H->
   ((JP K a).stop i H/\D.nx σ H)\/((JP K a).go i H/\∃N:St->Hp->Prop,(∀σ' H',N σ' H'->∃m',m'<m/\W (i+1) m' σ' H')/\∀x H',(JP K a).yld i H x H'->g x σ H' fun σ2 H2=>tb {D with nx:=N,ct:=N,bk:=D.nx} σ2 H2):=by
 refine⟨fun i m σ H=>m=xs.length-i/\i<=xs.length/\Pv i σ H,⟨xs.length,by simp,Bj _,h0⟩,?_⟩
 rintro i m σ H ⟨rfl,hi,p⟩
 have q:=hl i σ H hi p
 by_cases hlt:i<xs.length
 .refine .inr ⟨⟨xs,xs[i],q,As hlt⟩,Pv (i+1),fun σ' H' p'=>⟨xs.length-(i+1),by lia,rfl,hlt,p'⟩,fun v H' y=>?_⟩
  obtain⟨x,T,hx,hT,rfl,rfl⟩:=y
  exact hs i x T σ H (hx xs q) p hT
 .have e:i=xs.length:=by lia
  subst e
  exact .inl ⟨⟨xs,q,Af _⟩,hd σ H p⟩
noncomputable def Kl (K:Faa)(a b:Addr):It:=
 ⟨fun i H=>∃xs ys x y,A4 K H a xs/\A4 K H b ys/\xs[i]?=some x/\ys[i]?=some y,fun i H v H'=>∃x y T,(∀xs,A4 K H a xs->xs[i]?=some x)/\(∀ys,A4 K H b ys->ys[i]?=some y)/\H T=none/\v = .ref T/\H'=upd H T (.tup [x,y]),
  fun i H=>∃xs ys,A4 K H a xs/\A4 K H b ys/\(xs.length<=i\/ys.length<=i)⟩
theorem bt {P:Program}{w:World}{K:Faa}{elts:List Expr}{x1:Nat}{pos:Pos}(a b z TI TO i1 i2:Addr)(D:ZipApart z TI TO i1 i2 a b) :
  FT P w K (.Tuple elts x1 pos) (Kl K a b) [z,TI,TO,i1,i2] z (fun i h=>IsZip h z TI TO .none/\IsPair h TI (.ref i1) (.ref i2)/\(∃p q,IsPair h TO p q)/\h.IsListIter i1 a i/\h.IsListIter i2 b i) where
 mem:=by simp
 obj:=fun i h st c hc=>by
  obtain⟨hz,hTI,⟨p,q,hTO⟩,h1,h2⟩:=st
  simp only[AZ,Dv,or_false]at hc
  rcases hc with rfl|rfl|rfl|rfl|rfl
  .exact⟨_,hz,fun v z=>by cases z⟩
  .exact⟨_,hTI,fun v z=>by cases z⟩
  .exact⟨_,hTO,fun v z=>by cases z⟩
  .obtain⟨o,e,c,d⟩:=h1
   exact⟨o,e,fun v z=>by rw[d]at z;cases z⟩
  .obtain⟨o,e,c,d⟩:=h2
   exact⟨o,e,fun v z=>by rw[d]at z;cases z⟩
 keep:=fun i h h' st k=>by
  obtain⟨hz,hTI,⟨p,q,hTO⟩,h1,h2⟩:=st
  exact⟨k z (by simp) _ hz,k TI (by simp) _ hTI,⟨p,q,k TO (by simp) _ hTO⟩,h1.at fun o e=>k i1 (by simp) o e,h2.at fun o e=>k i2 (by simp) o e⟩
 item:=by
  intro X hP hw hK hc i pins s σ H E I hf st hg
  subst hP hw hK
  obtain⟨xs,ys,x,y,hq1,hq2,hx,hy⟩:=hg
  obtain⟨its1,rv1,p1,_⟩:=I.list hq1
  obtain⟨its2,rv2,p2,_⟩:=I.list hq2
  obtain⟨u,hu,ru⟩:=rv1.get hx
  obtain⟨v,hv,rv⟩:=rv2.get hy
  obtain⟨hz,hTI,⟨pa,qa,hTO⟩,h1,h2⟩:=st
  refine wpAny_pyNext_zip_item D hz hTI hTO h1 h2 p1.isList p2.isList (x:=u) (y:=v) (by simpa using hu) (by simpa using hv) fun hh hz' hTO' h1' h2' hT hsz hk=>⟨_,rfl,?_⟩
  refine Se hz' fun h3 hz3 hs3=>?_
  have hTn:H s.heap.objs.size=none:=I.hok.fresh (Af _)
  have lts:∀c∈[z,TI,TO,i1,i2],c<s.heap.objs.size:=fun c hc=>by
   simp only[AZ,Dv,or_false]at hc
   rcases hc with rfl|rfl|rfl|rfl|rfl
   .exact AG hz
   .exact AG hTI
   .exact AG hTO
   .obtain⟨_,e,_⟩:=h1;exact AG e
   .obtain⟨_,e,_⟩:=h2;exact AG e
  have I1:A2 X pins σ (upd H s.heap.objs.size (.tup [x,y])) {s with heap:=s.heap.push {cls:=.type "tuple",data:=.seq #[u,v]}}:=I.laid (t':=s.toks) (o:=.tup [x,y]) (fun b o e=>AD _ e) (Af _) ⟨An rfl,[u,v],.cons ru (.cons rv .nil),Ep.new _ _⟩
  have I2:A2 X pins σ (upd H s.heap.objs.size (.tup [x,y])) {s with heap:=h3}:=by
   refine A2.turnedL (s:={s with heap:=s.heap.push {cls:=.type "tuple",data:=.seq #[u,v]}}) (h':=h3) (ch:=[z,TI,TO,i1,i2]) (t':=s.toks) I1 (fun b o hb q=>?_) (fun b hb=>?_)
   .simp only[AZ,Dv,or_false,not_or]at hb
    obtain⟨n1,n2,n3,n4,n5⟩:=hb
    show h3.get? b=some o
    rw[hs3.2 b n1]
    rcases MO q with⟨rfl,rfl⟩|q
    .exact hT
    .exact hk b o n1 n3 n4 n5 q
   .obtain⟨f0,f1,f2,f3,f4,f5⟩:=hf b hb
    exact⟨by rw[Ai (AV (lts b hb))];exact f0,f1,f2,f3,f4,f5⟩
  have k3:∀c,c≠z->∀o,hh.get? c=some o->h3.get? c=some o:=fun c hc o e=>(hs3.2 c hc).trans e
  refine⟨.ref s.heap.objs.size,_,I2,rfl,⟨x,y,_,fun zs hy=>by rw[I.list_inj hy hq1];exact hx,fun zs hy'=>by rw[I.list_inj hy' hq2];exact hy,hTn,rfl,rfl⟩,⟨hz3,k3 TI D.TIz _ (hk TI _ D.TIz D.TITO D.TIi1 D.TIi2 hTI),⟨u,v,k3 TO D.TOz _ hTO'⟩,h1'.at (k3 i1 D.i1z),h2'.at (k3 i2 D.i2z)⟩,fun b hb=>?_⟩
  rw[Ai (AV (lts b hb))]
  exact(hf b hb).1
 done:=by
  intro X hP hw hK hc i pins s σ H E I hf st hg
  subst hP hw hK
  obtain⟨xs,ys,hq1,hq2,hl⟩:=hg
  obtain⟨its1,rv1,p1,_⟩:=I.list hq1
  obtain⟨its2,rv2,p2,_⟩:=I.list hq2
  obtain⟨hz,hTI,⟨pa,qa,hTO⟩,h1,h2⟩:=st
  have hl1:=rv1.length
  have hl2:=rv2.length
  refine wpAny_pyNext_zip_end (I.ok.hd hc) D hz hTI hTO h1 h2 p1.isList p2.isList (hl.imp (fun z=>by simp;lia) (fun z=>by simp;lia)) fun h' hk=>⟨rfl,?_⟩
  refine I.turnedL (ch:=[z,TI,TO,i1,i2]) (t':=s.toks) (fun b o hb q=>?_) hf
  simp only[AZ,Dv,or_false,not_or]at hb
  obtain⟨n1,n2,n3,n4,n5⟩:=hb
  exact hk b o n1 n3 n4 n5 q
 self:=fun _ _ _ _ _ st h=>by
  obtain⟨hz,_⟩:=st
  exact KL hz h
def Wo (K:Faa)(ta:TA):TI:=fun σ H R=>ta σ H fun vs H1=>∃a b:Addr,vs=[.ref a,.ref b]/\(∃xs,A4 K H1 a xs)/\(∃ys,A4 K H1 b ys)/\R (Kl K a b) H1
theorem YL {X:Cx}{a b:Expr}{ta:TA}{p pos:Pos}{elts:List Expr}{x1:Nat}{pos2:Pos}(hg:Gl X "zip")(hm:X.mg "zip"=none)(ha:PA X [a,b] ta)(hs:starEach [a,b] X.env=[(false,eval a X.env),(false,eval b X.env)]:=by rfl)(hs2:starEach [b] X.env=[(false,eval b X.env)]:=by rfl) :
  PI X (.Tuple elts x1 pos2) (.Call (.Name "zip" p) [a,b] [] pos) (Wo X.K ta):=by
 intro pins s σ H R I h
 refine Call_ (Fc I hg hm boot_zip (Hs (Az (ha pos pins s σ H _ I h) fun us s1 zz=>?_) (by rw[hs,hs2]) (by rw[hs2];rfl)))
 obtain⟨vs,H1,I1,r1,q1⟩:=zz
 obtain⟨l1,l2,rfl,⟨xs,hq1⟩,⟨ys,hq2⟩,q⟩:=q1
 cases r1 with
 |
  cons r rr=>
  cases rr with
  |
   cons r' rr=>
   cases rr
   cases r
   cases r'
   obtain⟨its1,rv1,p1,_⟩:=I1.list hq1
   obtain⟨its2,rv2,p2,_⟩:=I1.list hq2
   have lt1:l1<s1.heap.objs.size:=by obtain⟨_,e,_⟩:=p1.isList;exact AG e
   have lt2:l2<s1.heap.objs.size:=by obtain⟨_,e,_⟩:=p2.isList;exact AG e
   refine call_zip_2 p1.isList p2.isList fun h' hz hTI hTO h1 h2 hsz hk=>?_
   refine KL hz ?_
   have ne:∀{m n:Nat},m<n->(m:Nat)≠n:=fun h=>AV h
   refine⟨_,[s1.heap.objs.size+4,s1.heap.objs.size+2,s1.heap.objs.size+3,s1.heap.objs.size,s1.heap.objs.size+1],_,_,H1,rfl,I1.kept (t':=s1.toks) hk,bt l1 l2 _ _ _ _ _ ⟨?_,?_,?_,?_,?_,?_,?_,?_,?_,?_,?_,?_,?_,?_,?_,?_,?_,?_⟩,⟨hz,hTI,⟨_,_,hTO⟩,h1,h2⟩,fun b hb=>?_,q⟩
   case refine_19=>
    simp only[AZ,Dv,or_false]at hb
    have hb':s1.heap.objs.size<=b:=by
     rcases hb with rfl|rfl|rfl|rfl|rfl
     .exact Cv _ 4
     .exact Cv _ 2
     .exact Cv _ 3
     .exact Af _
     .exact Cv _ 1
    exact I1.fpOk hb' (I1.hok.fresh hb')
   all_goals first
    |exact AV lt1
    |exact AV lt2
    |exact AV (BO lt1 (Cv _ _))
    |exact AV (BO lt2 (Cv _ _))
    |(show(_:Nat)≠_;lia)
theorem WL {K:Faa}{a b:Addr}{xs ys:List V}{g:TG}{tb:TS}{D:CC}{σ:St}{H:Hp}(hlen:xs.length=ys.length)(Pv:Nat->St->Hp->Prop)(h0:Pv 0 σ H)(hl:∀i σ H,i<=xs.length->Pv i σ H->A4 K H a xs/\A4 K H b ys)
  (hs:∀i x y T σ H,xs[i]?=some x->ys[i]?=some y->Pv i σ H->H T=none->g (.ref T) σ (upd H T (.tup [x,y])) fun σ2 H2=>tb {D with nx:=Pv (i+1),ct:=Pv (i+1),bk:=D.nx} σ2 H2) (hd:∀σ H,Pv xs.length σ H->D.nx σ H) :
  ∃W:Nat->Nat->St->Hp->Prop,(∃m,W 0 m σ H)/\∀i m σ H,W i m σ H->
   ((Kl K a b).stop i H/\D.nx σ H)\/((Kl K a b).go i H/\∃N:St->Hp->Prop,(∀σ' H',N σ' H'->∃m',m'<m/\W (i+1) m' σ' H')/\∀x H',(Kl K a b).yld i H x H'->g x σ H' fun σ2 H2=>tb {D with nx:=N,ct:=N,bk:=D.nx} σ2 H2):=by
 refine⟨fun i m σ H=>m=xs.length-i/\i<=xs.length/\Pv i σ H,⟨xs.length,by simp,Bj _,h0⟩,?_⟩
 rintro i m σ H ⟨rfl,hi,p⟩
 obtain⟨q1,q2⟩:=hl i σ H hi p
 by_cases hlt:i<xs.length
 .refine .inr ⟨⟨xs,ys,xs[i],ys[i],q1,q2,As hlt,As (by lia)⟩,Pv (i+1),fun σ' H' p'=>⟨xs.length-(i+1),by lia,rfl,hlt,p'⟩,fun v H' yy=>?_⟩
  obtain⟨x,y,T,hx,hy,hT,rfl,rfl⟩:=yy
  exact hs i x y T σ H (hx xs q1) (hy ys q2) p hT
 .have e:i=xs.length:=by lia
  subst e
  exact .inl ⟨⟨xs,ys,q1,q2,.inl (Af _)⟩,hd σ H p⟩
end L2
namespace Bd
structure Ao where
 x:Nat
 y:Nat
 c:Int
structure Sv where
 v:Nat->Int
 p:Nat->Option Nat
 low:Option Nat
noncomputable def BK {α:Type}(f:Nat->α)(i:Nat)(a:α):Nat->α:=fun j=>if j=i then a else f j
theorem BU {α:Type}{f:Nat->α}{i:Nat}{a:α}:BK f i a i=a:=Ap rfl
theorem C2 {α:Type}{f:Nat->α}{i j:Nat}{a:α}(h:j≠i):BK f i a j=f j:=Al h
noncomputable def IQ (i:Nat)(b:Ao)(s:Sv):Sv:=if s.v b.x>s.v b.y+b.c then⟨BK s.v b.x (s.v b.y+b.c),BK s.p b.x (some i),some b.x⟩ else s
noncomputable def rnd (B:List Ao):Nat->Sv->Sv
 |0,s=>s
 |
  k+1,s=>match B[k]? with
  |some b=>IQ k b (rnd B k s)
  |none=>rnd B k s
noncomputable def CW (B:List Ao)(s:Sv):Sv:=rnd B B.length {s with low:=none}
noncomputable def go (B:List Ao):Nat->Sv->Sv ⊕ Sv
 |0,s=>.inr s
 |
  k+1,s=>match (CW B s).low with
  |none=>.inl (CW B s)
  |some _=>go B k (CW B s)
noncomputable def EN:Sv:=⟨fun _=>0,fun _=>none,none⟩
noncomputable def pb (B:List Ao)(p:Nat->Option Nat)(x:Nat):Ao:=match p x with
 |some i=>B.getD i ⟨0,0,0⟩
 |none=>⟨0,0,0⟩
noncomputable def it (B:List Ao)(p:Nat->Option Nat):Nat->Nat->Nat
 |0,x=>x
 |k+1,x=>it B p k (pb B p x).y
noncomputable def sm (B:List Ao)(p:Nat->Option Nat):Nat->Nat->Int
 |0,_=>0
 |k+1,x=>(pb B p x).c+sm B p k (pb B p x).y
theorem F0 (B:List Ao)(p:Nat->Option Nat)(k x:Nat):it B p (k+1) x=(pb B p (it B p k x)).y:=by
 induction k generalizing x with
 |zero=>rfl
 |succ k ih=>exact ih _
theorem DZ (B:List Ao)(p:Nat->Option Nat)(j k x:Nat):it B p (j+k) x=it B p k (it B p j x):=by
 induction j generalizing x with
 |zero=>rw[J5];rfl
 |succ j ih=>rw[Nat.succ_add];exact ih _
theorem NP (B:List Ao)(p:Nat->Option Nat)(k x:Nat):sm B p (k+1) x=sm B p k x+(pb B p (it B p k x)).c:=by
 induction k generalizing x with
 |zero=>simp[sm,it]
 |succ k ih=>rw[sm,ih,sm,it];lia
def Fd (B:List Ao)(p:Nat->Option Nat)(k x:Nat):Prop := ∀j<k,∃i,p (it B p j x)=some i
theorem Fd.tail {B:List Ao}{p:Nat->Option Nat}{k x:Nat}(h:Fd B p (k+1) x):Fd B p k (pb B p x).y:=fun j hj=>h (j+1) (by lia)
structure A2 (B:List Ao)(r j:Nat)(s:Sv)(last:Nat->Nat):Prop where
 le:∀x,last x<=r
 par:∀x i,s.p x=some i->∃b,B[i]?=some b/\b.x=x/\s.v b.y+b.c<=s.v x/\last x<=last b.y+1
 has:∀x,1<=last x->∃i,s.p x=some i
 ok1:∀k<j,∀b,B[k]?=some b->s.v b.x<=s.v b.y+b.c\/r<=last b.y
 ok2:∀k,j<=k->∀b,B[k]?=some b->s.v b.x<=s.v b.y+b.c\/r<=last b.y+1
 neg:∀k x,Fd B s.p (k+1) x->it B s.p (k+1) x=x->sm B s.p (k+1) x<0
 lowN:s.low=none->∀x,last x+1<=r
 lowS:∀x,s.low=some x->last x=r
theorem DD {B:List Ao}{p:Nat->Option Nat}{x i:Nat}{b:Ao}(h:p x=some i)(e:B[i]?=some b):pb B p x=b:=by
 unfold pb;rw[h];simp only[];rw[Bv,e];rfl
theorem Pe {B:List Ao}{v:Nat->Int}{p:Nat->Option Nat}{i:Nat}{b:Ao}(hb:B[i]?=some b)(hlt:v b.x>v b.y+b.c)
  (par:∀x i,p x=some i->∃b,B[i]?=some b/\b.x=x/\v b.y+b.c<=v x) :
  ∀k x,Fd B (BK p b.x (some i)) k x->v (it B (BK p b.x (some i)) k x)+sm B (BK p b.x (some i)) k x<=v x/\
   ((it B (BK p b.x (some i)) k x=it B p k x/\sm B (BK p b.x (some i)) k x=sm B p k x/\Fd B p k x)\/v (it B (BK p b.x (some i)) k x)+sm B (BK p b.x (some i)) k x<v x):=by
 intro k
 induction k with
 |zero=>intro x _;exact⟨by simp[it,sm],.inl ⟨rfl,rfl,fun j hj=>by lia⟩⟩
 |
  succ k ih=>
  intro x ha
  obtain⟨l,hl⟩:=ha 0 (by lia)
  change BK p b.x (some i) x=some l at hl
  have ha':=ha.tail
  by_cases hx:x=b.x
  .have e:pb B (BK p b.x (some i)) x=b:=DD (by rw[hx];exact BU) hb
   simp only[it,sm]
   rw[e]at ha' ⊢
   obtain⟨h1,_⟩:=ih _ ha'
   subst hx
   exact⟨by lia,.inr (by lia)⟩
  .have hp:BK p b.x (some i) x=p x:=C2 hx
   rw[hp]at hl
   obtain⟨b',hb',hx',hv⟩:=par _ _ hl
   have e:pb B (BK p b.x (some i)) x=b':=DD (by rw[hp];exact hl) hb'
   have e2:pb B p x=b':=DD hl hb'
   simp only[it,sm]
   rw[e]at ha' ⊢
   rw[e2]
   obtain⟨h1,h2⟩:=ih _ ha'
   refine⟨by lia,?_⟩
   rcases h2 with⟨h2,h3,h4⟩|h2
   .refine .inl ⟨h2,by rw[h3],fun j hj=>?_⟩
    cases j with
    |zero=>exact⟨_,hl⟩
    |
     succ j=>
     show ∃i,p (it B p j (pb B p x).y)=some i
     rw[e2]
     exact h4 j (by lia)
   .exact .inr (by lia)
theorem A2.step {B:List Ao}{r j:Nat}{s:Sv}{last:Nat->Nat}(h:A2 B r j s last){b:Ao}(hb:B[j]?=some b):∃last',A2 B r (j+1) (IQ j b s) last':=by
 unfold IQ
 by_cases c:s.v b.x>s.v b.y+b.c
 .rw[Ap c]
  have hy:r<=last b.y+1:=by
   rcases h.ok2 j (Af _) b hb with g|g
   .lia
   .exact g
  have hv:∀x,BK s.v b.x (s.v b.y+b.c) x<=s.v x:=fun x=>by
   by_cases e:x=b.x
   .rw[e,BU];lia
   .rw[C2 e];exact GF _
  have hl:∀x,last x<=BK last b.x r x:=fun x=>by
   by_cases e:x=b.x
   .rw[e,BU];exact h.le _
   .rw[C2 e];exact Af _
  refine⟨BK last b.x r,⟨fun x=>?_,fun x i e=>?_,fun x e=>?_,fun k hk b' hb'=>?_,fun k hk b' hb'=>?_,fun k x ha e=>?_,fun e=>?_,fun x e=>?_⟩⟩
  .by_cases e:x=b.x
   .rw[e,BU];exact Af _
   .rw[C2 e];exact h.le _
  .by_cases ex:x=b.x
   .subst ex
    simp only[]at e ⊢
    rw[BU]at e
    cases e
    refine⟨b,hb,rfl,?_,?_⟩
    .rw[BU]
     by_cases ey:b.y=b.x
     .rw[ey,BU];rw[ey]at c;lia
     .rw[C2 ey];exact GF _
    .rw[BU]
     have:=hl b.y
     lia
   .simp only[]at e ⊢
    rw[C2 ex]at e
    obtain⟨b',g1,g2,g3,g4⟩:=h.par x i e
    refine⟨b',g1,g2,?_,?_⟩
    .rw[C2 ex]
     have:=hv b'.y
     lia
    .rw[C2 ex]
     have:=hl b'.y
     lia
  .simp only[]
   by_cases ex:x=b.x
   .rw[ex,BU];exact⟨_,rfl⟩
   .rw[C2 ex]at e ⊢
    exact h.has x e
  .simp only[]
   by_cases ey:b'.y=b.x
   .right;rw[ey,BU];exact Af _
   .by_cases ek:k=j
    .subst ek
     rw[hb]at hb';cases hb'
     left;rw[BU,C2 ey];exact GF _
    .rcases h.ok1 k (by lia) b' hb' with g|g
     .left;rw[C2 ey];have:=hv b'.x;lia
     .right;have:=hl b'.y;lia
  .simp only[]
   by_cases ey:b'.y=b.x
   .right;rw[ey,BU];lia
   .rcases h.ok2 k (by lia) b' hb' with g|g
    .left;rw[C2 ey];have:=hv b'.x;lia
    .right;have:=hl b'.y;lia
  .have:=Pe hb c (fun x i e=>by obtain⟨b',g1,g2,g3,_⟩:=h.par x i e;exact⟨b',g1,g2,g3⟩) (k+1) x ha
   simp only[]at e ⊢
   rw[e]at this
   obtain⟨_,⟨g1,g2,g3⟩|g⟩:=this
   .rw[g2];exact h.neg k x g3 g1.symm
   .lia
  .cases e
  .cases e;exact BU
 .rw[Al c]
  refine⟨last,h.le,h.par,h.has,fun k hk b' hb'=>?_,fun k hk=>h.ok2 k (by lia),h.neg,h.lowN,h.lowS⟩
  by_cases ek:k=j
  .subst ek
   rw[hb]at hb';cases hb'
   left;lia
  .exact h.ok1 k (by lia) b' hb'
theorem A2.rnd {B:List Ao}{r:Nat}{s:Sv}{last:Nat->Nat}(h:A2 B r 0 s last):∀k,k<=B.length->∃last',A2 B r k (Bd.rnd B k s) last'
 |0,_=>⟨last,h⟩
 |
  k+1,hk=>by
  obtain⟨l1,h1⟩:=A2.rnd h k (by lia)
  have e:B[k]?=some B[k]:=As (by lia)
  unfold Bd.rnd
  rw[e]
  exact h1.step e
theorem A2.next {B:List Ao}{r:Nat}{s:Sv}{last:Nat->Nat}(h:A2 B r B.length s last):A2 B (r+1) 0 {s with low:=none} last:=
 ⟨fun x=>by have:=h.le x;lia,h.par,h.has,fun k hk=>by lia,fun k _ b hb=>by
  have:=h.ok1 k (Ay.mp hb).1 b hb
  rcases this with g|g
  .exact .inl g
  .right;lia,h.neg,fun _ x=>by have:=h.le x;lia,fun x e=>by cases e⟩
theorem A2.start (B:List Ao):A2 B 1 0 {EN with low:=none} (fun _=>0):=
 ⟨fun _=>Bj _,fun x i e=>(by cases e),fun x e=>(by lia),fun k hk b hb=>(by lia),fun k hk b hb=>.inr (Af _),fun k x ha=>(by obtain⟨i,hi⟩:=ha 0 (by lia);cases hi),fun _ x=>Af _,fun x e=>(by cases e)⟩
theorem A2.holds {B:List Ao}{r:Nat}{s:Sv}{last:Nat->Nat}(h:A2 B r B.length s last)(e:s.low=none):∀b∈B,s.v b.x<=s.v b.y+b.c:=fun b hb=>by
 obtain⟨k,hk,rfl⟩:=E5.mp hb
 rcases h.ok1 k hk _ (As hk) with g|g
 .exact g
 .have:=h.lowN e B[k].y
  lia
theorem RC {B:List Ao}:∀{k r:Nat} {s:Sv} {last:Nat->Nat},A2 B r 0 {s with low:=none} last->∀{s'},go B k s = .inl s'->∀b∈B,s'.v b.x<=s'.v b.y+b.c
 |0,r,s,last,h,s',e=>by cases e
 |
  k+1,r,s,last,h,s',e=>by
  obtain⟨l1,h1⟩:=h.rnd B.length (Af _)
  change A2 B r B.length (CW B s) l1 at h1
  unfold go at e
  split at e
  .rename_i c;cases e
   exact h1.holds c
  .exact RC h1.next e
theorem R4 {B:List Ao}:∀{k r:Nat} {s:Sv} {last:Nat->Nat},A2 B r 0 {s with low:=none} last->∀{s'},go B (k+1) s = .inr s'->∃last x,A2 B (r+k) B.length s' last/\s'.low=some x
 |
  k,r,s,last,h,s',e=>by
  obtain⟨l1,h1⟩:=h.rnd B.length (Af _)
  change A2 B r B.length (CW B s) l1 at h1
  unfold go at e
  split at e
  .cases e
  .rename_i x c
   cases k with
   |zero=>cases e;exact⟨l1,x,h1,c⟩
   |
    succ k=>
    obtain⟨l2,x2,g1,g2⟩:=R4 (k:=k) h1.next e
    exact⟨l2,x2,by rw[show r+(k+1)=r+1+k by lia];exact g1,g2⟩
theorem Ik {α:Type}[DecidableEq α]:∀{l k:List α},l.Nodup->(∀x∈l,x∈k)->l.length<=k.length
 |[],_,_,_=>Bj _
 |
  a::l,k,hn,hs=>by
  have ha:=hs a Cz
  have h2:=GA.mp hn
  have:=Ik (l:=l) (k:=k.erase a) h2.2 fun x hx=>(List.mem_erase_of_ne (show x≠a from fun e=>h2.1 (by rw[←e];exact hx))).mpr (hs x (Cd _ hx))
  rw[List.length_erase_of_mem ha]at this
  have:0<k.length:=List.length_pos_of_mem ha
  simp only[BH]
  lia
theorem OY {n:Nat}{u:Nat->Nat}(h:∀i,i<=n->u i<n):∃i j,i<j/\j<=n/\u i=u j:=by
 apply Classical.byContradiction
 intro c
 have hn:((List.range (n+1)).map u).Nodup:=by
  rw[RP,Os]
  refine(List.pairwise_lt_range (n:=n+1)).imp_of_mem fun{i j} hi hj hij e=>c ⟨i,j,hij,?_,e⟩
  have:=G3.mp hj
  lia
 have:=Ik hn (k:=List.range n) fun x hx=>by
  obtain⟨i,hi,rfl⟩:=Co.mp hx
  have:=G3.mp hi
  exact G3.mpr (h i (by lia))
 simp at this
 lia
theorem least {P:Nat->Prop}:∀n,P n->∃m,m<=n/\P m/\∀k<m,¬P k:=by
 intro n
 induction n using Nat.strongRecOn with
 |
  ind n ih=>
  intro h
  by_cases c:∃k,k<n/\P k
  .obtain⟨k,hk,pk⟩:=c
   obtain⟨m,h1,h2,h3⟩:=ih k hk pk
   exact⟨m,by lia,h2,h3⟩
  .exact⟨n,Af _,h,fun k hk pk=>c ⟨k,hk,pk⟩⟩
structure GN (n:Nat)(B:List Ao)(p:Nat->Option Nat)(x0 m:Nat):Prop where
 walk:∀j<n,∃i b,p (it B p j x0)=some i/\B[i]?=some b/\b.x=it B p j x0
 lt:∀k,k<=n->it B p k x0<n
 pos:0<m
 le:m<=n
 back:it B p m (it B p n x0)=it B p n x0
 least:∀k,0<k->k<m->it B p k (it B p n x0)≠it B p n x0
 alive:∀k,∃i b,p (it B p k (it B p n x0))=some i/\B[i]?=some b/\b.x=it B p k (it B p n x0)
 neg:sm B p m (it B p n x0)<0
theorem A2.ring {B:List Ao}{n:Nat}{s:Sv}{last:Nat->Nat}{x0:Nat}(hn:0<n)(h:A2 B n B.length s last)(e:s.low=some x0)(hB:∀b∈B,b.x<n/\b.y<n):∃m,GN n B s.p x0 m:=by
 have hl:∀k,k<=n->n<=last (it B s.p k x0)+k:=by
  intro k
  induction k with
  |zero=>intro _;have:=h.lowS _ e;show n<=last x0+0;lia
  |
   succ k ih=>
   intro hk
   have:=ih (by lia)
   obtain⟨i,hi⟩:=h.has (it B s.p k x0) (by lia)
   obtain⟨b,g1,g2,g3,g4⟩:=h.par _ _ hi
   rw[F0,DD hi g1]
   lia
 have hw:Fd B s.p n x0:=fun j hj=>h.has _ (by have:=hl j (by lia);lia)
 have hstep:∀x i,s.p x=some i->x<n/\it B s.p 1 x<n:=fun x i hi=>by
  obtain⟨b,g1,g2,_⟩:=h.par x i hi
  have:=hB b (AH g1)
  show x<n/\(pb B s.p x).y<n
  rw[DD hi g1]
  exact⟨g2▸this.1,this.2⟩
 have hlt:∀k,k<=n->it B s.p k x0<n:=fun k hk=>by
  by_cases c:k<n
  .obtain⟨i,hi⟩:=hw k c
   exact(hstep _ _ hi).1
  .obtain⟨i,hi⟩:=hw (n-1) (by lia)
   have:=(hstep _ _ hi).2
   rw[show k=(n-1)+1 by lia,DZ]
   exact this
 obtain⟨i,j,hij,hj,eij⟩:=OY (u:=fun k=>it B s.p k x0) hlt
 change it B s.p i x0=it B s.p j x0 at eij
 have hper:it B s.p (j-i) (it B s.p n x0)=it B s.p n x0:=by
  have e1:it B s.p n x0=it B s.p (n-i) (it B s.p i x0):=by rw[←DZ];congr 1;lia
  rw[e1,←DZ,MK,DZ]
  congr 1
  rw[←DZ,show i+(j-i)=j by lia,eij]
 obtain⟨m,hm1,⟨hm2,hm3⟩,hm4⟩:=least (P:=fun m=>0<m/\it B s.p m (it B s.p n x0)=it B s.p n x0) (j-i) ⟨by lia,hper⟩
 have hP:∀q,it B s.p (q*(j-i)) (it B s.p n x0)=it B s.p n x0:=fun q=>by
  induction q with
  |zero=>rw[Nat.zero_mul];rfl
  |succ q ih=>rw[J3,DZ,ih];exact hper
 have hback:it B s.p n x0=it B s.p (n-(j-i)) x0:=by
  have e1:it B s.p n x0=it B s.p (n-j) (it B s.p j x0):=by rw[←DZ];congr 1;lia
  rw[e1,←eij,←DZ]
  congr 1
  lia
 have hat:∀k,∃l,l<n/\it B s.p k (it B s.p n x0)=it B s.p l x0:=fun k=>by
  have hp:0<j-i:=by lia
  have hm:=Nat.mod_lt k hp
  refine⟨n-(j-i)+k%(j-i),by lia,?_⟩
  have e1:it B s.p k (it B s.p n x0)=it B s.p (k%(j-i)) (it B s.p n x0):=by
   have:=Nat.div_add_mod k (j-i)
   conv=>lhs;rw[←this,Nat.mul_comm,DZ,hP]
  rw[e1,hback,←DZ]
 have hal:∀k,∃i b,s.p (it B s.p k (it B s.p n x0))=some i/\B[i]?=some b/\b.x=it B s.p k (it B s.p n x0):=fun k=>by
  obtain⟨l,hl1,hl2⟩:=hat k
  obtain⟨i,hi⟩:=hw l hl1
  rw[hl2]
  obtain⟨b,g1,g2,_⟩:=h.par _ _ hi
  exact⟨i,b,hi,g1,g2⟩
 refine⟨m,fun j hj=>(by obtain⟨i,hi⟩:=hw j hj;obtain⟨b,g1,g2,_⟩:=h.par _ _ hi;exact⟨i,b,hi,g1,g2⟩),hlt,hm2,by lia,hm3,fun k k1 k2 e=>hm4 k k2 ⟨k1,e⟩,hal,?_⟩
 obtain⟨m',rfl⟩:∃m',m=m'+1:=⟨m-1,by lia⟩
 exact h.neg m' _ (fun j _=>by obtain⟨i,b,g,_⟩:=hal j;exact⟨i,g⟩) hm3
noncomputable def C0 (B:List Ao)(p:Nat->Option Nat)(s m:Nat):List Nat:=(List.range m).map fun k=>(p (it B p k s)).getD 0
noncomputable def Js (B:List Ao)(p:Nat->Option Nat)(s:Nat):Nat->Nat->List Nat
 |0,_=>[]
 |f+1,x=>if x=s then[] else(p x).getD 0::Js B p s f (pb B p x).y
theorem OX {B:List Ao}{p:Nat->Option Nat}{s m:Nat}(hb:it B p m s=s)(hl:∀k,0<k->k<m->it B p k s≠s):∀(f j:Nat),0<j->j<=m->m-j<=f->Js B p s f (it B p j s)=(List.range (m-j)).map fun k=>(p (it B p (j+k) s)).getD 0
 |0,j,h0,h1,h2=>by rw[show m-j=0 by lia];rfl
 |
  f+1,j,h0,h1,h2=>by
  unfold Js
  by_cases c:j=m
  .subst c
   rw[Ap hb,Cn];rfl
  .rw[Al (hl j h0 (by lia)),←F0,OX hb hl f (j+1) (by lia) (by lia) (by lia)]
   rw[show m-j=(m-(j+1))+1 by lia,List.range_succ_eq_map,Bx,KB,Nat.add_zero]
   congr 1
   refine RQ fun k _=>?_
   show(p (it B p (j+1+k) s)).getD 0=(p (it B p (j+(k+1)) s)).getD 0
   rw[show j+1+k=j+(k+1) by lia]
noncomputable def FP:Ao:=⟨0,0,0⟩
noncomputable def C1 (B:List Ao):List Nat->Int
 |[]=>0
 |i::R=>(B.getD i FP).c+C1 B R
theorem Nd (B:List Ao)(R S:List Nat):C1 B (R++S)=C1 B R+C1 B S:=by
 induction R with
 |nil=>simp[C1]
 |cons i R ih=>rw[List.cons_append,C1,C1,ih];lia
def WF (n:Nat)(B:List Ao):Prop := ∀b∈B,b.x<n/\b.y<n
def Holds (f:Nat->Int)(B:List Ao):Prop := ∀b∈B,f b.x-f b.y<=b.c
structure EW (B:List Ao)(R:List Nat)(u:Nat->Nat):Prop where
 pos:0<R.length
 nd:R.Nodup
 bond:∀k i,R[k]?=some i->∃b,B[i]?=some b/\b.x=u k/\b.y=u (k+1)
 back:u R.length=u 0
 neg:C1 B R<0
theorem EW.sum {B:List Ao}{R:List Nat}{u:Nat->Nat}{f:Nat->Int}(h:Holds f B)(hb:∀k i,R[k]?=some i->∃b,B[i]?=some b/\b.x=u k/\b.y=u (k+1)):∀k,k<=R.length->f (u 0)-f (u k)<=C1 B (R.take k)
 |0,_=>by simp[C1]
 |
  k+1,hk=>by
  have ih:=EW.sum h hb k (by lia)
  have e:R[k]?=some R[k]:=As (by lia)
  obtain⟨b,g1,g2,g3⟩:=hb k _ e
  have hh:=h b (AH g1)
  rw[List.take_add_one,e,Nd]
  have:C1 B (some R[k]).toList=b.c:=by
   show(B.getD R[k] FP).c+0=b.c
   rw[Bv,g1]
   simp
  rw[this]
  rw[g2,g3]at hh
  lia
theorem EW.none {B:List Ao}{R:List Nat}{u:Nat->Nat}(r:EW B R u){f:Nat->Int}(h:Holds f B):False:=by
 have:=EW.sum h r.bond R.length (Af _)
 rw[KC,r.back]at this
 have:=r.neg
 lia
theorem EW.le {B:List Ao}{R:List Nat}{u:Nat->Nat}(r:EW B R u):R.length<=B.length:=by
 have:=Ik r.nd (k:=List.range B.length) fun i hi=>by
  obtain⟨k,hk,rfl⟩:=E5.mp hi
  obtain⟨b,g,_⟩:=r.bond k _ (As hk)
  exact G3.mpr (Ay.mp g).1
 rwa [Dx]at this
noncomputable def Iq (n:Nat)(B:List Ao)(s:Sv):List Nat:=
 (s.p (it B s.p n (s.low.getD 0))).getD 0::Js B s.p (it B s.p n (s.low.getD 0)) n (pb B s.p (it B s.p n (s.low.getD 0))).y
theorem Qs {B:List Ao}{p:Nat->Option Nat}{e:Nat}(h:∀k,∃i b,p (it B p k e)=some i/\B[i]?=some b/\b.x=it B p k e):∀m,C1 B (C0 B p e m)=sm B p m e
 |0=>rfl
 |
  m+1=>by
  have ih:=Qs h m
  obtain⟨i,b,h1,h2,h3⟩:=h m
  unfold C0 at ih ⊢
  rw[Hv,BA,Nd,ih,NP,DD h1 h2]
  show _+(C1 B [(p (it B p m e)).getD 0])=_
  rw[h1]
  show _+((B.getD i FP).c+0)=_
  rw[Bv,h2]
  simp
theorem GN.eq {n:Nat}{B:List Ao}{s:Sv}{x0 m:Nat}(r:GN n B s.p x0 m)(e:s.low=some x0):Iq n B s=C0 B s.p (it B s.p n x0) m:=by
 unfold Iq
 rw[e]
 simp only[J6]
 have:=OX r.back r.least n 1 (by lia) r.pos (by have:=r.le;lia)
 rw[F0]at this
 change Js B s.p (it B s.p n x0) n (pb B s.p (it B s.p n x0)).y=_ at this
 rw[this]
 unfold C0
 obtain⟨m',hm⟩:∃m',m=m'+1:=⟨m-1,by have:=r.pos;lia⟩
 subst hm
 rw[List.range_succ_eq_map,Bx,KB]
 congr 1
 refine RQ fun k _=>?_
 show _=(s.p (it B s.p (k+1) (it B s.p n x0))).getD 0
 rw[MK 1 k]
theorem GN.ok {n:Nat}{B:List Ao}{s:Sv}{x0 m:Nat}(r:GN n B s.p x0 m)(e:s.low=some x0):EW B (Iq n B s) (fun k=>it B s.p k (it B s.p n x0)):=by
 rw[r.eq e]
 have hlen:(C0 B s.p (it B s.p n x0) m).length=m:=by unfold C0;rw[Au,Dx]
 refine⟨by rw[hlen];exact r.pos,?_,fun k i hk=>?_,?_,?_⟩
 .unfold C0
  rw[RP,Os]
  refine(List.pairwise_lt_range (n:=m)).imp_of_mem fun{i j} hi hj hij ee=>?_
  have hi:=G3.mp hi
  have hj:=G3.mp hj
  obtain⟨i1,b1,g1,g2,g3⟩:=r.alive i
  obtain⟨i2,b2,k1,k2,k3⟩:=r.alive j
  rw[g1,k1]at ee
  simp only[J6]at ee
  subst ee
  rw[g2]at k2
  cases k2
  have hij2:it B s.p i (it B s.p n x0)=it B s.p j (it B s.p n x0):=g3.symm.trans k3
  have:it B s.p (m-j+i) (it B s.p n x0)=it B s.p n x0:=by
   rw[MK,DZ,hij2,←DZ,show j+(m-j)=m by lia]
   exact r.back
  exact r.least (m-j+i) (by lia) (by lia) this
 .unfold C0 at hk
  rw[Bq]at hk
  have hlt:k<m:=by
   cases c:(List.range m)[k]? with
   |none=>rw[c]at hk;cases hk
   |some z=>have:=(Ay.mp c).1;simpa using this
  rw[DP hlt]at hk
  obtain⟨i1,b1,g1,g2,g3⟩:=r.alive k
  simp only[J4,g1,J6,Option.some.injEq]at hk
  subst hk
  refine⟨b1,g2,g3,?_⟩
  show b1.y=it B s.p (k+1) (it B s.p n x0)
  rw[F0,DD g1 g2]
 .rw[hlen];exact r.back
 .rw[Qs r.alive];exact r.neg
theorem OM {n:Nat}{B:List Ao}(hn:0<n)(w:WF n B):(∃s,go B n EN = .inl s/\Holds (fun i=>s.v i-s.v 0) B)\/∃s x0 m,go B n EN = .inr s/\s.low=some x0/\GN n B s.p x0 m:=by
 cases c:go B n EN with
 |
  inl s=>
  refine .inl ⟨s,rfl,fun b hb=>?_⟩
  have:=RC (A2.start B) c b hb
  simp only[]
  lia
 |
  inr s=>
  obtain⟨k,rfl⟩:∃k,n=k+1:=⟨n-1,by lia⟩
  obtain⟨last,x,h1,h2⟩:=R4 (A2.start B) c
  rw[MK]at h1
  obtain⟨m,hm⟩:=h1.ring hn h2 w
  exact .inr ⟨s,x,m,rfl,h2,hm⟩
end Bd
namespace L2
open PySem PySem.Spec PyProof.Rows Bd
section
variable {es:List Expr}{env:Env}{p:Pos}
theorem BM {c:Const}{n:Nat}:starEach (.Constant c n p::es) env=(false,eval (.Constant c n p) env)::starEach es env:=rfl
theorem Cb {x:Str}:starEach (.Name x p::es) env=(false,eval (.Name x p) env)::starEach es env:=rfl
theorem FN {a b:Expr}{o:Operator}:starEach (.BinOp a o b p::es) env=(false,eval (.BinOp a o b p) env)::starEach es env:=rfl
theorem K3 {f:Expr}{as:List Expr}{ks:List Keyword}:starEach (.Call f as ks p::es) env=(false,eval (.Call f as ks p) env)::starEach es env:=rfl
theorem DG {a b:Expr}:starEach (.Subscript a b p::es) env=(false,eval (.Subscript a b p) env)::starEach es env:=rfl
theorem Ez {as:List Expr}{n:Nat}:starEach (.Tuple as n p::es) env=(false,eval (.Tuple as n p) env)::starEach es env:=rfl
theorem UO {as:List Expr}:starEach (.List as p::es) env=(false,eval (.List as p) env)::starEach es env:=rfl
theorem QG {o:UnaryOp}{a:Expr}:starEach (.UnaryOp o a p::es) env=(false,eval (.UnaryOp o a p) env)::starEach es env:=rfl
end
@[irreducible] def FG (X:Cx) (es:List Expr) (t:TA):Prop:=PA X es t
section
variable {X:Cx}{e:Expr}{es:List Expr}{te:TE}{t:TA}{pos:Pos}
theorem Cj:FG X [] NN:=by unfold FG;exact A3
theorem Ar (ha:PE X e te)(hr:FG X es t)(hs:starEach (e::es) X.env=(false,eval e X.env)::starEach es X.env):FG X (e::es) (NK te t):=by unfold FG at *;exact A0 ha hr hs
theorem IE (h:FG X es t):PE X (.List es pos) (Rp t):=by unfold FG at h;exact Bs h
theorem CO {x1:Nat}(h:FG X es t):PE X (.Tuple es x1 pos) (PR t):=by unfold FG at h;exact Bb h
end
noncomputable def JN:Option Nat->V
 |none=>.non
 |some i=>.int (i:Int)
noncomputable def rl (n:Nat)(f:Nat->V):List V:=(List.range n).map f
noncomputable def vl (n:Nat)(f:Nat->Int):List V:=rl n fun i=>.int (f i)
noncomputable def pl (n:Nat)(p:Nat->Option Nat):List V:=rl n fun i=>JN (p i)
theorem Hm (n:Nat)(f:Nat->V):(rl n f).length=n:=by unfold rl;rw[Au,Dx]
theorem JU (n:Nat)(f:Nat->Int):(vl n f).length=n:=Hm _ _
theorem OS (n:Nat)(f:Nat->Option Nat):(pl n f).length=n:=Hm _ _
theorem M4 {n x:Nat}{f:Nat->V}(h:x<n):(rl n f)[x]?=some (f x):=by unfold rl;rw[Bq,DP h];rfl
theorem NW {n x:Nat}{f:Nat->V}(h:x<n):B5 (rl n f) (x:Int)=some (f x):=Br (M4 h)
theorem Od {n x:Nat}{f:Nat->Int}(h:x<n):B5 (vl n f) (x:Int)=some (.int (f x)):=NW h
theorem JT {n x:Nat}{f:Nat->Option Nat}(h:x<n):B5 (pl n f) (x:Int)=some (JN (f x)):=NW h
theorem JZ {n x:Nat}(h:x<n):FR n (x:Int)=some x:=by
 unfold FR
 rw[Ap (by lia),Ap (by lia)]
 rfl
theorem N8 {n x:Nat}{f:Nat->V}{a:V}:(rl n f).set x a=rl n (BK f x a):=by
 refine Ot fun k=>?_
 rw[List.getElem?_set]
 by_cases hk:k<n
 .rw[M4 hk,M4 hk,Hm]
  by_cases e:x=k
  .subst e;rw[Ap rfl,Ap hk,BU]
  .rw[Al e,C2 (Ne.symm e)]
 .have h1:(rl n f)[k]?=none:=RS (by rw[Hm];lia)
  have h2:(rl n (BK f x a))[k]?=none:=RS (by rw[Hm];lia)
  rw[h1,h2,Hm]
  by_cases e:x=k
  .subst e;rw[Ap rfl,Al hk]
  .rw[Al e]
theorem Xl {n x:Nat}{f:Nat->Int}{a:Int}:(vl n f).set x (.int a)=vl n (BK f x a):=by
 unfold vl
 rw[N8]
 congr 1
 funext j
 unfold BK
 split<;>rfl
theorem R8 {n x:Nat}{f:Nat->Option Nat}{a:Nat}:(pl n f).set x (.int (a:Int))=pl n (BK f x (some a)):=by
 unfold pl
 rw[N8]
 congr 1
 funext j
 unfold BK
 split<;>rfl
theorem LP (n:Nat)(a:V):(List.replicate n [a]).flatten=rl n fun _=>a:=by
 unfold rl
 induction n with
 |zero=>rfl
 |succ n ih=>rw[List.replicate_succ',List.flatten_concat,ih,Hv,BA];rfl
theorem aJ {L:List Int}{i:Int}(h0:0<=i)(h1:i<(L.length:Int)):∃z∈L,B5 (L.map V.int) i=some (.int z):=by
 have e:L[i.toNat]?=some L[i.toNat]:=As (by lia)
 refine⟨L[i.toNat],Hu _,?_⟩
 have h:B5 (L.map V.int) ((i.toNat:Nat):Int)=some (.int L[i.toNat]):=Br (by rw[Bq,e];rfl)
 rwa [Int.toNat_of_nonneg h0]at h
theorem RF {L:List Int}{i:Int}(n:Nat)(hn:L.length=n)(h0:0<=i)(h1:i<(n:Int)):∃z∈L,B5 (L.map V.int) i=some (.int z):=aJ h0 (by rw[hn];exact h1)
theorem Gf {c:TT}{tb:TS}{D:CC}{σ:St}{H:Hp}(k:Nat)(Pv:Nat->St->Hp->Prop)(h0:Pv 0 σ H)
  (hs:∀i σ H,i<=k->Pv i σ H->c σ H fun b H1=>if b=true then i<k/\tb {D with nx:=Pv (i+1),ct:=Pv (i+1),bk:=D.nx} σ H1 else D.nx σ H1)
  (mono:∀σ H Q Q',(∀b H1,Q b H1->Q' b H1)->c σ H Q->c σ H Q'):Mb c tb D σ H:=by
 refine⟨fun m σ H=>∃i,i<=k/\m=k-i/\Pv i σ H,⟨_,0,Bj _,rfl,h0⟩,?_⟩
 rintro m σ H ⟨i,hi,rfl,p⟩
 refine mono σ H _ _ (fun b H1 q=>?_) (hs i σ H hi p)
 cases b with
 |true=>exact⟨Pv (i+1),fun σ' H' p'=>⟨k-(i+1),by have:=q.1;lia,i+1,by have:=q.1;lia,rfl,p'⟩,q.2⟩
 |false=>exact q
noncomputable def BF (R:List Nat):List V:=(R.map fun i=>((i:Nat):Int)).map V.int
theorem Jj (R:List Nat):(BF R).length=R.length:=by unfold BF;rw[Au,Au]
theorem Za {R:List Nat}{k i:Nat}(h:R[k]?=some i):(BF R)[k]?=some (.int (i:Int)):=by unfold BF;rw[Bq,Bq,h];rfl
theorem Pf (R:List Nat)(i:Nat):BF R++[.int (i:Int)]=BF (R++[i]):=by unfold BF;rw[BA,BA];rfl
def Kt (H:Hp)(v:V)(b:Ao):Prop := ∃t,v = .ref t/\H t=some (.tup [.int (b.x:Int),.int (b.y:Int),.int b.c])
def F8 (H:Hp)(vs:List V)(B:List Ao):Prop:=vs.length=B.length/\∀(i:Nat) (v:V) (b:Ao),vs[i]?=some v->B[i]?=some b->Kt H v b
def Ew (H:Hp)(l:Addr)(B:List Ao):Prop := ∃vs,H l=some (.lst vs)/\F8 H vs B
theorem Kt.over {H H':Hp}{v:V}{b:Ao}(h:Kt H v b)(e:Aa H H'):Kt H' v b:=by
 obtain⟨t,h1,h2⟩:=h
 exact⟨t,h1,e _ _ h2⟩
theorem F8.over {H H':Hp}{vs:List V}{B:List Ao}(h:F8 H vs B)(e:Aa H H'):F8 H' vs B:=⟨h.1,fun i v b x y=>(h.2 i v b x y).over e⟩
theorem Ew.over {H H':Hp}{l:Addr}{B:List Ao}(h:Ew H l B)(e:Aa H H'):Ew H' l B:=by
 obtain⟨vs,h1,h2⟩:=h
 exact⟨vs,e _ _ h1,h2.over e⟩
theorem F8.snoc {H:Hp}{vs:List V}{B:List Ao}{v:V}{b:Ao}(h:F8 H vs B)(hv:Kt H v b):F8 H (vs++[v]) (B++[b]):=by
 refine⟨by rw[AB,AB,h.1];rfl,fun i x c hx hc=>?_⟩
 by_cases hi:i<vs.length
 .rw[BR hi]at hx
  rw[BR (by rw[←h.1];exact hi)]at hc
  exact h.2 i x c hx hc
 .have hlt:=(Ay.mp hx).1
  rw[AB,B4]at hlt
  have e:i=vs.length:=by lia
  subst e
  rw[Bz (Af _),Cn]at hx
  rw[h.1,Bz (Af _),Cn]at hc
  cases hx;cases hc
  exact hv
def IS (H H':Hp)(v l:Addr):Prop := ∀a o,H a=some o->a≠v->a≠l->H' a=some o
noncomputable def DU (n:Nat)(B:List Ao):V×List V:=match go B n EN with
 |.inl s=>(.str "values",vl n fun i=>s.v i-s.v 0)
 |.inr s=>(.str "ring",BF (Iq n B s))
theorem Pu {n:Nat}{B:List Ao}(hn:0<n)(w:WF n B):(∃f,DU n B=(.str "values",vl n f)/\f 0=0/\Holds f B)\/∃R u,DU n B=(.str "ring",BF R)/\EW B R u:=by
 unfold DU
 rcases OM hn w with⟨s,e,h⟩|⟨s,x0,m,e,hl,r⟩
 .rw[e];exact .inl ⟨_,rfl,by lia,h⟩
 .rw[e];exact .inr ⟨_,_,rfl,r.ok hl⟩
theorem F8.get {H:Hp}{vs:List V}{B:List Ao}(h:F8 H vs B){i:Nat}{b:Ao}(hb:B[i]?=some b):∃t,B5 vs (i:Int)=some (.ref t)/\H t=some (.tup [.int (b.x:Int),.int (b.y:Int),.int b.c]):=by
 have hi:i<vs.length:=by rw[h.1];exact(Ay.mp hb).1
 obtain⟨t,e,ht⟩:=h.2 i vs[i] b (As hi) hb
 exact⟨t,(Br (As hi)).trans (by rw[e]),ht⟩
theorem Yy (i:Nat)(f:Nat->Int):vl (i+1) f=vl i f++[.int (f i)]:=by unfold vl rl;rw[Hv,BA];rfl
theorem WF.app {n:Nat}{B C:List Ao}(h:WF n B)(g:WF n C):WF n (B++C):=fun b hb=>by
 rcases BX.mp hb with hb|hb
 .exact h b hb
 .exact g b hb
theorem WF.one {n:Nat}{b:Ao}(hx:b.x<n)(hy:b.y<n):WF n [b]:=fun c hc=>by rw[BL]at hc;subst hc;exact⟨hx,hy⟩
def T9:Sp:=fun vs H Q _=>∃(b v l:Addr) (B:List Ao) (n:Nat) (s:Sv),vs=[.ref b,.ref v,.ref l]/\b≠v/\b≠l/\v≠l/\Ew H b B/\WF n B/\H v=some (.lst (vl n s.v))/\H l=some (.lst (pl n s.p))/\
 ∀H',IS H H' v l->H' v=some (.lst (vl n (CW B s).v))->H' l=some (.lst (pl n (CW B s).p))->Q (JN (CW B s).low) H'
def ZT:Sp:=fun vs H Q _=>∃(n:Nat) (b l:Addr) (B:List Ao) (s:Sv) (x0 m:Nat),vs=[.int (n:Int),.ref b,.ref l,.int (x0:Int)]/\Ew H b B/\B.length<=1000/\n<=1000/\H l=some (.lst (pl n s.p))/\s.low=some x0/\GN n B s.p x0 m/\WF n B/\
 ∀(r:Addr) (H':Hp),Aa H H'->H r=none->H' r=some (.lst (BF (Iq n B s)))->Q (.ref r) H'
def Zp:Sp:=fun vs H Q _=>∃(n:Nat) (b:Addr) (B:List Ao),vs=[.int (n:Int),.ref b]/\Ew H b B/\WF n B/\0<n/\n<=1000/\B.length<=1000/\
 ∀(t l:Addr) (H':Hp),Aa H H'->H l=none->H' t=some (.tup [(DU n B).1,.ref l])->H' l=some (.lst (DU n B).2)->Q (.ref t) H'
end L2
namespace Bd
structure Lt where
 L:Nat->Option Int
 q:Nat->Option Nat
 ch:Bool
noncomputable def Ir (o:Option Int)(l:Int):Bool:=match o with
 |none=>true
 |some k=>decide (l<k)
noncomputable def Ej (i:Nat)(b:Ao)(s:Lt):Lt:=match s.L b.y with
 |none=>s
 |some l=>if Ir (s.L b.x) (l+b.c)=true then⟨BK s.L b.x (some (l+b.c)),BK s.q b.x (some i),true⟩ else s
noncomputable def srnd (B:List Ao):Nat->Lt->Lt
 |0,s=>s
 |
  k+1,s=>match B[k]? with
  |some b=>Ej k b (srnd B k s)
  |none=>srnd B k s
noncomputable def KP (B:List Ao)(s:Lt):Lt:=srnd B B.length {s with ch:=false}
noncomputable def GS (y:Nat):Lt:=⟨BK (fun _=>none) y (some 0),fun _=>none,true⟩
noncomputable def Sx (B:List Ao)(y:Nat):Nat->Lt
 |0=>GS y
 |k+1=>KP B (Sx B y k)
structure Ji (n:Nat)(B:List Ao)(y:Nat)(f:Nat->Int)(s:Lt):Prop where
 lo:∀v l,s.L v=some l->f v-f y<=l
 at0:s.L y=some 0
 no:s.q y=none
 par:∀x i,s.q x=some i->∃b lx ly,B[i]?=some b/\b.x=x/\s.L x=some lx/\s.L b.y=some ly/\ly+b.c<=lx
 has:∀x l,s.L x=some l->x=y\/∃i,s.q x=some i
 lt:∀x l,s.L x=some l->x<n
 free:∀k x,Fd B s.q (k+1) x->it B s.q (k+1) x≠x
theorem Q1 {B:List Ao}{q:Nat->Option Nat}{f:Nat->Int}(h:Holds f B)(par:∀x i,q x=some i->∃b,B[i]?=some b/\b.x=x):∀k x,Fd B q k x->f x-f (it B q k x)<=sm B q k x
 |0,x,_=>by simp[it,sm]
 |
  k+1,x,ha=>by
  obtain⟨i,hi⟩:=ha 0 (by lia)
  change q x=some i at hi
  obtain⟨b,g1,g2⟩:=par x i hi
  have:=Q1 h par k _ ha.tail
  have hb:=h b (AH g1)
  simp only[it,sm]
  rw[DD hi g1]at this ⊢
  rw[g2]at hb
  lia
theorem Ji.step {n:Nat}{B:List Ao}{y:Nat}{f:Nat->Int}{s:Lt}(h:Ji n B y f s)(hf:Holds f B)(hw:WF n B){i:Nat}{b:Ao}(hb:B[i]?=some b):Ji n B y f (Ej i b s):=by
 unfold Ej
 cases hy:s.L b.y with
 |none=>exact h
 |
  some l=>
  simp only[]
  by_cases c:Ir (s.L b.x) (l+b.c)=true
  .rw[Ap c]
   have hfb:=hf b (AH hb)
   have hl:=h.lo _ _ hy
   have nx:b.x≠y:=fun e=>by
    rw[e,h.at0]at c
    have:=HJ c
    rw[e]at hfb
    lia
   have hle:∀v lv,s.L v=some lv->∃lv',BK s.L b.x (some (l+b.c)) v=some lv'/\lv'<=lv:=fun v lv e=>by
    by_cases ev:v=b.x
    .subst ev
     rw[BU]
     rw[e]at c
     exact⟨_,rfl,by have:=HJ c;lia⟩
    .rw[C2 ev]
     exact⟨lv,e,GF _⟩
   have nxy:s.L b.x=none->b.x≠b.y:=fun e1 e2=>by rw[e2,hy]at e1;cases e1
   refine⟨fun v lv e=>?_,?_,?_,fun x j e=>?_,fun x lx e=>?_,fun x lx e=>?_,fun k x ha e=>?_⟩
   .by_cases ev:v=b.x
    .subst ev
     simp only[]at e
     rw[BU]at e
     cases e
     lia
    .simp only[]at e
     rw[C2 ev]at e
     exact h.lo v lv e
   .simp only[];rw[C2 (Ne.symm nx)];exact h.at0
   .simp only[];rw[C2 (Ne.symm nx)];exact h.no
   .simp only[]at e ⊢
    by_cases ex:x=b.x
    .subst ex
     rw[BU]at e
     cases e
     obtain⟨ly',g1,g2⟩:=hle _ _ hy
     exact⟨b,_,ly',hb,rfl,BU,g1,by lia⟩
    .rw[C2 ex]at e
     obtain⟨b',lx,ly,g1,g2,g3,g4,g5⟩:=h.par x j e
     obtain⟨ly',k1,k2⟩:=hle _ _ g4
     exact⟨b',lx,ly',g1,g2,by rw[C2 ex];exact g3,k1,by lia⟩
   .simp only[]at e ⊢
    by_cases ex:x=b.x
    .exact .inr ⟨i,by rw[ex];exact BU⟩
    .rw[C2 ex]at e ⊢
     exact h.has x lx e
   .simp only[]at e
    by_cases ex:x=b.x
    .rw[ex];exact(hw b (AH hb)).1
    .rw[C2 ex]at e
     exact h.lt x lx e
   .simp only[]at ha e
    have key:∃v:Nat->Int,v b.x>v b.y+b.c/\∀x i,s.q x=some i->∃b,B[i]?=some b/\b.x=x/\v b.y+b.c<=v x:=by
     cases hx:s.L b.x with
     |
      none=>
      refine⟨BK (fun v=>(s.L v).getD 0) b.x (l+b.c+1),?_,fun x j e=>?_⟩
      .rw[BU,C2 (Ne.symm (nxy hx)),hy]
       show l+b.c+1>l+b.c
       lia
      .obtain⟨b',lx,ly,g1,g2,g3,g4,g5⟩:=h.par x j e
       have n1:x≠b.x:=fun z=>by rw[z,hx]at g3;cases g3
       have n2:b'.y≠b.x:=fun z=>by rw[z,hx]at g4;cases g4
       refine⟨b',g1,g2,?_⟩
       rw[C2 n1,C2 n2,g3,g4]
       exact g5
     |
      some lx=>
      refine⟨fun v=>(s.L v).getD 0,?_,fun x j e=>?_⟩
      .simp only[hx,hy,J6]
       rw[hx]at c
       have:=HJ c
       lia
      .obtain⟨b',lx,ly,g1,g2,g3,g4,g5⟩:=h.par x j e
       refine⟨b',g1,g2,?_⟩
       simp only[g3,g4,J6]
       exact g5
    obtain⟨v,hlt,hpar⟩:=key
    have:=Pe hb hlt hpar (k+1) x ha
    rw[e]at this
    obtain⟨_,⟨g1,g2,g3⟩|g⟩:=this
    .exact h.free k x g3 g1.symm
    .have hs:=Q1 hf (q:=BK s.q b.x (some i)) (fun x j e=>by
      by_cases ex:x=b.x
      .subst ex
       rw[BU]at e
       cases e
       exact⟨b,hb,rfl⟩
      .rw[C2 ex]at e
       obtain⟨b',lx,ly,g1,g2,_⟩:=h.par x j e
       exact⟨b',g1,g2⟩) (k+1) x ha
     rw[e]at hs
     lia
  .rw[Al c];exact h
theorem Ji.ch {n:Nat}{B:List Ao}{y:Nat}{f:Nat->Int}{s:Lt}(h:Ji n B y f s)(c:Bool):Ji n B y f {s with ch:=c}:=⟨h.lo,h.at0,h.no,h.par,h.has,h.lt,h.free⟩
theorem Ji.srnd {n:Nat}{B:List Ao}{y:Nat}{f:Nat->Int}{s:Lt}(h:Ji n B y f s)(hf:Holds f B)(hw:WF n B):∀k,Ji n B y f (Bd.srnd B k s)
 |0=>h
 |
  k+1=>by
  unfold Bd.srnd
  cases e:B[k]? with
  |none=>exact Ji.srnd h hf hw k
  |some b=>exact(Ji.srnd h hf hw k).step hf hw e
theorem N6 {y v:Nat}{l:Int}(e:(GS y).L v=some l):v=y/\l=0:=by
 unfold GS at e
 by_cases ev:v=y
 .subst ev
  simp only[]at e
  rw[BU]at e
  cases e
  exact⟨rfl,rfl⟩
 .simp only[]at e
  rw[C2 ev]at e
  cases e
theorem Ji.start {n:Nat}{B:List Ao}{y:Nat}{f:Nat->Int}(hy:y<n):Ji n B y f (GS y):=by
 refine⟨fun v l e=>?_,(by unfold GS;simp only[];exact BU),rfl,fun x i e=>?_,fun x l e=>?_,fun x l e=>?_,fun k x ha=>?_⟩
 .obtain⟨rfl,rfl⟩:=N6 e;lia
 .cases e
 .exact .inl (N6 e).1
 .rw[(N6 e).1];exact hy
 .obtain⟨i,hi⟩:=ha 0 (by lia);cases hi
theorem Ji.all {n:Nat}{B:List Ao}{y:Nat}{f:Nat->Int}(hy:y<n)(hf:Holds f B)(hw:WF n B):∀k,Ji n B y f (Sx B y k)
 |0=>Ji.start hy
 |k+1=>((Ji.all hy hf hw k).ch false).srnd hf hw _
noncomputable def Ec (g:Nat->Nat):Nat->Nat
 |0=>0
 |n+1=>Ec g n+g n
theorem R3 {g g':Nat->Nat}(h:∀v,g' v<=g v):∀n,Ec g' n<=Ec g n
 |0=>Af _
 |n+1=>Nat.add_le_add (R3 h n) (h n)
theorem Oi {g g':Nat->Nat}(h:∀v,g' v<=g v){x:Nat}(hx:g' x<g x):∀n,x<n->Ec g' n<Ec g n
 |0,z=>by lia
 |
  n+1,z=>by
  by_cases c:x=n
  .subst c
   exact Nat.add_lt_add_of_le_of_lt (R3 h x) hx
  .exact Nat.add_lt_add_of_lt_of_le (Oi h hx n (by lia)) (h n)
noncomputable def g1 (s:Lt)(v:Nat):Nat:=match s.L v with
 |none=>1
 |some _=>0
noncomputable def g2 (f:Nat->Int)(y:Nat)(s:Lt)(v:Nat):Nat:=match s.L v with
 |none=>0
 |some l=>(l-(f v-f y)).toNat
def Dn (n:Nat)(f:Nat->Int)(y:Nat)(s' s:Lt):Prop:=Ec (g1 s') n<Ec (g1 s) n\/(Ec (g1 s') n=Ec (g1 s) n/\Ec (g2 f y s') n<Ec (g2 f y s) n)
theorem Dn.trans {n:Nat}{f:Nat->Int}{y:Nat}{a b c:Lt}(h:Dn n f y a b)(g:Dn n f y b c):Dn n f y a c:=by
 unfold Dn at *
 lia
theorem Po {n:Nat}{B:List Ao}{y:Nat}{f:Nat->Int}{s:Lt}(h:Ji n B y f s)(hf:Holds f B)(hw:WF n B){i:Nat}{b:Ao}(hb:B[i]?=some b):Ej i b s=s\/((Ej i b s).ch=true/\Dn n f y (Ej i b s) s):=by
 have hj:=h.step hf hw hb
 have hbx:=(hw b (AH hb)).1
 unfold Ej at hj ⊢
 cases hy:s.L b.y with
 |none=>exact .inl rfl
 |
  some l=>
  rw[hy]at hj
  simp only[]at hj ⊢
  by_cases c:Ir (s.L b.x) (l+b.c)=true
  .rw[Ap c]at hj ⊢
   refine .inr ⟨rfl,?_⟩
   have hlo:=hj.lo b.x _ BU
   cases hx:s.L b.x with
   |
    none=>
    left
    refine Oi (fun v=>?_) (x:=b.x) ?_ n hbx
    .unfold g1
     by_cases ev:v=b.x
     .subst ev;simp only[BU];lia
     .simp only[C2 ev];exact Af _
    .unfold g1
     simp only[BU,hx]
     lia
   |
    some lx=>
    right
    rw[hx]at c
    have c:=HJ c
    constructor
    .congr 1
     funext v
     unfold g1
     by_cases ev:v=b.x
     .subst ev;simp only[BU,hx]
     .simp only[C2 ev]
    .refine Oi (fun v=>?_) (x:=b.x) ?_ n hbx
     .unfold g2
      by_cases ev:v=b.x
      .subst ev;simp only[BU,hx];lia
      .simp only[C2 ev];exact Af _
     .unfold g2
      simp only[BU,hx]
      lia
  .rw[Al c];exact .inl rfl
theorem MZ {n:Nat}{B:List Ao}{y:Nat}{f:Nat->Int}{s:Lt}(h:Ji n B y f s)(hf:Holds f B)(hw:WF n B)(hc:s.ch=false):∀k,(Bd.srnd B k s=s/\∀j<k,∀b,B[j]?=some b->Ej j b s=s)\/((Bd.srnd B k s).ch=true/\Dn n f y (Bd.srnd B k s) s)
 |0=>.inl ⟨rfl,fun j hj=>by lia⟩
 |
  k+1=>by
  have hk:=h.srnd hf hw k
  rcases MZ h hf hw hc k with⟨ih,is⟩|⟨ih,id⟩
  .unfold Bd.srnd
   rw[ih]
   cases e:B[k]? with
   |
    none=>
    refine .inl ⟨rfl,fun j hj b hb=>?_⟩
    by_cases z:j=k
    .subst z;rw[e]at hb;cases hb
    .exact is j (by lia) b hb
   |
    some b=>
    simp only[]
    rcases Po h hf hw e with g|g
    .refine .inl ⟨g,fun j hj b' hb'=>?_⟩
     by_cases z:j=k
     .subst z;rw[e]at hb';cases hb';exact g
     .exact is j (by lia) b' hb'
    .exact .inr g
  .unfold Bd.srnd
   cases e:B[k]? with
   |none=>exact .inr ⟨ih,id⟩
   |
    some b=>
    simp only[]
    rcases Po hk hf hw e with g|⟨g,gd⟩
    .rw[g];exact .inr ⟨ih,id⟩
    .exact .inr ⟨g,gd.trans id⟩
theorem VM {n:Nat}{B:List Ao}{y:Nat}{f:Nat->Int}(hy:y<n)(hf:Holds f B)(hw:WF n B):∀(p q k:Nat),Ec (g1 (Sx B y k)) n=p->Ec (g2 f y (Sx B y k)) n=q->∃K,(Sx B y K).ch=false:=by
 intro p
 induction p using Nat.strongRecOn with
 |
  ind p ihp=>
  intro q
  induction q using Nat.strongRecOn with
  |
   ind q ihq=>
   intro k hp hq
   rcases MZ ((Ji.all hy hf hw k).ch false) hf hw rfl B.length with⟨e,_⟩|⟨_,d⟩
   .exact⟨k+1,by show(Bd.srnd B B.length _).ch=false;rw[e]⟩
   .change Dn n f y (Sx B y (k+1)) {Sx B y k with ch:=false} at d
    have d:Dn n f y (Sx B y (k+1)) (Sx B y k):=d
    rcases d with d|⟨d1,d2⟩
    .exact ihp _ (by lia) _ (k+1) rfl rfl
    .exact ihq _ (by lia) (k+1) (by lia) rfl
theorem Wt {n:Nat}{B:List Ao}{y:Nat}{f:Nat->Int}(hy:y<n)(hf:Holds f B)(hw:WF n B):∃K,(Sx B y K).ch=false/\∀k<K,(Sx B y k).ch=true:=by
 obtain⟨K,hK⟩:=VM hy hf hw _ _ 0 rfl rfl
 obtain⟨m,_,h1,h2⟩:=least (P:=fun k=>(Sx B y k).ch=false) K hK
 exact⟨m,h1,fun k hk=>by have:=h2 k hk;simpa using this⟩
def L7 (B:List Ao)(s:Lt):Prop := ∀b∈B,∀l,s.L b.y=some l->∃lx,s.L b.x=some lx/\lx<=l+b.c
theorem NR {n:Nat}{B:List Ao}{y:Nat}{f:Nat->Int}(hy:y<n)(hf:Holds f B)(hw:WF n B){K:Nat}(hK:(Sx B y K).ch=false):L7 B (Sx B y K):=by
 cases K with
 |zero=>cases hK
 |
  succ k=>
  rcases MZ ((Ji.all hy hf hw k).ch false) hf hw rfl B.length with⟨e,h⟩|⟨e,_⟩
  .intro b hb l hl
   obtain⟨j,hj,rfl⟩:=E5.mp hb
   have hs:=h j hj _ (As hj)
   change Bd.srnd B B.length {Sx B y k with ch:=false}=_ at e
   have e':Sx B y (k+1)={Sx B y k with ch:=false}:=e
   rw[e']at hl ⊢
   generalize ({Sx B y k with ch:=false}:Lt)=s at hs hl
   have hsc:s.ch=(Ej j B[j] s).ch:=by rw[hs]
   unfold Ej at hs
   rw[hl]at hs
   simp only[]at hs
   cases hx:s.L B[j].x with
   |
    none=>
    rw[hx]at hs
    have h1:Ir none (l+B[j].c)=true:=rfl
    rw[Ap h1]at hs
    have:=congrArg (fun s:Lt=>s.L B[j].x) hs
    simp only[BU]at this
    rw[hx]at this
    cases this
   |
    some lx=>
    refine⟨lx,rfl,?_⟩
    rw[hx]at hs
    by_cases c:l+B[j].c<lx
    .have h1:Ir (some lx) (l+B[j].c)=true:=Bw c
     rw[Ap h1]at hs
     have:=congrArg (fun s:Lt=>s.L B[j].x) hs
     simp only[BU]at this
     rw[hx]at this
     have:=Ck this
     lia
    .lia
  .change(Sx B y (k+1)).ch=true at e
   rw[e]at hK
   cases hK
structure Lx (n:Nat)(B:List Ao)(y:Nat)(s:Lt)(x m:Nat):Prop where
 alive:∀k<m,it B s.q k x≠y/\∃i b,s.q (it B s.q k x)=some i/\B[i]?=some b/\b.x=it B s.q k x
 at':it B s.q m x=y
 le:m<=n
 lt:∀k≤m,it B s.q k x<n
 sum:s.L x=some (sm B s.q m x)
theorem VU {n:Nat}{B:List Ao}{y:Nat}{f:Nat->Int}{s:Lt}(h:Ji n B y f s)(st:L7 B s){x l:Nat}(hx:s.q x=some l):∃m,0<m/\Lx n B y s x m:=by
 have hL:∀k,(∀j<k,it B s.q j x≠y)->∃lx,s.L (it B s.q k x)=some lx:=by
  intro k
  induction k with
  |zero=>intro _;obtain⟨_,lx,_,_,_,g,_⟩:=h.par x l hx;exact⟨lx,g⟩
  |
   succ k ih=>
   intro hj
   obtain⟨lx,hlx⟩:=ih fun j hj'=>hj j (by lia)
   rcases h.has _ _ hlx with e|⟨i,hi⟩
   .exact absurd e (hj k (by lia))
   .obtain⟨b,lx',ly,g1,g2,g3,g4,g5⟩:=h.par _ _ hi
    rw[F0,DD hi g1]
    exact⟨ly,g4⟩
 have hal:∀k,(∀j<k,it B s.q j x≠y)->Fd B s.q k x:=fun k hk j hj=>by
  obtain⟨lx,hlx⟩:=hL j fun i hi=>hk i (by lia)
  rcases h.has _ _ hlx with e|g
  .exact absurd e (hk j hj)
  .exact g
 have hex:∃m,m<=n/\it B s.q m x=y:=by
  apply Classical.byContradiction
  intro c
  have hne:∀j,j<=n->it B s.q j x≠y:=fun j hj e=>c ⟨j,hj,e⟩
  obtain⟨i,j,hij,hj,e⟩:=OY (n:=n) (u:=fun k=>it B s.q k x) fun i hi=>by
   obtain⟨lx,hlx⟩:=hL i fun j hj=>hne j (by lia)
   exact h.lt _ _ hlx
  change it B s.q i x=it B s.q j x at e
  have ha:=hal j fun k hk=>hne k (by lia)
  refine h.free (j-i-1) (it B s.q i x) (fun k hk=>?_) ?_
  .rw[←DZ]
   exact ha _ (by lia)
  .rw[←DZ,show i+(j-i-1+1)=j by lia]
   exact e.symm
 obtain⟨m0,hm0,em0⟩:=hex
 obtain⟨m,hm,em,hl⟩:=least (P:=fun m=>it B s.q m x=y) m0 em0
 have hne:∀k<m,it B s.q k x≠y:=fun k hk=>hl k hk
 have hpos:0<m:=by
  cases m with
  |
   zero=>
   change x=y at em
   rw[em,h.no]at hx
   cases hx
  |succ m=>lia
 refine⟨m,hpos,fun k hk=>⟨hne k hk,?_⟩,em,by lia,fun k hk=>?_,?_⟩
 .obtain⟨i,hi⟩:=hal m hne k hk
  obtain⟨b,lx,ly,g1,g2,_⟩:=h.par _ _ hi
  exact⟨i,b,hi,g1,g2⟩
 .obtain⟨lx,hlx⟩:=hL k fun j hj=>hne j (by lia)
  exact h.lt _ _ hlx
 ·
  have key:∀k,k<=m->∀lx,s.L x=some lx->∃lk,s.L (it B s.q k x)=some lk/\lx=sm B s.q k x+lk:=by
   intro k
   induction k with
   |zero=>intro _ lx e;exact⟨lx,e,by show lx=0+lx;lia⟩
   |
    succ k ih=>
    intro hk lx e
    obtain⟨lk,h1,h2⟩:=ih (by lia) lx e
    obtain⟨i,hi⟩:=hal m hne k (by lia)
    obtain⟨b,lx',ly,g1,g2,g3,g4,g5⟩:=h.par _ _ hi
    rw[h1]at g3
    cases g3
    obtain⟨lx2,k1,k2⟩:=st b (AH g1) ly g4
    rw[g2,h1]at k1
    cases k1
    rw[F0,NP,DD hi g1]
    exact⟨ly,g4,by lia⟩
  obtain⟨_,lx,_,_,_,g,_⟩:=h.par x l hx
  obtain⟨lk,h1,h2⟩:=key m (Af _) lx g
  rw[em,h.at0]at h1
  cases h1
  rw[g,h2]
  simp
theorem ZZ {n:Nat}{B:List Ao}{y:Nat}{f:Nat->Int}{s:Lt}(h:Ji n B y f s)(hf:Holds f B)(st:L7 B s){x:Nat}{c:Int}(hx:s.L x=some c):∃f',Holds f' (B++[⟨y,x,-c⟩]):=by
 have hbig:∀l:List Ao,∃M:Int,∀b∈l,∀lx,s.L b.x=some lx->lx-f b.y-b.c<=M:=by
  intro l
  induction l with
  |nil=>exact⟨0,fun b hb=>by cases hb⟩
  |
   cons b l ih=>
   obtain⟨M,hM⟩:=ih
   refine⟨max M (((s.L b.x).getD 0)-f b.y-b.c),fun b' hb' lx e=>?_⟩
   rcases AZ.mp hb' with rfl|hb'
   .rw[e];simp only[J6];lia
   .have:=hM b' hb' lx e;lia
 obtain⟨M,hM⟩:=hbig B
 refine⟨fun v=>match s.L v with|some l=>l|none=>f v+M,fun b hb=>?_⟩
 rcases BX.mp hb with hb|hb
 .have hfb:=hf b hb
  simp only[]
  cases ey:s.L b.y with
  |
   some ly=>
   obtain⟨lx,k1,k2⟩:=st b hb ly ey
   rw[k1]
   simp only[]
   lia
  |
   none=>
   cases ex:s.L b.x with
   |
    some lx=>
    have:=hM b hb lx ex
    simp only[]
    lia
   |
    none=>
    simp only[]
    lia
 .rw[BL]at hb
  subst hb
  simp only[hx,h.at0]
  lia
end Bd
namespace L2
open PySem PySem.Spec PyProof.Rows
section
open Bd
theorem aM {tt:TT}{ta tb:TS}{D:CC}{σ:St}{H:Hp}(M:Hp->Prop)(ha:∀H',M H'->ta D σ H')(h:(∀H',M H'->ta D σ H')->JL tt ta tb D σ H):JL tt ta tb D σ H:=h ha
theorem Mi:∀{ns:List Int} {its:List Value},Aw (ns.map V.int) its->IntsAre its ns
 |[],_,.nil=>.nil
 |n::ns,_,.cons ⟨t,h⟩ r=>by subst h;exact .cons n t (Mi r)
theorem b7 {X:Cx}(hc:X.calm=true):DX X (.builtin "sum") (fun xs H Q=>∃(p:Addr) (ns:List Int),xs=[.ref p]/\A4 X.K H p (ns.map V.int)/\Q (.int ns.sum) H):=by
 intro pins s σ H xs us Q I r h
 obtain⟨p,ns,rfl,hq,q⟩:=h
 obtain⟨u,rfl,ru⟩:=ET r
 cases ru
 obtain⟨its,rv,pl,hz⟩:=I.list hq
 have hi:=Mi rv
 obtain⟨xs,ex⟩:=hi.allInts.items
 have hn:xs.toList.map (·.1)=ns:=by rw[←nums_intItems,←ex];exact hi.numsOf
 have hl:=pl.isList
 rw[ex]at hl
 refine sum_intListG (I.ok.hd hc) hl fun h' tk t' hk=>?_
 rw[preSum_eq,Du (by simp),hn]
 exact⟨.int ns.sum,H,I.kept (t':=tk) hk,⟨_,rfl⟩,q⟩
noncomputable def PF:Option Int->V
 |none=>.non
 |some l=>.int l
noncomputable def ol (n:Nat)(f:Nat->Option Int):List V:=rl n fun i=>PF (f i)
theorem Rz (n:Nat)(f:Nat->Option Int):(ol n f).length=n:=Hm _ _
theorem LJ {n x:Nat}{f:Nat->Option Int}(h:x<n):B5 (ol n f) (x:Int)=some (PF (f x)):=NW h
theorem Q8 {n x:Nat}{f:Nat->Option Int}{a:Int}:(ol n f).set x (.int a)=ol n (BK f x (some a)):=by
 unfold ol
 rw[N8]
 congr 1
 funext j
 unfold BK
 split<;>rfl
open Classical in
def Fl (B:List Ao)(y:Nat):Nat:=if h:∃K,(Sx B y K).ch=false/\∀k<K,(Sx B y k).ch=true then choose h else 0
theorem Lc {n:Nat}{B:List Ao}{y:Nat}{f:Nat->Int}(hy:y<n)(hf:Holds f B)(hw:WF n B):(Sx B y (Fl B y)).ch=false/\∀k<Fl B y,(Sx B y k).ch=true:=by
 have h:=Wt hy hf hw
 unfold Fl
 rw[dif_pos h]
 exact Ou h
def fin (B:List Ao)(y:Nat):Lt:=Sx B y (Fl B y)
open Classical in
def Hb (n:Nat)(B:List Ao)(y x:Nat):Nat:=if h:∃m,0<m/\Lx n B y (fin B y) x m then choose h else 0
theorem Rj {n:Nat}{B:List Ao}{y:Nat}{f:Nat->Int}(hy:y<n)(hf:Holds f B)(hw:WF n B){x l:Nat}(hx:(fin B y).q x=some l):0<Hb n B y x/\Lx n B y (fin B y) x (Hb n B y x):=by
 have h:∃m,0<m/\Lx n B y (fin B y) x m:=VU (Ji.all hy hf hw (Fl B y)) (NR hy hf hw (Lc hy hf hw).1) hx
 unfold Hb
 rw[dif_pos h]
 exact Ou h
def Ea (n:Nat)(B:List Ao)(y x:Nat):List Nat:=C0 B (fin B y).q x (Hb n B y x)
def UL:Sp:=fun vs H Q _=>∃(b v l:Addr) (B:List Ao) (n:Nat) (s:Lt),vs=[.ref b,.ref v,.ref l]/\b≠v/\b≠l/\v≠l/\Ew H b B/\WF n B/\H v=some (.lst (ol n s.L))/\H l=some (.lst (pl n s.q))/\
 ∀H',IS H H' v l->H' v=some (.lst (ol n (KP B s).L))->H' l=some (.lst (pl n (KP B s).q))->Q (.bl (KP B s).ch) H'
def Xc:Sp:=fun vs H Q _=>∃(n:Nat) (b:Addr) (B:List Ao) (y:Nat) (f:Nat->Int),vs=[.int (n:Int),.ref b,.int (y:Int)]/\Ew H b B/\WF n B/\n<=1000/\y<n/\Holds f B/\
 ∀(r:Addr) (H':Hp),Aa H H'->H' r=some (.lst (pl n (fin B y).q))->Q (.ref r) H'
def X1 (n:Nat)(B:List Ao)(y x:Nat)(H:Hp)(v:V):Prop:=((fin B y).q x=none/\v = .non)\/((∃l,(fin B y).q x=some l)/\∃r,v = .ref r/\H r=some (.lst (BF (Ea n B y x))))
def YZ:Sp:=fun vs H Q _=>∃(n:Nat) (b:Addr) (B:List Ao) (x y:Nat) (f:Nat->Int),vs=[.int (n:Int),.ref b,.int (x:Int),.int (y:Int)]/\Ew H b B/\WF n B/\n<=1000/\B.length<=1000/\x<n/\y<n/\Holds f B/\
 ∀(v:V) (H':Hp),Aa H H'->X1 n B y x H' v->Q v H'
theorem Nu {n:Nat}{B:List Ao}{f:Nat->Int}(hn:0<n)(w:WF n B)(hf:Holds f B):∃g,DU n B=(.str "values",vl n g)/\g 0=0/\Holds g B:=by
 rcases Pu hn w with h|⟨R,u,_,h⟩
 .exact h
 .exact(h.none hf).elim
theorem ZQ (B:List Ao)(R:List Nat):(R.map fun i=>(B.getD i FP).c).sum=C1 B R:=by
 induction R with
 |nil=>rfl
 |cons i R ih=>rw[Bx,List.sum_cons,ih,C1]
open Classical in
def G7 (n:Nat)(B:List Ao)(x y:Nat):Option (Int×List Nat×List V):=
 if x=y then some (0,[],(DU n B).2) else if(fin B y).q x=none then none else
  some (C1 B (Ea n B y x),Ea n B y x,(DU n (B++[⟨y,x,-(C1 B (Ea n B y x))⟩])).2)
def HQ (n:Nat)(B:List Ao)(x y:Nat)(H:Hp)(v:V):Prop:=match G7 n B x y with
 |none=>v = .non
 |some (c,ch,vs)=>∃t l1 l2,v = .ref t/\H t=some (.tup [.int c,.ref l1,.ref l2])/\H l1=some (.lst (BF ch))/\H l2=some (.lst vs)
structure Mp (B:List Ao)(R:List Nat)(x y:Nat)(u:Nat->Nat):Prop where
 bond:∀k i,R[k]?=some i->∃b,B[i]?=some b/\b.x=u k/\b.y=u (k+1)
 fst:u 0=x
 lst:u R.length=y
theorem PZ {n:Nat}{B:List Ao}{y:Nat}{f:Nat->Int}(hy:y<n)(hf:Holds f B)(hw:WF n B){x l:Nat}(hx:(fin B y).q x=some l):∃u,Mp B (Ea n B y x) x y u/\(Ea n B y x).length<=n/\(fin B y).L x=some (C1 B (Ea n B y x)):=by
 obtain⟨m0,hC⟩:=Rj hy hf hw hx
 unfold Ea
 generalize Hb n B y x=m at hC m0
 have hlen:(C0 B (fin B y).q x m).length=m:=by unfold C0;rw[Au,Dx]
 refine⟨fun k=>it B (fin B y).q k x,⟨fun k i hk=>?_,rfl,?_⟩,by rw[hlen];exact hC.le,?_⟩
 .unfold C0 at hk
  rw[Bq]at hk
  have hlt:k<m:=by
   cases c:(List.range m)[k]? with
   |none=>rw[c]at hk;cases hk
   |some z=>have:=(Ay.mp c).1;simpa using this
  rw[DP hlt]at hk
  obtain⟨_,i1,b1,g1,g2,g3⟩:=hC.alive k hlt
  simp only[J4,g1,J6,Option.some.injEq]at hk
  subst hk
  refine⟨b1,g2,g3,?_⟩
  show b1.y=it B (fin B y).q (k+1) x
  rw[F0,DD g1 g2]
 .rw[hlen];exact hC.at'
 .rw[hC.sum]
  congr 1
  have:∀k,k<=m->C1 B (C0 B (fin B y).q x k)=sm B (fin B y).q k x:=by
   intro k
   induction k with
   |zero=>intro _;rfl
   |
    succ k ih=>
    intro hk
    obtain⟨_,i1,b1,g1,g2,g3⟩:=hC.alive k (by lia)
    unfold C0 at ih ⊢
    rw[Hv,BA,Nd,ih (by lia),NP,DD g1 g2]
    show _+(C1 B [((fin B y).q (it B (fin B y).q k x)).getD 0])=_
    rw[g1]
    show _+((B.getD i1 FP).c+0)=_
    rw[Bv,g2]
    simp
  exact(this m (Af _)).symm
theorem Mp.sum {B:List Ao}{R:List Nat}{x y:Nat}{u:Nat->Nat}(h:Mp B R x y u){f:Nat->Int}(hf:Holds f B):f x-f y<=C1 B R:=by
 have:=EW.sum hf h.bond R.length (Af _)
 rw[KC,h.fst,h.lst]at this
 exact this
theorem Zy {n:Nat}{B:List Ao}{x y:Nat}{f:Nat->Int}(hx:x<n)(hy:y<n)(hf:Holds f B)(hw:WF n B) :
  (G7 n B x y=none/\x≠y/\(fin B y).q x=none)\/∃c R g u,G7 n B x y=some (c,R,vl n g)/\g 0=0/\Holds g B/\g x-g y=c/\Mp B R x y u/\C1 B R=c/\R.length<=n/\(x=y->R=[])/\(x=y\/∃l,(fin B y).q x=some l):=by
 have n0:0<n:=by lia
 unfold G7
 by_cases c:x=y
 .subst c
  rw[Ap rfl]
  obtain⟨g,eg,g0,hg⟩:=Nu n0 hw hf
  refine .inr ⟨0,[],g,fun _=>x,by rw[eg],g0,hg,by lia,⟨fun k i z=>by simp at z,rfl,rfl⟩,rfl,Bj _,fun _=>rfl,.inl rfl⟩
 .rw[Al c]
  cases hq:(fin B y).q x with
  |none=>rw[Ap rfl];exact .inl ⟨rfl,c,rfl⟩
  |
   some l=>
   rw[Al (by intro z;cases z)]
   obtain⟨u,hC,hl,hL⟩:=PZ hy hf hw hq
   obtain⟨f',hf'⟩:=ZZ (Ji.all hy hf hw (Fl B y)) hf (NR hy hf hw (Lc hy hf hw).1) hL
   have hw':WF n (B++[⟨y,x,-(C1 B (Ea n B y x))⟩]):=WF.app hw (WF.one hy hx)
   obtain⟨g,eg,g0,hg⟩:=Nu n0 hw' hf'
   have hgB:Holds g B:=fun b hb=>hg b (DN _ hb)
   have h1:=hg _ (CD _ (BL.mpr rfl))
   have h2:=hC.sum hgB
   refine .inr ⟨_,_,g,u,by rw[eg],g0,hgB,?_,hC,rfl,hl,fun z=>absurd z c,.inr ⟨l,rfl⟩⟩
   simp only[]at h1
   lia
end
section
def Th (tk tv:TE):TE:=fun σ H Q=>∀p,H p=none->tk σ (upd H p (.dK [])) fun y H1=>tv σ H1 fun v H2=>∃k:AC,y=kV k/\H2 p=some (.dK [])/\Q (.ref p) (upd H2 p (.dK [(k,v)]))
theorem Zr {X:Cx}{a b:Expr}{ta tb:TE}{pos:Pos}(ha:PE X a ta)(hb:PE X b tb):PE X (.Dict [some a] [b] pos) (Th ta tb):=by
 intro pins s σ H Q I h
 have hf:H s.heap.objs.size=none:=I.hok.fresh (Af _)
 have I0:=I.laid (a:=s.heap.objs.size) (o:=.dK []) (t':=s.toks) (fun _ _ q=>AD _ q) (Af _) (Y8 s.heap I.big)
 refine wpAny_Dict_walk (knd:=BQ X.prog X.w) rfl rfl (by simp) (by show 1<=15;decide) (pairTrees_cons_walk (Az (ha pins _ σ _ _ I0 (h _ hf)) fun kv s1 zz=>?_))
 obtain⟨y,H1,I1,ry,q1⟩:=zz
 refine Az (hb pins s1 σ H1 _ I1 q1) fun vv s2 zz=>?_
 obtain⟨v,H2,I2,rv,k,ey,e,q2⟩:=zz
 refine pairTrees_nil_walk ?_
 subst ey
 obtain⟨z,hd,vs,rel,dd⟩:=PN I2.hok e
 have hv:vs=[]:=by cases rel;rfl
 subst hv
 refine⟨[(k,vv)],⟨Jh ry,rfl,True.intro⟩,dd,fun h' dd' hs=>?_⟩
 have he:∃q,h'.get? s.heap.objs.size=some q:=by obtain⟨q,_,_,hq,_⟩:=dd';exact⟨q,hq⟩
 refine⟨.ref s.heap.objs.size,upd H2 s.heap.objs.size (.dK [(k,v)]),NF I2 (by rw[e];exact True.intro) hs he (OI (An rfl) hd (KV.put (κ:=AC) (kvs:=[]) (vs:=[]) .nil k rv) dd'),rfl,q2⟩
open Bd
end
structure Cs where
 n:Addr
 v:Addr
 c:Addr
 j:Addr
theorem A4.updI {K:Faa}{H:Hp}{p x C dx:Addr}{fs:List (Str×V)}{ys:List V}{o:HO}(h:A4 K H p ys)(hx:H x=some (.ins C dx fs)):A4 K (upd H x o) p ys:=by
 rcases h with(h|⟨ob,h⟩)|h
 .refine .inl (.inl ?_)
  rw[Ai (fun e=>by rw[e,hx]at h;cases h)]
  exact h
 .refine .inl (.inr ⟨ob,?_⟩)
  rw[Ai (fun e=>by rw[e,hx]at h;cases h)]
  exact h
 .exact .inr h
def Z3 (K:Faa)(C:Addr):Sp:=fun vs H Q _=>∃(x dx:Addr) (sz:V) (p:Addr) (ys:List V),vs=[.ref x,sz,.ref p]/\H x=some (.ins C dx [])/\A4 K H p ys/\∀(l:Addr) (H':Hp),H l=none->(∀b o,H b=some o->b≠x->H' b=some o)->H' l=some (.lst ys)->(∃dx,H' x=some (.ins C dx [("size",sz),("deeds",.ref l)]))->Q .non H'
end L2
namespace PySem
open Builtin
open AutoSeq1 (wpAny_loadPart')
end PySem
namespace L2
open PySem PySem.Spec PyProof.Rows
section
variable {X:Cx}
end
section
open Bd
theorem dS {x y:Str}(h:x≠y):decide (V.str x=V.str y)=false:=Bk fun e=>h (V.str.inj e)
theorem SG {K:Faa}{a:Addr}{xs:List V}{ρ:List (Option Nat)}{g:TG}{tt:TT}{te:TE}{σ:St}{H:Hp}{Q:VK}(Pv:Nat->List V->Hp->Prop)(h0:Pv 0 [] H)(hlen:xs.length<=sizeLine)(hl:∀i ys H,i<=xs.length->Pv i ys H->A4 K H a xs/\ys.length<=i)
  (hs:∀i x ys H,xs[i]?=some x->Pv i ys H->g x (C4 ρ σ) H fun σ2 H3=>Jm ρ σ σ2/\tt σ2 H3 fun ok H4=>if ok=true then te σ2 H4 fun v H5=>Pv (i+1) (ys++[v]) H5 else Pv (i+1) ys H4)
  (hd:∀ys H,Pv xs.length ys H->∀p,H p=none->Q (.ref p) (upd H p (.lst ys))):GW ρ g tt te σ Q (Hi K a) H:=by
 refine⟨fun i m ys H=>m=xs.length-i/\i<=xs.length/\Pv i ys H,⟨_,rfl,Bj _,h0⟩,?_⟩
 rintro i m ys H ⟨rfl,hi,p⟩
 obtain⟨hq,hy⟩:=hl i ys H hi p
 by_cases hlt:i<xs.length
 .refine .inr ⟨⟨xs,xs[i],hq,by simp[hlt]⟩,by lia,Pv (i+1),fun ys' H'' p'=>⟨xs.length-(i+1),by lia,rfl,hlt,p'⟩,fun x H' y=>?_⟩
  obtain⟨e,y2⟩:=y
  subst e
  exact hs i x ys _ (y2 xs hq) p
 .have e:i=xs.length:=by lia
  subst e
  exact .inl ⟨⟨xs,hq,Af _⟩,by lia,hd ys H p⟩
end
theorem ZC {M:Model}{A:Around}{E:Value->Shared->Prop}{s:Shared}{β:Type}{f:Nat->β->Sem (ForInStep β)}{n:Nat}{b:β}{Q:β->Shared->Prop}(I:Nat->β->Shared->Prop)(h:I 0 b s)
  (turn:∀i b s,i<n->I i b s->wpAny M A (f i b) (fun r s'=>match r with|.yield b'=>I (i+1) b' s'|.done b'=>Q b' s') E s) (fin:∀b s,I n b s->Q b s):wpAny M A (forIn [:n] b f) Q E s:=by
 rw[Std.Legacy.Range.forIn_eq_forIn_range']
 have key:∀(k i:Nat) (b:β) (s:Shared),i+k=n->I i b s->wpAny M A (forIn (List.range' i k) b f) Q E s:=by
  intro k
  induction k with
  |zero=>intro i b s e hi;rw[List.range'_zero,List.forIn_nil];exact AA (fin _ _ (by rw[←e];exact hi))
  |
   succ k ih=>
   intro i b s e hi
   rw[List.range'_succ,MM]
   refine A9 (CN (turn i b s (by lia) hi) (fun r s' hr=>?_) fun _ _ x=>x)
   cases r with
   |done b'=>exact AA hr
   |yield b'=>exact ih (i+1) b' s' (by lia) hr
 have e:(Std.Legacy.Range.size [:n])=n:=by simp[Std.Legacy.Range.size]
 rw[e]
 exact key n 0 b s (by lia) h
section
open PySem.SeqAt
open PySem.AutoSeq1 (wpAny_loadPart')
open PySem.MeetsSeq PySem.MeetsSeq2 PySem.MeetsSeq3
theorem Tv (l:Addr)(items:Array Value)(n:Nat)(dd:Option Addr)(sl:Array (Option Value))(x:Value)(e:Value->Bool)(j:Nat)(hj:j<items.size)(hit:e items[j]=true)(hno:∀m (hm:m<items.size),m<j->e items[m]=false) :
  Meets (Builtin.«tuple.index» ⟨[.ref l,x],[]⟩)
   (fun A R s=>s.heap.get? l=some {cls:=.type "tuple",dict:=dd,data:=.seq items n,slots:=sl}/\(∀y,y∈items->EqAt A.in1 s y x (e y))/\R (.ok (.ret (.int j s.toks))) {s with toks:=s.toks+1}):=
 .of_wp fun prog w A R s h=>by
  obtain⟨hp,g,d,tk,os⟩:=s;obtain⟨hl,he,h⟩:=h
  wp_walk using wpAny_loadPart' hl
  refine ZC (n:=min items.size items.size) (b:=(none,())) (f:=fun i _=>match items[i]? with
   |
    some y=>do
    let q ←eqBool y x
    if q=true then do
     let r ←retInt i
     pure (ForInStep.done (some r,()))
    else pure (ForInStep.yield (none,()))
   |_=>pure (ForInStep.yield (none,()))) (fun i b s'=>i<=j/\b.1=none/\s'=⟨hp,g,d,tk,os⟩) ⟨Bj _,rfl,rfl⟩ (fun i b s' hi hI=>?_) (fun b s' hI=>?_)
  .obtain⟨hij,hb,rfl⟩:=hI
   have hlt:i<items.size:=by lia
   have ei:items[i]?=some items[i]:=RT hlt
   simp only[ei]
   refine A9 (he _ (Array.getElem_mem hlt) prog w _ _ ?_)
   by_cases c:i=j
   .subst c
    rw[hit]
    wp_walk
    exact⟨_,rfl,h⟩
   .rw[hno i hlt (by lia)]
    wp_walk
    exact⟨by lia,rfl,rfl⟩
  .obtain⟨hij,_,_⟩:=hI
   lia
end
noncomputable def WT (z:Str):Value->Bool
 |.str y _=>y==z
 |_=>false
theorem ZM {zs:List Str}{its:List Value}(r:Aw (zs.map V.str) its){i:Nat}{u:Value}(h:its[i]?=some u):∃z t,zs[i]?=some z/\u = .str z t:=by
 cases e:(zs.map V.str)[i]? with
 |none=>rw[r.none_of e]at h;cases h
 |
  some v=>
  obtain⟨u',h',ru⟩:=r.get e
  rw[h]at h'
  cases h'
  rw[Bq]at e
  cases ez:zs[i]? with
  |none=>rw[ez]at e;cases e
  |
   some z=>
   rw[ez]at e
   cases e
   obtain⟨t,ht⟩:=(show ∃t,u=Value.str z t from ru)
   exact⟨z,t,rfl,ht⟩
def T4 (K:Faa):V->List V->Hp->VK->Prop:=fun x vs H Q=>∃(p:Addr) (zs:List Str) (z:Str) (j:Nat),x = .ref p/\vs=[.str z]/\A5 K H p (zs.map V.str)/\zs[j]?=some z/\(∀m<j,zs[m]?≠some z)/\Q (.int (j:Int)) H
theorem YC {X:Cx}:JJ X "tuple.index" (T4 X.K):=by
 intro pins s σ H x vs v us Q I rx rv h
 obtain⟨p,zs,z,j,rfl,rfl,hq,hj,hno,q⟩:=h
 cases rx
 obtain⟨u,rfl,ru⟩:=ET rv
 obtain⟨tk,rfl⟩:=(show ∃t,u=Value.str z t from ru)
 obtain⟨its,r,⟨o,e,hc,n,hd⟩,hz⟩:=I.tuple hq
 have hl:=r.length
 rw[Au]at hl
 have hjl:j<its.length:=by have:=(Ay.mp hj).1;lia
 obtain⟨cls,dd,data,sl⟩:=o
 simp only at hc hd
 subst hc hd
 have at':∀m (hm:m<its.toArray.size),∃y t,zs[m]?=some y/\its.toArray[m] = .str y t:=fun m hm=>by
  have hm':m<its.length:=by simpa using hm
  obtain⟨y,t,h1,h2⟩:=ZM r (i:=m) (u:=its[m]) (As hm')
  exact⟨y,t,h1,by simpa using h2⟩
 refine Jf PySem.F.slot_tuple_index ⟨_,e,rfl⟩ PySem.F.entry_tuple_index (PySem.F.args_tuple_index_2 _ _) (Tv p its.toArray n dd sl (.str z tk) (WT z) j (by simpa using hjl) ?_ ?_) ⟨e,fun y hy=>?_,?_⟩
 .obtain⟨y,t,h1,h2⟩:=at' j (by simpa using hjl)
  rw[hj]at h1
  cases h1
  rw[h2]
  exact Sf z
 .intro m hm hmj
  obtain⟨y,t,h1,h2⟩:=at' m hm
  rw[h2]
  have:y≠z:=fun e=>hno m hmj (by rw[h1,e])
  exact Hy.mpr this
 .obtain⟨m,hm,rfl⟩:=Array.mem_iff_getElem.mp hy
  obtain⟨y,t,h1,h2⟩:=at' m hm
  rw[h2]
  exact PySem.SeqAt.EqAt.str_str y t z tk
 .exact⟨.int (j:Int),H,I.tok _,⟨_,rfl⟩,q⟩
def Vg (r:V->List V->Hp->VK->Prop)(to:TE)(t:TA):TE:=fun σ H Q=>to σ H fun x H1=>(∃p xs,x = .ref p/\H1 p=some (.tup xs))/\t σ H1 fun xs H2=>r x xs H2 Q
theorem Zb {X:Cx}{pins:List (Addr×Obj)}{σ:St}{H:Hp}{s:Shared}{p:Addr}{xs:List V}(I:A2 X pins σ H s)(h:H p=some (.tup xs)):s.TypeIs (.ref p) "tuple"/\∀a,Value.ref p = .ref a->∃ob,s.heap.get? a=some ob/\ob.dict=none:=by
 obtain⟨_,its,_,o,e,c,_,d⟩:=(show BG X.prog X.w H s.heap p (.tup xs) from I.hok p _ h)
 exact⟨⟨o,e,c⟩,fun a z=>by cases z;exact⟨o,e,d⟩⟩
theorem Wn {X:Cx}{o e:Expr}{es:List Expr}{to:TE}{t:TA}{name:Str}{apos cpos:Pos}{id:String}{r:V->List V->Hp->VK->Prop}(slot:Slot "tuple" name id)(hty:typeOf (.builtin id)=pure (.type "method_descriptor"))(hm:JJ X id r)(ho:PE X o to)(ha:PA X (e::es) t)
  (hbase:attributeBase o name X.env (eval o X.env)=eval o X.env:=by rfl)
  (hfew:((backTo cpos (starEach (e::es) X.env)).all (fun x=>!x.1)&&(backToKw cpos (keywordEach [] X.env)).all (fun x=>x.1.isSome)&&decide ((e::es).length+([]:List Keyword).length+(if([]:List Keyword).isEmpty then 0 else 1)<30))=true:=by rfl)
  (hline:(apos.endLine==cpos.line)=true:=by rfl) (hs:starEach (e::es) X.env=(false,eval e X.env)::starEach es X.env:=by rfl) (hplain:(backTo cpos (starEach es X.env)).any (·.1)=false:=by rfl) :
  PE X (.Call (.Attribute o name apos) (e::es) [] cpos) (Vg r to t):=by
 intro pins s σ H Q I h
 refine wpAny_Call_method_late hbase hfew hline rfl (Az (ho pins s σ H _ I h) fun v s1 hx=>?_)
 obtain⟨x,H1,I1,r1,⟨p,xs,rfl,hp⟩,q1⟩:=hx
 cases r1
 obtain⟨h1,h2⟩:=Zb I1 hp
 refine⟨"tuple",id,PySem.F.plainAttrs_tuple,slot,hty,h1,h2,?_⟩
 have hA:=ha cpos pins s1 σ H1 _ I1 q1
 rw[hs]at hA ⊢
 refine Calls.callWith_builtin (by show(false||(backTo cpos (starEach es X.env)).any (·.1))=false;rw[hplain]<;>rfl) (Calls.evalArgs_plain ?_)
 exact Az hA fun us s2 hy=>by
  obtain⟨vs,H2,I2,r2,q2⟩:=hy
  exact hm pins s2 σ H2 (.ref p) vs (.ref p) us Q I2 rfl r2 q2
def Fk (zs:List Str)(z:Str)(first u:Int):Prop:=(z=""/\u=0)\/(z≠""/\∃j:Nat,zs[j]?=some z/\(∀m<j,zs[m]?≠some z)/\u=first+(j:Int))
def Ys:Sp:=fun vs H Q _=>∃(t nm:Addr) (z:Str) (n first:Int) (zs:List Str) (u:Int),vs=[.ref t,.ref nm,.int first]/\H t=some (.tup [.str z,.int n])/\H nm=some (.tup (zs.map V.str))/\Fk zs z first u/\Q (.int u) H
section
variable {prog:Program}{w:World}{A:Around}{E:Value->Shared->Prop}{s:Shared}
theorem OK {it t:Addr}{k:Nat}{its:Array Value}{Q:Value->Shared->Prop}(a:s.heap.IsTupleIter it t k)(b:s.heap.IsTuple t its)
  (q:wpAny (model prog w) A.in1 (match its[k]? with
   |some x=>do setField (.ref it) 1 (rawInt (k+1));ret x
   |none=>do rule (toString "tuple_iterator.__next__"++toString ".end");setField (.ref it) 0 .none;Builtin.SmallTypes.stopIteration) (fun fin s'=>∃v,fin = .done (.ret v)/\Q v s') E s) :
  wpAny (model prog w) A (Builtin.SmallTypes.nextOf (.ref it)) Q E s:=by
 have ty:=a.typeIs
 obtain⟨o,g,c,d⟩:=a
 obtain⟨o2,g2,-,n2,d2⟩:=b
 unfold Builtin.SmallTypes.nextOf
 apply A9
 apply wpAny_callSpecial?_slot (name:=Str.ofString "__next__") ty F.slot_tuple_iterator_next
 refine MU F.slot_tuple_iterator_next ty F.entry_tuple_iterator_next ?_ (F.args_tuple_iterator_next_1 _)
 unfold Builtin.«tuple_iterator.__next__»
 wp_walk using DQ g d (x:=.ref t) rfl
 rw[d]
 apply AA
 apply AA
 apply A9
 apply Fy g2 d2
 rw[show Int.toNat (k:Int)=k from rfl]
 refine CN q (fun fin s' zz=>?_) fun _ _ z=>z
 obtain⟨v,e,z⟩:=zz
 exact⟨v,e,AA z⟩
theorem ZV {it t:Addr}{k:Nat}{its:Array Value}{x:Value}{Q:Value->Shared->Prop}(a:s.heap.IsTupleIter it t k)(b:s.heap.IsTuple t its)(hx:its[k]?=some x)
  (q:∀h',h'.IsTupleIter it t (k+1)->Heap.SameBut it s.heap h'->Q x {s with heap:=h'}):wpAny (model prog w) A (Builtin.SmallTypes.nextOf (.ref it)) Q E s:=by
 apply OK a b
 obtain⟨o,g,c,d⟩:=a
 rw[hx]
 apply A9
 apply MW g d (by simp)
 apply AA
 refine⟨x,rfl,q _ ⟨_,IZ _ g ?_,?_,?_⟩ (RU ..)⟩
 .exact Obj.isFreed_of_fields (Obj.data_mapFields d _)
 .exact(Obj.cls_mapFields ..).trans c
 .rw[Obj.data_mapFields d];rfl
theorem aR {it t:Addr}{k:Nat}{its:Array Value}{Q:Value->Shared->Prop}(hh:A.handled=none)(a:s.heap.IsTupleIter it t k)(b:s.heap.IsTuple t its)(hx:its[k]?=none)
  (q:∀h' e,Heap.ExtBut it s.heap h'->(∃o,h'.get? e=some o/\o.cls = .type "StopIteration")->E (.ref e) {s with heap:=h'}):wpAny (model prog w) A (Builtin.SmallTypes.nextOf (.ref it)) Q E s:=by
 apply OK a b
 obtain⟨o,g,c,d⟩:=a
 rw[hx]
 apply A9
 apply wpAny_rule
 apply A9
 apply MW g d (by simp)
 have h1:A.in1.handled=none:=hh
 wp_walk
 unfold raiseNew
 apply A9
 apply wpAny_handled
 rw[h1]
 show wpAny _ _ (throw _) _ _ _
 apply wpAny_throw
 exact q _ _ (((RU ..).extBut.push _).push _) ⟨_,C7 _ rfl,rfl⟩
theorem LH (hh:A.handled=none)(it t:Addr)(ne:t≠it)(its:Array Value):Draws prog w A it [it,t] its.size (fun i v=>its[i]?=some v) (fun i h=>h.IsTupleIter it t i/\h.IsTuple t its) where
 live:=fun _ _ ⟨⟨o,g,_⟩,_⟩=>⟨o,g⟩
 frame:=fun _ _ _ ⟨⟨o,g,r⟩,⟨o2,g2,r2⟩⟩ k=>⟨⟨o,k it (by simp) o g,r⟩,⟨o2,k t (by simp) o2 g2,r2⟩⟩
 item:=fun i s Q E lt ⟨a,b⟩ q=>ZV a b (RT lt) fun h' a' sb=>q _ h' s.toks (RT lt) ⟨a',b.extBut sb.extBut ne⟩ sb
 done:=fun s Q E ⟨a,b⟩ q=>aR hh a b (by simp) q
end
structure ZA (z TI TO i1 i2:Addr)(f g:List Addr):Prop where
 zf:z∉f
 zg:z∉g
 of:TO∉f
 og:TO∉g
 nf:i2∉f
 ng:i1∉g
 Iz:TI≠z
 Oz:TO≠z
 az:i1≠z
 bz:i2≠z
 IO:TI≠TO
 Ia:TI≠i1
 Ib:TI≠i2
 Oa:TO≠i1
 Ob:TO≠i2
theorem mv {prog:Program}{w:World}{A:Around}{it:Addr}{f:List Addr}{n:Nat}{P:Nat->Value->Prop}{S:Nat->Heap->Prop}(D:Draws prog w A it f n P S){k:Nat}{h h':Heap}{a:Addr}(st:S k h)(b:Heap.ExtBut a h h')(na:a∉f):S k h':=
 D.frame k h h' st fun c hc o e=>b c o (fun q=>na (q▸hc)) e
section
variable {prog:Program}{w:World}{A:Around}{E:Value->Shared->Prop}{s:Shared}
theorem ai {z TI TO i1 i2:Addr}{f g:List Addr}{m n k:Nat}{P R:Nat->Value->Prop}{S T:Nat->Heap->Prop}(Z:ZA z TI TO i1 i2 f g)(D1:Draws prog w A i1 f m P S)(D2:Draws prog w A i2 g n R T){a b:Value}{Q:Value->Shared->Prop}
  (hz:IsZip s.heap z TI TO .none) (hI:IsPair s.heap TI (.ref i1) (.ref i2)) (hO:IsPair s.heap TO a b) (s1:S k s.heap) (s2:T k s.heap) (le1:k<=m) (le2:k<=n)
  (q:k<m->k<n->∀x y h' tk,P k x->R k y->IsZip h' z TI TO (rawInt s.heap.objs.size)->IsPair h' TO x y->S (k+1) h'->T (k+1) h'->IsPair h' s.heap.objs.size x y->
   (∀c o,c≠z->c≠TO->c≠i1->c≠i2->s.heap.get? c=some o->h'.get? c=some o)->Q (.ref s.heap.objs.size) {s with heap:=h',toks:=tk})
  (qe:(k=m\/k=n)->∀h' e tk,(∀c o,c≠z->c≠TO->c≠i1->c≠i2->s.heap.get? c=some o->h'.get? c=some o)->(∃o,h'.get? e=some o/\o.cls = .type "StopIteration")->E (.ref e) {s with heap:=h',toks:=tk}) :
  wpAny (model prog w) A (Builtin.«zip.__next__» ⟨[.ref z],[]⟩) (fun fin s'=>∃v,fin = .done (.ret v)/\Q v s') E s:=by
 change wpAny _ _ (field (.ref z) 2>>=_) _ _ _
 apply A9
 apply DQ hz rfl (x:=.bool false) rfl
 change wpAny _ _ (field (.ref z) 3>>=_) _ _ _
 apply A9
 apply DQ hz rfl (x:=.ref TI) rfl
 apply A9
 apply Fy hI rfl
 change wpAny _ _ (Builtin.SmallTypes.ownedTupleIsFree (.ref z)>>=_) _ _ _
 apply A9
 unfold Builtin.SmallTypes.ownedTupleIsFree
 apply A9
 apply DQ hz rfl (x:=.none) rfl
 apply AA
 simp only[HI]
 apply A9
 apply wpAny_rule
 apply A9
 apply DQ hz rfl (x:=.ref TO) rfl
 apply A9
 apply GJ hz (by simp)
 intro hA zA bA
 have zA':IsZip hA z TI TO .ellipsis:=zA
 clear zA
 have oA:IsPair hA TO a b:=bA.extBut _ _ Z.Oz hO
 have sA:=mv D1 s1 bA.extBut Z.zf
 have tA:=mv D2 s2 bA.extBut Z.zg
 apply A9
 simp only[List.zipIdx_cons,List.zipIdx_nil,MM,List.forIn_nil]
 apply A9
 apply A9
 apply MX
 change wpAny _ _ (Builtin.SmallTypes.nextOf (.ref i1)>>=_) _ _ _
 apply A9
 rcases RV le1 with l1|rfl
 rotate_left
 .apply D1.done _ _ _ sA
  rintro h' e kp ⟨o,ge,ce⟩
  have z':IsZip h' z TI TO .ellipsis:=kp _ _ Z.az.symm zA'
  have ne:e≠z:=fun q=>by subst q;rw[z']at ge;cases ge;simp at ce
  apply GJ z' (by simp)
  intro h2 _ b2
  exact qe (.inl rfl) h2 e s.toks (fun c o c1 _ c3 _ x=>b2.extBut _ _ c1 (kp _ _ c3 (bA.extBut _ _ c1 x))) ⟨o,b2.extBut _ _ ne ge,ce⟩
 apply D1.item k _ _ _ l1 sA
 intro x hB t1 px sB bB
 apply AA
 have oB:IsPair hB TO a b:=bB.extBut _ _ Z.Oa oA
 have zB:IsZip hB z TI TO .ellipsis:=bB.extBut _ _ Z.az.symm zA'
 have tB:=mv D2 tA bB.extBut Z.ng
 apply A9
 apply Fy oB rfl
 apply A9
 apply wpAny_updateSeq_pair oB
 intro hC oC bC
 have oC':IsPair hC TO x b:=oC
 clear oC
 have zC:IsZip hC z TI TO .ellipsis:=bC.extBut _ _ Z.Oz.symm zB
 have sC:=mv D1 sB bC.extBut Z.of
 have tC:=mv D2 tB bC.extBut Z.og
 apply A9
 apply KM
 apply AA
 apply A9
 apply A9
 apply MX
 change wpAny _ _ (Builtin.SmallTypes.nextOf (.ref i2)>>=_) _ _ _
 apply A9
 have upC:∀c o,c≠z->c≠TO->c≠i1->s.heap.get? c=some o->hC.get? c=some o:=fun c o c1 c2 c3 e=>bC.extBut _ _ c2 (bB.extBut _ _ c3 (bA.extBut _ _ c1 e))
 rcases RV le2 with l2|rfl
 rotate_left
 .apply D2.done _ _ _ tC
  rintro h' e kp ⟨o,ge,ce⟩
  have z':IsZip h' z TI TO .ellipsis:=kp _ _ Z.bz.symm zC
  have ne:e≠z:=fun q=>by subst q;rw[z']at ge;cases ge;simp at ce
  apply GJ z' (by simp)
  intro h2 _ b2
  exact qe (.inr rfl) h2 e t1 (fun c o c1 c2 c3 c4 x=>b2.extBut _ _ c1 (kp _ _ c4 (upC c o c1 c2 c3 x))) ⟨o,b2.extBut _ _ ne ge,ce⟩
 apply D2.item k _ _ _ l2 tC
 intro y hD t2 py tD bD
 apply AA
 have oD:IsPair hD TO x b:=bD.extBut _ _ Z.Ob oC'
 have zD:IsZip hD z TI TO .ellipsis:=bD.extBut _ _ Z.bz.symm zC
 have sD:=mv D1 sC bD.extBut Z.nf
 apply A9
 apply Fy oD rfl
 apply A9
 apply wpAny_updateSeq_pair oD
 intro hE oE bE
 have oE':IsPair hE TO x y:=oE
 clear oE
 have zE:IsZip hE z TI TO .ellipsis:=bE.extBut _ _ Z.Oz.symm zD
 have sE:=mv D1 sD bE.extBut Z.of
 have tE:=mv D2 tD bE.extBut Z.og
 have upE:∀c o,c≠z->c≠TO->c≠i1->c≠i2->s.heap.get? c=some o->hE.get? c=some o:=fun c o c1 c2 c3 c4 e=>bE.extBut _ _ c2 (bD.extBut _ _ c4 (upC c o c1 c2 c3 e))
 have sz:hE.objs.size=s.heap.objs.size:=by rw[bE.1,bD.1,bC.1,bB.1,bA.1]
 apply A9
 apply KM
 apply AA
 apply AA
 apply A9
 apply Fy oE' rfl
 apply A9
 refine wpAny_newTuple ?_
 change wpAny _ _ (Builtin.SmallTypes.ownedTupleHandOut (.ref z) (.ref hE.objs.size)>>=_) _ _ _
 apply A9
 unfold Builtin.SmallTypes.ownedTupleHandOut
 have zF:IsZip (hE.push {cls:=.type "tuple",data:=.seq #[x,y]}) z TI TO .ellipsis:=AD _ zE
 have pF:IsPair (hE.push {cls:=.type "tuple",data:=.seq #[x,y]}) hE.objs.size x y:=C7 _ rfl
 apply A9
 apply GJ zF (by simp)
 intro hG zG bG
 have zG':IsZip hG z TI TO (rawInt hE.objs.size):=zG
 clear zG
 apply GJ zG' (by simp)
 intro hH zH bH
 have zH':IsZip hH z TI TO (rawInt hE.objs.size):=zH
 clear zH
 have far:hE.objs.size≠z:=CM (AG zE)
 have up:Heap.ExtBut z hE hH:=fun c o c1 e=>bH.extBut _ _ c1 (bG.extBut _ _ c1 (AD _ e))
 have pH:IsPair hH hE.objs.size x y:=bH.extBut _ _ far (bG.extBut _ _ far pF)
 apply AA
 refine⟨_,rfl,?_⟩
 have:=q l1 l2 x y hH t2 px py (by rw[←sz];exact zH') (up _ _ Z.Oz oE') (mv D1 sE up Z.zf) (mv D2 tE up Z.zg) (by rw[←sz];exact pH) fun c o c1 c2 c3 c4 e=>up c o c1 (upE c o c1 c2 c3 c4 e)
 rw[←sz]at this
 exact this
theorem Qj {z TI TO i1 i2:Addr}{f g:List Addr}{m n k:Nat}{P R:Nat->Value->Prop}{S T:Nat->Heap->Prop}(Z:ZA z TI TO i1 i2 f g)(D1:Draws prog w A.in1 i1 f m P S)(D2:Draws prog w A.in1 i2 g n R T){a b:Value}{Q:Option Value->Shared->Prop}
  (hz:IsZip s.heap z TI TO .none) (hI:IsPair s.heap TI (.ref i1) (.ref i2)) (hO:IsPair s.heap TO a b) (s1:S k s.heap) (s2:T k s.heap) (le1:k<=m) (le2:k<=n)
  (q:k<m->k<n->∀x y h' tk,P k x->R k y->IsZip h' z TI TO (rawInt s.heap.objs.size)->IsPair h' TO x y->S (k+1) h'->T (k+1) h'->IsPair h' s.heap.objs.size x y->
   (∀c o,c≠z->c≠TO->c≠i1->c≠i2->s.heap.get? c=some o->h'.get? c=some o)->Q (some (.ref s.heap.objs.size)) {s with heap:=h',toks:=tk})
  (qe:(k=m\/k=n)->∀h' tk,(∀c o,c≠z->c≠TO->c≠i1->c≠i2->s.heap.get? c=some o->h'.get? c=some o)->Q none {s with heap:=h',toks:=tk}) :
  wpAny (model prog w) A (pyNext (.ref z)) Q E s:=by
 have ty:s.TypeIs (.ref z) "zip":=⟨_,hz,rfl⟩
 unfold pyNext
 apply A9
 apply wpAny_attempt
 apply wpAny_callSpecial?_slot (name:=Str.ofString "__next__") ty F.slot_zip_next
 refine MU F.slot_zip_next ty F.entry_zip_next (ai Z D1 D2 hz hI hO s1 s2 le1 le2 ?_ ?_) (F.args_zip_next_1 _)
 .intro l1 l2 x y h' tk a1 a2 a3 a4 a5 a6 a7 a8
  exact AA (q l1 l2 x y h' tk a1 a2 a3 a4 a5 a6 a7 a8)
 .rintro l h' e tk kp ⟨o,ge,ce⟩
  exact A9 (wpAny_isInstance (T:="StopIteration") (b:=true) ⟨o,ge,ce⟩ isSubtype_stop (AA (qe l h' tk kp)))
end
noncomputable def JR (K:Faa)(a:Addr):It:=
 ⟨fun i H=>∃xs x,A5 K H a xs/\xs[i]?=some x,fun i H v H'=>∃x T,(∀xs,A5 K H a xs->xs[i]?=some x)/\H T=none/\v = .ref T/\H'=upd H T (.tup [.int i,x]),fun i H=>∃xs,A5 K H a xs/\xs.length=i⟩
theorem X5 {P:Program}{w:World}{K:Faa}{elts:List Expr}{x1:Nat}{pos:Pos}(a e it:Addr)(hei:e≠it)(na:a≠it)(ne:e≠a):FT P w K (.Tuple elts x1 pos) (JR K a) [e,it] e (fun i h=>(∃old,IsEnum h e it i old)/\h.IsTupleIter it a i) where
 mem:=by simp
 obj:=fun i h st b hb=>by
  obtain⟨⟨old,he⟩,hit⟩:=st
  rcases AZ.mp hb with rfl|hb
  .exact⟨_,he,fun v z=>by cases z⟩
  .have e:b=it:=by simpa using hb
   subst e
   obtain⟨o,e,c,d⟩:=hit
   exact⟨o,e,fun v z=>by rw[d]at z;cases z⟩
 keep:=fun i h h' st k=>by
  obtain⟨⟨old,he⟩,hit⟩:=st
  exact⟨⟨old,k e (by simp) _ he⟩,hit.at fun o e=>k it (by simp) o e⟩
 item:=by
  intro X hP hw hK hc i pins s σ H E I hf st hg
  subst hP hw hK
  obtain⟨xs,x,hq,hx⟩:=hg
  obtain⟨its,rv,p,hz⟩:=I.tuple hq
  obtain⟨u,hu,ru⟩:=rv.get hx
  obtain⟨⟨old,he⟩,hit⟩:=st
  have p':s.heap.IsTuple a its.toArray:=p
  have hn:X.A.in1.handled=none:=I.ok.hd hc
  have d1:=LH (prog:=X.prog) (w:=X.w) hn it a na its.toArray
  have l1:=rv.length
  obtain⟨b1,_⟩:=Ay.1 hx
  refine wpAny_pyNext_enum_itemD d1 he ⟨hit,p'⟩ (by simp;lia) hei (by simp[hei,ne]) fun u' h1 tk hu' ho hit' hT hsz hk=>⟨_,rfl,?_⟩
  have eu:u=u':=by simpa[hu] using hu'
  subst eu
  refine wpAny_letOwnedTupleGo_enum ho fun h2 he2 hs2=>?_
  have hTn:H s.heap.objs.size=none:=I.hok.fresh (Af _)
  have helt:e<s.heap.objs.size:=AG he
  have hilt:it<s.heap.objs.size:=by obtain⟨_,x,_⟩:=hit;exact AG x
  have I1:A2 X pins σ (upd H s.heap.objs.size (.tup [.int i,x])) {s with heap:=s.heap.push {cls:=.type "tuple",data:=.seq #[.int i tk,u]},toks:=tk+1}:=I.laid (t':=tk+1) (o:=.tup [.int i,x]) (fun b o e=>AD _ e) (Af _) ⟨An rfl,[.int i tk,u],.cons ⟨_,rfl⟩ (.cons ru .nil),Ep.new _ _⟩
  have I2:A2 X pins σ (upd H s.heap.objs.size (.tup [.int i,x])) {s with heap:=h2,toks:=tk+1}:=by
   refine A2.turnedL (s:={s with heap:=s.heap.push {cls:=.type "tuple",data:=.seq #[.int i tk,u]},toks:=tk+1}) (h':=h2) (ch:=[e,it]) (t':=tk+1) I1 (fun b o hb q=>?_) (fun b hb=>?_)
   .have nbe:b≠e:=fun z=>hb (by simp[z])
    have nbi:b≠it:=fun z=>hb (by simp[z])
    show h2.get? b=some o
    rw[hs2.2 b nbe]
    rcases MO q with⟨rfl,rfl⟩|q
    .exact hT
    .exact hk b o nbe nbi q
   .obtain⟨f0,f1,f2,f3,f4,f5⟩:=hf b hb
    have nb:b≠s.heap.objs.size:=by
     rcases AZ.mp hb with rfl|hb
     .exact AV helt
     .have:b=it:=by simpa using hb
      subst this
      exact AV hilt
    exact⟨by rw[Ai nb];exact f0,f1,f2,f3,f4,f5⟩
  refine⟨.ref s.heap.objs.size,_,I2,rfl,⟨x,_,fun ys hy=>by rw[I.tuple_inj hy hq];exact hx,hTn,rfl,rfl⟩,⟨⟨_,by simpa using he2⟩,hit'.1.at fun o y=>(hs2.2 it hei.symm).trans y⟩,fun b hb=>?_⟩
  obtain⟨f0,f1,f2,f3,f4,f5⟩:=hf b hb
  have nb:b≠s.heap.objs.size:=by
   rcases AZ.mp hb with rfl|hb
   .exact AV helt
   .have:b=it:=by simpa using hb
    subst this
    exact AV hilt
  rw[Ai nb]
  exact f0
 done:=by
  intro X hP hw hK hc i pins s σ H E I hf st hg
  subst hP hw hK
  obtain⟨xs,hq,hx⟩:=hg
  obtain⟨its,rv,p,hz⟩:=I.tuple hq
  obtain⟨⟨old,he⟩,hit⟩:=st
  have p':s.heap.IsTuple a its.toArray:=p
  have hn:X.A.in1.handled=none:=I.ok.hd hc
  have d1:=LH (prog:=X.prog) (w:=X.w) hn it a na its.toArray
  have hl:=rv.length
  have e1:its.toArray.size=i:=by simp;lia
  refine wpAny_pyNext_enum_endD d1 he ⟨by rw[e1];exact hit,p'⟩ fun h' eb=>⟨rfl,?_⟩
  exact I.turnedL (ch:=[e,it]) (t':=s.toks) (fun b o hb q=>eb b o (fun z=>hb (by simp[z])) q) hf
 self:=fun _ _ _ _ _ st h=>by
  obtain⟨⟨old,he⟩,_⟩:=st
  exact OC he h
theorem W3 (l:Addr)(items:Array Value)(n:Nat)(dd:Option Addr)(sl:Array (Option Value)) :
  Meets (Builtin.«enumerate.__new__» ⟨[.type "enumerate",.ref l],[]⟩) (fun _ R s=>s.heap.get? l=some {cls:=.type "tuple",dict:=dd,data:=.seq items n,slots:=sl}/\
   ∀h',IsEnum h' (s.heap.objs.size+1) s.heap.objs.size 0 .none->h'.IsTupleIter s.heap.objs.size l 0->(∀c o,s.heap.get? c=some o->h'.get? c=some o)->R (.ok (.ret (.ref (s.heap.objs.size+1)))) {s with heap:=h'}):=
 .of_wp fun prog w A R s h=>by
  obtain⟨hp,g,d,tk,os⟩:=s
  obtain⟨hl,h⟩:=h
  have hsub:=sub_enumerate
  have hL:Heap.IsTuple (Shared.heap ⟨hp,g,d,tk,os⟩) l items:=⟨_,hl,rfl,n,rfl⟩
  have key:∀(n1:Nat) (h':Heap),n1=hp.objs.size+1->IsEnum h' n1 hp.objs.size 0 .none->h'.IsTupleIter hp.objs.size l 0->(∀c o,hp.get? c=some o->h'.get? c=some o)->R (.ok (.ret (.ref n1))) ⟨h',g,d,tk,os⟩:=by
   rintro _ h' rfl
   exact h h'
  wp_walk using AutoSeq1.wpAny_loadPart' hl
  apply wpAny_stack_any
  intro st
  apply AA
  have fin:R (.ok (.ret (.ref (hp.push {cls:=.type "tuple_iterator",data:=.fields #[.ref l,.int 0 0]}).objs.size))) ⟨(hp.push {cls:=.type "tuple_iterator",data:=.fields #[.ref l,.int 0 0]}).push {cls:=.type "enumerate",data:=.fields #[.none,.bool false,.ref hp.objs.size,rawInt 0,.none,.none]},g,d,tk,os⟩:=
   key _ _ (by simp only[Kx]) (C7 _ rfl) ⟨_,AD _ (C7 _ rfl),rfl,rfl⟩ fun c o e=>AD _ (AD _ e)
  split
  .rename_i c _ _ _ _ _
   cases (c==Value.type "enumerate")
   all_goals
    wp_walk using AutoSeq1.wpAny_loadPart' hl,OB hL
    exact⟨_,rfl,fin⟩
  .wp_walk using AutoSeq1.wpAny_loadPart' hl,OB hL
   exact⟨_,rfl,fin⟩
def T7 (K:Faa)(ta:TA):TI:=fun σ H R=>ta σ H fun vs H1=>∃a:Addr,vs=[.ref a]/\(∃xs,A5 K H1 a xs)/\R (JR K a) H1
theorem Rn {X:Cx}{a:Expr}{ta:TA}{p pos:Pos}{elts:List Expr}{x1:Nat}{pos2:Pos}(hg:Gl X "enumerate")(hm:X.mg "enumerate"=none)(ha:PA X [a] ta)(hs:starEach [a] X.env=[(false,eval a X.env)]:=by rfl):PI X (.Tuple elts x1 pos2) (.Call (.Name "enumerate" p) [a] [] pos) (T7 X.K ta):=by
 intro pins s σ H R I h
 refine Call_ (Fc I hg hm boot_enumerate (Hs (Az (ha pos pins s σ H _ I h) fun us s1 zz=>?_) hs rfl))
 obtain⟨vs,H1,I1,r1,q1⟩:=zz
 obtain⟨l,rfl,⟨xs,hq⟩,q⟩:=q1
 cases r1 with
 |
  cons r rr=>
  cases rr
  cases r
  obtain⟨its,rv,pl,hz⟩:=I1.tuple hq
  have lt1:l<s1.heap.objs.size:=pl.lt
  obtain⟨⟨c,dct,dt,sl⟩,hl,hc,n,hd⟩:=pl
  have hc':c = .type "tuple":=hc
  have hd':dt = .seq its.toArray n:=hd
  subst hc' hd'
  refine callType_new F.called_enumerate (by decide) (F.typeCall_enumerate_1 _) (F.newCall_enumerate_1 _) (fun obj=>F.args_object_init_2 obj _) F.entry_enumerate_new (W3 l its.toArray n dct sl) ⟨hl,fun h' he hit hk=>⟨⟨_,he,rfl⟩,?_⟩⟩
  refine OC he ?_
  refine⟨_,[s1.heap.objs.size+1,s1.heap.objs.size],_,_,H1,rfl,I1.kept (t':=s1.toks) hk,X5 l _ _ (CM (Gz _)) (AV lt1) (CM (BO lt1 (Cv _ _))),⟨⟨_,he⟩,hit⟩,fun b hb=>?_,q⟩
  rcases AZ.mp hb with rfl|hb
  .exact I1.fpOk (Ht _) (I1.hok.fresh (Ht _))
  .have e:b=s1.heap.objs.size:=by simpa using hb
   subst e
   exact I1.fpOk (Af _) (I1.hok.fresh (Af _))
theorem Qw {K:Faa}{a:Addr}{xs:List V}{g:TG}{tb:TS}{D:CC}{σ:St}{H:Hp}(Pv:Nat->St->Hp->Prop)(h0:Pv 0 σ H)(hl:∀i σ H,i<=xs.length->Pv i σ H->A5 K H a xs)
  (hs:∀i x T σ H,xs[i]?=some x->Pv i σ H->H T=none->g (.ref T) σ (upd H T (.tup [.int i,x])) fun σ2 H2=>tb {D with nx:=Pv (i+1),ct:=Pv (i+1),bk:=D.nx} σ2 H2) (hd:∀σ H,Pv xs.length σ H->D.nx σ H) :
  ∃W:Nat->Nat->St->Hp->Prop,(∃m,W 0 m σ H)/\∀i m σ H,W i m σ H->
   ((JR K a).stop i H/\D.nx σ H)\/((JR K a).go i H/\∃N:St->Hp->Prop,(∀σ' H',N σ' H'->∃m',m'<m/\W (i+1) m' σ' H')/\∀x H',(JR K a).yld i H x H'->g x σ H' fun σ2 H2=>tb {D with nx:=N,ct:=N,bk:=D.nx} σ2 H2):=by
 refine⟨fun i m σ H=>m=xs.length-i/\i<=xs.length/\Pv i σ H,⟨xs.length,by simp,Bj _,h0⟩,?_⟩
 rintro i m σ H ⟨rfl,hi,p⟩
 have q:=hl i σ H hi p
 by_cases hlt:i<xs.length
 .refine .inr ⟨⟨xs,xs[i],q,As hlt⟩,Pv (i+1),fun σ' H' p'=>⟨xs.length-(i+1),by lia,rfl,hlt,p'⟩,fun v H' y=>?_⟩
  obtain⟨x,T,hx,hT,rfl,rfl⟩:=y
  exact hs i x T σ H (hx xs q) p hT
 .have e:i=xs.length:=by lia
  subst e
  exact .inl ⟨⟨xs,q,rfl⟩,hd σ H p⟩
abbrev EO:=Int×Int×Int
def DW (H:Hp)(ys:List V)(B:List EO):Prop:=ys.length=B.length/\∀(i:Nat) (y:V) (b:EO),ys[i]?=some y->B[i]?=some b->∃t,y = .ref t/\H t=some (.tup [.int b.1,.int b.2.1,.int b.2.2])
theorem DW.over {H H':Hp}{ys:List V}{B:List EO}(h:DW H ys B)(e:Aa H H'):DW H' ys B:=⟨h.1,fun i y b p q=>by obtain⟨t,x,z⟩:=h.2 i y b p q;exact⟨t,x,e _ _ z⟩⟩
theorem DW.nil {H:Hp}:DW H [] []:=⟨rfl,fun i y b p=>by simp at p⟩
theorem DW.snoc {H:Hp}{ys:List V}{B:List EO}{t:Addr}{b:EO}(h:DW H ys B)(ht:H t=some (.tup [.int b.1,.int b.2.1,.int b.2.2])):DW H (ys++[.ref t]) (B++[b]):=by
 refine⟨by rw[AB,AB,h.1];rfl,fun i y c p q=>?_⟩
 by_cases l:i<ys.length
 .rw[BR l]at p
  rw[BR (by rw[←h.1];exact l)]at q
  exact h.2 i y c p q
 .have hi:i=ys.length:=by
   have:=(Ay.mp p).1
   rw[AB,B4]at this
   lia
  subst hi
  rw[Bz (Af _),Cn]at p
  rw[h.1,Bz (Af _),Cn]at q
  cases p;cases q
  exact⟨t,rfl,ht⟩
theorem DW.upd {H:Hp}{ys zs xs:List V}{B:List EO}{l:Addr}(h:DW H ys B)(hl:H l=some (.lst zs)):DW (upd H l (.lst xs)) ys B:=⟨h.1,fun i y b p q=>by
 obtain⟨t,x,z⟩:=h.2 i y b p q
 exact⟨t,x,by rw[Ai (E9 z hl (by intro z;cases z))];exact z⟩⟩
def Mc (H:Hp)(p:Addr)(m:Nat)(z:Nat->Str)(n:Nat->Int):Prop := ∃xs:List V,H p=some (.tup xs)/\xs.length=m/\∀(i:Nat) (x:V),xs[i]?=some x->∃t,x = .ref t/\H t=some (.tup [.str (z i),.int (n i)])
noncomputable def Gp (F G:Nat->EO):Nat->List EO
 |0=>[]
 |n+1=>Gp F G n++[F n]++[G n]
theorem Zh (F G:Nat->EO)(n:Nat):(Gp F G n).length=2*n:=by
 induction n with
 |zero=>rfl
 |succ n ih=>rw[Gp,AB,AB,ih];simp only[B4];lia
def Us:R2:=fun x y H Q=>∃(a b:Addr) (xs ys:List V),x = .ref a/\y = .ref b/\H a=some (.tup xs)/\H b=some (.tup ys)/\xs.length+ys.length<=sizeLine/\∀(p:Addr) (H':Hp),Aa H H'->H' p=some (.tup (xs++ys))->Q (.ref p) H'
theorem Gu {X:Cx}:BC X (binaryOp .Add) Us:=by
 intro pins s σ H x y v u Q I rx ry h
 obtain⟨a,b,xs,ys,rfl,rfl,ha,hb,hz,q⟩:=h
 by_cases c:xs=[]
 .subst c
  cases rx
  cases ry
  obtain⟨its,r1,p1,_⟩:=I.tuple (A5.of ha)
  obtain⟨its2,r2,p2,_⟩:=I.tuple (A5.of hb)
  obtain⟨⟨cls,dd,data,sl⟩,ho,hc,n,hd⟩:=id p1
  obtain⟨⟨cls2,dd2,data2,sl2⟩,ho2,hc2,n2,hd2⟩:=id p2
  simp only at hc hd hc2 hd2
  subst hc hd hc2 hd2
  have e:its=[]:=r1.nil_iff.mpr rfl
  exact concat_meets ⟨_,ho,rfl⟩ ⟨_,ho2,rfl⟩ Sa seq_tuple_add RJ RK (RL _ _)
   (tuple_addW0 a b its.toArray its2.toArray n n2 dd dd2 sl sl2 (by simp[e])) ⟨ho,ho2,.ref b,H,I,rfl,q b H (Aa.refl _) hb⟩
 .refine aa pins s σ H (.ref a) (.ref b) v u Q I rx ry ⟨a,b,xs,ys,rfl,rfl,A5.of ha,A5.of hb,c,hz,fun z=>?_,fun z p hp=>?_⟩
  .subst z
   exact q a H (Aa.refl _) (by rw[IX];exact ha)
  .exact q p _ (Ac hp _) A7
end L2
namespace Fo
set_option genInjectivity true in
inductive F (W:Type) where
 |nil:F W
 |leaf (k:Int) (pl:List (Int×Int)) (rest:F W):F W
 |node (cut:Bool) (way:W) (sub rest:F W):F W
structure Bo (W:Type) where
 k:Int
 sh:Nat
 ways:List (Bool×W)
 pl:List (Int×Int)
variable {W L:Type}
def HeadSh (B:List (Bo W))(d:Nat):Prop := ∀c,B.head?=some c->c.sh=d
def Is:F W->List (Bo W)->Nat->Prop
 |.nil,B,_=>B=[]
 |.leaf k pl rest,B,d=>∃b B',B=b::B'/\b.k=k/\b.pl=pl/\b.ways.length=d/\HeadSh B' d/\Is rest B' d
 |.node cut way sub rest,B,d=>∃b G B',B=(b::G)++B'/\b.ways[d]?=some (cut,way)/\(∀c∈G,d<c.sh)/\HeadSh B' d/\Is sub (b::G) (d+1)/\Is rest B' d
section
variable (hdr:Nat->Bool->W->L)(dl:Nat->Int->List (Int×Int)->L)
end
structure Ok (B:List (Bo W)):Prop where
 sh:∀b∈B,b.sh<=b.ways.length
 ln:∀(i:Nat) (b c:Bo W),B[i]?=some b->B[i+1]?=some c->c.sh<=b.ways.length/\c.ways.take c.sh=b.ways.take c.sh
structure En where
 k:Int
 pl:List (Int×Int)
 path:List Int
noncomputable def deedsF:F W->List Int->Nat->List En
 |.nil,_,_=>[]
 |.leaf k pl rest,p,j=>⟨k,pl,p++[(j:Int)]⟩::deedsF rest p (j+1)
 |.node _ _ sub rest,p,j=>deedsF sub (p++[(j:Int)]) 0++deedsF rest p (j+1)
theorem deeds_map:∀(f:F W) (B:List (Bo W)) (d:Nat) (p:List Int) (j:Nat),Is f B d->(deedsF f p j).map (fun e=>(e.k,e.pl))=B.map fun b=>(b.k,b.pl)
 |.nil,B,d,p,j,h=>by cases (show B=[] from h);rfl
 |
  .leaf k pl rest,B,d,p,j,h=>by
  obtain⟨b,B',rfl,rfl,rfl,hl,hh,hr⟩:=h
  show(b.k,b.pl)::_=(b.k,b.pl)::_
  rw[deeds_map rest B' d p (j+1) hr]
 |
  .node c w sub rest,B,d,p,j,h=>by
  obtain⟨b,G,B',rfl,hw,hG,hh,hs,hr⟩:=h
  show List.map _ (deedsF sub (p++[(j:Int)]) 0++deedsF rest p (j+1))=_
  rw[BA,deeds_map sub (b::G) (d+1) _ _ hs,deeds_map rest B' d p (j+1) hr,←BA]
theorem deeds_len {f:F W}{B:List (Bo W)}{d:Nat}(p:List Int)(j:Nat)(h:Is f B d):(deedsF f p j).length=B.length:=by
 have:=congrArg List.length (deeds_map f B d p j h)
 rwa [Au,Au]at this
theorem Gw:∀(f:F W) (p:List Int) (j:Nat) (e:En),e∈deedsF f p j->∃(i:Nat) (q:List Int),j<=i/\e.path=p++(i:Int)::q
 |.nil,p,j,e,h=>by cases h
 |
  .leaf k pl rest,p,j,e,h=>by
  rcases AZ.mp h with rfl|h
  .exact⟨j,[],Af _,rfl⟩
  .obtain⟨i,q,h1,h2⟩:=Gw rest p (j+1) e h
   exact⟨i,q,by lia,h2⟩
 |
  .node c w sub rest,p,j,e,h=>by
  rcases BX.mp h with h|h
  .obtain⟨i,q,h1,h2⟩:=Gw sub (p++[(j:Int)]) 0 e h
   exact⟨j,(i:Int)::q,Af _,by rw[h2];simp⟩
  .obtain⟨i,q,h1,h2⟩:=Gw rest p (j+1) e h
   exact⟨i,q,by lia,h2⟩
def Sep (x y:List Int)(n:Nat):Prop := ∃(c:List Int) (i j:Int) (q r:List Int),x=c++i::q/\y=c++j::r/\c.length=n/\i<j
def Least (B:List (Bo W))(i1 i2 m:Nat):Prop:=(∃j c,i1<j/\j<=i2/\B[j]?=some c/\c.sh=m)/\∀j c,i1<j->j<=i2->B[j]?=some c->m<=c.sh
theorem P5 {x y:En}{p:List Int}{i j:Nat}{q r:List Int}(hx:x.path=p++(i:Int)::q)(hy:y.path=p++(j:Int)::r)(h:i<j):Sep x.path y.path p.length:=⟨p,i,j,q,r,hx,hy,rfl,by lia⟩
theorem deeds_sep:∀(f:F W) (B:List (Bo W)) (d:Nat) (p:List Int) (j i1 i2 m:Nat) (x y:En),Is f B d->(∀i c,B[i+1]?=some c->d<=c.sh)->i1<i2->(deedsF f p j)[i1]?=some x->(deedsF f p j)[i2]?=some y->Least B i1 i2 m->d<=m/\Sep x.path y.path (p.length+(m-d))
 |.nil,B,d,p,j,i1,i2,m,x,y,h,hs,hi,hx,hy,hm=>by simp[deedsF]at hx
 |
  .leaf k pl rest,B,d,p,j,i1,i2,m,x,y,h,hs,hi,hx,hy,hm=>by
  obtain⟨b,B',rfl,rfl,rfl,hl,hh,hr⟩:=h
  have hs':∀i c,B'[i+1]?=some c->d<=c.sh:=fun i c hc=>hs (i+1) c (by simpa using hc)
  obtain⟨i2,rfl⟩:∃n,i2=n+1:=⟨i2-1,by lia⟩
  change(⟨b.k,b.pl,p++[(j:Int)]⟩::deedsF rest p (j+1))[i1]?=some x at hx
  change(⟨b.k,b.pl,p++[(j:Int)]⟩::deedsF rest p (j+1))[i2+1]?=some y at hy
  rw[Hw]at hy
  cases i1 with
  |
   zero=>
   rw[List.getElem?_cons_zero]at hx
   cases hx
   obtain⟨n,r,h1,h2⟩:=Gw rest p (j+1) y (AH hy)
   have hB:0<B'.length:=by
    have:=deeds_len p (j+1) hr
    have:=(Ay.mp hy).1
    lia
   have h0:B'[0]?=some B'[0]:=As hB
   have hd:(B'[0]).sh=d:=hh _ (by rw[KD];exact h0)
   have m1:m<=d:=by
    have:=hm.2 1 B'[0] (by lia) (by lia) (by simpa using h0)
    lia
   have m2:d<=m:=by
    obtain⟨⟨j',c,a1,a2,a3,a4⟩,_⟩:=hm
    have:=hs (j'-1) c (by rw[show j'-1+1=j' by lia];exact a3)
    lia
   refine⟨m2,?_⟩
   rw[show p.length+(m-d)=p.length by lia]
   exact P5 (x:=⟨b.k,b.pl,p++[(j:Int)]⟩) (y:=y) (q:=[]) rfl h2 (by lia)
  |
   succ i1=>
   rw[Hw]at hx
   refine deeds_sep rest B' d p (j+1) i1 i2 m x y hr hs' (by lia) hx hy ?_
   obtain⟨⟨j',c,a1,a2,a3,a4⟩,a5⟩:=hm
   obtain⟨j',rfl⟩:∃n,j'=n+1:=⟨j'-1,by lia⟩
   refine⟨⟨j',c,by lia,by lia,by simpa using a3,a4⟩,fun j'' c' b1 b2 b3=>a5 (j''+1) c' (by lia) (by lia) (by simpa using b3)⟩
 |
  .node c w sub rest,B,d,p,j,i1,i2,m,x,y,h,hs,hi,hx,hy,hm=>by
  obtain⟨b,G,B',rfl,hw,hG,hh,hsub,hr⟩:=h
  have l1:=deeds_len (p++[(j:Int)]) 0 hsub
  have l2:=deeds_len p (j+1) hr
  change(deedsF sub (p++[(j:Int)]) 0++deedsF rest p (j+1))[i1]?=some x at hx
  change(deedsF sub (p++[(j:Int)]) 0++deedsF rest p (j+1))[i2]?=some y at hy
  have hs':∀i c,B'[i+1]?=some c->d<=c.sh:=fun i c hc=>hs ((b::G).length+i) c (by
   rw[Bz (by lia),show(b::G).length+i+1-(b::G).length=i+1 by lia]
   exact hc)
  by_cases c2:i2<(b::G).length
  .rw[BR (by lia)]at hx hy
   have g:Least (b::G) i1 i2 m:=by
    obtain⟨⟨j',c',a1,a2,a3,a4⟩,a5⟩:=hm
    rw[BR (by lia)]at a3
    exact⟨⟨j',c',a1,a2,a3,a4⟩,fun j'' c'' b1 b2 b3=>a5 j'' c'' b1 b2 (by rw[BR (by lia)];exact b3)⟩
   obtain⟨q1,q2⟩:=deeds_sep sub (b::G) (d+1) (p++[(j:Int)]) 0 i1 i2 m x y hsub (fun i c hc=>hG c (by
    rw[Hw]at hc
    exact AH hc)) hi hx hy g
   refine⟨by lia,?_⟩
   rw[AB,B4]at q2
   rwa [show p.length+(m-d)=p.length+1+(m-(d+1)) by lia]
  .rw[Bz (by lia)]at hy
   by_cases c1:i1<(b::G).length
   .rw[BR (by lia)]at hx
    obtain⟨n,r,h1,h2⟩:=Gw rest p (j+1) y (AH hy)
    obtain⟨n',r',h1',h2'⟩:=Gw sub (p++[(j:Int)]) 0 x (AH hx)
    have hB:0<B'.length:=by
     have:=(Ay.mp hy).1
     lia
    have h0:B'[0]?=some B'[0]:=As hB
    have hd:(B'[0]).sh=d:=hh _ (by rw[KD];exact h0)
    have m1:m<=d:=by
     have:=hm.2 (b::G).length B'[0] (by lia) (by lia) (by rw[Bz (by lia),Cn];exact h0)
     lia
    have m2:d<=m:=by
     obtain⟨⟨j',c',a1,a2,a3,a4⟩,_⟩:=hm
     have:=hs (j'-1) c' (by rw[show j'-1+1=j' by lia];exact a3)
     lia
    refine⟨m2,?_⟩
    rw[show p.length+(m-d)=p.length by lia]
    exact P5 (x:=x) (y:=y) (i:=j) (q:=(n':Int)::r') (by rw[h2'];simp) h2 (by lia)
   .rw[Bz (by lia)]at hx
    rw[l1]at hx hy
    refine deeds_sep rest B' d p (j+1) (i1-(b::G).length) (i2-(b::G).length) m x y hr hs' (by lia) hx hy ?_
    obtain⟨⟨j',c',a1,a2,a3,a4⟩,a5⟩:=hm
    rw[Bz (by lia)]at a3
    refine⟨⟨j'-(b::G).length,c',by lia,by lia,a3,a4⟩,fun j'' c'' b1 b2 b3=>a5 (j''+(b::G).length) c'' (by lia) (by lia) ?_⟩
    rw[Bz (by lia),show j''+(b::G).length-(b::G).length=j'' by lia]
    exact b3
set_option genInjectivity true in
inductive N4 (W:Type) where
 |deed (k:Int) (pl:List (Int×Int)):N4 W
 |sweep (cut:Bool) (way:W) (sub:F W):N4 W
noncomputable def itm:F W->Nat->Option (N4 W)
 |.nil,_=>none
 |.leaf k pl _,0=>some (.deed k pl)
 |.leaf _ _ rest,n+1=>itm rest n
 |.node c w sub _,0=>some (.sweep c w sub)
 |.node _ _ _ rest,n+1=>itm rest n
def Down:F W->List Nat->List (Bool×W)->Prop
 |_,[],_=>False
 |f,r::rs,ws=>(∃k pl,itm f r=some (.deed k pl)/\rs=[]/\ws=[])\/(∃c w sub ws',itm f r=some (.sweep c w sub)/\ws=(c,w)::ws'/\Down sub rs ws')
theorem deeds_down:∀(f:F W) (B:List (Bo W)) (d:Nat) (p:List Int) (j i:Nat) (e:En) (b:Bo W),Is f B d->(∀i c,B[i+1]?=some c->d<=c.sh)->Ok B->(∀b∈B,d<=b.ways.length)->(deedsF f p j)[i]?=some e->B[i]?=some b->
  ∃(r:Nat) (rs:List Nat),e.path=p++((j+r:Nat):Int)::rs.map (fun n:Nat=>(n:Int))/\Down f (r::rs) (b.ways.drop d)
 |.nil,B,d,p,j,i,e,b,h,hs,hk,hd,he,hb=>by simp[deedsF]at he
 |
  .leaf k pl rest,B,d,p,j,i,e,b,h,hs,hk,hd,he,hb=>by
  obtain⟨b0,B',rfl,rfl,rfl,hl,hh,hr⟩:=h
  change(⟨b0.k,b0.pl,p++[(j:Int)]⟩::deedsF rest p (j+1))[i]?=some e at he
  cases i with
  |
   zero=>
   rw[List.getElem?_cons_zero]at he hb
   cases he;cases hb
   exact⟨0,[],rfl,.inl ⟨_,_,rfl,rfl,MN (Nat.le_of_eq hl)⟩⟩
  |
   succ i=>
   rw[Hw]at he hb
   obtain⟨r,rs,h1,h2⟩:=deeds_down rest B' d p (j+1) i e b hr (fun i c hc=>hs (i+1) c (by simpa using hc)) ⟨fun b hb=>hk.sh b (Cd _ hb),fun i b c h1 h2=>hk.ln (i+1) b c (by simpa using h1) (by simpa using h2)⟩ (fun b hb=>hd b (Cd _ hb)) he hb
   exact⟨r+1,rs,by rw[h1,show j+1+r=j+(r+1) by lia],h2⟩
 |
  .node c w sub rest,B,d,p,j,i,e,b,h,hs,hk,hd,he,hb=>by
  obtain⟨b0,G,B',rfl,hw,hG,hh,hsub,hr⟩:=h
  have l1:=deeds_len (p++[(j:Int)]) 0 hsub
  change(deedsF sub (p++[(j:Int)]) 0++deedsF rest p (j+1))[i]?=some e at he
  by_cases ci:i<(b0::G).length
  .rw[BR (by lia)]at he hb
   have key:∀(n:Nat) (b:Bo W),(b0::G)[n]?=some b->b.ways[d]?=some (c,w):=by
    intro n
    induction n with
    |zero=>intro b hb;cases hb;exact hw
    |
     succ n ih=>
     intro b hb
     have hn:n<(b0::G).length:=by have:=(Ay.mp hb).1;lia
     have e1:(b0::G)[n]?=some (b0::G)[n]:=As hn
     have hp:=ih _ e1
     have hg:d<b.sh:=hG b (by rw[Hw]at hb;exact AH hb)
     have:=(hk.ln n _ b (by rw[BR hn];exact e1) (by rw[BR (Ay.mp hb).1];exact hb)).2
     have h2:=congrArg (fun l:List (Bool×W)=>l[d]?) this
     simp only[DO hg]at h2
     rw[h2]
     exact hp
   have hb':=key i b hb
   obtain⟨hl,eb⟩:=Ay.mp hb'
   obtain⟨r,rs,h1,h2⟩:=deeds_down sub (b0::G) (d+1) (p++[(j:Int)]) 0 i e b hsub (fun i c hc=>hG c (by rw[Hw]at hc;exact AH hc)) ⟨fun b hb=>hk.sh b (DN _ hb),fun i b c h1 h2=>hk.ln i b c (by rw[BR (Ay.mp h1).1];exact h1) (by rw[BR (Ay.mp h2).1];exact h2)⟩ (fun b hb=>by
    obtain⟨n,hn⟩:=Ov.mp hb
    obtain⟨z,_⟩:=Ay.mp (key n b hn)
    lia) he hb
   refine⟨0,r::rs,by rw[h1];simp,.inr ⟨c,w,sub,b.ways.drop (d+1),rfl,?_,h2⟩⟩
   rw[GG hl,eb]
  .rw[Bz (by lia)]at he hb
   rw[l1]at he
   obtain⟨r,rs,h1,h2⟩:=deeds_down rest B' d p (j+1) (i-(b0::G).length) e b hr (fun i c hc=>hs ((b0::G).length+i) c (by
    rw[Bz (by lia),show(b0::G).length+i+1-(b0::G).length=i+1 by lia]
    exact hc)) ⟨fun b hb=>hk.sh b (CD _ hb),fun i b c h1 h2=>hk.ln (i+(b0::G).length) b c (by
     rw[Bz (by lia),Nat.add_sub_cancel];exact h1) (by
     rw[Bz (by lia),show i+(b0::G).length+1-(b0::G).length=i+1 by lia];exact h2)⟩ (fun b hb=>hd b (CD _ hb)) he hb
   exact⟨r+1,rs,by rw[h1,show j+1+r=j+(r+1) by lia],h2⟩
end Fo
namespace Fo
variable {W L:Type}
noncomputable def app:F W->F W->F W
 |.nil,g=>g
 |.leaf k pl r,g=>.leaf k pl (app r g)
 |.node c w s r,g=>.node c w s (app r g)
theorem HeadSh.app {B C:List (Bo W)}{d:Nat}(h:HeadSh B d)(g:HeadSh C d):HeadSh (B++C) d:=by
 cases B with
 |nil=>exact g
 |cons b B=>exact h
theorem Is.app:∀(f g:F W) (B C:List (Bo W)) (d:Nat),Is f B d->Is g C d->HeadSh C d->Is (app f g) (B++C) d
 |.nil,g,B,C,d,hf,hg,hh=>by cases (show B=[] from hf);exact hg
 |
  .leaf k pl r,g,B,C,d,hf,hg,hh=>by
  obtain⟨b,B',rfl,h1,h2,h3,h4,h5⟩:=hf
  exact⟨b,B'++C,rfl,h1,h2,h3,h4.app hh,Is.app r g B' C d h5 hg hh⟩
 |
  .node c w s r,g,B,C,d,hf,hg,hh=>by
  obtain⟨b,G,B',rfl,h1,h2,h3,h4,h5⟩:=hf
  exact⟨b,G,B'++C,by simp,h1,h2,h3.app hh,h4,Is.app r g B' C d h5 hg hh⟩
theorem Is.leaf1 {b:Bo W}{d:Nat}(h:b.ways.length=d):Is (.leaf b.k b.pl .nil) [b] d:=⟨b,[],rfl,rfl,rfl,h,(fun c hc=>by cases hc),rfl⟩
theorem Is.node1 {b:Bo W}{G:List (Bo W)}{d:Nat}{s:F W}{c:Bool}{w:W}(hw:b.ways[d]?=some (c,w))(hG:∀c∈G,d<c.sh)(hs:Is s (b::G) (d+1)):Is (.node c w s .nil) (b::G) d:=⟨b,G,[],by simp,hw,hG,(fun c hc=>by cases hc),hs,rfl⟩
end Fo
namespace L2
open PySem PySem.Spec PyProof.Rows
def Pb (acc:Str)(t:TE)(k:Str->TE):TE:=fun σ H Q=>t σ H fun v H1=>∃y:Str,v = .str y/\(acc++y).length<=sizeLine/\k (acc++y) σ H1 Q
def Tu (a b:TE):TE:=Pb Str.empty a fun x=>Pb x b fun y=>tC (.str y)
theorem UN {X:Cx}{e1 e2:Expr}{a b:TE}{pos:Pos}(h1:PE X e1 a)(h2:PE X e2 b):PE X (.JoinedStr [e1,e2] pos) (Tu a b):=by
 intro pins s σ H Q I hq
 refine JoinedStr_many (joinParts_cons (Az (h1 pins s σ H _ I hq) fun v s1 hx=>?_))
 obtain⟨x,H1,I1,r1,y,rfl,hy,q1⟩:=hx
 obtain⟨t1,rfl⟩:=(show ∃t,v=Value.str y t from r1)
 refine⟨hy,joinParts_cons (Az (h2 pins s1 σ H1 _ I1 q1) fun v2 s2 hx2=>?_)⟩
 obtain⟨x2,H2,I2,r2,y2,rfl,hy2,q2⟩:=hx2
 obtain⟨t2,rfl⟩:=(show ∃t,v2=Value.str y2 t from r2)
 exact⟨hy2,joinParts_nil ⟨.str _,H2,I2.tok _,⟨_,rfl⟩,q2⟩ hy2⟩
def Av {α:Type}(R:V->α->Prop)(xs:List V)(as:List α):Prop:=xs.length=as.length/\∀(i:Nat) (x:V) (a:α),xs[i]?=some x->as[i]?=some a->R x a
theorem Av.nil {α:Type}{R:V->α->Prop}:Av R [] []:=⟨rfl,fun i x a h=>by simp at h⟩
theorem Av.mono {α:Type}{R S:V->α->Prop}{xs:List V}{as:List α}(h:Av R xs as)(m:∀x a,R x a->S x a):Av S xs as:=⟨h.1,fun i x a p q=>m _ _ (h.2 i x a p q)⟩
theorem Av.get {α:Type}{R:V->α->Prop}{xs:List V}{as:List α}{i:Nat}{a:α}(h:Av R xs as)(ha:as[i]?=some a):∃x,xs[i]?=some x/\R x a:=by
 have hi:i<xs.length:=by rw[h.1];exact(Ay.mp ha).1
 exact⟨_,As hi,h.2 i _ a (As hi) ha⟩
theorem Av.get' {α:Type}{R:V->α->Prop}{xs:List V}{as:List α}{i:Nat}{x:V}(h:Av R xs as)(hx:xs[i]?=some x):∃a,as[i]?=some a/\R x a:=by
 have hi:i<as.length:=by rw[←h.1];exact(Ay.mp hx).1
 exact⟨_,As hi,h.2 i x _ hx (As hi)⟩
theorem Av.app {α:Type}{R:V->α->Prop}{xs ys:List V}{as bs:List α}(h:Av R xs as)(g:Av R ys bs):Av R (xs++ys) (as++bs):=by
 refine⟨by rw[AB,AB,h.1,g.1],fun i x a p q=>?_⟩
 by_cases l:i<xs.length
 .rw[BR l]at p
  rw[BR (by rw[←h.1];exact l)]at q
  exact h.2 i x a p q
 .rw[Bz (by lia)]at p
  rw[Bz (by have:=h.1;lia)]at q
  rw[h.1]at p
  exact g.2 _ x a p q
theorem Av.one {α:Type}{R:V->α->Prop}{x:V}{a:α}(h:R x a):Av R [x] [a]:=⟨rfl,fun i y b p q=>by
 cases i with
 |zero=>cases p;cases q;exact h
 |succ i=>simp at p⟩
theorem Av.snoc {α:Type}{R:V->α->Prop}{xs:List V}{as:List α}{x:V}{a:α}(h:Av R xs as)(g:R x a):Av R (xs++[x]) (as++[a]):=h.app (.one g)
theorem Av.drop {α:Type}{R:V->α->Prop}{xs:List V}{as:List α}(h:Av R xs as)(n:Nat):Av R (xs.drop n) (as.drop n):=⟨by rw[Fx,Fx,h.1],fun i x a p q=>by
 rw[J7]at p q
 exact h.2 _ x a p q⟩
theorem Av.take {α:Type}{R:V->α->Prop}{xs:List V}{as:List α}(h:Av R xs as)(n:Nat):Av R (xs.take n) (as.take n):=⟨by rw[AY,AY,h.1],fun i x a p q=>by
 by_cases l:i<n
 .rw[DO l]at p q
  exact h.2 _ x a p q
 .rw[List.getElem?_take_eq_none (by lia)]at p
  cases p⟩
abbrev CS:=Bool×Str
abbrev Ag:=Fo.Bo Str
abbrev B3:=Fo.F Str
def FA (H:Hp)(x:V)(w:CS):Prop := ∃t,x = .ref t/\H t=some (.tup [.bl w.1,.str w.2])
def Gr (H:Hp)(x:V)(p:Int×Int):Prop := ∃t,x = .ref t/\H t=some (.tup [.int p.1,.int p.2])
theorem FA.over {H H':Hp}{x:V}{w:CS}(h:FA H x w)(e:Aa H H'):FA H' x w:=by obtain⟨t,a,b⟩:=h;exact⟨t,a,e _ _ b⟩
theorem Gr.over {H H':Hp}{x:V}{p:Int×Int}(h:Gr H x p)(e:Aa H H'):Gr H' x p:=by obtain⟨t,a,b⟩:=h;exact⟨t,a,e _ _ b⟩
def ED (H:Hp)(l:Addr)(ws:List CS):Prop := ∃xs,H l=some (.lst xs)/\Av (FA H) xs ws
def E7 (H:Hp)(l:Addr)(ps:List (Int×Int)):Prop := ∃xs,H l=some (.tup xs)/\Av (Gr H) xs ps
theorem ED.over {H H':Hp}{l:Addr}{ws:List CS}(h:ED H l ws)(e:Aa H H'):ED H' l ws:=by obtain⟨xs,a,b⟩:=h;exact⟨xs,e _ _ a,b.mono fun x w p=>p.over e⟩
theorem E7.over {H H':Hp}{l:Addr}{ps:List (Int×Int)}(h:E7 H l ps)(e:Aa H H'):E7 H' l ps:=by obtain⟨xs,a,b⟩:=h;exact⟨xs,e _ _ a,b.mono fun x w p=>p.over e⟩
def By (H:Hp):List V->B3->Prop
 |xs,.nil=>xs=[]
 |xs,.leaf k pl rest=>∃t p ys,xs = .ref t::ys/\H t=some (.tup [.str "deed",.int k,.ref p])/\E7 H p pl/\By H ys rest
 |xs,.node c w sub rest=>∃t p zs ys,xs = .ref t::ys/\H t=some (.tup [.str "sweep",.bl c,.str w,.ref p])/\H p=some (.tup zs)/\By H zs sub/\By H ys rest
theorem By.over {H H':Hp}(e:Aa H H'):∀{f:B3} {xs:List V},By H xs f->By H' xs f
 |.nil,xs,h=>h
 |
  .leaf k pl rest,xs,h=>by
  obtain⟨t,p,ys,a,b,c,d⟩:=h
  exact⟨t,p,ys,a,e _ _ b,c.over e,By.over e d⟩
 |
  .node c w sub rest,xs,h=>by
  obtain⟨t,p,zs,ys,a,b,c,d,g⟩:=h
  exact⟨t,p,zs,ys,a,e _ _ b,e _ _ c,By.over e d,By.over e g⟩
def Ff (H:Hp)(p:Addr)(f:B3):Prop := ∃xs,H p=some (.tup xs)/\By H xs f
theorem Ff.over {H H':Hp}{p:Addr}{f:B3}(h:Ff H p f)(e:Aa H H'):Ff H' p f:=by obtain⟨xs,a,b⟩:=h;exact⟨xs,e _ _ a,By.over e b⟩
def TK (H H':Hp):Prop := ∀(b:Addr) (xs:List V),H b=some (.tup xs)->H' b=some (.tup xs)
theorem TK.trans {H H' H'':Hp}(a:TK H H')(b:TK H' H''):TK H H'':=fun x xs h=>b x xs (a x xs h)
theorem Aa.tk {H H':Hp}(e:Aa H H'):TK H H':=fun b xs h=>e b _ h
theorem TK.upd {H:Hp}{l:Addr}{xs:List V}{o:HO}(hl:H l=some (.lst xs)):TK H (upd H l o):=fun b ys hb=>by
 rw[Ai (E9 hb hl (by intro z;cases z))]
 exact hb
theorem FA.tk {H H':Hp}{x:V}{w:CS}(h:FA H x w)(e:TK H H'):FA H' x w:=by obtain⟨t,a,b⟩:=h;exact⟨t,a,e _ _ b⟩
theorem Gr.tk {H H':Hp}{x:V}{w:Int×Int}(h:Gr H x w)(e:TK H H'):Gr H' x w:=by obtain⟨t,a,b⟩:=h;exact⟨t,a,e _ _ b⟩
theorem E7.tk {H H':Hp}{l:Addr}{ps:List (Int×Int)}(h:E7 H l ps)(e:TK H H'):E7 H' l ps:=by obtain⟨xs,a,b⟩:=h;exact⟨xs,e _ _ a,b.mono fun x w p=>p.tk e⟩
theorem By.tk {H H':Hp}(e:TK H H'):∀{f:B3} {xs:List V},By H xs f->By H' xs f
 |.nil,xs,h=>h
 |
  .leaf k pl rest,xs,h=>by
  obtain⟨t,p,ys,a,b,c,d⟩:=h
  exact⟨t,p,ys,a,e _ _ b,c.tk e,By.tk e d⟩
 |
  .node c w sub rest,xs,h=>by
  obtain⟨t,p,zs,ys,a,b,c,d,g⟩:=h
  exact⟨t,p,zs,ys,a,e _ _ b,e _ _ c,By.tk e d,By.tk e g⟩
theorem By.app {H:Hp}:∀{f g:B3} {xs ys:List V},By H xs f->By H ys g->By H (xs++ys) (Fo.app f g)
 |.nil,g,xs,ys,h,k=>by cases (show xs=[] from h);exact k
 |
  .leaf k pl rest,g,xs,ys,h,hg=>by
  obtain⟨t,p,zs,rfl,b,c,d⟩:=h
  exact⟨t,p,zs++ys,rfl,b,c,By.app d hg⟩
 |
  .node c w sub rest,g,xs,ys,h,hg=>by
  obtain⟨t,p,zs,us,rfl,b,c,d,k⟩:=h
  exact⟨t,p,zs,us++ys,rfl,b,c,d,By.app k hg⟩
structure Jn (B:List Ag)(d n:Nat):Prop where
 ok:Fo.Ok B
 sh:∀i c,B[i+1]?=some c->d<=c.sh
 lo:∀b∈B,d<=b.ways.length
 hi:∀b∈B,b.ways.length<=d+n
 pl:∀b∈B,b.pl.length<=6
 len:B.length<=6
theorem SR {B:List Ag}(h:Fo.Ok B)(i j:Nat):Fo.Ok ((B.drop i).take j):=by
 refine⟨fun b hb=>h.sh b (KE (J8 hb)),fun n b c h1 h2=>?_⟩
 have l2:=(Ay.mp h2).1
 rw[AY]at l2
 rw[DO (by lia),J7]at h1 h2
 exact h.ln (i+n) b c h1 h2
theorem Jn.group {B:List Ag}{d n at' m:Nat}{b:Ag}(h:Jn B d (n+1))(hb:B[at']?=some b)(hd:b.ways.length≠d)(hm:at'<m)(hG:∀i c,at'<i->i<m->B[i]?=some c->d<c.sh):Jn ((B.drop at').take (m-at')) (d+1) n:=by
 have mem:∀c∈(B.drop at').take (m-at'),c∈B:=fun c hc=>KE (J8 hc)
 refine⟨SR h.ok _ _,fun i c hc=>?_,fun c hc=>?_,fun c hc=>by have:=h.hi c (mem c hc);lia,fun c hc=>h.pl c (mem c hc),?_⟩
 .have l2:=(Ay.mp hc).1
  rw[AY]at l2
  rw[DO (by lia),J7]at hc
  exact hG (at'+(i+1)) c (by lia) (by lia) hc
 .obtain⟨i,hi⟩:=Ov.mp hc
  have l2:=(Ay.mp hi).1
  rw[AY]at l2
  rw[DO (by lia),J7]at hi
  by_cases z:i=0
  .subst z
   rw[Nat.add_zero,hb]at hi
   cases hi
   have:=h.lo b (AH hb)
   lia
  .have:=hG (at'+i) c (by lia) (by lia) hi
   have:=h.ok.sh c (mem c hc)
   lia
 .have:=h.len
  rw[AY,Fx]
  lia
theorem Oe (x y:Str):(x++y).length=x.length+y.length:=by rw[←KU,WA,AB,KU,KU]
noncomputable def Cy:B3->Nat
 |.nil=>1
 |.leaf _ _ rest=>Cy rest
 |.node _ _ sub rest=>max (1+Cy sub) (Cy rest)
theorem KQ:∀f:B3,1<=Cy f
 |.nil=>Af _
 |.leaf _ _ rest=>KQ rest
 |.node _ _ sub rest=>by have:=KQ sub;unfold Cy;lia
theorem GQ:∀(f:B3) (B:List Ag) (d n:Nat),Fo.Is f B d->(∀b∈B,b.ways.length<=d+n)->Cy f<=n+1
 |.nil,B,d,n,h,hn=>by unfold Cy;lia
 |
  .leaf k pl rest,B,d,n,h,hn=>by
  obtain⟨b,B',rfl,_,_,_,_,h5⟩:=h
  exact GQ rest B' d n h5 fun b hb=>hn b (Cd _ hb)
 |
  .node c w sub rest,B,d,n,h,hn=>by
  obtain⟨b,G,B',rfl,h1,h2,h3,h4,h5⟩:=h
  have:=GQ rest B' d n h5 fun b hb=>hn b (CD _ hb)
  have l:=(Ay.mp h1).1
  have l2:=hn b (DN _ Cz)
  obtain⟨n,rfl⟩:∃m,n=m+1:=⟨n-1,by lia⟩
  have:=GQ sub (b::G) (d+1) n h4 fun b hb=>by have:=hn b (DN _ hb);lia
  unfold Cy
  lia
def ME (t:TE):Prop := ∀(σ:St) (H:Hp) (Q Q':VK),(∀v H1,Q v H1->Q' v H1)->t σ H Q->t σ H Q'
def MT (t:TT):Prop := ∀σ H Q Q',(∀b H1,Q b H1->Q' b H1)->t σ H Q->t σ H Q'
def MA (t:TA):Prop := ∀σ H Q Q',(∀b H1,Q b H1->Q' b H1)->t σ H Q->t σ H Q'
def MR (r:R2):Prop := ∀(x y:V) (H:Hp) (Q Q':VK),(∀v H1,Q v H1->Q' v H1)->r x y H Q->r x y H Q'
def MB (r:List V->Hp->VK->Prop):Prop := ∀(vs:List V) (H:Hp) (Q Q':VK),(∀v H1,Q v H1->Q' v H1)->r vs H Q->r vs H Q'
theorem ME.c (v:V):ME (tC v):=fun σ H Q Q' hq h=>hq _ _ h
theorem ME.op {r:R2}{a b:TE}(hr:MR r)(ha:ME a)(hb:ME b):ME (Kk r a b):=fun σ H Q Q' hq h=>ha _ _ _ _ (fun x H1 k=>hb _ _ _ _ (fun y H2 k=>hr _ _ _ _ _ hq k) k) h
theorem ME.cb {r:List V->Hp->VK->Prop}{t:TA}(hr:MB r)(h:MA t):ME (NX r t):=fun σ H Q Q' hq k=>h _ _ _ _ (fun xs H1 m=>hr _ _ _ _ hq m) k
theorem MA.nil:MA NN:=fun σ H Q Q' hq h=>hq _ _ h
theorem MA.cons {t:TE}{u:TA}(ht:ME t)(hu:MA u):MA (NK t u):=fun σ H Q Q' hq h=>ht _ _ _ _ (fun x H1 k=>hu _ _ _ _ (fun xs H2 m=>hq _ _ m) k) h
theorem MT.test {t:TE}(h:ME t):MT (PM t):=fun σ H Q Q' hq k=>h _ _ _ _ (fun x H1 ⟨b,e,m⟩=>⟨b,e,hq _ _ m⟩) k
theorem MT.and {t u:TT}(h:MT t)(g:MT u):MT (Qx t u):=fun σ H Q Q' hq k=>h _ _ _ _ (fun c H1 m=>by
 cases c with
 |true=>exact g _ _ _ _ hq m
 |false=>exact hq _ _ m) k
theorem MR.ixL (K:Faa):MR (IK K):=fun x y H Q Q' hq zz=>by obtain⟨p,xs,i,v,a,b,c,d,e⟩:=zz;exact⟨p,xs,i,v,a,b,c,d,hq _ _ e⟩
theorem MR.ixT (K:Faa):MR (DT K):=fun x y H Q Q' hq zz=>by obtain⟨p,xs,i,v,a,b,c,d,e⟩:=zz;exact⟨p,xs,i,v,a,b,c,d,hq _ _ e⟩
theorem MB.len {P R:Hp->Addr->List V->Prop}:MB (fun xs H Q=>∃p ys,xs=[V.ref p]/\(P H p ys\/R H p ys)/\Q (V.int (ys.length:Int)) H):=fun vs H Q Q' hq zz=>by obtain⟨p,ys,a,b,c⟩:=zz;exact⟨p,ys,a,b,hq _ _ c⟩
theorem M0 {K:Faa}{H:Hp}:∀L:List Int,Cc K H (L.map V.int) (L.map fun i=>Tr.v (.int i))
 |[]=>.nil
 |x::L=>.cons (.flat rfl) (M0 L)
theorem NC:∀L:List Int,CK (L.map fun i=>Tr.v (.int i))=0
 |[]=>rfl
 |x::L=>by rw[Bx,CK,NC L];rfl
noncomputable def av (H:Hp)(S:List Addr):Hp:=fun b=>if b∈S then none else H b
theorem MG {H:Hp}{S:List Addr}{l:Addr}{o:HO}(h:l∈S):av (upd H l o) S=av H S:=by
 funext b
 unfold av
 by_cases c:b∈S
 .rw[Ap c,Ap c]
 .rw[Al c,Al c,Ai (fun z:b=l=>c (by rw[z];exact h))]
theorem Gi {H:Hp}{S:List Addr}:Aa (av H S) H:=fun b o h=>by
 unfold av at h
 split at h
 .cases h
 .exact h
theorem EF {H H':Hp}{S:List Addr}(e:Aa H H'):Aa (av H S) (av H' S):=fun b o h=>by
 unfold av at h ⊢
 split at h
 .cases h
 .rename_i c;rw[Al c];exact e b o h
theorem HM {H:Hp}{S:List Addr}{b:Addr}(h:b∉S):av H S b=H b:=by unfold av;rw[Al h]
theorem Fo.Ok.snoc {B:List Ag}{b:Ag}(h:Fo.Ok B)(h1:b.sh<=b.ways.length)(h2:∀c,B.getLast?=some c->b.sh<=c.ways.length/\b.ways.take b.sh=c.ways.take b.sh):Fo.Ok (B++[b]):=by
 refine⟨fun c hc=>?_,fun i c e hc he=>?_⟩
 .rcases BX.mp hc with hc|hc
  .exact h.sh c hc
  .rw[BL]at hc;subst hc;exact h1
 .have le:=(Ay.mp he).1
  rw[AB,B4]at le
  rw[BR (by lia)]at hc
  by_cases z:i+1<B.length
  .rw[BR z]at he
   exact h.ln i c e hc he
  .have hi:i+1=B.length:=by lia
   rw[hi,Bz (Af _),Cn]at he
   cases he
   refine h2 c ?_
   rw[MP,show B.length-1=i by lia]
   exact hc
theorem Yn:∀{f:B3} {d:Nat},Fo.Is f [] d->f = .nil
 |.nil,d,h=>rfl
 |.leaf k pl r,d,h=>by obtain⟨b,B',e,_⟩:=h;cases e
 |.node c w s r,d,h=>by obtain⟨b,G,B',e,_⟩:=h;simp at e
theorem OW {f g:B3}{B C:List Ag}{d:Nat}(hf:Fo.Is f B d)(hg:Fo.Is g C d)(hh:B≠[]->Fo.HeadSh C d):Fo.Is (Fo.app f g) (B++C) d:=by
 by_cases c:B=[]
 .subst c
  rw[Yn hf]
  exact hg
 .exact Fo.Is.app f g B C d hf hg (hh c)
theorem Ti {α:Type}(B:List α){i m:Nat}(h:i<=m):B.take i++(B.drop i).take (m-i)=B.take m:=by
 have:B.take i=(B.take m).take i:=by rw[Hx,G5 h]
 rw[←List.drop_take,this,List.take_append_drop]
theorem Vn {v:V}{i:Nat}{b:TS}{D:CC}{σ:St}{H:Hp}(h:b D (σ.set i (some v)) H):GM (Ip (tC v) (Am i)) b D σ H:=h
theorem LM:∀{rs:List Nat} {f:B3} {ws:List CS},Fo.Down f rs ws->rs.length=ws.length+1
 |[],f,ws,h=>h.elim
 |
  r::rs,f,ws,h=>by
  rcases h with⟨k,pl,_,rfl,rfl⟩|⟨c,w,sub,ws',_,rfl,h⟩
  .rfl
  .rw[BH,BH,LM h]
theorem Ny {H:Hp}:∀{f:B3} {r:Nat} {xs:List V} {c:Bool} {w:Str} {sub:B3},By H xs f->Fo.itm f r=some (.sweep c w sub)->∃t p zs,xs[r]?=some (.ref t)/\H t=some (.tup [.str "sweep",.bl c,.str w,.ref p])/\H p=some (.tup zs)/\By H zs sub
 |.nil,r,xs,c,w,sub,h,e=>by cases e
 |.leaf k pl rest,0,xs,c,w,sub,h,e=>by cases e
 |
  .leaf k pl rest,r+1,xs,c,w,sub,h,e=>by
  obtain⟨t,p,ys,rfl,_,_,hr⟩:=h
  obtain⟨t',p',zs,a,b⟩:=Ny (r:=r) hr e
  exact⟨t',p',zs,by simpa using a,b⟩
 |
  .node c' w' s rest,0,xs,c,w,sub,h,e=>by
  obtain⟨t,p,zs,ys,rfl,a,b,d,_⟩:=h
  cases e
  exact⟨t,p,zs,rfl,a,b,d⟩
 |
  .node c' w' s rest,r+1,xs,c,w,sub,h,e=>by
  obtain⟨t,p,zs,ys,rfl,_,_,_,hr⟩:=h
  obtain⟨t',p',zs',a,b⟩:=Ny (r:=r) hr e
  exact⟨t',p',zs',by simpa using a,b⟩
def Gq (H:Hp)(x:V)(e:Fo.En):Prop := ∃t pl pt cu,x = .ref t/\H t=some (.tup [.int e.k,.ref pl,.ref pt,.ref cu])/\E7 H pl e.pl/\H pt=some (.tup (e.path.map V.int))
theorem Gq.tk {H H':Hp}{x:V}{e:Fo.En}(h:Gq H x e)(k:TK H H'):Gq H' x e:=by obtain⟨t,pl,pt,cu,a,b,c,d⟩:=h;exact⟨t,pl,pt,cu,a,k _ _ b,c.tk k,k _ _ d⟩
theorem Gq.over {H H':Hp}{x:V}{e:Fo.En}(h:Gq H x e)(k:Aa H H'):Gq H' x e:=h.tk (Aa.tk k)
def Q7 (n:Nat):Sp:=fun vs H Q _=>∃(it pa cu:Addr) (f:B3) (P:List Int) (cs:List V),vs=[.ref it,.ref pa,.ref cu]/\Ff H it f/\H pa=some (.tup (P.map V.int))/\H cu=some (.tup cs)/\Cy f<=n/\P.length+n<=100/\cs.length+n<=100/\(Fo.deedsF f P 0).length<=1000/\∀(r:Addr) (ys:List V) (H':Hp),Aa H H'->H' r=some (.lst ys)->Av (Gq H') ys (Fo.deedsF f P 0)->Q (.ref r) H'
def WW:Sp:=fun vs H Q _=>∃(p:Addr) (k:Int) (f:B3) (i:Nat) (e:Fo.En),vs=[.ref p,.int k]/\Ff H p f/\Cy f<=7/\(Fo.deedsF f [] 0).length<=1000/\(Fo.deedsF f [] 0)[i]?=some e/\e.k=k/\(∀j e',j<i->(Fo.deedsF f [] 0)[j]?=some e'->e'.k≠k)/\∀(r pt pl:Addr) (H':Hp),Aa H H'->H' r=some (.tup [.ref pt,.ref pl])->H' pt=some (.tup (e.path.map V.int))->E7 H' pl e.pl->Q (.ref r) H'
structure Rb where
 way:CS
 p:Int×Int
 q:Int×Int
def EB (B:List Ag)(i j s:Nat):Prop:=(i=j/\∃b,B[i]?=some b/\s=b.ways.length)\/(i<j/\Fo.Least B i j s)\/(j<i/\Fo.Least B j i s)
theorem Hr {f:B3}{B:List Ag}{i:Nat}{b:Ag}(h:Fo.Is f B 0)(hb:B[i]?=some b):∃e,(Fo.deedsF f [] 0)[i]?=some e/\e.k=b.k/\e.pl=b.pl:=by
 have l:=Fo.deeds_len [] 0 h
 have hi:i<(Fo.deedsF f [] 0).length:=by rw[l];exact(Ay.mp hb).1
 have m:=congrArg (fun l:List (Int×List (Int×Int))=>l[i]?) (Fo.deeds_map f B 0 [] 0 h)
 simp only[Bq,As hi,hb,J4]at m
 have m:=Ck m
 exact⟨_,As hi,congrArg Prod.fst m,congrArg Prod.snd m⟩
theorem Lf {f:B3}{B:List Ag}{i:Nat}{b:Ag}(h:Fo.Is f B 0)(nd:(B.map (·.k)).Nodup)(hb:B[i]?=some b)(j:Nat)(e':Fo.En)(hj:j<i)(he:(Fo.deedsF f [] 0)[j]?=some e'):e'.k≠b.k:=fun z=>by
 have l:=Fo.deeds_len [] 0 h
 have hjl:j<B.length:=by have:=(Ay.mp he).1;lia
 obtain⟨e'',g1,g2,_⟩:=Hr h (As hjl)
 rw[he]at g1
 cases g1
 obtain⟨l1,a1⟩:=Ay.mp hb
 exact RW.mp nd j i (by rw[Au];exact hjl) (by rw[Au];exact l1) hj (by rw[Ow,Ow,a1,←z,g2])
theorem Zl {X:Cx}(hc:X.calm=true):DX X (.builtin "min") (fun xs H Q=>∃(p:Addr) (ns:List Int),xs=[.ref p]/\A4 X.K H p (ns.map V.int)/\0<ns.length/\∀M∈ns,(∀a∈ns,M<=a)->Q (.int M) H):=by
 intro pins s σ H xs us Q I r h
 obtain⟨p,ns,rfl,hq,hpos,q⟩:=h
 obtain⟨u,rfl,ru⟩:=ET r
 cases ru
 obtain⟨its,rv,pl,hz⟩:=I.list hq
 have hi:=Mi rv
 obtain⟨xs,e⟩:=hi.allInts.items
 have hns:ns=xs.toList.map (·.1):=by rw[←hi.numsOf,←nums_intItems,←e]
 have hsz:0<xs.size:=by
  have h3:=hpos;rw[hns,Au,Gy]at h3;exact h3
 have hl:=pl.isList
 rw[e]at hl
 refine min_intList (I.ok.hd hc) hl hsz fun v h' tk hv hk=>?_
 obtain⟨t,rfl⟩:=intItems_at hv
 obtain⟨h1,h2⟩:=argBest_lt (numAt xs) (xs.size-1)
 refine⟨.int _,H,I.kept (t':=tk) hk,⟨_,rfl⟩,q _ ?_ fun a ha=>?_⟩
 .rw[hns,numAt_eq];exact getD_mem (by rw[Au,Gy];lia)
 .rw[hns]at ha
  obtain⟨j,hj,rfl⟩:=mem_getD ha
  rw[Au,Gy]at hj
  rw[←numAt_eq];exact h2 j (by lia)
theorem U0 {B:List Ag}{i j:Nat}(hi:i<B.length)(hj:j<B.length):∃s,EB B i j s:=by
 have low:∀(i j:Nat),i<j->j<B.length->∃s,Fo.Least B i j s:=fun i j hij hj=>by
  have:∀n,i<n->n<=j->∃s,Fo.Least B i n s:=by
   intro n
   induction n with
   |zero=>intro h;lia
   |
    succ n ih=>
    intro h1 h2
    have Bn:B[n+1]?=some B[n+1]:=As (by lia)
    by_cases c:i<n
    .obtain⟨s,⟨k,b,k1,k2,k3,k4⟩,k5⟩:=ih c (by lia)
     by_cases d:(B[n+1]).sh<s
     .refine⟨(B[n+1]).sh,⟨n+1,_,h1,Af _,Bn,rfl⟩,fun m c' m1 m2 m3=>?_⟩
      by_cases z:m=n+1
      .subst z
       rw[Bn]at m3
       cases m3
       exact Af _
      .have:=k5 m c' m1 (by lia) m3
       lia
     .refine⟨s,⟨k,b,k1,by lia,k3,k4⟩,fun m c' m1 m2 m3=>?_⟩
      by_cases z:m=n+1
      .subst z
       rw[Bn]at m3
       cases m3
       lia
      .exact k5 m c' m1 (by lia) m3
    .have:i=n:=by lia
     subst this
     refine⟨(B[i+1]).sh,⟨i+1,_,h1,Af _,Bn,rfl⟩,fun m c' m1 m2 m3=>?_⟩
     have:m=i+1:=by lia
     subst this
     rw[Bn]at m3
     cases m3
     exact Af _
  exact this j hij (Af _)
 rcases RX i j with c|c|c
 .obtain⟨s,h⟩:=low i j c hj
  exact⟨s,.inr (.inl ⟨c,h⟩)⟩
 .exact⟨_,.inl ⟨c,_,As hi,rfl⟩⟩
 .obtain⟨s,h⟩:=low j i c hi
  exact⟨s,.inr (.inr ⟨c,h⟩)⟩
end L2
namespace HT
open PySem PySem.Spec PyProof.Rows L2
section
variable {prog:Program}{w:World}{A:Around}{E:Value->Shared->Prop}{s:Shared}
theorem getItem_tuple_all {t sl:Addr}{items:Array Value}{vl vu:Value}{lo hi:Option Int}{Q:Value->Shared->Prop}(ht:IsTup s.heap t items)(hs:s.heap.IsSliceOf sl vl vu .none)(pl:IsPart vl lo)(pu:IsPart vu hi)
  (hw:sIx items.size 0 lo=0/\sIx items.size items.size hi=items.size) (h:Q (.ref t) s):wpAny (model prog w) A (getItem (.ref t) (.ref sl)) Q E s:=by
 obtain⟨os,hos,hcs,hds⟩:=id hs
 have hTs:s.TypeIs (.ref sl) "slice":=⟨os,hos,hcs⟩
 unfold getItem
 try with_reducible refine Er ?_
 first|refine A9 (AA ?_)|skip
 refine A9 (wpAny_sequenceKey ht.typeIs (by decide) ?_)
 refine A9 (wpAny_callSpecial?_slot (name:=Str.ofString "__getitem__") ht.typeIs Om
  (MU Om ht.typeIs entry_tuple_getitem ?_ (args_tuple_getitem _ _)))
 show wpAny _ _ (Builtin.Tuple.tupleItemsOf (.ref t)>>=_) _ _ s
 refine A9 (tupleItemsOf_ ht ?_)
 refine A9 (MV hTs ?_)
 rw[Ap (by decide)]
 refine A9 (Ro hs pl pu ?_)
 have hyes:(((sIx items.size 0 lo:Nat):Int)==0&&(1:Int)==1&&(sIx items.size items.size hi-sIx items.size 0 lo)==items.size)=true:=by
  rw[hw.1,hw.2]
  simp
 show wpAny _ _ (if(((sIx items.size 0 lo:Nat):Int)==0&&(1:Int)==1&&(sIx items.size items.size hi-sIx items.size 0 lo)==items.size)=true then _ else _) _ _ s
 rw[Ap hyes]
 show wpAny _ _ (Builtin.Tuple.tupleIsExact (.ref t)>>=_) _ _ s
 unfold Builtin.Tuple.tupleIsExact
 refine A9 (A9 (MV ht.typeIs (AA ?_)))
 rw[Ap (by decide)]
 wp_walk
 first
  |exact⟨_,rfl,AA h⟩
  |exact AA ⟨_,rfl,AA h⟩
end
end HT
namespace L2
open PySem PySem.Spec PyProof.Rows
def ZO:V->Option Int->Option Int->Hp->VK->Prop:=fun x lo hi H Q=>∃(a:Addr) (xs:List V),x = .ref a/\H a=some (.tup xs)/\∀(p:Addr) (H':Hp),Aa H H'->H' p=some (.tup (BS xs lo hi))->Q (.ref p) H'
theorem JI {X:Cx}:Md X ZO:=by
 intro pins s σ H x v vl vu lo hi sl Q I rx hs pl pu h
 obtain⟨a,xs,rfl,ha,q⟩:=h
 by_cases c:HT.sIx xs.length 0 lo=0/\HT.sIx xs.length xs.length hi=xs.length
 .cases rx
  obtain⟨its,r,ht,hz⟩:=I.tuple (A5.of ha)
  have hlen:its.toArray.size=xs.length:=by rw[Bc];exact r.length.symm
  refine⟨"tuple",_,PyProof.Rows.slot_tuple_getitem.lookup,ht.typeIs,?_⟩
  refine HT.getItem_tuple_all ht hs pl pu (by rw[hlen];exact c) ⟨.ref a,H,I,rfl,q a H (Aa.refl _) ?_⟩
  have:BS xs lo hi=xs:=by
   unfold BS
   rw[c.1,c.2]
   simp
  rw[this]
  exact ha
 .exact UP pins s σ H (.ref a) v vl vu lo hi sl Q I rx hs pl pu ⟨a,xs,rfl,A5.of ha,c,fun p hp=>q p _ (Ac hp _) A7⟩
abbrev F5:=Nat×List Int
set_option genInjectivity true in
inductive Tw where
 |n (i:Int)
 |v (z:Str)
 |c (z:Str) (sp:List (Str×Int))
 |j (z:Str) (l r:Tw)
namespace Tw
end Tw
def Dh (H:Hp)(x:V)(s:Str×Int):Prop := ∃t,x = .ref t/\H t=some (.tup [.str s.1,.int s.2])
def JX (H:Hp)(p:Addr)(sp:List (Str×Int)):Prop := ∃xs,H p=some (.tup xs)/\Av (Dh H) xs sp
theorem Dh.tk {H H':Hp}{x:V}{s:Str×Int}(k:TK H H')(h:Dh H x s):Dh H' x s:=by obtain⟨t,e,h⟩:=h;exact⟨t,e,k _ _ h⟩
theorem JX.tk {H H':Hp}{p:Addr}{sp:List (Str×Int)}(k:TK H H')(h:JX H p sp):JX H' p sp:=by obtain⟨xs,e,h⟩:=h;exact⟨xs,k _ _ e,h.mono fun _ _ z=>z.tk k⟩
def Eg (c:Cs)(H:Hp):Tw->V->Prop
 |.n i,x=>∃t dx,x = .ref t/\H t=some (.ins c.n dx [("n",.int i)])
 |.v z,x=>∃t dx,x = .ref t/\H t=some (.ins c.v dx [("name",.str z)])
 |.c z sp,x=>∃t dx p,x = .ref t/\H t=some (.ins c.c dx [("table",.str z),("spots",.ref p)])/\JX H p sp
 |.j z l r,x=>∃t dx a b,x = .ref t/\H t=some (.ins c.j dx [("sign",.str z),("left",a),("right",b)])/\Eg c H l a/\Eg c H r b
theorem Eg.over {c:Cs}{H H':Hp}(e:Aa H H'):∀{t:Tw} {x:V},Eg c H t x->Eg c H' t x
 |.n i,x,h=>by obtain⟨t,dx,r,h⟩:=h;exact⟨t,dx,r,e _ _ h⟩
 |.v z,x,h=>by obtain⟨t,dx,r,h⟩:=h;exact⟨t,dx,r,e _ _ h⟩
 |.c z sp,x,h=>by obtain⟨t,dx,p,r,h,g⟩:=h;exact⟨t,dx,p,r,e _ _ h,g.tk (Aa.tk e)⟩
 |.j z l r,x,h=>by obtain⟨t,dx,a,b,r,h,g1,g2⟩:=h;exact⟨t,dx,a,b,r,e _ _ h,Eg.over e g1,Eg.over e g2⟩
end L2
namespace Pw
variable {T S:Type}
end Pw
namespace L2
open PySem PySem.Spec PyProof.Rows
structure Hf where
 nm:Str
 lo:Str×Int
 hi:Str×Int
structure Dw where
 loops:List Hf
 tbl:Str
 sp:List (Str×Int)
 tm:Tw
 path:List Int
def DA (C:Addr)(c:Cs)(H:Hp)(x:V)(D:Dw):Prop := ∃(p dx nm lo hi ps pt:Addr) (ob:V) (ls hs:List V),x = .ref p/\H p=some (.ins C dx [("names",.ref nm),("lows",.ref lo),("highs",.ref hi),("table",.str D.tbl),("spots",.ref ps),("term",ob),("path",.ref pt)])/\H nm=some (.tup (D.loops.map fun t=>V.str t.nm))/\H lo=some (.tup ls)/\Av (fun v t=>Dh H v (Hf.lo t)) ls D.loops/\H hi=some (.tup hs)/\Av (fun v t=>Dh H v (Hf.hi t)) hs D.loops/\JX H ps D.sp/\Eg c H D.tm ob/\H pt=some (.tup (D.path.map V.int))
theorem DA.over {C:Addr}{c:Cs}{H H':Hp}{x:V}{D:Dw}(e:Aa H H')(h:DA C c H x D):DA C c H' x D:=by
 obtain⟨p,dx,nm,lo,hi,ps,pt,ob,ls,hs,rfl,h0,h1,h2,h3,h4,h5,h6,h7,h8⟩:=h
 exact⟨p,dx,nm,lo,hi,ps,pt,ob,ls,hs,rfl,e _ _ h0,e _ _ h1,e _ _ h2,h3.mono fun _ _ z=>z.tk (Aa.tk e),e _ _ h4,h5.mono fun _ _ z=>z.tk (Aa.tk e),h6.tk (Aa.tk e),h7.over e,e _ _ h8⟩
def UV (C:Addr)(c:Cs)(H:Hp)(l:Addr)(Ds:List Dw):Prop := ∃xs,H l=some (.lst xs)/\Av (DA C c H) xs Ds
def Kc (CP C:Addr)(c:Cs)(H:Hp)(v:V)(n:Int)(Ds:List Dw):Prop := ∃(x dx dl:Addr),v = .ref x/\H x=some (.ins CP dx [("size",.int n),("deeds",.ref dl)])/\UV C c H dl Ds
def NL (H H':Hp):Prop := ∀b o,H b=some o->(∀xs,o≠.lst xs)->H' b=some o
theorem NL.tk {H H':Hp}(h:NL H H'):TK H H':=fun b xs hb=>h b _ hb (fun _ z=>by cases z)
theorem NL.upd {H:Hp}{l:Addr}{xs:List V}{o:HO}(hl:H l=some (.lst xs)):NL H (upd H l o):=fun b ob hb hn=>by
 rw[Ai (fun z=>by rw[z,hl]at hb;cases hb;exact hn _ rfl)]
 exact hb
theorem Eg.nl {c:Cs}{H H':Hp}(e:NL H H'):∀{t:Tw} {x:V},Eg c H t x->Eg c H' t x
 |.n i,x,h=>let ⟨t,dx,r,h⟩:=h;⟨t,dx,r,e _ _ h (fun _ z=>by cases z)⟩
 |.v z,x,h=>let ⟨t,dx,r,h⟩:=h;⟨t,dx,r,e _ _ h (fun _ z=>by cases z)⟩
 |.c z sp,x,h=>let ⟨t,dx,p,r,h,g⟩:=h;⟨t,dx,p,r,e _ _ h (fun _ z=>by cases z),g.tk e.tk⟩
 |.j z l r,x,h=>let ⟨t,dx,a,b,r,h,g1,g2⟩:=h;⟨t,dx,a,b,r,e _ _ h (fun _ z=>by cases z),Eg.nl e g1,Eg.nl e g2⟩
theorem DA.nl {C:Addr}{c:Cs}{H H':Hp}{x:V}{D:Dw}(e:NL H H')(h:DA C c H x D):DA C c H' x D:=by
 obtain⟨p,dx,nm,lo,hi,ps,pt,ob,ls,hs,rfl,h0,h1,h2,h3,h4,h5,h6,h7,h8⟩:=h
 exact⟨p,dx,nm,lo,hi,ps,pt,ob,ls,hs,rfl,e _ _ h0 (fun _ z=>by cases z),e.tk _ _ h1,e.tk _ _ h2,h3.mono fun _ _ z=>z.tk e.tk,e.tk _ _ h4,h5.mono fun _ _ z=>z.tk e.tk,h6.tk e.tk,h7.nl e,e.tk _ _ h8⟩
section
variable {X:Cx}{pins:List (Addr×Obj)}{s:Shared}{σ:St}{H:Hp}
end
noncomputable def Qf:V->Bool
 |.int _=>true
 |.str _=>true
 |.bl _=>true
 |_=>false
mutual
def E1 (H:Hp):Tr->V->Prop
 |.v y,x=>x=y/\Qf y=true
 |.tup l,x=>∃p xs,x = .ref p/\H p=some (.tup xs)/\CI H l xs
 |.lst _,_=>False
def CI (H:Hp):List Tr->List V->Prop
 |[],xs=>xs=[]
 |t::l,xs=>∃x xs',xs=x::xs'/\E1 H t x/\CI H l xs'
end
def Ui (K:Faa):Sp:=fun vs H Q _=>∃(p:Addr) (ns:List Int) (k:Int),vs=[.ref p,.int k]/\A4 K H p (ns.map V.int)/\0<=k/\k<=1000000/\∀m:Int,0<=m->m<2147483629->Q (.int m) H
def T5:Sp:=fun vs H Q _=>∃(c:Int) (l:Addr) (ms:List Int),vs=[.int c,.ref l]/\H l=some (.lst (ms.map V.int))/\0<=c/\ms.length<=100/\(∀m∈ms,0<m/\m<1073741824)/\∀(r:Addr) (H':Hp) (ds:List Int),Aa H H'->H' r=some (.lst (ds.map V.int))->ds.length=ms.length->(∀(i:Nat) (d m:Int),ds[i]?=some d->ms[i]?=some m->0<=d/\d<m)->Q (.ref r) H'
noncomputable def JC (first:Int)(u ln:Nat->Int)(i:Nat):EO:=(u i,first+(i:Int),-(ln i))
noncomputable def Jt (first:Int)(w hn:Nat->Int)(i:Nat):EO:=(first+(i:Int),w i,hn i)
def Vu (C:Addr):Sp:=fun vs H Q _=>∃(d dx nm lo hi:Addr) (v4 v5 v6 v7:V) (first:Int) (zs:List Str) (lz hz:Nat->Str) (ln hn u w:Nat->Int),vs=[.ref d,.int first]/\H d=some (.ins C dx [("names",.ref nm),("lows",.ref lo),("highs",.ref hi),("table",v4),("spots",v5),("term",v6),("path",v7)])/\H nm=some (.tup (zs.map V.str))/\Mc H lo zs.length lz ln/\Mc H hi zs.length hz hn/\zs.length<=100/\(∀i<zs.length,Fk zs (lz i) first (u i))/\(∀i<zs.length,Fk zs (hz i) first (w i))/\∀(r:Addr) (ys:List V) (H':Hp),Aa H H'->H' r=some (.lst ys)->DW H' ys (Gp (JC first u ln) (Jt first w hn) zs.length)->Q (.ref r) H'
end L2
namespace PySem
open Builtin
open AutoSeq1 (wpAny_loadPart')
end PySem
namespace L2
open PySem PySem.Spec PyProof.Rows
end L2
namespace Fo
variable {W:Type}
noncomputable def nxt (prev:List Int)(b:Bo W):List Int:=prev.take b.sh++[prev.getD b.sh 0+1]++List.replicate (b.ways.length-b.sh) 0
noncomputable def EI:List Int->List (Bo W)->List (List Int)
 |_,[]=>[]
 |prev,b::B=>nxt prev b::EI (nxt prev b) B
noncomputable def Dj:List Int->List (Bo W)->List Int
 |prev,[]=>prev
 |prev,b::B=>Dj (nxt prev b) B
theorem QF:∀(A B:List (Bo W)) (prev:List Int),EI prev (A++B)=EI prev A++EI (Dj prev A) B
 |[],B,prev=>rfl
 |
  a::A,B,prev=>by
  show nxt prev a::EI (nxt prev a) (A++B)=nxt prev a::(EI (nxt prev a) A++_)
  rw[QF]
  rfl
theorem NY:∀(A:List (Bo W)) (prev:List Int),Dj prev A=prev\/Dj prev A∈EI prev A
 |[],prev=>.inl rfl
 |
  a::A,prev=>by
  right
  rcases NY A (nxt prev a) with h|h
  .show Dj (nxt prev a) A∈_
   rw[h];exact Cz
  .exact Cd _ h
noncomputable def fst (p:List Int)(j:Nat)(n:Nat):List Int:=p++(j:Int)::List.replicate n 0
theorem Ma:∀(f:F W) (B:List (Bo W)) (d:Nat) (p:List Int) (j:Nat),Is f B d->p.length=d->∀b B',B=b::B'->(deedsF f p j).map (·.path)=fst p j (b.ways.length-d)::EI (fst p j (b.ways.length-d)) B'
 |
  .nil,B,d,p,j,h,hp,b,B',e=>by
  have h:B=[]:=h
  rw[h]at e
  cases e
 |
  .leaf k pl rest,B,d,p,j,h,hp,b,B',e=>by
  obtain⟨b0,B0,rfl,rfl,rfl,hl,hh,hr⟩:=h
  cases e
  have e0:b.ways.length-d=0:=by lia
  rw[e0]
  show(p++[(j:Int)])::(deedsF rest p (j+1)).map (·.path)=(p++[(j:Int)])::EI (p++[(j:Int)]) B'
  congr 1
  cases B' with
  |
   nil=>
   cases rest with
   |nil=>rfl
   |leaf k' pl' r'=>obtain⟨_,_,z,_⟩:=hr;cases z
   |node c w s r'=>obtain⟨_,_,_,z,_⟩:=hr;cases z
  |
   cons c B2=>
   have hs:c.sh=d:=hh c rfl
   rw[Ma rest (c::B2) d p (j+1) hr hp c B2 rfl]
   have en:nxt (p++[(j:Int)]) c=fst p (j+1) (c.ways.length-d):=by
    unfold nxt fst
    rw[hs,←hp,KF,Bv,Bz (Af _),Cn]
    .simp
    .rfl
   show _=nxt (p++[(j:Int)]) c::EI (nxt (p++[(j:Int)]) c) B2
   rw[en]
 |
  .node c w sub rest,B,d,p,j,h,hp,b,B',e=>by
  obtain⟨b0,G,B0,rfl,hw,hG,hh,hsub,hr⟩:=h
  cases e
  have hlw:d<b.ways.length:=(Ay.mp hw).1
  have i1:=Ma sub (b::G) (d+1) (p++[(j:Int)]) 0 hsub (by rw[AB,hp];rfl) b G rfl
  have ef:fst (p++[(j:Int)]) 0 (b.ways.length-(d+1))=fst p j (b.ways.length-d):=by
   unfold fst
   rw[show b.ways.length-d=(b.ways.length-(d+1))+1 by lia,J0,Dp]
   rfl
  rw[ef]at i1
  show(deedsF sub (p++[(j:Int)]) 0++deedsF rest p (j+1)).map (·.path)=fst p j (b.ways.length-d)::EI (fst p j (b.ways.length-d)) (G++B0)
  rw[BA,i1,QF]
  show _::(_++_)=_::(_++_)
  congr 1
  congr 1
  cases B0 with
  |
   nil=>
   cases rest with
   |nil=>rfl
   |leaf k' pl' r'=>obtain⟨_,_,z,_⟩:=hr;cases z
   |node c w s r'=>obtain⟨_,_,_,z,_⟩:=hr;cases z
  |
   cons c2 B2=>
   have hs:c2.sh=d:=hh c2 rfl
   rw[Ma rest (c2::B2) d p (j+1) hr hp c2 B2 rfl]
   have beg:∃q,Dj (fst p j (b.ways.length-d)) G=p++(j:Int)::q:=by
    have hm:Dj (fst p j (b.ways.length-d)) G∈(deedsF sub (p++[(j:Int)]) 0).map (·.path):=by
     rw[i1]
     rcases NY G (fst p j (b.ways.length-d)) with h|h
     .rw[h];exact Cz
     .exact Cd _ h
    obtain⟨x,hx,ex⟩:=Co.mp hm
    obtain⟨i,q,_,h2⟩:=Gw sub (p++[(j:Int)]) 0 x hx
    exact⟨(i:Int)::q,by rw[←ex,h2,Dp];rfl⟩
   obtain⟨q,hq⟩:=beg
   have en:nxt (Dj (fst p j (b.ways.length-d)) G) c2=fst p (j+1) (c2.ways.length-d):=by
    rw[hq]
    unfold nxt fst
    rw[hs,←hp,KF,Bv,Bz (Af _),Cn]
    .simp
    .rfl
   show _=nxt (Dj (fst p j (b.ways.length-d)) G) c2::EI (nxt (Dj (fst p j (b.ways.length-d)) G) c2) B2
   rw[en]
abbrev Sw (W:Type):=List Int×Bool×W
noncomputable def swF:F W->List Int->Nat->List (Sw W)
 |.nil,_,_=>[]
 |.leaf _ _ rest,p,j=>swF rest p (j+1)
 |.node c w sub rest,p,j=>(p++[(j:Int)],c,w)::(swF sub (p++[(j:Int)]) 0++swF rest p (j+1))
noncomputable def swOf (path:List Int):Nat->List (Bool×W)->List (Sw W)
 |_,[]=>[]
 |e,w::ws=>(path.take (e+1),w.1,w.2)::swOf path (e+1) ws
noncomputable def sweepsFrom:List Int->List (Bo W)->List (Sw W)
 |_,[]=>[]
 |prev,b::B=>swOf (nxt prev b) b.sh (b.ways.drop b.sh)++sweepsFrom (nxt prev b) B
theorem Py:∀(A B:List (Bo W)) (prev:List Int),sweepsFrom prev (A++B)=sweepsFrom prev A++sweepsFrom (Dj prev A) B
 |[],B,prev=>rfl
 |
  a::A,B,prev=>by
  show swOf (nxt prev a) a.sh (a.ways.drop a.sh)++sweepsFrom (nxt prev a) (A++B)=swOf (nxt prev a) a.sh (a.ways.drop a.sh)++sweepsFrom (nxt prev a) A++_
  rw[Py,Dp]
  rfl
theorem sweeps_paths:∀(f:F W) (B:List (Bo W)) (d:Nat) (p:List Int) (j:Nat),Is f B d->p.length=d->∀b B',B=b::B'->swF f p j=swOf (fst p j (b.ways.length-d)) d (b.ways.drop d)++sweepsFrom (fst p j (b.ways.length-d)) B'
 |
  .nil,B,d,p,j,h,hp,b,B',e=>by
  have h:B=[]:=h
  rw[h]at e
  cases e
 |
  .leaf k pl rest,B,d,p,j,h,hp,b,B',e=>by
  obtain⟨b0,B0,rfl,rfl,rfl,hl,hh,hr⟩:=h
  cases e
  have e0:b.ways.length-d=0:=by lia
  rw[e0,MN (by lia)]
  show swF rest p (j+1)=[]++sweepsFrom (p++[(j:Int)]) B'
  rw[GD]
  cases B' with
  |
   nil=>
   cases rest with
   |nil=>rfl
   |leaf k' pl' r'=>obtain⟨_,_,z,_⟩:=hr;cases z
   |node c w s r'=>obtain⟨_,_,_,z,_⟩:=hr;cases z
  |
   cons c B2=>
   have hs:c.sh=d:=hh c rfl
   rw[sweeps_paths rest (c::B2) d p (j+1) hr hp c B2 rfl]
   have en:nxt (p++[(j:Int)]) c=fst p (j+1) (c.ways.length-d):=by
    unfold nxt fst
    rw[hs,←hp,KF,Bv,Bz (Af _),Cn]
    .simp
    .rfl
   show _=swOf (nxt (p++[(j:Int)]) c) c.sh (c.ways.drop c.sh)++sweepsFrom (nxt (p++[(j:Int)]) c) B2
   rw[en,hs]
 |
  .node c w sub rest,B,d,p,j,h,hp,b,B',e=>by
  obtain⟨b0,G,B0,rfl,hw,hG,hh,hsub,hr⟩:=h
  cases e
  obtain⟨hlw,ew⟩:=Ay.mp hw
  have hp1:(p++[(j:Int)]).length=d+1:=by rw[AB,hp];rfl
  have i1:=sweeps_paths sub (b::G) (d+1) (p++[(j:Int)]) 0 hsub hp1 b G rfl
  have ip:=Ma sub (b::G) (d+1) (p++[(j:Int)]) 0 hsub hp1 b G rfl
  have ef:fst (p++[(j:Int)]) 0 (b.ways.length-(d+1))=fst p j (b.ways.length-d):=by
   unfold fst
   rw[show b.ways.length-d=(b.ways.length-(d+1))+1 by lia,J0,Dp]
   rfl
  rw[ef]at i1 ip
  have hd:b.ways.drop d=(c,w)::b.ways.drop (d+1):=by rw[GG hlw,ew]
  have tk:(fst p j (b.ways.length-d)).take (d+1)=p++[(j:Int)]:=by
   have:fst p j (b.ways.length-d)=(p++[(j:Int)])++List.replicate (b.ways.length-d) 0:=by unfold fst;rw[Dp];rfl
   rw[this,←hp1,KF]
   rfl
  show(p++[(j:Int)],c,w)::(swF sub (p++[(j:Int)]) 0++swF rest p (j+1))=swOf (fst p j (b.ways.length-d)) d (b.ways.drop d)++sweepsFrom (fst p j (b.ways.length-d)) (G++B0)
  rw[hd,i1,Py]
  show _=((fst p j (b.ways.length-d)).take (d+1),c,w)::swOf (fst p j (b.ways.length-d)) (d+1) (b.ways.drop (d+1))++_
  rw[tk]
  have rest_eq:swF rest p (j+1)=sweepsFrom (Dj (fst p j (b.ways.length-d)) G) B0:=by
   cases B0 with
   |
    nil=>
    cases rest with
    |nil=>rfl
    |leaf k' pl' r'=>obtain⟨_,_,z,_⟩:=hr;cases z
    |node c w s r'=>obtain⟨_,_,_,z,_⟩:=hr;cases z
   |
    cons c2 B2=>
    have hs:c2.sh=d:=hh c2 rfl
    rw[sweeps_paths rest (c2::B2) d p (j+1) hr hp c2 B2 rfl]
    have beg:∃q,Dj (fst p j (b.ways.length-d)) G=p++(j:Int)::q:=by
     have hm:Dj (fst p j (b.ways.length-d)) G∈(deedsF sub (p++[(j:Int)]) 0).map (·.path):=by
      rw[ip]
      rcases NY G (fst p j (b.ways.length-d)) with h|h
      .rw[h];exact Cz
      .exact Cd _ h
     obtain⟨x,hx,ex⟩:=Co.mp hm
     obtain⟨i,q,_,h2⟩:=Gw sub (p++[(j:Int)]) 0 x hx
     exact⟨(i:Int)::q,by rw[←ex,h2,Dp];rfl⟩
    obtain⟨q,hq⟩:=beg
    have en:nxt (Dj (fst p j (b.ways.length-d)) G) c2=fst p (j+1) (c2.ways.length-d):=by
     rw[hq]
     unfold nxt fst
     rw[hs,←hp,KF,Bv,Bz (Af _),Cn]
     .simp
     .rfl
    show _=swOf (nxt (Dj (fst p j (b.ways.length-d)) G) c2) c2.sh (c2.ways.drop c2.sh)++sweepsFrom (nxt (Dj (fst p j (b.ways.length-d)) G) c2) B2
    rw[en,hs]
  rw[rest_eq]
  simp
end Fo
namespace PySem
open PySem.Spec PyProof.Rows
open AutoSeq1 (wpAny_loadPart')
end PySem
namespace L2
open PySem PySem.Spec PyProof.Rows
end L2
namespace HU
open PySem PySem.Spec
section
variable {prog:Program}{w:World}{A:Around}{E:Value->Shared->Prop}{s:Shared}
theorem QX {it t:Addr}{items:Array Value}(hne:t≠it):∀(n i:Nat) (s:Shared) (Q:List Value->Shared->Prop),s.heap.IsListIter it t i->s.heap.IsList t items->i+n<=items.size->
  (∀h',h'.IsListIter it t (i+n)->Heap.SameBut it s.heap h'->Q ((items.toList.drop i).take n) {s with heap:=h'})->wpAny (model prog w) A (draw (.ref it) n) Q E s
 |
  0,i,s,Q,hit,_,_,hQ=>by
  show wpAny _ _ (pure []) Q E s
  exact AA (by simpa using hQ s.heap hit (Heap.SameBut.refl ..))
 |
  n+1,i,s,Q,hit,ht,hle,hQ=>by
  have hlt:i<items.size:=by lia
  show wpAny _ _ (pyNext (.ref it)>>=_) Q E s
  refine A9 (S8 hit ht (x:=items[i]) (by simp[hlt]) fun h1 hit1 hs1=>?_)
  refine A9 (Er (QX hne n (i+1) _ _ hit1 (ht.extBut hs1.extBut hne) (by lia) fun h2 hit2 hs2=>AA ?_))
  have hd:items.toList.drop i=items[i]::items.toList.drop (i+1):=by simp[GG,hlt]
  have:=hQ h2 (by rw[show i+(n+1)=i+1+n by lia];exact hit2) (hs1.trans hs2)
  rw[hd,List.take_succ_cons]at this
  exact this
theorem SJ {t:Addr}{items:Array Value}{Q:List Value->Shared->Prop}(hh:A.handled=none)(ht:s.heap.IsList t items)
  (hQ:∀h',Heap.ExtBut s.heap.objs.size s.heap h'->Q items.toList {s with heap:=h'}):wpAny (model prog w) A (unpackItems (.ref t) items.size none) Q E s:=by
 have hlt:t≠s.heap.objs.size:=by obtain⟨o,ho,_⟩:=ht;exact AV (AG ho)
 unfold unpackItems
 refine A9 ?_
 unfold notIterableAtAll
 refine A9 (wpAny_specialOf ht.typeIs slot_list_iter.lookup ?_)
 refine AA ?_
 simp only[RY,KI]
 refine A9 (Er (Jc ht ?_))
 refine A9 (Er (QX hlt items.size 0 _ _ ⟨_,C7 _ rfl,rfl,rfl⟩ (ht.push _) (by lia) fun h1 hit1 hs1=>?_))
 have hall:List.take items.size (List.drop 0 items.toList)=items.toList:=by
  rw[KA];exact Du (by simp)
 rw[hall]
 rw[Al (by simp)]
 have ht1:h1.IsList t items:=(ht.push _).extBut hs1.extBut hlt
 refine A9 (Er (S9 hh hit1 ht1 (by simp) fun h2 he2=>?_))
 simp only[Option.isSome_none,RY,KI]
 refine AA (hQ h2 fun b o hb e=>he2 b o hb (hs1.extBut b o hb (AD _ e)))
theorem assign_Tuple_list {env:Env}{elts:List Expr}{x1}{pos:Pos}{t:Addr}{items:Array Value}{Q:Unit->Shared->Prop}(hh:A.handled=none)(ht:s.heap.IsList t items)
  (hn:(assignEach elts env).length=items.size) (hstar:(assignEach elts env).findIdx? (·.1)=none)
  (h:∀h',Heap.ExtBut s.heap.objs.size s.heap h'->wpAny (model prog w) A (assignInOrder ((assignEach elts env).map (·.2)) items.toList) Q E {s with heap:=h'}) :
  wpAny (model prog w) A (assign (.Tuple elts x1 pos) env (.ref t)) Q E s:=by
 rw[PyProof.Rows.assign_Tuple]
 refine A9 (Ja ?_)
 unfold unpack
 rw[hn,hstar]
 exact A9 (Er (SJ hh ht h))
end
end HU
namespace L2
open PySem PySem.Spec PyProof.Rows
def Su (n:Nat)(t:EL):TG:=fun v σ H Q=>∃a xs,v = .ref a/\H a=some (.lst xs)/\xs.length=n/\t xs σ H Q
theorem LI {X:Cx}{pos:Pos}{es:List Expr}{k:Nat}{t:EL}{n:Nat}(hc:X.calm=true)(h:Hq X es t)
  (hn:(assignEach es X.env).length=n:=by rfl) (hst:(assignEach es X.env).findIdx? (·.1)=none:=by rfl):PG X (.Tuple es k pos) (Su n t):=by
 intro pins s σ H v u Q I r hw
 obtain⟨a,xs,e1,hq,hl,hw⟩:=hw
 subst e1
 cases r
 obtain⟨z,its,m,rv,hl2,e⟩:=I.lstM hq
 refine HU.assign_Tuple_list (I.ok.hd hc) ⟨_,e,rfl,m,rfl⟩ (by simp[hn,←hl,rv.length]) hst fun h' hx=>?_
 have I1:A2 X pins σ H {s with heap:=h'}:=I.kept (t':=s.toks) fun b o e=>hx b o (AV (AG e)) e
 exact h pins _ σ H xs _ Q I1 (by simpa using rv) hw
theorem aB {e l:Nat}(h:V.int (e:Int)=V.int (l:Int)):e=l:=by have:=V.int.inj h;lia
def Fi (H:Hp)(x:V)(s:Fo.Sw Str):Prop := ∃t pt,x = .ref t/\H t=some (.tup [.ref pt,.bl s.2.1,.str s.2.2])/\H pt=some (.tup (s.1.map V.int))
theorem Fi.tk {H H':Hp}{x:V}{s:Fo.Sw Str}(h:Fi H x s)(e:TK H H'):Fi H' x s:=by obtain⟨t,pt,a,b,c⟩:=h;exact⟨t,pt,a,e _ _ b,e _ _ c⟩
theorem Fi.over {H H':Hp}{x:V}{s:Fo.Sw Str}(h:Fi H x s)(e:Aa H H'):Fi H' x s:=h.tk (Aa.tk e)
def PB (n:Nat):Sp:=fun vs H Q _=>∃(it pa:Addr) (f:B3) (P:List Int),vs=[.ref it,.ref pa]/\Ff H it f/\H pa=some (.tup (P.map V.int))/\Cy f<=n/\P.length+n<=100/\(Fo.swF f P 0).length<=1000/\∀(r:Addr) (ys:List V) (H':Hp),Aa H H'->H r=none->H' r=some (.lst ys)->Av (Fi H') ys (Fo.swF f P 0)->Q (.ref r) H'
def SV:Sp:=fun vs H Q _=>∃(it:Addr) (f:B3),vs=[.ref it]/\Ff H it f/\Cy f<=7/\(Fo.swF f [] 0).length<=1000/\∀(r:Addr) (ys:List V) (H':Hp),Aa H H'->H r=none->H' r=some (.lst ys)->Av (Fi H') ys (Fo.swF f [] 0)->Q (.ref r) H'
noncomputable def wys:List V:=[.str "up",.str "down",.str "any"]
abbrev EM (ws:List CS):Nat:=ws.countP fun w=>w.1
theorem UH {i:Int}(h0:0<=i)(h1:i<3):∃s:Str,B5 wys i=some (.str s):=by
 have:i=0\/i=1\/i=2:=by lia
 rcases this with rfl|rfl|rfl
 .exact⟨"up",rfl⟩
 .exact⟨"down",rfl⟩
 .exact⟨"any",rfl⟩
def HR (H:Hp)(x:V)(b:Ag):Prop := ∃t w p,x = .ref t/\H t=some (.tup [.int b.k,.int (b.sh:Int),.ref w,.ref p])/\ED H w b.ways/\E7 H p b.pl
theorem HR.over {H H':Hp}{x:V}{b:Ag}(h:HR H x b)(e:Aa H H'):HR H' x b:=by obtain⟨t,w,p,a,b,c,d⟩:=h;exact⟨t,w,p,a,e _ _ b,c.over e,d.over e⟩
def Fs (H:Hp)(l:Addr)(B:List Ag):Prop := ∃xs,H l=some (.lst xs)/\Av (HR H) xs B
theorem Fs.over {H H':Hp}{l:Addr}{B:List Ag}(h:Fs H l B)(e:Aa H H'):Fs H' l B:=by obtain⟨xs,a,b⟩:=h;exact⟨xs,e _ _ a,b.mono fun x w p=>p.over e⟩
structure Fq (B:List Ag):Prop where
 ok:Fo.Ok B
 fst:∀b,B.head?=some b->b.sh=0
 len:B.length<=6
 way:∀b∈B,b.ways.length<=6
 pll:∀b∈B,b.pl.length=b.ways.length
theorem Fq.from {B:List Ag}(h:Fq B):Jn B 0 6:=⟨h.ok,fun _ _ _=>Bj _,fun _ _=>Bj _,fun b hb=>by have:=h.way b hb;lia,fun b hb=>by have:=h.way b hb;have:=h.pll b hb;lia,h.len⟩
noncomputable def FY (s:Int)(m i:Nat):List Int:=(List.range i).map fun n:Nat=>((n:Int)+s)%(m:Int)
theorem WK {s:Int}{m:Nat}(h0:0<=s)(h1:s<6)(hm:m<=6):(FY s m m).Nodup:=by
 obtain⟨k,rfl⟩:∃k:Nat,s=(k:Int):=⟨s.toNat,by lia⟩
 have:∀m<7,∀k<6,(FY ((k:Nat):Int) m m).Nodup:=by decide +kernel
 exact this m (by lia) k (by lia)
theorem Wj (s:Int)(m i:Nat):(FY s m i).length=i:=by unfold FY;rw[Au,Dx]
structure F1 (B:List Ag)(R:List Int)(i:Nat):Prop where
 ok:Fo.Ok B
 fst:∀b,B.head?=some b->b.sh=0
 ks:B.map (·.k)=R.take i
 way:∀b∈B,EM b.ways<=3/\b.ways.length<=6
 pll:∀b∈B,b.pl.length=b.ways.length
theorem F1.nil (R:List Int):F1 [] R 0:=⟨⟨fun b hb=>(by cases hb),fun i b c hb=>(by simp at hb)⟩,fun b hb=>(by cases hb),rfl,fun b hb=>(by cases hb),fun b hb=>(by cases hb)⟩
theorem F1.len {B:List Ag}{R:List Int}{i:Nat}(h:F1 B R i)(hi:i<=R.length):B.length=i:=by
 have:=congrArg List.length h.ks
 rw[Au,AY]at this
 lia
theorem F1.snoc {B:List Ag}{R:List Int}{i:Nat}{b:Ag}(h:F1 B R i)(hk:R[i]?=some b.k)(h1:b.sh<=b.ways.length)(h0:B=[]->b.sh=0)(h2:∀c,B.getLast?=some c->b.sh<=c.ways.length/\b.ways.take b.sh=c.ways.take b.sh)(hw:EM b.ways<=3/\b.ways.length<=6)(hp:b.pl.length=b.ways.length):F1 (B++[b]) R (i+1):=by
 refine⟨Fo.Ok.snoc h.ok h1 h2,fun c hc=>?_,?_,fun c hc=>?_,fun c hc=>?_⟩
 .cases B with
  |nil=>cases hc;exact h0 rfl
  |cons b0 B=>exact h.fst c hc
 .rw[DI hk,BA,h.ks]
  rfl
 .rcases BX.mp hc with hc|hc
  .exact h.way c hc
  .rw[BL]at hc;subst hc;exact hw
 .rcases BX.mp hc with hc|hc
  .exact h.pll c hc
  .rw[BL]at hc;subst hc;exact hp
theorem F1.fin {B:List Ag}{R:List Int}(h:F1 B R R.length)(hl:R.length<=6)(hn:R.Nodup):Fq B/\B.length=R.length/\(B.map (·.k)).Nodup:=by
 have l:=h.len (Af _)
 refine⟨⟨h.ok,h.fst,by lia,fun b hb=>(h.way b hb).2,h.pll⟩,l,?_⟩
 rw[h.ks,Du (Af _)]
 exact hn
theorem GU {H:Hp}{lv:Addr}{xs:List V}(h:H lv=some (.lst xs)):TK H (av H [lv]):=fun b ys hb=>by
 rw[HM (by
  intro z
  rw[BL]at z
  rw[z,h]at hb
  cases hb)]
 exact hb
theorem ED.av {H:Hp}{lv w:Addr}{xs:List V}{ws:List CS}(h:ED H w ws)(hl:H lv=some (.lst xs))(hn:w≠lv):ED (av H [lv]) w ws:=by
 obtain⟨ys,a,b⟩:=h
 exact⟨ys,by rw[HM (by rw[BL];exact hn)];exact a,b.mono fun x v z=>z.tk (GU hl)⟩
def OP (n:Nat):Sp:=fun vs H Q _=>∃(l:Addr) (d m:Nat) (B:List Ag),vs=[.ref l,.int (d:Int)]/\Fs H l B/\Jn B d m/\m<n/\d+m<=10/\∀(r:Addr) (H':Hp) (f:B3),Aa H H'->Ff H' r f->Fo.Is f B d->Q (.ref r) H'
noncomputable def Ul:List Ag->List (Fo.Sw Str)
 |[]=>[]
 |b::B=>Fo.swOf (Fo.fst [] 0 b.ways.length) 0 b.ways++Fo.sweepsFrom (Fo.fst [] 0 b.ways.length) B
def DF (H:Hp)(x:V)(p:List Int):Prop := ∃t,x = .ref t/\H t=some (.tup (p.map V.int))
theorem DF.tk {H H':Hp}{x:V}{p:List Int}(h:DF H x p)(e:TK H H'):DF H' x p:=by obtain⟨t,a,b⟩:=h;exact⟨t,a,e _ _ b⟩
theorem DF.over {H H':Hp}{x:V}{p:List Int}(h:DF H x p)(e:Aa H H'):DF H' x p:=h.tk (Aa.tk e)
mutual
theorem E1.tr {K:Faa}{H:Hp}:∀{t:Tr} {x:V},E1 H t x->BE K H x t
 |
  .v y,x,h=>by
  rw[E1]at h
  obtain⟨rfl,h⟩:=h
  exact .flat (by cases x<;>first|rfl|cases h)
 |
  .tup l,x,h=>by
  rw[E1]at h
  obtain⟨p,xs,rfl,h0,h1⟩:=h
  exact .tup (A5.of h0) (CI.tr h1)
 |.lst l,x,h=>by rw[E1]at h;exact h.elim
theorem CI.tr {K:Faa}{H:Hp}:∀{l:List Tr} {xs:List V},CI H l xs->Cc K H xs l
 |[],xs,h=>by rw[CI]at h;subst h;exact .nil
 |
  t::l,xs,h=>by
  rw[CI]at h
  obtain⟨x,xs',rfl,h0,h1⟩:=h
  exact .cons (E1.tr h0) (CI.tr h1)
end
theorem QL {α:Type}{H:Hp}{R:V->α->Prop}{g:α->Tr}(h:∀x a,R x a->E1 H (g a) x):∀{ys:List V} {P:List α},Av R ys P->CI H (P.map g) ys
 |[],[],_=>by rw[IY,CI]
 |[],p::P,z=>by have:=z.1;cases this
 |y::ys,[],z=>by have:=z.1;cases this
 |
  y::ys,p::P,z=>by
  rw[Bx,CI]
  exact⟨y,ys,rfl,h y p (z.2 0 y p rfl rfl),QL h ⟨Nat.succ.inj z.1,fun i x a p q=>z.2 (i+1) x a (by simpa using p) (by simpa using q)⟩⟩
theorem QH {n:Nat}:∀{l:List Tr},(∀t∈l,Ct t<=n)->CK l<=n
 |[],_=>by rw[CK];exact Bj _
 |
  t::l,h=>by
  rw[CK]
  exact Nat.max_le.mpr ⟨h t Cz,QH fun u hu=>h u (Cd _ hu)⟩
theorem X2 {f:B3}{B:List Ag}(h:Fo.Is f B 0)(hn:0<B.length):Fo.swF f [] 0=Ul B:=by
 cases B with
 |nil=>cases hn
 |cons b B=>exact Fo.sweeps_paths f (b::B) 0 [] 0 h rfl b B rfl
end L2
namespace Fo
variable {W:Type}
end Fo
namespace L2
open PySem PySem.Spec PyProof.Rows
section
variable {X:Cx}
theorem Yr (hc:X.calm=true):DX X (.builtin "min") (fun xs H Q=>∃i j k,xs=[.int i,.int j,.int k]/\Q (.int (if j<i then(if k<j then k else j) else(if k<i then k else i))) H):=by
 intro pins s σ H xs us Q I r h
 obtain⟨i,j,k,rfl,q⟩:=h
 cases r with
 |
  cons r1 r=>
  cases r with
  |
   cons r2 r=>
   cases r with
   |
    cons r3 r=>
    cases r
    obtain⟨t1,rfl⟩:=r1
    obtain⟨t2,rfl⟩:=r2
    obtain⟨t3,rfl⟩:=r3
    refine min_three_ints (I.ok.hd hc) fun h' tk k'=>⟨_,H,I.kept k',?_,q⟩
    by_cases h1:j<i
    .rw[Ap h1,Ap h1]
     by_cases h2:k<j
     .rw[Ap h2,Ap h2];exact⟨_,rfl⟩
     .rw[Al h2,Al h2];exact⟨_,rfl⟩
    .rw[Al h1,Al h1]
     by_cases h2:k<i
     .rw[Ap h2,Ap h2];exact⟨_,rfl⟩
     .rw[Al h2,Al h2];exact⟨_,rfl⟩
end
noncomputable def Fn:B3->Nat
 |.nil=>0
 |.leaf _ _ r=>Fn r+1
 |.node _ _ s r=>Fn s+Fn r+1
theorem JO {H:Hp}{y:V}(h:Qf y=true):E1 H (.v y) y:=by rw[E1];exact⟨rfl,h⟩
theorem IT:∀(f:B3) (B:List Ag) (d n:Nat),Fo.Is f B d->(∀b∈B,b.ways.length<=d+n)->Fn f<=(n+1)*B.length
 |.nil,B,d,n,h,_=>Bj _
 |
  .leaf k pl rest,B,d,n,h,hn=>by
  obtain⟨b,B',rfl,_,_,_,_,hr⟩:=h
  have:=IT rest B' d n hr fun b hb=>hn b (Cd _ hb)
  show Fn rest+1<=(n+1)*(B'.length+1)
  rw[Nat.mul_add]
  lia
 |
  .node c w sub rest,B,d,n,h,hn=>by
  obtain⟨b,G,B',rfl,hw,_,_,hs,hr⟩:=h
  have l:=(Ay.mp hw).1
  have l2:=hn b (DN _ Cz)
  obtain⟨n,rfl⟩:∃m,n=m+1:=⟨n-1,by lia⟩
  have i1:=IT sub (b::G) (d+1) n hs fun b hb=>by have:=hn b (DN _ hb);lia
  have i2:=IT rest B' d (n+1) hr fun b hb=>hn b (CD _ hb)
  show Fn sub+Fn rest+1<=(n+1+1)*((b::G)++B').length
  rw[AB,Nat.mul_add]
  have e:(n+1+1)*(b::G).length=(n+1)*(b::G).length+(b::G).length:=J3 _ _
  rw[e,BH]at *
  lia
theorem MR.isIn (K:Faa)(n:Bool):MR (OJ K n):=fun x y H Q Q' hq zz=>by obtain⟨p,xs,a,b,c,d,e⟩:=zz;exact⟨p,xs,a,b,c,d,hq _ _ e⟩
theorem ME.comp {ρ:List (Option Nat)}{wi:TI}{g:TG}{tt:TT}{te:TE}(hw:∀σ H R R',(∀J H1,R J H1->R' J H1)->wi σ H R->wi σ H R'):ME (IB ρ wi g tt te):=fun σ H Q Q' hq h=>
 hw _ _ _ _ (fun J H1 ⟨W,h0,h1⟩=>⟨W,h0,fun i m ys H' w=>(h1 i m ys H' w).imp (fun⟨a,b,c⟩=>⟨a,b,fun p hp=>hq _ _ (c p hp)⟩) id⟩) h
structure Lq where
 nm:Str
 lo:Str×Int
 hi:Str×Int
 fi:Int
 la:Int
def D0 (H:Hp)(x:V)(q:Lq):Prop := ∃t a b,x = .ref t/\H t=some (.tup [.str q.nm,.ref a,.ref b,.int q.fi,.int q.la])/\H a=some (.tup [.str q.lo.1,.int q.lo.2])/\H b=some (.tup [.str q.hi.1,.int q.hi.2])
theorem D0.tk {H H':Hp}{x:V}{q:Lq}(h:D0 H x q)(e:TK H H'):D0 H' x q:=by obtain⟨t,a,b,r,h0,h1,h2⟩:=h;exact⟨t,a,b,r,e _ _ h0,e _ _ h1,e _ _ h2⟩
theorem D0.over {H H':Hp}{x:V}{q:Lq}(h:D0 H x q)(e:Aa H H'):D0 H' x q:=h.tk (Aa.tk e)
structure Lq.Ok (q:Lq)(j:Nat):Prop where
 n:q.nm.length<=10
 l:q.lo.1.length<=10
 h:q.hi.1.length<=10
 l2 : -100<=q.lo.2/\q.lo.2<=100
 h2 : -100<=q.hi.2/\q.hi.2<=100
 f : -(10*((j:Int)+1))<=q.fi/\q.fi<=10*((j:Int)+1)
 a : -(10*((j:Int)+1))<=q.la/\q.la<=10*((j:Int)+1)
def E3 (H:Hp)(ll:Addr)(L:List Lq):Prop := ∃xs,H ll=some (.lst xs)/\Av (D0 H) xs L
theorem E3.over {H H':Hp}{ll:Addr}{L:List Lq}(h:E3 H ll L)(e:Aa H H'):E3 H' ll L:=by obtain⟨xs,a,b⟩:=h;exact⟨xs,e _ _ a,b.mono fun _ _ z=>z.over e⟩
def O4 (L:List Lq):Prop := ∀(j:Nat) (q:Lq),L[j]?=some q->q.Ok j
noncomputable def qT (q:Lq):Tr:=.tup [.v (.str q.nm),.tup [.v (.str q.lo.1),.v (.int q.lo.2)],.tup [.v (.str q.hi.1),.v (.int q.hi.2)],.v (.int q.fi),.v (.int q.la)]
theorem XD {H:Hp}{x:V}{q:Lq}(h:D0 H x q):E1 H (qT q) x:=by
 obtain⟨t,a,b,rfl,h0,h1,h2⟩:=h
 have pr:∀{p:Addr} {s:Str×Int},H p=some (.tup [.str s.1,.int s.2])->E1 H (.tup [.v (.str s.1),.v (.int s.2)]) (.ref p):=fun{p s} h=>by
  rw[E1]
  refine⟨p,_,rfl,h,?_⟩
  rw[CI]
  refine⟨_,_,rfl,JO rfl,?_⟩
  rw[CI]
  exact⟨_,_,rfl,JO rfl,by rw[CI]⟩
 rw[qT,E1]
 refine⟨t,_,rfl,h0,?_⟩
 rw[CI]
 refine⟨_,_,rfl,JO rfl,?_⟩
 rw[CI]
 refine⟨_,_,rfl,pr h1,?_⟩
 rw[CI]
 refine⟨_,_,rfl,pr h2,?_⟩
 rw[CI]
 refine⟨_,_,rfl,JO rfl,?_⟩
 rw[CI]
 exact⟨_,_,rfl,JO rfl,by rw[CI]⟩
theorem O5 {K:Faa}{H:Hp}{p:Addr}{xs:List V}{L:List Lq}(hp:H p=some (.lst xs))(h:Av (D0 H) xs L):BE K H (.ref p) (.lst (L.map qT)):=.lst (A4.of hp) (QL (fun _ _ z=>XD z) h).tr
theorem Oj:∀A B:List Lq,Ft (A.map qT) (B.map qT)=true
 |[],B=>by cases B<;>rfl
 |a::A,[]=>rfl
 |
  a::A,b::B=>by
  rw[Bx,Bx,Ft,Oj A B]
  rfl
theorem QE (L:List Lq):CK (L.map qT)<=2:=QH fun t ht=>by
 obtain⟨q,_,rfl⟩:=Co.mp ht
 simp[qT,Ct,CK]
noncomputable def F9 (z:Str):Nat->Str
 |0=>z
 |i+1=>F9 z i++"q"
theorem Mh (z:Str):∀i,(F9 z i).length=z.length+i
 |0=>rfl
 |
  i+1=>by
  have e:("q":Str).length=1:=by decide +kernel
  show(F9 z i++"q").length=_
  rw[Oe,Mh z i,e]
  lia
theorem V7 {z:Str}{ns:List Str}{i:Nat}(h:∀j<i,F9 z j∈ns):i<=ns.length:=by
 have nd:((List.range i).map (F9 z)).Nodup:=by
  rw[RP,Os]
  refine List.Pairwise.imp (fun{a b} h e=>h ?_) (List.nodup_range:(List.range i).Nodup)
  have:=congrArg Str.length e
  rw[Mh,Mh]at this
  lia
 have:=Ik nd (k:=ns) fun x hx=>by
  obtain⟨j,hj,rfl⟩:=Co.mp hx
  exact h j (G3.mp hj)
 rwa [Au,Dx]at this
theorem ZR (z:Str)(ns:List Str):Lm (.str z) (ns.map V.str)=true↔z∈ns:=by
 unfold Lm
 rw[RO]
 constructor
 .rintro ⟨y,hy,e⟩
  obtain⟨n,hn,rfl⟩:=Co.mp hy
  have e:(n==z)=true:=e
  rw[←GI.mp e]
  exact hn
 .intro h
  exact⟨.str z,Co.mpr ⟨z,h,rfl⟩,Sf z⟩
theorem D0.made {H:Hp}{a b r:Addr}{nm z1 z2:Str}{n1 n2 f l:Int}(ha:H a=none)(hb:(upd H a (.tup [.str z1,.int n1])) b=none)(hr:(upd (upd H a (.tup [.str z1,.int n1])) b (.tup [.str z2,.int n2])) r=none) :
  Aa H (upd (upd (upd H a (.tup [.str z1,.int n1])) b (.tup [.str z2,.int n2])) r (.tup [.str nm,.ref a,.ref b,.int f,.int l]))/\D0 (upd (upd (upd H a (.tup [.str z1,.int n1])) b (.tup [.str z2,.int n2])) r (.tup [.str nm,.ref a,.ref b,.int f,.int l])) (.ref r) ⟨nm,(z1,n1),(z2,n2),f,l⟩:=by
 have s1:=Ac ha (.tup [.str z1,.int n1])
 have s2:=Ac hb (.tup [.str z2,.int n2])
 have s3:=Ac hr (.tup [.str nm,.ref a,.ref b,.int f,.int l])
 exact⟨(s1.trans s2).trans s3,r,a,b,rfl,A7,(s2.trans s3) _ _ A7,s3 _ _ A7⟩
theorem NO (c:Nat):(⟨#[c]⟩:Str).length=1:=rfl
theorem Q0 (c:Nat)(n:Int):(Txt.mul ⟨#[c]⟩ n).length=n.toNat:=by rw[←KU,U8,List.length_replicate]
def ER (j:Nat)(n1 n2 f l:Int):Prop:=(-100<=n1/\n1<=100)/\(-100<=n2/\n2<=100)/\(-(10*((j:Int)+1))<=f/\f<=10*((j:Int)+1))/\-(10*((j:Int)+1))<=l/\l<=10*((j:Int)+1)
theorem HL {nm z1 z2:Str}{n1 n2 f l:Int}{j:Nat}(h:ER j n1 n2 f l)(a:nm.length<=10)(b:z1.length<=10)(c:z2.length<=10):Lq.Ok ⟨nm,(z1,n1),(z2,n2),f,l⟩ j:=⟨a,b,c,h.1,h.2.1,h.2.2.1,h.2.2.2⟩
theorem PC {x y u:Int}{j:Nat}(hx:0<=x/\x<5)(hy:0<=y/\y<=2)(hu:0<=u/\u<=3):ER j (x-2) (x-2+y-u) (x-2) (x-2+y-u):=by unfold ER;lia
theorem Up {x u f l:Int}{i j:Nat}(hx:0<=x/\x<5)(hu : -2<=u/\u<=1)(hi:i<j)(hj:j<=2)(hf : -(10*((i:Int)+1))<=f/\f<=10*((i:Int)+1))(hl : -(10*((i:Int)+1))<=l/\l<=10*((i:Int)+1)):ER j (x-2) (x-2+u) (f+(x-2)) (l+(x-2)+u):=by unfold ER;lia
theorem Wh {x u f l:Int}{i j:Nat}(hx:0<=x/\x<5)(hu:u=0\/u=1)(hi:i<j)(hj:j<=2)(hf : -(10*((i:Int)+1))<=f/\f<=10*((i:Int)+1))(hl : -(10*((i:Int)+1))<=l/\l<=10*((i:Int)+1)):ER j (x-2) (l+(x-2)-u) (f+(x-2)) (l+(x-2)-u):=by unfold ER;lia
theorem Wu {x f l:Int}{i j:Nat}(hx:0<=x/\x<5)(hi:i<j)(hj:j<=2)(hf : -(10*((i:Int)+1))<=f/\f<=10*((i:Int)+1))(hl : -(10*((i:Int)+1))<=l/\l<=10*((i:Int)+1)):ER j (f+(x-2)) (x-2) (f+(x-2)) (l+(x-2)):=by unfold ER;lia
theorem WU {x y f l:Int}{i k j:Nat}(hx:0<=x/\x<5)(hy:0<=y/\y<3)(hi:i<j)(hk:k<j)(hj:j<=2)(hf : -(10*((i:Int)+1))<=f/\f<=10*((i:Int)+1))(hl : -(10*((k:Int)+1))<=l/\l<=10*((k:Int)+1)):ER j (x-2) (f+(x-2)+1+y-l) (f+(x-2)) (f+(x-2)+1+y):=by unfold ER;lia
theorem Wx {tt:TT}{ta tb:TS}{D:CC}{σ:St}{H:Hp}(M:Hp->Prop)(hb:∀H',M H'->tb D σ H')(h:(∀H',M H'->tb D σ H')->JL tt ta tb D σ H):JL tt ta tb D σ H:=h hb
structure Dq where
 L:List Lq
 path:List Int
 sh:Nat
def GR (H:Hp)(x:V)(D:Dq):Prop := ∃t o pt,x = .ref t/\H t=some (.tup [.ref o,.ref pt,.int (D.sh:Int)])/\E3 H o D.L/\H pt=some (.tup (D.path.map V.int))
theorem GR.over {H H':Hp}{x:V}{D:Dq}(h:GR H x D)(e:Aa H H'):GR H' x D:=by obtain⟨t,o,pt,r,h0,h1,h2⟩:=h;exact⟨t,o,pt,r,e _ _ h0,h1.over e,e _ _ h2⟩
structure Dq.Ok (D:Dq):Prop where
 ok:O4 D.L
 ll:D.L.length<=3
 pl:D.path.length=D.L.length+1
 sl:D.sh<=D.L.length
def Nx (a b:Dq):Prop:=b.sh<=a.L.length/\a.L.take b.sh=b.L.take b.sh/\a.path.take b.sh=b.path.take b.sh/\a.path.getD b.sh 0≠b.path.getD b.sh 0
structure Ha (Ds:List Dq):Prop where
 ok:∀D∈Ds,D.Ok
 nx:∀(i:Nat) (a b:Dq),Ds[i]?=some a->Ds[i+1]?=some b->Nx a b
theorem Ha.nil:Ha []:=⟨fun D h=>(by cases h),fun i a b h=>(by cases h)⟩
theorem Ha.snoc {Ds:List Dq}{D:Dq}(h:Ha Ds)(hD:D.Ok)(hn:∀a,Ds.getLast?=some a->Nx a D):Ha (Ds++[D]):=by
 refine⟨fun x hx=>?_,fun i a b h1 h2=>?_⟩
 .rcases BX.mp hx with z|z
  .exact h.ok x z
  .rw[BL.mp z];exact hD
 .have l2:=(Ay.mp h2).1
  rw[AB,B4]at l2
  rw[BR (by lia)]at h1
  rcases Da (i+1) Ds.length with z|z
  .rw[BR z]at h2
   exact h.nx i a b h1 h2
  .have e:i+1=Ds.length:=by lia
   rw[e,Bz (Af _),Cn]at h2
   cases h2
   refine hn a ?_
   rw[MP,show Ds.length-1=i by lia]
   exact h1
theorem LB (xs:List V)(n:Nat):BS xs none (some (n:Int))=xs.take n:=by
 have h:BS xs none (some (n:Int))=xs.take (n:Int).toNat:=Hj _ (by lia)
 rw[h,Ky]
theorem E3.av {H:Hp}{fo ll:Addr}{xs:List V}{L:List Lq}(h:E3 H ll L)(hl:H fo=some (.lst xs))(hn:ll≠fo):E3 (av H [fo]) ll L:=by
 obtain⟨ys,h1,h2⟩:=h
 exact⟨ys,by rw[HM (by rw[BL];exact hn)];exact h1,h2.mono fun _ _ z=>z.tk (GU hl)⟩
theorem UI {x:Int}(h0:0<=x)(h1:x<7):∃v:Int,B5 [V.int 2,V.int 1,V.int 3,V.int 2,V.int 0,V.int 1,V.int 2] x=some (.int v)/\0<=v/\v<=3:=by
 have:x=0\/x=1\/x=2\/x=3\/x=4\/x=5\/x=6:=by lia
 rcases this with rfl|rfl|rfl|rfl|rfl|rfl|rfl
 .exact⟨2,rfl,by decide,by decide⟩
 .exact⟨1,rfl,by decide,by decide⟩
 .exact⟨3,rfl,by decide,by decide⟩
 .exact⟨2,rfl,by decide,by decide⟩
 .exact⟨0,rfl,by decide,by decide⟩
 .exact⟨1,rfl,by decide,by decide⟩
 .exact⟨2,rfl,by decide,by decide⟩
theorem WV {p q:List Int}{c:Nat}{v:Int}(hc:p[c]?=some v)(hq:q.take (c+1)=p.take c++[v+1]):p.take c=q.take c/\p.getD c 0≠q.getD c 0:=by
 have lc:=(Ay.mp hc).1
 have h1:q.take c=p.take c:=by
  have:=congrArg (List.take c) hq
  rw[Hx,show min c (c+1)=c by lia,KG (by rw[AY];lia),Hx,Nat.min_self]at this
  exact this
 refine⟨h1.symm,?_⟩
 have h2:q[c]?=some (v+1):=by
  have:=congrArg (fun l:List Int=>l[c]?) hq
  simp only[DO (Gz c)]at this
  rw[this,Bz (by rw[AY];lia),AY,show c-min c p.length=0 by lia]
  rfl
 rw[Bv,Bv,hc,h2]
 show v≠v+1
 lia
section
variable {prog:Program}{w:World}{A:Around}{E:Value->Shared->Prop}{s:Shared}
theorem OE:entryFor table "dict.update.loop"=some Builtin.«dict.update.loop» := entryFor_of_tree (by kernel_rfl)
theorem Mg:plainId "dict.update.loop"=true:=by decide +kernel
end
section
variable {prog:Program}{w:World}{A:Around}{E:Value->Shared->Prop}{s:Shared}
end
section
variable {prog:Program}{w:World}{A:Around}{E:Value->Shared->Prop}{s:Shared}
theorem Y3:entryFor table "list.__getattribute__"=some Builtin.«object.__getattribute__» :=
 entryFor_alias (id':="object.__getattribute__") (by kernel_rfl) (by first|rfl|decide +kernel) (by decide +kernel) (by kernel_rfl)
theorem Zg:typeLookup (.type "list") "keys"=pure none:=by rw[typeLookup_type,builtinLookup_eq_fast];kernel_rfl
theorem Xt:typeLookup (.type "list") "__getattr__"=pure none:=by rw[typeLookup_type,builtinLookup_eq_fast];kernel_rfl
theorem X3 {z:Addr}{its:Array Value}{n:Nat}{tk:Tok}{h:Heap}{g:Array GenState}{d:Drawn}{t:Nat}{os:OsState}{RR:Result->Shared->Prop}(hx:h.get? z=some {cls:=.type "list",dict:=none,data:=.seq its n,slots := #[]})(hh:A.in1.handled=none)
  (q:∀h' tk e,Heap.NewAttrErr h h' e (.ref z) "keys"->RR (.error (.ref e)) ⟨h',g,d,tk,os⟩) :
  codeAny (model prog w) A (.call (.builtin "list.__getattribute__") ⟨[.ref z,.str "keys" tk],[]⟩) RR ⟨h,g,d,t,os⟩:=by
 have hT:(⟨h,g,d,t,os⟩:Shared).TypeIs (.ref z) "list":=⟨_,hx,rfl⟩
 refine Sg F.slot_list_getattribute.plain Y3 (F.slot_list_getattribute.check _ _ _ _ _ _ _ _ hT (F.args_list_getattribute_2 _ _) ?_)
 have f4:=Zg
 unfold Builtin.«object.__getattribute__»
 repeat (any_goals (first|assumption|wp_step))
 exact wpAny_raiseAttrError hh q (attrMsg_fits (by decide +kernel) (by size_fits))
theorem YO {z:Addr}{its:Array Value}{n:Nat}{Q:Option Value->Shared->Prop}(hx:s.heap.get? z=some {cls:=.type "list",dict:=none,data:=.seq its n,slots := #[]})(hh:A.handled=none)
  (q:∀h' tk,(∀b o,s.heap.get? b=some o->h'.get? b=some o)->Q none {s with heap:=h',toks:=tk}):wpAny (model prog w) A (getAttr? (.ref z) "keys") Q E s:=by
 obtain⟨h,g,d,t,os⟩:=s
 have hT:∀t',(⟨h,g,d,t',os⟩:Shared).TypeIs (.ref z) "list":=fun t'=>⟨_,hx,rfl⟩
 have f2:=F.slot_list_getattribute.lookup
 have f3:=F.slot_list_getattribute.bind (.ref z)
 have f5:=Xt
 have f1:=sub_AttributeError
 unfold getAttr? getAttrBy? getAttrBy
 repeat (any_goals (first|assumption|with_reducible exact hT _|wp_step))
 refine X3 hx hh fun h' tk e ne=>?_
 obtain⟨t',u',he⟩:=ne.there
 show wpAny _ _ (getattributeRaised _ _ _ _ _ _ _) _ _ _
 unfold getattributeRaised
 repeat (any_goals (first|assumption|wp_step))
 exact q h' _ ne.keeps
end
noncomputable def Ig (ks:Nat->(List AC)×Addr×Value):List ((List AC)×Addr×Value)->Nat->Nat->List ((List AC)×Addr×Value)
 |xs,0,_=>xs
 |xs,j+1,i=>Ig ks (storedH xs (ks i).1 (ks i).2.1 (ks i).2.2) j (i+1)
theorem ZS (xs:List ((List AC)×Addr×Value))(k:(List AC))(a:Addr)(v:Value):(storedH xs k a v).length<=xs.length+1:=by
 unfold storedH
 split
 .rw[Au];lia
 .rw[AB];exact Af _
section
variable {prog:Program}{w:World}{A:Around}{E:Value->Shared->Prop}{s:Shared}
theorem IsTup.kpt {h h':Heap}{a:Addr}{its:Array Value}(x:IsTup h a its)(e:∀o,h.get? a=some o->h'.get? a=some o):IsTup h' a its:=by obtain⟨o,g,r⟩:=x;exact⟨o,e _ g,r⟩
theorem IsTK.kept {h h':Heap}{ks:List AC}{a:Addr}(x:IsTupleKey (BQ prog w) h ks a)(e:∀o,h.get? a=some o->h'.get? a=some o):IsTupleKey (BQ prog w) h' ks a:=by obtain⟨o,it,n,h1,r⟩:=x;exact⟨o,it,n,e o h1,r⟩
theorem DOH.kept {h h':Heap}{d:Addr}{xs:List ((List AC)×Addr×Value)}(x:h.DictOfH (tupleKind (BQ prog w)) d xs)(e:∀c o,h.get? c=some o->(c=d\/∃k∈xs,c=k.2.1)->h'.get? c=some o):h'.DictOfH (tupleKind (BQ prog w)) d xs:=by
 obtain⟨o,es,ep,h1,h2,h3,h4,h5,h6⟩:=x
 exact⟨o,es,ep,e _ _ h1 (.inl rfl),h2,h3,h4,fun y hy=>IsTK.kept (h5 y hy) fun o ho=>e _ _ ho (.inr ⟨y,hy,rfl⟩),h6⟩
theorem TH {d it l:Addr}{its:Array Value}{t:Nat->Addr}{ks:Nat->(List AC)×Addr×Value}{RR:Result->Shared->Prop}(hu:A.units+2<cLine)(hh:A.handled=none)(di:d≠it)(dl:d≠l)(il:it≠l)
  (hi0:∀i,i<its.size->its[i]?=some (.ref (t i))/\t i≠d/\t i≠it/\(ks i).2.1≠d/\(ks i).2.1≠it):∀(j i:Nat) (s:Shared) (xs:List ((List AC)×Addr×Value)),its.size-i=j->i<=its.size->s.heap.IsListIter it l i->s.heap.IsList l its->(∀k∈xs,k.2.1≠it/\k.2.1≠d)->(∀i,i<its.size->IsTup s.heap (t i) #[.ref (ks i).2.1,(ks i).2.2]/\IsTupleKey (BQ prog w) s.heap (ks i).1 (ks i).2.1)->s.heap.DictOfH (tupleKind (BQ prog w)) d xs->xs.length+j<=sizeLine->
  (∀h' tk,h'.DictOfH (tupleKind (BQ prog w)) d (Ig ks xs j i)->(∀c o,c≠d->c≠it->s.heap.get? c=some o->h'.get? c=some o)->RR (.ok (.ret .none)) {s with heap:=h',toks:=tk})->
  codeAny (model prog w) A (.builtin "dict.update.loop" ⟨[.ref d,.ref it,rawInt (i:Int),.none],[]⟩) RR s:=by
 intro j
 induction j with
 |
  zero=>
  intro i s xs hj hi hz hL hX hK dd hl q
  have hin:i=its.size:=by lia
  subst hin
  refine codeAny_builtin OE ?_
  rw[Around.under_plainId Mg _]
  show wpAny _ A.in1 (pyNext (.ref it)>>=_) _ _ s
  refine A9 (S9 hh hz hL (by simp) fun h' kp=>?_)
  show wpAny _ _ (Builtin.Dict.addKeywords d []>>=fun _=>ret Value.none) _ _ _
  refine A9 (AA (AA (q h' s.toks ?_ fun c o _ c1 e=>kp c o c1 e)))
  exact DOH.kept dd fun c o e hc=>kp c o (by rcases hc with rfl|⟨k,hk,rfl⟩;exact di;exact(hX k hk).1) e
 |
  succ j ih=>
  intro i s xs hj hi hz hL hX hK dd hl q
  have hlt:i<its.size:=by lia
  obtain⟨hx,td,ti,kd,ki⟩:=hi0 i hlt
  refine codeAny_builtin OE ?_
  rw[Around.under_plainId Mg _]
  show wpAny _ A.in1 (pyNext (.ref it)>>=_) _ _ s
  refine A9 (S8 hz hL hx fun h' z' sb=>?_)
  have kp:∀c o,c≠it->s.heap.get? c=some o->h'.get? c=some o:=fun c o hc e=>(sb.2 c hc).trans e
  have hL':h'.IsList l its:=by obtain⟨o,ho,r⟩:=hL;exact⟨o,kp _ _ il.symm ho,r⟩
  have hK':∀i,i<its.size->IsTup h' (t i) #[.ref (ks i).2.1,(ks i).2.2]/\IsTupleKey (BQ prog w) h' (ks i).1 (ks i).2.1:=fun i hi=>⟨IsTup.kpt (hK i hi).1 fun o e=>kp _ o (hi0 i hi).2.2.1 e,IsTK.kept (hK i hi).2 fun o e=>kp _ o (hi0 i hi).2.2.2.2 e⟩
  have dd':h'.DictOfH (tupleKind (BQ prog w)) d xs:=DOH.kept dd fun c o e hc=>kp c o (by rcases hc with rfl|⟨k,hk,rfl⟩;exact di;exact(hX k hk).1) e
  obtain⟨pr,kk⟩:=hK' i hlt
  refine A9 (Er (A9 (wpAny_tryCatch ?_)))
  unfold Builtin.Dict.pairItems
  obtain⟨po,pg,pc,pn,pd⟩:=pr
  refine A9 (MV (T:="tuple") ⟨_,pg,pc⟩ ?_)
  rw[Ap (by decide)]
  refine A9 (Fy pg pd ?_)
  refine AA ?_
  refine Er (wpAny_dictSet_heap (knd:=tupleKind (BQ prog w)) (show A.units+1<cLine by lia) kk dd' (fun h2 dd2 hs=>?_) (by lia))
  refine AA ⟨plainId_quiet Mg _,?_⟩
  have k2:∀c o,c≠d->h'.get? c=some o->h2.get? c=some o:=fun c o hc e=>(hs.2 c hc).trans e
  have sl:=ZS xs (ks i).1 (ks i).2.1 (ks i).2.2
  have hX2:∀k∈storedH xs (ks i).1 (ks i).2.1 (ks i).2.2,k.2.1≠it/\k.2.1≠d:=fun k hk=>by
   unfold storedH at hk
   split at hk
   .obtain⟨y,hy,rfl⟩:=Co.mp hk
    unfold putAt
    split
    .exact hX y hy
    .exact hX y hy
   .rcases BX.mp hk with hk|hk
    .exact hX k hk
    .rw[BL.mp hk];exact⟨ki,kd⟩
  refine ih (i+1) {s with heap:=h2,toks:=s.toks+(tupleKind (BQ prog w)).draws (ks i).1} _ (by lia) hlt ?_ ?_ hX2 (fun i hi=>⟨IsTup.kpt (hK' i hi).1 fun o e=>k2 _ o (hi0 i hi).2.1 e,IsTK.kept (hK' i hi).2 fun o e=>k2 _ o (hi0 i hi).2.2.2.1 e⟩) dd2 (by lia) fun h3 t3 dd3 kp3=>?_
  .exact z'.at fun o e=>k2 _ o di.symm e
  .obtain⟨o,ho,r⟩:=hL';exact⟨o,k2 _ _ dl.symm ho,r⟩
  .exact q h3 t3 dd3 fun c o c0 c1 e=>kp3 c o c0 c1 (k2 c o c0 (kp c o c1 e))
theorem Wz {l:Addr}{its:Array Value}{n:Nat}{t:Nat->Addr}{ks:Nat->(List AC)×Addr×Value}{Q:Value->Shared->Prop}(hu:A.units+4<cLine)(hh:A.handled=none)(hz:s.heap.get? l=some {cls:=.type "list",dict:=none,data:=.seq its n,slots := #[]})
  (hi0:∀i,i<its.size->its[i]?=some (.ref (t i))/\IsTup s.heap (t i) #[.ref (ks i).2.1,(ks i).2.2]/\IsTupleKey (BQ prog w) s.heap (ks i).1 (ks i).2.1) (hn:its.size<=sizeLine)
  (q:∀h' tk it,s.heap.objs.size<it->h'.DictOfH (tupleKind (BQ prog w)) s.heap.objs.size (Ig ks [] its.size 0)->(∀c o,c≠s.heap.objs.size->s.heap.get? c=some o->h'.get? c=some o)->Q (.ref s.heap.objs.size) {s with heap:=h',toks:=tk}) :
  wpAny (model prog w) A (call (.type "dict") [.ref l]) Q E s:=by
 refine callType_codes (Q₁:=fun obj s₁=>obj = .ref s.heap.objs.size/\s₁={s with heap:=s.heap.push {cls:=.type "dict",data:=.dict #[]}}) F.kt_called_dict (F.kt_typeCall_dict_1 _) F.entry_dict_init (kt_code_dict_new _ ⟨rfl,rfl⟩) ?_
 rintro obj s₁ ⟨rfl,rfl⟩
 have hnew:(s.heap.push {cls:=.type "dict",data:=.dict #[]}).DictOfH (tupleKind (BQ prog w)) s.heap.objs.size []:=Heap.DictOfH.new s.heap
 have up:∀c o,s.heap.get? c=some o->(s.heap.push {cls:=.type "dict",data:=.dict #[]}).get? c=some o:=fun c o e=>AD _ e
 refine⟨hnew.typeIs,F.args_dict_init_2 _ _,?_⟩
 unfold Builtin.«dict.__init__»
 refine A9 ?_
 unfold Builtin.Dict.selfAndRest
 refine A9 (wpAny_notOrdered_dict hnew.typeIs ?_)
 show wpAny _ _ (pure (s.heap.objs.size,[Value.ref l])) _ _ _
 refine AA ?_
 show wpAny _ _ (Builtin.Dict.updateFrom "dict.__init__" s.heap.objs.size (.ref l) [] .none) _ _ _
 unfold Builtin.Dict.updateFrom
 refine A9 (MV (T:="list") ⟨_,up _ _ hz,rfl⟩ ?_)
 rw[Ap (by decide)]
 refine A9 (YO (up _ _ hz) hh fun h1 t1 k1=>?_)
 simp only[Option.isNone_none,HI]
 refine A9 (wpAny_rule ?_)
 have k2:∀c o,s.heap.get? c=some o->h1.get? c=some o:=fun c o e=>k1 c o (up c o e)
 have lz:h1.IsList l its:=⟨_,k2 _ _ hz,rfl,n,rfl⟩
 refine A9 (Jc lz ?_)
 have dd:h1.DictOfH (tupleKind (BQ prog w)) s.heap.objs.size []:=DOH.kept hnew fun c o e _=>k1 c o e
 have ltd:s.heap.objs.size<h1.objs.size:=by obtain⟨o,_,_,ho,_⟩:=dd;exact AG ho
 have ltl:=AG hz
 have k3:∀c o,h1.get? c=some o->(h1.push {cls:=.type "list_iterator",data:=.fields #[.ref l,.int 0 0]}).get? c=some o:=fun c o e=>AD _ e
 refine AA ⟨plainId_quiet Mg _,TH (its:=its) (t:=t) (ks:=ks) (A:=A.in1) (show A.units+1+2<cLine by lia) hh (AV ltd) (CM ltl) (CM (ML ltl ltd)) (fun i hi=>?_) its.size 0 _ [] (Oq _) (Bj _) ⟨_,C7 _ rfl,rfl,rfl⟩ ?_ (fun k hk=>nomatch hk) (fun i hi=>?_) (DOH.kept dd fun c o e _=>k3 c o e) (by simpa using hn) fun h3 t3 dd3 kp3=>?_⟩
 .obtain⟨h0,h1',h2⟩:=hi0 i hi
  have l1:=(let ⟨_,e,_⟩:=h1';AG e:t i<s.heap.objs.size)
  obtain⟨o,_,_,ho,_⟩:=h2
  have l2:=AG ho
  exact⟨h0,AV l1,AV (ML l1 ltd),AV l2,AV (ML l2 ltd)⟩
 .obtain⟨o,ho,r⟩:=lz;exact⟨o,k3 _ _ ho,r⟩
 .obtain⟨h0,h1',h2⟩:=hi0 i hi
  exact⟨IsTup.kpt h1' fun o e=>k3 _ o (k2 _ o e),IsTK.kept h2 fun o e=>k3 _ o (k2 _ o e)⟩
 .exact⟨rfl,q h3 t3 h1.objs.size ltd dd3 fun c o c1 e=>kp3 c o c1 (AV (ML (AG e) ltd)) (k3 _ _ (k2 c o e))⟩
end
noncomputable def EZ:List (List AC×V)->List (List AC×V)->List (List AC×V)
 |kvs,[]=>kvs
 |kvs,(k,v)::r=>EZ (CU kvs k v) r
theorem OF:∀(L kvs:List (List AC×V)),(EZ kvs L).length<=kvs.length+L.length
 |[],kvs=>Af _
 |
  (k,v)::r,kvs=>by
  have h1:=OF r (CU kvs k v)
  have h2:=M9 kvs k v
  show(EZ (CU kvs k v) r).length<=_
  rw[BH]
  lia
def OZ (H:Hp)(y:V)(q:List AC×V):Prop := ∃t b,y = .ref t/\H t=some (.tup [.ref b,q.2])/\H b=some (.tup (q.1.map kV))
theorem Pm {H:Hp}{ks:Nat->List AC×Addr×Value}:∀(L kvs:List (List AC×V)) (xs:List (List AC×Addr×Value)) (i:Nat),KT H kvs xs->(∀j q,L[j]?=some q->(ks (i+j)).1=q.1/\H (ks (i+j)).2.1=some (.tup (q.1.map kV))/\AE q.2 (ks (i+j)).2.2)->KT H (EZ kvs L) (Ig ks xs L.length i)
 |[],kvs,xs,i,r,h=>r
 |
  (k,v)::L,kvs,xs,i,r,h=>by
  obtain⟨h1,h2,h3⟩:=h 0 _ rfl
  rw[Nat.add_zero]at h1 h2 h3
  show KT H (EZ (CU kvs k v) L) (Ig ks (storedH xs (ks i).1 (ks i).2.1 (ks i).2.2) L.length (i+1))
  refine Pm L _ _ (i+1) ?_ fun j q hq=>?_
  .rw[show(ks i).1=k from h1];exact r.put k h2 h3
  .have:=h (j+1) q hq
   rw[show i+(j+1)=i+1+j by lia]at this
   exact this
section
variable {X:Cx}
def X0:List V->Hp->VK->Prop:=fun xs H Q=>∃(p:Addr) (ys:List V) (L:List (List AC×V)),xs=[.ref p]/\H p=some (.lst ys)/\Av (OZ H) ys L/\∀d,H d=none->Q (.ref d) (upd H d (.dT (EZ [] L)))
theorem Zq (hcm:X.calm=true)(hu:X.A.units+4<cLine):DX X (.type "dict") X0:=by
 intro pins s σ H xs us Q I r h
 obtain⟨p,ys,L,rfl,hp,ay,q⟩:=h
 obtain⟨u,rfl,ru⟩:=ET r
 cases ru
 obtain⟨hz,its,n,rv,he⟩:=(show BG X.prog X.w H s.heap p (.lst ys) from I.hok p _ hp)
 have hl:=rv.length
 have ll:=ay.1
 have pick:∀i,∃(t:Addr) (k:List AC×Addr×Value),i<ys.length->its[i]?=some (.ref t)/\IsTup s.heap t #[.ref k.2.1,k.2.2]/\IsTupleKey (BQ X.prog X.w) s.heap k.1 k.2.1/\∃q,L[i]?=some q/\k.1=q.1/\H k.2.1=some (.tup (q.1.map kV))/\AE q.2 k.2.2:=fun i=>by
  by_cases c:i<ys.length
  .obtain⟨q0,hq,t,b,e1,e2,e3⟩:=ay.get' (As c)
   obtain⟨u,hu,ru⟩:=rv.get (As c)
   rw[e1]at ru
   cases ru
   obtain⟨_,ts,tr,o,h1,h2,⟨m,h3⟩,h4⟩:=(show BG X.prog X.w H s.heap t (.tup [.ref b,q0.2]) from I.hok t _ e2)
   cases tr with
   |
    cons ra rr=>
    cases rr with
    |
     cons rb rn=>
     cases rn
     cases ra
     exact⟨t,(q0.1,b,_),fun _=>⟨hu,⟨o,h1,h2,m,h3⟩,Kr I.hok e3,q0,hq,rfl,e3,rb⟩⟩
  .exact⟨0,([],0,.none),fun z=>absurd z c⟩
 obtain⟨tt,ht⟩:=Classical.axiomOfChoice pick
 obtain⟨ks,hk⟩:=Classical.axiomOfChoice ht
 have hh:X.A.handled=none:=I.ok.hd hcm
 refine Wz (its:=its.toArray) (n:=n) (t:=tt) (ks:=ks) hu hh he (fun i hi=>?_) (by rw[Bc,←hl];exact hz) fun h' tk it lt dd kp=>?_
 .have c:i<ys.length:=by rw[Bc,←hl]at hi;exact hi
  obtain⟨a1,a2,a3,_⟩:=hk i c
  exact⟨by simpa using a1,a2,a3⟩
 have a0:H s.heap.objs.size=none:=I.hok.fresh (Af _)
 have az:(s.heap.objs.size==sysModules)=false:=Hy.mpr (Ne.symm (AV I.big))
 have sz:(its.toArray).size=L.length:=by rw[Bc,←hl,ll]
 rw[sz]at dd
 have kt:KT H (EZ [] L) (Ig ks [] L.length 0):=Pm L [] [] 0 .nil fun j q hq=>by
  have c:j<ys.length:=by rw[ll];exact(Ay.mp hq).1
  obtain⟨_,_,_,q',hq',b1,b2,b3⟩:=hk j c
  rw[hq]at hq'
  cases hq'
  rw[J5]
  exact⟨b1,b2,b3⟩
 obtain⟨o,es,ep,h1,h2,h3,h4,_,h5⟩:=dd
 have tl:=OF L []
 have I':=I.laid (a:=s.heap.objs.size) (o:=.dT (EZ [] L)) (h':=h') (t':=tk) (fun b u e=>kp b u (AV (AG e)) e) (Af _) ⟨by rw[G4,J5]at tl;lia,az,_,kt.keeps fun c ys ec=>by rw[Ai (AQ ec a0)];exact ec,o,es,ep,h1,h2,h3,h4,h5⟩
 exact⟨.ref s.heap.objs.size,_,I',rfl,q _ a0⟩
theorem W4 {A:Around}{k:Nat}(hr:C9 k A):A.units+4<cLine:=Nat.lt_of_le_of_lt (Nat.add_le_add_left (by decide:4<=64) _) hr.units
end
noncomputable def K0 (K:Faa)(a b:Addr):It:=
 ⟨fun i H=>∃xs ys x y,A4 K H a xs/\A5 K H b ys/\xs[i]?=some x/\ys[i]?=some y,fun i H v H'=>∃x y T,(∀xs,A4 K H a xs->xs[i]?=some x)/\(∀ys,A5 K H b ys->ys[i]?=some y)/\H T=none/\v = .ref T/\H'=upd H T (.tup [x,y]),
  fun i H=>∃xs ys,A4 K H a xs/\A5 K H b ys/\i<=xs.length/\i<=ys.length/\(i=xs.length\/i=ys.length)⟩
theorem Zc {P:Program}{w:World}{K:Faa}{elts:List Expr}{x1:Nat}{pos:Pos}(a b z TI TO i1 i2:Addr)(D:ZA z TI TO i1 i2 [i1,a] [i2,b])(na:a≠i1)(nb:b≠i2) :
  FT P w K (.Tuple elts x1 pos) (K0 K a b) [z,TI,TO,i1,i2] z (fun i h=>IsZip h z TI TO .none/\IsPair h TI (.ref i1) (.ref i2)/\(∃p q,IsPair h TO p q)/\h.IsListIter i1 a i/\h.IsTupleIter i2 b i) where
 mem:=by simp
 obj:=fun i h st c hc=>by
  obtain⟨hz,hTI,⟨p,q,hTO⟩,h1,h2⟩:=st
  simp only[AZ,Dv,or_false]at hc
  rcases hc with rfl|rfl|rfl|rfl|rfl
  .exact⟨_,hz,fun v z=>by cases z⟩
  .exact⟨_,hTI,fun v z=>by cases z⟩
  .exact⟨_,hTO,fun v z=>by cases z⟩
  .obtain⟨o,e,c,d⟩:=h1
   exact⟨o,e,fun v z=>by rw[d]at z;cases z⟩
  .obtain⟨o,e,c,d⟩:=h2
   exact⟨o,e,fun v z=>by rw[d]at z;cases z⟩
 keep:=fun i h h' st k=>by
  obtain⟨hz,hTI,⟨p,q,hTO⟩,h1,h2⟩:=st
  exact⟨k z (by simp) _ hz,k TI (by simp) _ hTI,⟨p,q,k TO (by simp) _ hTO⟩,h1.at fun o e=>k i1 (by simp) o e,h2.at fun o e=>k i2 (by simp) o e⟩
 item:=by
  intro X hP hw hK hc i pins s σ H E I hf st hg
  subst hP hw hK
  obtain⟨xs,ys,x,y,hq1,hq2,hx,hy⟩:=hg
  obtain⟨its1,rv1,p1,_⟩:=I.list hq1
  obtain⟨its2,rv2,p2,_⟩:=I.tuple hq2
  obtain⟨hz,hTI,⟨pa,qa,hTO⟩,h1,h2⟩:=st
  have p1':s.heap.IsList a its1.toArray:=p1.isList
  have p2':s.heap.IsTuple b its2.toArray:=p2
  have l1:=rv1.length
  have l2:=rv2.length
  obtain⟨b1,_⟩:=Ay.1 hx
  obtain⟨b2,_⟩:=Ay.1 hy
  have hn:X.A.in1.handled=none:=I.ok.hd hc
  have d1:=Draws.list (prog:=X.prog) (w:=X.w) hn i1 a na its1.toArray
  have d2:=LH (prog:=X.prog) (w:=X.w) hn i2 b nb its2.toArray
  refine Qj (k:=i) D d1 d2 hz hTI hTO ⟨h1,p1'⟩ ⟨h2,p2'⟩ (by simp;lia) (by simp;lia) (fun _ _ u v hh tk hu hv hz' hTO' h1' h2' hT hk=>⟨_,rfl,?_⟩) fun q=>absurd q (by simp;lia)
  obtain⟨u',hu',ru⟩:=rv1.get hx
  obtain⟨v',hv',rv⟩:=rv2.get hy
  have eu:u'=u:=by simpa[hu'] using hu
  have ev:v'=v:=by simpa[hv'] using hv
  subst eu ev
  refine Se hz' fun h3 hz3 hs3=>?_
  have hTn:H s.heap.objs.size=none:=I.hok.fresh (Af _)
  have lts:∀c∈[z,TI,TO,i1,i2],c<s.heap.objs.size:=fun c hc=>by
   simp only[AZ,Dv,or_false]at hc
   rcases hc with rfl|rfl|rfl|rfl|rfl
   .exact AG hz
   .exact AG hTI
   .exact AG hTO
   .obtain⟨_,e,_⟩:=h1;exact AG e
   .obtain⟨_,e,_⟩:=h2;exact AG e
  have I1:A2 X pins σ (upd H s.heap.objs.size (.tup [x,y])) {s with heap:=s.heap.push {cls:=.type "tuple",data:=.seq #[u',v']}}:=I.laid (t':=s.toks) (o:=.tup [x,y]) (fun b o e=>AD _ e) (Af _) ⟨An rfl,[u',v'],.cons ru (.cons rv .nil),Ep.new _ _⟩
  have I2:A2 X pins σ (upd H s.heap.objs.size (.tup [x,y])) {s with heap:=h3,toks:=tk}:=by
   refine A2.turnedL (s:={s with heap:=s.heap.push {cls:=.type "tuple",data:=.seq #[u',v']}}) (h':=h3) (ch:=[z,TI,TO,i1,i2]) (t':=tk) I1 (fun b o hb q=>?_) (fun b hb=>?_)
   .simp only[AZ,Dv,or_false,not_or]at hb
    obtain⟨n1,n2,n3,n4,n5⟩:=hb
    show h3.get? b=some o
    rw[hs3.2 b n1]
    rcases MO q with⟨rfl,rfl⟩|q
    .exact hT
    .exact hk b o n1 n3 n4 n5 q
   .obtain⟨f0,f1,f2,f3,f4,f5⟩:=hf b hb
    exact⟨by rw[Ai (AV (lts b hb))];exact f0,f1,f2,f3,f4,f5⟩
  have k3:∀c,c≠z->∀o,hh.get? c=some o->h3.get? c=some o:=fun c hc o e=>(hs3.2 c hc).trans e
  refine⟨.ref s.heap.objs.size,_,I2,rfl,⟨x,y,_,fun zs hy=>by rw[I.list_inj hy hq1];exact hx,fun zs hy'=>by rw[I.tuple_inj hy' hq2];exact hy,hTn,rfl,rfl⟩,⟨hz3,k3 TI D.Iz _ (hk TI _ D.Iz D.IO D.Ia D.Ib hTI),⟨u',v',k3 TO D.Oz _ hTO'⟩,h1'.1.at (k3 i1 D.az),h2'.1.at (k3 i2 D.bz)⟩,fun b hb=>?_⟩
  rw[Ai (AV (lts b hb))]
  exact(hf b hb).1
 done:=by
  intro X hP hw hK hc i pins s σ H E I hf st hg
  subst hP hw hK
  obtain⟨xs,ys,hq1,hq2,b1,b2,hl⟩:=hg
  obtain⟨its1,rv1,p1,_⟩:=I.list hq1
  obtain⟨its2,rv2,p2,_⟩:=I.tuple hq2
  obtain⟨hz,hTI,⟨pa,qa,hTO⟩,h1,h2⟩:=st
  have p1':s.heap.IsList a its1.toArray:=p1.isList
  have p2':s.heap.IsTuple b its2.toArray:=p2
  have l1:=rv1.length
  have l2:=rv2.length
  have hn:X.A.in1.handled=none:=I.ok.hd hc
  have d1:=Draws.list (prog:=X.prog) (w:=X.w) hn i1 a na its1.toArray
  have d2:=LH (prog:=X.prog) (w:=X.w) hn i2 b nb its2.toArray
  refine Qj (k:=i) D d1 d2 hz hTI hTO ⟨h1,p1'⟩ ⟨h2,p2'⟩ (by simp;lia) (by simp;lia) (fun e1 e2=>absurd e2 (by simp at e1 ⊢;lia)) fun _ h' tk hk=>⟨rfl,?_⟩
  refine I.turnedL (ch:=[z,TI,TO,i1,i2]) (t':=tk) (fun b o hb q=>?_) hf
  simp only[AZ,Dv,or_false,not_or]at hb
  obtain⟨n1,n2,n3,n4,n5⟩:=hb
  exact hk b o n1 n3 n4 n5 q
 self:=fun _ _ _ _ _ st h=>by
  obtain⟨hz,_⟩:=st
  exact KL hz h
theorem Ye (a b:Addr)(xs ys:Array Value) :
  Meets (Builtin.«zip.__new__» ⟨[.type "zip",.ref a,.ref b],[]⟩) (fun _ R s=>s.heap.IsList a xs/\s.heap.IsTuple b ys/\
   ∀h',IsZip h' (s.heap.objs.size+4) (s.heap.objs.size+2) (s.heap.objs.size+3) .none->IsPair h' (s.heap.objs.size+2) (.ref s.heap.objs.size) (.ref (s.heap.objs.size+1))->IsPair h' (s.heap.objs.size+3) .none .none->
    h'.IsListIter s.heap.objs.size a 0->h'.IsTupleIter (s.heap.objs.size+1) b 0->(∀c o,s.heap.get? c=some o->h'.get? c=some o)->R (.ok (.ret (.ref (s.heap.objs.size+4)))) {s with heap:=h'}):=
 .of_wp fun prog w A R s h=>by
  obtain⟨hp,g,d,tk,os⟩:=s
  obtain⟨t1,t2,h⟩:=h
  have hs:=sub_zip
  have u1:Heap.IsList (Shared.heap ⟨hp,g,d,tk,os⟩) a xs:=t1
  have u2:Heap.IsTuple (Shared.heap ⟨hp.push {cls:=.type "list_iterator",data:=.fields #[.ref a,.int 0 0]},g,d,tk,os⟩) b ys:=Heap.IsTuple.push t2 _
  wp_walk using Jc u1,OB u2
  refine⟨_,rfl,?_⟩
  have key:∀(n1 n2 n3 n4:Nat) (h':Heap),n1=hp.objs.size+1->n2=hp.objs.size+2->n3=hp.objs.size+3->n4=hp.objs.size+4->IsZip h' n4 n2 n3 .none->IsPair h' n2 (.ref hp.objs.size) (.ref n1)->IsPair h' n3 .none .none->
    h'.IsListIter hp.objs.size a 0->h'.IsTupleIter n1 b 0->(∀c o,hp.get? c=some o->h'.get? c=some o)->R (.ok (.ret (.ref n4))) ⟨h',g,d,tk,os⟩:=by
   rintro _ _ _ _ h' rfl rfl rfl rfl
   exact h h'
  refine key (hp.push {cls:=.type "list_iterator",data:=.fields #[.ref a,.int 0 0]}).objs.size _ _ _ _ ?e1 ?e2 ?e3 ?e4 (C7 _ rfl) ?g5 ?g6 ?g7 ?g8 ?g9
  case g5=>exact AD _ (AD _ (C7 _ rfl))
  case g6=>exact AD _ (C7 _ rfl)
  case g7=>exact⟨_,AD _ (AD _ (AD _ (AD _ (C7 _ rfl)))),rfl,rfl⟩
  case g8=>exact⟨_,AD _ (AD _ (AD _ (C7 _ rfl))),rfl,rfl⟩
  case g9=>exact fun c o e=>AD _ (AD _ (AD _ (AD _ (AD _ e))))
  all_goals simp only[Kx]
def Vq (K:Faa)(ta:TA):TI:=fun σ H R=>ta σ H fun vs H1=>∃a b:Addr,vs=[.ref a,.ref b]/\(∃xs,A4 K H1 a xs)/\(∃ys,A5 K H1 b ys)/\R (K0 K a b) H1
theorem Y9 {X:Cx}{a b:Expr}{ta:TA}{p pos:Pos}{elts:List Expr}{x1:Nat}{pos2:Pos}(hg:Gl X "zip")(hm:X.mg "zip"=none)(ha:PA X [a,b] ta)(hs:starEach [a,b] X.env=[(false,eval a X.env),(false,eval b X.env)]:=by rfl)(hs2:starEach [b] X.env=[(false,eval b X.env)]:=by rfl) :
  PI X (.Tuple elts x1 pos2) (.Call (.Name "zip" p) [a,b] [] pos) (Vq X.K ta):=by
 intro pins s σ H R I h
 refine Call_ (Fc I hg hm boot_zip (Hs (Az (ha pos pins s σ H _ I h) fun us s1 zz=>?_) (by rw[hs,hs2]) (by rw[hs2];rfl)))
 obtain⟨vs,H1,I1,r1,q1⟩:=zz
 obtain⟨l1,l2,rfl,⟨xs,hq1⟩,⟨ys,hq2⟩,q⟩:=q1
 cases r1 with
 |
  cons r rr=>
  cases rr with
  |
   cons r' rr=>
   cases rr
   cases r
   cases r'
   obtain⟨its1,rv1,p1,_⟩:=I1.list hq1
   obtain⟨its2,rv2,p2,_⟩:=I1.tuple hq2
   have lt1:l1<s1.heap.objs.size:=(let ⟨_,e,_⟩:=p1.isList;AG e)
   have lt2:l2<s1.heap.objs.size:=p2.lt
   refine callType_new F.called_zip (by decide) (F.typeCall_zip_2 _ _) (F.newCall_zip_2 _ _) (fun obj=>F.args_object_init_3 obj _ _) F.entry_zip_new (Ye l1 l2 its1.toArray its2.toArray) ⟨p1.isList,p2,fun h' hz hTI hTO h1 h2 hk=>⟨⟨_,hz,rfl⟩,?_⟩⟩
   refine KL hz ?_
   refine⟨_,[s1.heap.objs.size+4,s1.heap.objs.size+2,s1.heap.objs.size+3,s1.heap.objs.size,s1.heap.objs.size+1],_,_,H1,rfl,I1.kept (t':=s1.toks) hk,Zc l1 l2 _ _ _ _ _ ⟨?_,?_,?_,?_,?_,?_,?_,?_,?_,?_,?_,?_,?_,?_,?_⟩ ?_ ?_,⟨hz,hTI,⟨_,_,hTO⟩,h1,h2⟩,fun b hb=>?_,q⟩
   case refine_18=>
    simp only[AZ,Dv,or_false]at hb
    have hb':s1.heap.objs.size<=b:=by
     rcases hb with rfl|rfl|rfl|rfl|rfl
     .exact Cv _ 4
     .exact Cv _ 2
     .exact Cv _ 3
     .exact Af _
     .exact Cv _ 1
    exact I1.fpOk hb' (I1.hok.fresh hb')
   all_goals first
    |exact AV lt1
    |exact AV (BO lt2 (Cv _ _))
    |(show(_:Nat)≠_;lia)
    |(
      simp only[AZ,Dv,or_false,not_or]
      exact⟨by show(_:Nat)≠_;lia,by first
       |exact CM lt1
       |exact CM lt2
       |exact CM (BO lt1 (Cv _ _))
       |exact CM (BO lt2 (Cv _ _))⟩)
theorem Ua {K:Faa}{a b:Addr}{xs ys:List V}{g:TG}{tb:TS}{D:CC}{σ:St}{H:Hp}(hlen:ys.length<=xs.length)(Pv:Nat->St->Hp->Prop)(h0:Pv 0 σ H)(hl:∀i σ H,i<=ys.length->Pv i σ H->A4 K H a xs/\A5 K H b ys)
  (hs:∀i x y T σ H,xs[i]?=some x->ys[i]?=some y->Pv i σ H->H T=none->g (.ref T) σ (upd H T (.tup [x,y])) fun σ2 H2=>tb {D with nx:=Pv (i+1),ct:=Pv (i+1),bk:=D.nx} σ2 H2) (hd:∀σ H,Pv ys.length σ H->D.nx σ H) :
  ∃W:Nat->Nat->St->Hp->Prop,(∃m,W 0 m σ H)/\∀i m σ H,W i m σ H->
   ((K0 K a b).stop i H/\D.nx σ H)\/((K0 K a b).go i H/\∃N:St->Hp->Prop,(∀σ' H',N σ' H'->∃m',m'<m/\W (i+1) m' σ' H')/\∀x H',(K0 K a b).yld i H x H'->g x σ H' fun σ2 H2=>tb {D with nx:=N,ct:=N,bk:=D.nx} σ2 H2):=by
 refine⟨fun i m σ H=>m=ys.length-i/\i<=ys.length/\Pv i σ H,⟨ys.length,by simp,Bj _,h0⟩,?_⟩
 rintro i m σ H ⟨rfl,hi,p⟩
 obtain⟨q1,q2⟩:=hl i σ H hi p
 by_cases hlt:i<ys.length
 .refine .inr ⟨⟨xs,ys,xs[i],ys[i],q1,q2,As (by lia),As hlt⟩,Pv (i+1),fun σ' H' p'=>⟨ys.length-(i+1),by lia,rfl,hlt,p'⟩,fun v H' yy=>?_⟩
  obtain⟨x,y,T,hx,hy,hT,rfl,rfl⟩:=yy
  exact hs i x y T σ H (hx xs q1) (hy ys q2) p hT
 .have e:i=ys.length:=by lia
  subst e
  exact .inl ⟨⟨xs,ys,q1,q2,by lia,Af _,.inr rfl⟩,hd σ H p⟩
abbrev Cq (h:Heap)(T:Addr)(a b c:Value):Prop:=h.get? T=some {cls:=.type "tuple",data:=.seq #[a,b,c]}
section
variable {prog:Program}{w:World}{A:Around}{E:Value->Shared->Prop}{s:Shared}
theorem NQ {T:Addr}{a b c x:Value}{k:Nat}{Q:Unit->Shared->Prop}(hT:Cq s.heap T a b c)
  (h:∀h',h'.get? T=some {cls:=.type "tuple",data:=.seq ((#[a,b,c]:Array Value).setIfInBounds k x)}->Heap.SameBut T s.heap h'->Q () {s with heap:=h'}) :
  wpAny (model prog w) A (updateSeq T (·.setIfInBounds k x)) Q E s:=by
 refine wpAny_updateSeq hT rfl (h _ ?_ (RU ..))
 rw[IZ _ hT rfl]
 simp[Obj.mapSeq]
structure ZB (z TI TO i1 i2 i3:Addr)(f g e:List Addr):Prop where
 zf:z∉f
 zg:z∉g
 ze:z∉e
 of:TO∉f
 og:TO∉g
 oe:TO∉e
 f2:i2∉f
 f3:i3∉f
 g1:i1∉g
 g3:i3∉g
 e1:i1∉e
 e2:i2∉e
 Iz:TI≠z
 Oz:TO≠z
 az:i1≠z
 bz:i2≠z
 cz:i3≠z
 IO:TI≠TO
 Ia:TI≠i1
 Ib:TI≠i2
 Ic:TI≠i3
 Oa:TO≠i1
 Ob:TO≠i2
 Oc:TO≠i3
theorem Yd {z TI TO i1 i2 i3:Addr}{f g e:List Addr}{n k:Nat}{P R V3:Nat->Value->Prop}{S T U:Nat->Heap->Prop}(Z:ZB z TI TO i1 i2 i3 f g e)(D1:Draws prog w A i1 f n P S)(D2:Draws prog w A i2 g n R T)(D3:Draws prog w A i3 e n V3 U){a b c:Value}{Q:Value->Shared->Prop}
  (hz:IsZip s.heap z TI TO .none) (hI:Cq s.heap TI (.ref i1) (.ref i2) (.ref i3)) (hO:Cq s.heap TO a b c) (s1:S k s.heap) (s2:T k s.heap) (s3:U k s.heap) (le1:k<=n)
  (q:k<n->∀x y v h' tk,P k x->R k y->V3 k v->IsZip h' z TI TO (rawInt s.heap.objs.size)->Cq h' TO x y v->S (k+1) h'->T (k+1) h'->U (k+1) h'->Cq h' s.heap.objs.size x y v->
   (∀c o,c≠z->c≠TO->c≠i1->c≠i2->c≠i3->s.heap.get? c=some o->h'.get? c=some o)->Q (.ref s.heap.objs.size) {s with heap:=h',toks:=tk})
  (qe:k=n->∀h' e tk,(∀c o,c≠z->c≠TO->c≠i1->c≠i2->c≠i3->s.heap.get? c=some o->h'.get? c=some o)->(∃o,h'.get? e=some o/\o.cls = .type "StopIteration")->E (.ref e) {s with heap:=h',toks:=tk}) :
  wpAny (model prog w) A (Builtin.«zip.__next__» ⟨[.ref z],[]⟩) (fun fin s'=>∃v,fin = .done (.ret v)/\Q v s') E s:=by
 change wpAny _ _ (field (.ref z) 2>>=_) _ _ _
 apply A9
 apply DQ hz rfl (x:=.bool false) rfl
 change wpAny _ _ (field (.ref z) 3>>=_) _ _ _
 apply A9
 apply DQ hz rfl (x:=.ref TI) rfl
 apply A9
 apply Fy hI rfl
 change wpAny _ _ (Builtin.SmallTypes.ownedTupleIsFree (.ref z)>>=_) _ _ _
 apply A9
 unfold Builtin.SmallTypes.ownedTupleIsFree
 apply A9
 apply DQ hz rfl (x:=.none) rfl
 apply AA
 simp only[HI]
 apply A9
 apply wpAny_rule
 apply A9
 apply DQ hz rfl (x:=.ref TO) rfl
 apply A9
 apply GJ hz (by simp)
 intro hA zA bA
 have zA':IsZip hA z TI TO .ellipsis:=zA
 clear zA
 have oA:Cq hA TO a b c:=bA.extBut _ _ Z.Oz hO
 have sA:=mv D1 s1 bA.extBut Z.zf
 have tA:=mv D2 s2 bA.extBut Z.zg
 have uA:=mv D3 s3 bA.extBut Z.ze
 apply A9
 simp only[List.zipIdx_cons,List.zipIdx_nil,MM,List.forIn_nil]
 apply A9
 apply A9
 apply MX
 change wpAny _ _ (Builtin.SmallTypes.nextOf (.ref i1)>>=_) _ _ _
 apply A9
 rcases RV le1 with l1|rfl
 rotate_left
 .apply D1.done _ _ _ sA
  rintro h' e kp ⟨o,ge,ce⟩
  have z':IsZip h' z TI TO .ellipsis:=kp _ _ Z.az.symm zA'
  have ne:e≠z:=fun q=>by subst q;rw[z']at ge;cases ge;simp at ce
  apply GJ z' (by simp)
  intro h2 _ b2
  exact qe rfl h2 e s.toks (fun c o c1 _ c3 _ _ x=>b2.extBut _ _ c1 (kp _ _ c3 (bA.extBut _ _ c1 x))) ⟨o,b2.extBut _ _ ne ge,ce⟩
 apply D1.item k _ _ _ l1 sA
 intro x hB t1 px sB bB
 apply AA
 have oB:Cq hB TO a b c:=bB.extBut _ _ Z.Oa oA
 have zB:IsZip hB z TI TO .ellipsis:=bB.extBut _ _ Z.az.symm zA'
 have tB:=mv D2 tA bB.extBut Z.g1
 have uB:=mv D3 uA bB.extBut Z.e1
 apply A9
 apply Fy oB rfl
 apply A9
 apply NQ oB
 intro hC oC bC
 have oC':Cq hC TO x b c:=oC
 clear oC
 have zC:IsZip hC z TI TO .ellipsis:=bC.extBut _ _ Z.Oz.symm zB
 have sC:=mv D1 sB bC.extBut Z.of
 have tC:=mv D2 tB bC.extBut Z.og
 have uC:=mv D3 uB bC.extBut Z.oe
 apply A9
 apply KM
 apply AA
 have upC:∀c o,c≠z->c≠TO->c≠i1->s.heap.get? c=some o->hC.get? c=some o:=fun c o c1 c2 c3 e=>bC.extBut _ _ c2 (bB.extBut _ _ c3 (bA.extBut _ _ c1 e))
 apply A9
 apply A9
 apply MX
 change wpAny _ _ (Builtin.SmallTypes.nextOf (.ref i2)>>=_) _ _ _
 apply A9
 apply D2.item k _ _ _ l1 tC
 intro y hD t2 py tD bD
 apply AA
 have oD:Cq hD TO x b c:=bD.extBut _ _ Z.Ob oC'
 have zD:IsZip hD z TI TO .ellipsis:=bD.extBut _ _ Z.bz.symm zC
 have sD:=mv D1 sC bD.extBut Z.f2
 have uD:=mv D3 uC bD.extBut Z.e2
 apply A9
 apply Fy oD rfl
 apply A9
 apply NQ oD
 intro hE oE bE
 have oE':Cq hE TO x y c:=oE
 clear oE
 have zE:IsZip hE z TI TO .ellipsis:=bE.extBut _ _ Z.Oz.symm zD
 have sE:=mv D1 sD bE.extBut Z.of
 have tE:=mv D2 tD bE.extBut Z.og
 have uE:=mv D3 uD bE.extBut Z.oe
 apply A9
 apply KM
 apply AA
 apply A9
 apply A9
 apply MX
 change wpAny _ _ (Builtin.SmallTypes.nextOf (.ref i3)>>=_) _ _ _
 apply A9
 apply D3.item k _ _ _ l1 uE
 intro v hF t3 pv uF bF
 apply AA
 have oF:Cq hF TO x y c:=bF.extBut _ _ Z.Oc oE'
 have zF:IsZip hF z TI TO .ellipsis:=bF.extBut _ _ Z.cz.symm zE
 have sF:=mv D1 sE bF.extBut Z.f3
 have tF:=mv D2 tE bF.extBut Z.g3
 apply A9
 apply Fy oF rfl
 apply A9
 apply NQ oF
 intro hG oG bG
 have oG':Cq hG TO x y v:=oG
 clear oG
 have zG:IsZip hG z TI TO .ellipsis:=bG.extBut _ _ Z.Oz.symm zF
 have sG:=mv D1 sF bG.extBut Z.of
 have tG:=mv D2 tF bG.extBut Z.og
 have uG:=mv D3 uF bG.extBut Z.oe
 have upG:∀c o,c≠z->c≠TO->c≠i1->c≠i2->c≠i3->s.heap.get? c=some o->hG.get? c=some o:=fun c o c1 c2 c3 c4 c5 e=>bG.extBut _ _ c2 (bF.extBut _ _ c5 (bE.extBut _ _ c2 (bD.extBut _ _ c4 (upC c o c1 c2 c3 e))))
 have sz:hG.objs.size=s.heap.objs.size:=by rw[bG.1,bF.1,bE.1,bD.1,bC.1,bB.1,bA.1]
 apply A9
 apply KM
 apply AA
 apply AA
 apply A9
 apply Fy oG' rfl
 apply A9
 refine wpAny_newTuple ?_
 change wpAny _ _ (Builtin.SmallTypes.ownedTupleHandOut (.ref z) (.ref hG.objs.size)>>=_) _ _ _
 apply A9
 unfold Builtin.SmallTypes.ownedTupleHandOut
 have zH:IsZip (hG.push {cls:=.type "tuple",data:=.seq #[x,y,v]}) z TI TO .ellipsis:=AD _ zG
 have pH:Cq (hG.push {cls:=.type "tuple",data:=.seq #[x,y,v]}) hG.objs.size x y v:=C7 _ rfl
 apply A9
 apply GJ zH (by simp)
 intro hJ zJ bJ
 have zJ':IsZip hJ z TI TO (rawInt hG.objs.size):=zJ
 clear zJ
 apply GJ zJ' (by simp)
 intro hK zK bK
 have zK':IsZip hK z TI TO (rawInt hG.objs.size):=zK
 clear zK
 have far:hG.objs.size≠z:=CM (AG zG)
 have up:Heap.ExtBut z hG hK:=fun c o c1 e=>bK.extBut _ _ c1 (bJ.extBut _ _ c1 (AD _ e))
 have pK:Cq hK hG.objs.size x y v:=bK.extBut _ _ far (bJ.extBut _ _ far pH)
 apply AA
 refine⟨_,rfl,?_⟩
 have:=q l1 x y v hK t3 px py pv (by rw[←sz];exact zK') (up _ _ Z.Oz oG') (mv D1 sG up Z.zf) (mv D2 tG up Z.zg) (mv D3 uG up Z.ze) (by rw[←sz];exact pK) fun c o c1 c2 c3 c4 c5 e=>up c o c1 (upG c o c1 c2 c3 c4 c5 e)
 rw[←sz]at this
 exact this
theorem P9 {z TI TO i1 i2 i3:Addr}{f g e:List Addr}{n k:Nat}{P R V3:Nat->Value->Prop}{S T U:Nat->Heap->Prop}(Z:ZB z TI TO i1 i2 i3 f g e)(D1:Draws prog w A.in1 i1 f n P S)(D2:Draws prog w A.in1 i2 g n R T)(D3:Draws prog w A.in1 i3 e n V3 U){a b c:Value}{Q:Option Value->Shared->Prop}
  (hz:IsZip s.heap z TI TO .none) (hI:Cq s.heap TI (.ref i1) (.ref i2) (.ref i3)) (hO:Cq s.heap TO a b c) (s1:S k s.heap) (s2:T k s.heap) (s3:U k s.heap) (le1:k<=n)
  (q:k<n->∀x y v h' tk,P k x->R k y->V3 k v->IsZip h' z TI TO (rawInt s.heap.objs.size)->Cq h' TO x y v->S (k+1) h'->T (k+1) h'->U (k+1) h'->Cq h' s.heap.objs.size x y v->
   (∀c o,c≠z->c≠TO->c≠i1->c≠i2->c≠i3->s.heap.get? c=some o->h'.get? c=some o)->Q (some (.ref s.heap.objs.size)) {s with heap:=h',toks:=tk})
  (qe:k=n->∀h' tk,(∀c o,c≠z->c≠TO->c≠i1->c≠i2->c≠i3->s.heap.get? c=some o->h'.get? c=some o)->Q none {s with heap:=h',toks:=tk}) :
  wpAny (model prog w) A (pyNext (.ref z)) Q E s:=by
 have ty:s.TypeIs (.ref z) "zip":=⟨_,hz,rfl⟩
 unfold pyNext
 apply A9
 apply wpAny_attempt
 apply wpAny_callSpecial?_slot (name:=Str.ofString "__next__") ty F.slot_zip_next
 refine MU F.slot_zip_next ty F.entry_zip_next (Yd Z D1 D2 D3 hz hI hO s1 s2 s3 le1 ?_ ?_) (F.args_zip_next_1 _)
 .intro l1 x y v h' tk a1 a2 a3 a4 a5 a6 a7 a8 a9 a10
  exact AA (q l1 x y v h' tk a1 a2 a3 a4 a5 a6 a7 a8 a9 a10)
 .rintro l h' e tk kp ⟨o,ge,ce⟩
  exact A9 (wpAny_isInstance (T:="StopIteration") (b:=true) ⟨o,ge,ce⟩ isSubtype_stop (AA (qe l h' tk kp)))
end
theorem XG (a b c:Value):checkTypeCall "zip" ⟨[a,b,c],[]⟩=pure ():=by kernel_rfl
theorem Ub (a b c:Value):checkBuiltinCall "zip.__new__" ⟨[.type "zip",a,b,c],[]⟩=pure ():=by kernel_rfl
theorem aT (a b c d:Value):argsOk "object.__init__" ⟨[a,b,c,d],[]⟩:=by
 first
  |exact argsOk_of_eq (by kernel_rfl)
  |(unfold argsOk;kernel_rfl)
  |kernel_rfl
noncomputable def Nf (K:Faa)(a b c:Addr):It:=
 ⟨fun i H=>∃xs ys zs x y v,A4 K H a xs/\A4 K H b ys/\A4 K H c zs/\xs.length=ys.length/\xs.length=zs.length/\xs[i]?=some x/\ys[i]?=some y/\zs[i]?=some v,
  fun i H u H'=>∃x y v T,(∀xs,A4 K H a xs->xs[i]?=some x)/\(∀ys,A4 K H b ys->ys[i]?=some y)/\(∀zs,A4 K H c zs->zs[i]?=some v)/\H T=none/\u = .ref T/\H'=upd H T (.tup [x,y,v]),
  fun i H=>∃xs ys zs,A4 K H a xs/\A4 K H b ys/\A4 K H c zs/\xs.length=ys.length/\xs.length=zs.length/\i=xs.length⟩
theorem Sl {P:Program}{w:World}{K:Faa}{elts:List Expr}{x1:Nat}{pos:Pos}(a b c z TI TO i1 i2 i3:Addr)(D:ZB z TI TO i1 i2 i3 [i1,a] [i2,b] [i3,c])(na:a≠i1)(nb:b≠i2)(nc:c≠i3) :
  FT P w K (.Tuple elts x1 pos) (Nf K a b c) [z,TI,TO,i1,i2,i3] z (fun i h=>IsZip h z TI TO .none/\Cq h TI (.ref i1) (.ref i2) (.ref i3)/\(∃p q r,Cq h TO p q r)/\h.IsListIter i1 a i/\h.IsListIter i2 b i/\h.IsListIter i3 c i) where
 mem:=by simp
 obj:=fun i h st c hc=>by
  obtain⟨hz,hTI,⟨p,q,r,hTO⟩,h1,h2,h3⟩:=st
  simp only[AZ,Dv,or_false]at hc
  rcases hc with rfl|rfl|rfl|rfl|rfl|rfl
  .exact⟨_,hz,fun v z=>by cases z⟩
  .exact⟨_,hTI,fun v z=>by cases z⟩
  .exact⟨_,hTO,fun v z=>by cases z⟩
  .obtain⟨o,e,c,d⟩:=h1
   exact⟨o,e,fun v z=>by rw[d]at z;cases z⟩
  .obtain⟨o,e,c,d⟩:=h2
   exact⟨o,e,fun v z=>by rw[d]at z;cases z⟩
  .obtain⟨o,e,c,d⟩:=h3
   exact⟨o,e,fun v z=>by rw[d]at z;cases z⟩
 keep:=fun i h h' st k=>by
  obtain⟨hz,hTI,⟨p,q,r,hTO⟩,h1,h2,h3⟩:=st
  exact⟨k z (by simp) _ hz,k TI (by simp) _ hTI,⟨p,q,r,k TO (by simp) _ hTO⟩,h1.at fun o e=>k i1 (by simp) o e,h2.at fun o e=>k i2 (by simp) o e,h3.at fun o e=>k i3 (by simp) o e⟩
 item:=by
  intro X hP hw hK hc i pins s σ H E I hf st hg
  subst hP hw hK
  obtain⟨xs,ys,zs,x,y,v,hq1,hq2,hq3,e12,e13,hx,hy,hv⟩:=hg
  obtain⟨its1,rv1,p1,_⟩:=I.list hq1
  obtain⟨its2,rv2,p2,_⟩:=I.list hq2
  obtain⟨its3,rv3,p3,_⟩:=I.list hq3
  obtain⟨hz,hTI,⟨pa,qa,ra,hTO⟩,h1,h2,h3⟩:=st
  have p1':s.heap.IsList a its1.toArray:=p1.isList
  have p2':s.heap.IsList b its2.toArray:=p2.isList
  have p3':s.heap.IsList c its3.toArray:=p3.isList
  have l1:=rv1.length
  have l2:=rv2.length
  have l3:=rv3.length
  obtain⟨b1,_⟩:=Ay.1 hx
  have hn:X.A.in1.handled=none:=I.ok.hd hc
  have d1:=Draws.list (prog:=X.prog) (w:=X.w) hn i1 a na its1.toArray
  have d2:=Draws.list (prog:=X.prog) (w:=X.w) hn i2 b nb its2.toArray
  have d3:=Draws.list (prog:=X.prog) (w:=X.w) hn i3 c nc its3.toArray
  rw[show its2.toArray.size=its1.toArray.size by simp;lia]at d2
  rw[show its3.toArray.size=its1.toArray.size by simp;lia]at d3
  refine P9 (k:=i) D d1 d2 d3 hz hTI hTO ⟨h1,p1'⟩ ⟨h2,p2'⟩ ⟨h3,p3'⟩ (by simp;lia) (fun _ u1 u2 u3 hh tk hu1 hu2 hu3 hz' hTO' h1' h2' h3' hT hk=>⟨_,rfl,?_⟩) fun q=>absurd q (by simp;lia)
  obtain⟨w1,hw1,r1⟩:=rv1.get hx
  obtain⟨w2,hw2,r2⟩:=rv2.get hy
  obtain⟨w3,hw3,r3⟩:=rv3.get hv
  have e1:w1=u1:=by simpa[hw1] using hu1
  have e2:w2=u2:=by simpa[hw2] using hu2
  have e3:w3=u3:=by simpa[hw3] using hu3
  subst e1 e2 e3
  refine Se hz' fun h5 hz5 hs5=>?_
  have hTn:H s.heap.objs.size=none:=I.hok.fresh (Af _)
  have lts:∀c∈[z,TI,TO,i1,i2,i3],c<s.heap.objs.size:=fun c hc=>by
   simp only[AZ,Dv,or_false]at hc
   rcases hc with rfl|rfl|rfl|rfl|rfl|rfl
   .exact AG hz
   .exact AG hTI
   .exact AG hTO
   .obtain⟨_,e,_⟩:=h1;exact AG e
   .obtain⟨_,e,_⟩:=h2;exact AG e
   .obtain⟨_,e,_⟩:=h3;exact AG e
  have I1:A2 X pins σ (upd H s.heap.objs.size (.tup [x,y,v])) {s with heap:=s.heap.push {cls:=.type "tuple",data:=.seq #[w1,w2,w3]}}:=I.laid (t':=s.toks) (o:=.tup [x,y,v]) (fun b o e=>AD _ e) (Af _) ⟨An rfl,[w1,w2,w3],.cons r1 (.cons r2 (.cons r3 .nil)),Ep.new _ _⟩
  have I2:A2 X pins σ (upd H s.heap.objs.size (.tup [x,y,v])) {s with heap:=h5,toks:=tk}:=by
   refine A2.turnedL (s:={s with heap:=s.heap.push {cls:=.type "tuple",data:=.seq #[w1,w2,w3]}}) (h':=h5) (ch:=[z,TI,TO,i1,i2,i3]) (t':=tk) I1 (fun b o hb q=>?_) (fun b hb=>?_)
   .simp only[AZ,Dv,or_false,not_or]at hb
    obtain⟨n1,n2,n3,n4,n5,n6⟩:=hb
    show h5.get? b=some o
    rw[hs5.2 b n1]
    rcases MO q with⟨rfl,rfl⟩|q
    .exact hT
    .exact hk b o n1 n3 n4 n5 n6 q
   .obtain⟨f0,f1,f2,f3,f4,f5⟩:=hf b hb
    exact⟨by rw[Ai (AV (lts b hb))];exact f0,f1,f2,f3,f4,f5⟩
  have k5:∀c,c≠z->∀o,hh.get? c=some o->h5.get? c=some o:=fun c hc o e=>(hs5.2 c hc).trans e
  refine⟨.ref s.heap.objs.size,_,I2,rfl,⟨x,y,v,_,fun zs hy=>by rw[I.list_inj hy hq1];exact hx,fun zs hy'=>by rw[I.list_inj hy' hq2];exact hy,fun zs hy'=>by rw[I.list_inj hy' hq3];exact hv,hTn,rfl,rfl⟩,⟨hz5,k5 TI D.Iz _ (hk TI _ D.Iz D.IO D.Ia D.Ib D.Ic hTI),⟨w1,w2,w3,k5 TO D.Oz _ hTO'⟩,h1'.1.at (k5 i1 D.az),h2'.1.at (k5 i2 D.bz),h3'.1.at (k5 i3 D.cz)⟩,fun b hb=>?_⟩
  rw[Ai (AV (lts b hb))]
  exact(hf b hb).1
 done:=by
  intro X hP hw hK hc i pins s σ H E I hf st hg
  subst hP hw hK
  obtain⟨xs,ys,zs,hq1,hq2,hq3,e12,e13,hl⟩:=hg
  obtain⟨its1,rv1,p1,_⟩:=I.list hq1
  obtain⟨its2,rv2,p2,_⟩:=I.list hq2
  obtain⟨its3,rv3,p3,_⟩:=I.list hq3
  obtain⟨hz,hTI,⟨pa,qa,ra,hTO⟩,h1,h2,h3⟩:=st
  have p1':s.heap.IsList a its1.toArray:=p1.isList
  have p2':s.heap.IsList b its2.toArray:=p2.isList
  have p3':s.heap.IsList c its3.toArray:=p3.isList
  have l1:=rv1.length
  have l2:=rv2.length
  have l3:=rv3.length
  have hn:X.A.in1.handled=none:=I.ok.hd hc
  have d1:=Draws.list (prog:=X.prog) (w:=X.w) hn i1 a na its1.toArray
  have d2:=Draws.list (prog:=X.prog) (w:=X.w) hn i2 b nb its2.toArray
  have d3:=Draws.list (prog:=X.prog) (w:=X.w) hn i3 c nc its3.toArray
  rw[show its2.toArray.size=its1.toArray.size by simp;lia]at d2
  rw[show its3.toArray.size=its1.toArray.size by simp;lia]at d3
  refine P9 (k:=i) D d1 d2 d3 hz hTI hTO ⟨h1,p1'⟩ ⟨h2,p2'⟩ ⟨h3,p3'⟩ (by simp;lia) (fun e1=>absurd e1 (by simp;lia)) fun _ h' tk hk=>⟨rfl,?_⟩
  refine I.turnedL (ch:=[z,TI,TO,i1,i2,i3]) (t':=tk) (fun b o hb q=>?_) hf
  simp only[AZ,Dv,or_false,not_or]at hb
  obtain⟨n1,n2,n3,n4,n5,n6⟩:=hb
  exact hk b o n1 n3 n4 n5 n6 q
 self:=fun _ _ _ _ _ st h=>by
  obtain⟨hz,_⟩:=st
  exact KL hz h
theorem Zm (a b c:Addr)(xs ys zs:Array Value) :
  Meets (Builtin.«zip.__new__» ⟨[.type "zip",.ref a,.ref b,.ref c],[]⟩) (fun _ R s=>s.heap.IsList a xs/\s.heap.IsList b ys/\s.heap.IsList c zs/\
   ∀h',IsZip h' (s.heap.objs.size+5) (s.heap.objs.size+3) (s.heap.objs.size+4) .none->Cq h' (s.heap.objs.size+3) (.ref s.heap.objs.size) (.ref (s.heap.objs.size+1)) (.ref (s.heap.objs.size+2))->Cq h' (s.heap.objs.size+4) .none .none .none->
    h'.IsListIter s.heap.objs.size a 0->h'.IsListIter (s.heap.objs.size+1) b 0->h'.IsListIter (s.heap.objs.size+2) c 0->(∀c o,s.heap.get? c=some o->h'.get? c=some o)->R (.ok (.ret (.ref (s.heap.objs.size+5)))) {s with heap:=h'}):=
 .of_wp fun prog w A R s h=>by
  obtain⟨hp,g,d,tk,os⟩:=s
  obtain⟨t1,t2,t3,h⟩:=h
  have hs:=sub_zip
  have u1:Heap.IsList (Shared.heap ⟨hp,g,d,tk,os⟩) a xs:=t1
  have u2:Heap.IsList (Shared.heap ⟨hp.push {cls:=.type "list_iterator",data:=.fields #[.ref a,.int 0 0]},g,d,tk,os⟩) b ys:=RZ t2 _
  have u3:Heap.IsList (Shared.heap ⟨(hp.push {cls:=.type "list_iterator",data:=.fields #[.ref a,.int 0 0]}).push {cls:=.type "list_iterator",data:=.fields #[.ref b,.int 0 0]},g,d,tk,os⟩) c zs:=RZ (RZ t3 _) _
  wp_walk using Jc u1,Jc u2,Jc u3
  refine⟨_,rfl,?_⟩
  have key:∀(n1 n2 n3 n4 n5:Nat) (h':Heap),n1=hp.objs.size+1->n2=hp.objs.size+2->n3=hp.objs.size+3->n4=hp.objs.size+4->n5=hp.objs.size+5->IsZip h' n5 n3 n4 .none->Cq h' n3 (.ref hp.objs.size) (.ref n1) (.ref n2)->Cq h' n4 .none .none .none->
    h'.IsListIter hp.objs.size a 0->h'.IsListIter n1 b 0->h'.IsListIter n2 c 0->(∀c o,hp.get? c=some o->h'.get? c=some o)->R (.ok (.ret (.ref n5))) ⟨h',g,d,tk,os⟩:=by
   rintro _ _ _ _ _ h' rfl rfl rfl rfl rfl
   exact h h'
  refine key (hp.push {cls:=.type "list_iterator",data:=.fields #[.ref a,.int 0 0]}).objs.size ((hp.push {cls:=.type "list_iterator",data:=.fields #[.ref a,.int 0 0]}).push {cls:=.type "list_iterator",data:=.fields #[.ref b,.int 0 0]}).objs.size _ _ _ _ ?e1 ?e2 ?e3 ?e4 ?e5 (C7 _ rfl) ?g5 ?g6 ?g7 ?g8 ?g9 ?g10
  case g5=>exact AD _ (AD _ (C7 _ rfl))
  case g6=>exact AD _ (C7 _ rfl)
  case g7=>exact⟨_,AD _ (AD _ (AD _ (AD _ (AD _ (C7 _ rfl))))),rfl,rfl⟩
  case g8=>exact⟨_,AD _ (AD _ (AD _ (AD _ (C7 _ rfl)))),rfl,rfl⟩
  case g9=>exact⟨_,AD _ (AD _ (AD _ (C7 _ rfl))),rfl,rfl⟩
  case g10=>exact fun c o e=>AD _ (AD _ (AD _ (AD _ (AD _ (AD _ e)))))
  all_goals simp only[Kx]
def Xp (K:Faa)(ta:TA):TI:=fun σ H R=>ta σ H fun vs H1=>∃a b c:Addr,vs=[.ref a,.ref b,.ref c]/\(∃xs,A4 K H1 a xs)/\(∃ys,A4 K H1 b ys)/\(∃zs,A4 K H1 c zs)/\R (Nf K a b c) H1
theorem XT {X:Cx}{a b c:Expr}{ta:TA}{p pos:Pos}{elts:List Expr}{x1:Nat}{pos2:Pos}(hg:Gl X "zip")(hm:X.mg "zip"=none)(ha:PA X [a,b,c] ta)(hs:starEach [a,b,c] X.env=[(false,eval a X.env),(false,eval b X.env),(false,eval c X.env)]:=by rfl)(hs2:starEach [b,c] X.env=[(false,eval b X.env),(false,eval c X.env)]:=by rfl) :
  PI X (.Tuple elts x1 pos2) (.Call (.Name "zip" p) [a,b,c] [] pos) (Xp X.K ta):=by
 intro pins s σ H R I h
 refine Call_ (Fc I hg hm boot_zip (Hs (Az (ha pos pins s σ H _ I h) fun us s1 zz=>?_) (by rw[hs,hs2]) (by rw[hs2];rfl)))
 obtain⟨vs,H1,I1,r1,q1⟩:=zz
 obtain⟨l1,l2,l3,rfl,⟨xs,hq1⟩,⟨ys,hq2⟩,⟨zs,hq3⟩,q⟩:=q1
 cases r1 with
 |
  cons r rr=>
  cases rr with
  |
   cons r' rr=>
   cases rr with
   |
    cons r'' rr=>
    cases rr
    cases r
    cases r'
    cases r''
    obtain⟨its1,rv1,p1,_⟩:=I1.list hq1
    obtain⟨its2,rv2,p2,_⟩:=I1.list hq2
    obtain⟨its3,rv3,p3,_⟩:=I1.list hq3
    have lt1:l1<s1.heap.objs.size:=(let ⟨_,e,_⟩:=p1.isList;AG e)
    have lt2:l2<s1.heap.objs.size:=(let ⟨_,e,_⟩:=p2.isList;AG e)
    have lt3:l3<s1.heap.objs.size:=(let ⟨_,e,_⟩:=p3.isList;AG e)
    refine callType_new F.called_zip (by decide) (XG _ _ _) (Ub _ _ _) (fun obj=>aT obj _ _ _) F.entry_zip_new (Zm l1 l2 l3 its1.toArray its2.toArray its3.toArray) ⟨p1.isList,p2.isList,p3.isList,fun h' hz hTI hTO h1 h2 h3 hk=>⟨⟨_,hz,rfl⟩,?_⟩⟩
    refine KL hz ?_
    have fp:∀b,s1.heap.objs.size<=b->EH X pins H1 b:=fun b hb=>I1.fpOk hb (I1.hok.fresh hb)
    have I2:A2 X pins σ H1 {s1 with heap:=h',toks:=s1.toks}:=I1.kept hk
    generalize hN:s1.heap.objs.size=N at hz hTI hTO h1 h2 h3 lt1 lt2 lt3 fp
    refine⟨_,[N+5,N+3,N+4,N,N+1,N+2],_,_,H1,rfl,I2,Sl l1 l2 l3 _ _ _ _ _ _ ⟨?_,?_,?_,?_,?_,?_,?_,?_,?_,?_,?_,?_,?_,?_,?_,?_,?_,?_,?_,?_,?_,?_,?_,?_⟩ ?_ ?_ ?_,⟨hz,hTI,⟨_,_,_,hTO⟩,h1,h2,h3⟩,fun b hb=>?_,q⟩
    case refine_28=>
     refine fp b ?_
     simp only[AZ,Dv,or_false]at hb
     rcases hb with rfl|rfl|rfl|rfl|rfl|rfl
     .exact Cv _ 5
     .exact Cv _ 3
     .exact Cv _ 4
     .exact Af _
     .exact Cv _ 1
     .exact Cv _ 2
    all_goals first
     |exact AV lt1
     |exact AV (BO lt2 (Cv _ _))
     |exact AV (BO lt3 (Cv _ _))
     |(show(_:Nat)≠_;lia)
     |(
      simp only[AZ,Dv,or_false,not_or]
      exact⟨by show(_:Nat)≠_;lia,by first
       |exact CM lt1
       |exact CM lt2
       |exact CM lt3
       |exact CM (BO lt1 (Cv _ _))
       |exact CM (BO lt2 (Cv _ _))
       |exact CM (BO lt3 (Cv _ _))⟩)
theorem SQ {K:Faa}{a b c:Addr}{xs ys ws:List V}{ρ:List (Option Nat)}{g:TG}{tt:TT}{te:TE}{σ:St}{H:Hp}{Q:VK}(hlen:xs.length=ys.length)(hlen2:xs.length=ws.length)(Pv:Nat->List V->Hp->Prop)(h0:Pv 0 [] H)(hsz:xs.length<=sizeLine)(hl:∀i zs H,i<=xs.length->Pv i zs H->A4 K H a xs/\A4 K H b ys/\A4 K H c ws/\zs.length<=i)
  (hs:∀i x y v T zs H,xs[i]?=some x->ys[i]?=some y->ws[i]?=some v->Pv i zs H->H T=none->g (.ref T) (C4 ρ σ) (upd H T (.tup [x,y,v])) fun σ2 H3=>Jm ρ σ σ2/\tt σ2 H3 fun ok H4=>if ok=true then te σ2 H4 fun v H5=>Pv (i+1) (zs++[v]) H5 else Pv (i+1) zs H4)
  (hd:∀zs H,Pv xs.length zs H->∀p,H p=none->Q (.ref p) (upd H p (.lst zs))):GW ρ g tt te σ Q (Nf K a b c) H:=by
 refine⟨fun i m zs H=>m=xs.length-i/\i<=xs.length/\Pv i zs H,⟨_,rfl,Bj _,h0⟩,?_⟩
 rintro i m zs H ⟨rfl,hi,p⟩
 obtain⟨q1,q2,q3,hz⟩:=hl i zs H hi p
 by_cases hlt:i<xs.length
 .refine .inr ⟨⟨xs,ys,ws,xs[i],ys[i],ws[i],q1,q2,q3,hlen,hlen2,As hlt,As (by lia),As (by lia)⟩,by lia,Pv (i+1),fun ys' H'' p'=>⟨xs.length-(i+1),by lia,rfl,hlt,p'⟩,fun v H' yy=>?_⟩
  obtain⟨x,y,v,T,hx,hy,hv,hT,rfl,rfl⟩:=yy
  exact hs i x y v T zs H (hx xs q1) (hy ys q2) (hv ws q3) p hT
 .have:i=xs.length:=by lia
  subst this
  exact .inl ⟨⟨xs,ys,ws,q1,q2,q3,hlen,hlen2,rfl⟩,by lia,hd zs H p⟩
structure Lq.Ok7 (q:Lq)(L:List Lq):Prop where
 ok:q.Ok L.length
 l1:q.lo.1=""\/∃y∈L,q.lo.1=y.nm
 h1:q.hi.1=""\/∃y∈L,q.hi.1=y.nm
 lb : -(5+20*(L.length:Int))<=q.lo.2/\q.lo.2<=5+20*(L.length:Int)
 hb : -(5+20*(L.length:Int))<=q.hi.2/\q.hi.2<=5+20*(L.length:Int)
def CF (L:List Lq):Prop := ∀(j:Nat) (q:Lq),L[j]?=some q->q.Ok7 (L.take j)
theorem CF.ok {L:List Lq}(h:CF L):O4 L:=fun j q hq=>by
 have:=(h j q hq).ok
 rwa [AY,G5 (Fu (Ay.mp hq).1)]at this
theorem CF.nil:CF []:=fun j x hx=>by cases hx
theorem CF.snoc {L:List Lq}{q:Lq}(h:CF L)(hq:q.Ok7 L):CF (L++[q]):=fun j x hx=>by
 rcases Da j L.length with z|z
 .rw[BR z]at hx
  rw[KG (Fu z)]
  exact h j x hx
 .have l:=(Ay.mp hx).1
  rw[AB,B4]at l
  have e:j=L.length:=by lia
  subst e
  rw[Bz (Af _),Cn]at hx
  cases hx
  rw[KF rfl]
  exact hq
theorem CF.take {L:List Lq}(h:CF L)(n:Nat):CF (L.take n):=fun j x hx=>by
 have l:=(Ay.mp hx).1
 rw[AY]at l
 rw[DO (by lia)]at hx
 rw[Hx,G5 (by lia)]
 exact h j x hx
def Wc:Sp:=fun vs H Q _=>∃(cell:Int) (ll:Addr) (L:List Lq),vs=[.int cell,.ref ll]/\0<=cell/\E3 H ll L/\O4 L/\L.length<=2/\∀(r:Addr) (H':Hp) (q:Lq),Aa H H'->D0 H' (.ref r) q->q.Ok7 L->Q (.ref r) H'
theorem ZX {p q:Lq}(h:BW (qT p) (qT q)=true):p=q:=by
 obtain⟨a,⟨b1,b2⟩,⟨c1,c2⟩,d,e⟩:=p
 obtain⟨a',⟨b1',b2'⟩,⟨c1',c2'⟩,d',e'⟩:=q
 simp[qT,BW,BN,DY]at h
 obtain⟨h1,⟨h2,h3⟩,⟨h4,h5⟩,h6,h7⟩:=h
 subst h1 h2 h3 h4 h5 h6 h7
 rfl
theorem Pl:∀{A B:List Lq},BN (A.map qT) (B.map qT)=true->A=B
 |[],[],_=>rfl
 |[],b::B,h=>by simp[BN]at h
 |a::A,[],h=>by simp[BN]at h
 |
  a::A,b::B,h=>by
  rw[Bx,Bx,BN,EJ]at h
  rw[ZX h.1,Pl h.2]
structure Fp (Ds:List Dq):Prop where
 row:Ha Ds
 in7:∀D∈Ds,CF D.L
 hd:∀D,Ds.head?=some D->D.sh=0
 up:∀(i:Nat) (a b:Dq),Ds[i]?=some a->Ds[i+1]?=some b->a.path.getD b.sh 0<b.path.getD b.sh 0
theorem Fp.nil:Fp []:=⟨Ha.nil,fun D h=>(by cases h),fun D h=>(by cases h),fun i a b h=>(by cases h)⟩
theorem Fp.snoc {Ds:List Dq}{D:Dq}(h:Fp Ds)(hD:D.Ok)(h7:CF D.L)(h0:Ds=[]->D.sh=0)(hn:∀a,Ds.getLast?=some a->Nx a D/\a.path.getD D.sh 0<D.path.getD D.sh 0):Fp (Ds++[D]):=by
 refine⟨h.row.snoc hD fun a ha=>(hn a ha).1,fun x hx=>?_,fun x hx=>?_,fun i a b h1 h2=>?_⟩
 .rcases BX.mp hx with z|z
  .exact h.in7 x z
  .rw[BL.mp z];exact h7
 .cases Ds with
  |nil=>cases hx;exact h0 rfl
  |cons y ys=>exact h.hd x hx
 .have l2:=(Ay.mp h2).1
  rw[AB,B4]at l2
  rw[BR (by lia)]at h1
  rcases Da (i+1) Ds.length with z|z
  .rw[BR z]at h2
   exact h.up i a b h1 h2
  .have e:i+1=Ds.length:=by lia
   rw[e,Bz (Af _),Cn]at h2
   cases h2
   refine(hn a ?_).2
   rw[MP,show Ds.length-1=i by lia]
   exact h1
theorem aC {p q:List Int}{c:Nat}{v:Int}(hc:p[c]?=some v)(hq:q.take (c+1)=p.take c++[v+1]):p.getD c 0<q.getD c 0:=by
 have lc:=(Ay.mp hc).1
 have tl:(p.take c).length=c:=by rw[AY];lia
 have e:q[c]?=some (v+1):=by
  have:(q.take (c+1))[c]?=(p.take c++[v+1])[c]?:=by rw[hq]
  rw[DO (by lia),Bz (by lia),tl,Cn]at this
  exact this
 rw[Bv,Bv,hc,e]
 show v<v+1
 lia
def UW (K:Faa):Sp:=fun vs H Q _=>∃(p:Addr) (ns:List Int) (f:Int) (n:Nat),vs=[.ref p,.int f,.int (n:Int)]/\A4 K H p (ns.map V.int)/\0<=f/\f<=1000/\n<=6/\∀(r:Addr) (xs:List V) (H':Hp) (Ds:List Dq),Aa H H'->H' r=some (.lst xs)->Av (GR H') xs Ds->Ds.length=n->Fp Ds->Q (.ref r) H'
def Ex (H:Hp)(x:V)(T:F5):Prop := ∃t d,x = .ref t/\H t=some (.tup [.int (T.1:Int),.ref d])/\H d=some (.tup (T.2.map V.int))
theorem Ex.over {H H':Hp}{x:V}{T:F5}(h:Ex H x T)(e:Aa H H'):Ex H' x T:=by obtain⟨t,d,a,b,c⟩:=h;exact⟨t,d,a,e _ _ b,e _ _ c⟩
theorem Ex.tk {H H':Hp}{x:V}{T:F5}(h:Ex H x T)(e:TK H H'):Ex H' x T:=by obtain⟨t,d,a,b,c⟩:=h;exact⟨t,d,a,e _ _ b,e _ _ c⟩
theorem Im:∀(f:B3) (p:List Int) (j:Nat),(Fo.swF f p j).length<=Fn f
 |.nil,_,_=>Af _
 |.leaf _ _ r,p,j=>Nat.le_succ_of_le (Im r p (j+1))
 |
  .node _ _ s r,p,j=>by
  have h1:=Im s (p++[(j:Int)]) 0
  have h2:=Im r p (j+1)
  show(_::(_++_)).length<=Fn s+Fn r+1
  rw[BH,AB]
  lia
def JW (H:Hp)(x:V)(r:Rb×List Int):Prop := ∃t pt a b,x = .ref t/\H t=some (.tup [.ref pt,.bl r.1.way.1,.str r.1.way.2,.ref a,.ref b])/\H a=some (.tup [.int r.1.p.1,.int r.1.p.2])/\H b=some (.tup [.int r.1.q.1,.int r.1.q.2])/\H pt=some (.tup (r.2.map V.int))
theorem JW.tk {H H':Hp}{x:V}{r:Rb×List Int}(h:JW H x r)(k:TK H H'):JW H' x r:=by obtain⟨t,pt,a,b,c,d,e,f,g⟩:=h;exact⟨t,pt,a,b,c,k _ _ d,k _ _ e,k _ _ f,k _ _ g⟩
noncomputable def FC (b c:Ag)(P:List Int)(s:Nat):List (Rb×List Int):=(List.range s).map fun e=>(⟨b.ways.getD e (false,""),b.pl.getD e (0,0),c.pl.getD e (0,0)⟩,P.take (e+1))
theorem Rq (b c:Ag)(P:List Int)(s:Nat):(FC b c P s).length=s:=by unfold FC;rw[Au,Dx]
theorem VH (b c:Ag)(P:List Int)(s:Nat):FC b c P (s+1)=FC b c P s++[(⟨b.ways.getD s (false,""),b.pl.getD s (0,0),c.pl.getD s (0,0)⟩,P.take (s+1))]:=by unfold FC;rw[Hv,BA];rfl
theorem YT {b c:Ag}{P:List Int}{s e:Nat}(h:e<s):(FC b c P s)[e]?=some (⟨b.ways.getD e (false,""),b.pl.getD e (0,0),c.pl.getD e (0,0)⟩,P.take (e+1)):=by
 unfold FC
 rw[Bq,DP h]
 rfl
theorem N9:∀(c:List Int) (i j:Int) (q r:List Int),HT.lexLt (c++i::q) (c++j::r)=if i=j then HT.lexLt q r else decide (i<j)
 |[],i,j,q,r=>rfl
 |
  x::c,i,j,q,r=>by
  show(if x=x then HT.lexLt (c++i::q) (c++j::r) else decide (x<x))=_
  rw[Ap rfl]
  exact N9 c i j q r
theorem Q2:∀c:List Int,HT.lexLt c c=false
 |[]=>rfl
 |
  x::c=>by
  show(if x=x then HT.lexLt c c else decide (x<x))=false
  rw[Ap rfl]
  exact Q2 c
theorem Px {x y:List Int}{n:Nat}(h:Fo.Sep x y n):HT.lexLt x y=true/\HT.lexLt y x=false:=by
 obtain⟨c,i,j,q,r,rfl,rfl,_,hij⟩:=h
 rw[N9,N9,Al (by lia),Al (by lia)]
 exact⟨Bw hij,Bk (by lia)⟩
theorem X8 {f:B3}{B:List Ag}{i j s:Nat}{x y:Fo.En}(h:Fo.Is f B 0)(hx:(Fo.deedsF f [] 0)[i]?=some x)(hy:(Fo.deedsF f [] 0)[j]?=some y)(hm:EB B i j s):HT.lexLt x.path y.path=decide ((i:Int)<(j:Int)):=by
 have zero:∀i c,B[i+1]?=some c->0<=c.sh:=fun _ _ _=>Bj _
 rcases hm with⟨rfl,_⟩|⟨hij,hl⟩|⟨hij,hl⟩
 .rw[hx]at hy
  cases hy
  rw[Q2,Bk (by lia)]
 .rw[(Px (Fo.deeds_sep f B 0 [] 0 i j s x y h zero hij hx hy hl).2).1,Bw (by lia)]
 .rw[(Px (Fo.deeds_sep f B 0 [] 0 j i s y x h zero hij hy hx hl).2).2,Bk (by lia)]
noncomputable def vb:Nat->Int
 |0=>0
 |j+1=>vb j+(5+20*(j:Int))
noncomputable def cn:Nat->Nat
 |0=>1
 |j+1=>cn j*(2*(vb (j+1)).toNat+1)
theorem Qk:∀j,0<=vb j
 |0=>GF _
 |j+1=>by have:=Qk j;show 0<=vb j+(5+20*(j:Int));lia
theorem Qt {j:Nat}(h:j<=3):cn j<=101321:=by
 match j,h with
 |0,_=>decide
 |1,_=>decide
 |2,_=>decide
 |3,_=>decide
def G0 (m:Int)(v:List Int):Prop := ∀n∈v,-m<=n/\n<=m
theorem G0.mono {m k:Int}{v:List Int}(h:G0 m v)(l:m<=k):G0 k v:=fun n hn=>by have:=h n hn;lia
theorem G0.snoc {m:Int}{v:List Int}{n:Int}(h:G0 m v)(h1 : -m<=n)(h2:n<=m):G0 m (v++[n]):=fun x hx=>by
 rcases BX.mp hx with z|z
 .exact h x z
 .rw[BL.mp z];exact⟨h1,h2⟩
def Lk (m:Int)(zs:List Str)(kvs:List (AC×V)):Prop:=(∀z,z=("":Str)\/z∈zs->∃n,Ca kvs (.inr z)=some (.int n)/\-m<=n/\n<=m)/\kvs.length<=zs.length+1
theorem Lk.put {m:Int}{zs:List Str}{kvs:List (AC×V)}{z:Str}{n:Int}(h:Lk m zs kvs)(h1 : -m<=n)(h2:n<=m):Lk m (zs++[z]) (CU kvs (.inr z) (.int n)):=by
 refine⟨fun y hy=>?_,?_⟩
 .by_cases c:z=y
  .subst c
   exact⟨n,by rw[MF,Ap rfl],h1,h2⟩
  .rw[MF,Al (fun e=>c (Sum.inr.inj e).symm)]
   refine h.1 y ?_
   rcases hy with hy|hy
   .exact .inl hy
   .rcases BX.mp hy with hy|hy
    .exact .inr hy
    .exact absurd (BL.mp hy).symm c
 .have:=M9 kvs (Sum.inr z) (V.int n)
  have:=h.2
  rw[AB,B4]
  lia
theorem Pg {ρ:List (Option Nat)}{σ:St}(o o' p:Option V):Jm (none::none::none::ρ) σ (o::o'::p::C4 ρ σ):=by
 refine⟨by unfold C4;simp,fun j v e=>?_⟩
 rw[Kh,Kh,Kh]at e
 match j with
 |0=>simp at e
 |1=>simp at e
 |2=>simp at e
 |j+3=>simpa using e
end L2
namespace EX
open PySem PySem.Spec PyProof.Rows
def Cg (h:Heap)(e:Addr)(C:Value)(d:Option Addr)(tb:Value):Prop := ∃oe vs,h.get? e=some oe/\oe.cls=C/\oe.dict=d/\oe.data = .fields vs/\vs[1]?=some tb
def Gx (h:Heap)(T:Addr)(fl:Value):Prop := ∃oT ts,h.get? T=some oT/\oT.data = .fields ts/\ts[3]?=some fl
def EC (fs ch:List Addr)(h h':Heap):Prop := ∀b o,h.get? b=some o->b∉ch->(b∉fs->h'.get? b=some o)/\∃sl,h'.get? b=some {o with slots:=sl}
theorem EC.mono {fs fs' ch ch':List Addr}{h h1:Heap}(a:EC fs ch h h1)(f:∀b∈fs,b∈fs')(c:∀b∈ch,b∈ch'):EC fs' ch' h h1:=fun x o e hc=>
 let ⟨p,q⟩:=a x o e fun z=>hc (c x z)
 ⟨fun hf=>p fun z=>hf (f x z),q⟩
section
variable {M:Model}{A:Around}{E:Value->Shared->Prop}{s:Shared}
theorem Rv {base h:Heap}{l:List Env}{b:Addr}{o:Obj}{vs:Array Value}(hl:h.FunFrames base l)(ho:h.get? b=some o)(hd:o.data = .fields vs):b∉l.filterMap (·.frame):=fun hm=>by
 obtain⟨_,o',ho',hn⟩:=hl.mem hm
 rw[ho]at ho'
 cases ho'
 exact hn vs hd
theorem Qa {base:Heap}{env:Env}{outer:List Env}{L e:Addr}{C:Value}{d:Option Addr}{head tb:Value}{hadNext:Bool}{Q:Unit->Shared->Prop}
  (hfr:A.frames=some (env::outer)) (hl:s.heap.FunFrames base (env::outer)) (hf:env.frame=some L) (hx:Cg s.heap e C d tb)
  (h:∀h' T,s.heap.objs.size<=T->EC ((env::outer).filterMap (·.frame)) [e] s.heap h'->Cg h' e C d (.ref T)->Gx h' T (rawInt L)->T≠e->Q () {s with heap:=h'}) :
  wpAny M A (do let a ←frameOf env;let pl ←entryPlaceOf L hadNext;let b ←EntryCells.newEntry head a .none (rawInt L) .none pl;setField (.ref e) 1 b) Q E s:=by
 obtain⟨oe,vs,he,hc,hdc,hd,h1⟩:=hx
 have hsz:1<vs.size:=(MQ.mp h1).1
 have hne:=Rv hl he hd
 refine A9 (wpAny_frameOf_fun hfr hl hf fun h₁ hs₁=>?_)
 refine A9 (wpAny_entryPlaceOf fun pl hpl=>?_)
 unfold EntryCells.newEntry newFields
 refine A9 (KJ ?_ (hpl.sizeOk5 _ _ _ _ _))
 have he₁:h₁.get? e=some oe:=(hs₁.2.1 e hne).trans he
 generalize hob:({cls:=.type "traceback",dict:=none,data:=.fields ([head,.ref L,.none,rawInt L,.none]++(if pl.isEmpty then List.replicate 6 Value.none else pl)).toArray}:Obj)=ob
 have hobd:ob.data = .fields ([head,.ref L,.none,rawInt L,.none]++(if pl.isEmpty then List.replicate 6 Value.none else pl)).toArray:=by rw[←hob]
 have he₂:=AD (h:=h₁) ob he₁
 have nf:ob.isFreed=false:=Obj.isFreed_of_fields hobd
 refine MW he₂ hd hsz ?_
 have hTe:h₁.objs.size≠e:=CM (AG he₁)
 have hd₃:=Obj.data_mapFields hd (·.setIfInBounds 1 (Value.ref h₁.objs.size))
 refine h _ h₁.objs.size (by rw[hs₁.1];exact Af _) (fun b o hb hc=>?_) ?_ ?_ hTe
 .have hbe:b≠e:=fun z=>hc (by rw[z];exact BL.mpr rfl)
  rw[GC _ _ (Ne.symm hbe)]
  refine⟨fun hn=>AD _ ((hs₁.2.1 b hn).trans hb),?_⟩
  obtain⟨sl,q⟩:=hs₁.2.2 b o hb
  exact⟨sl,AD _ q⟩
 .exact⟨_,_,IZ _ he₂ (Obj.isFreed_of_fields hd₃),by rw[Obj.cls_mapFields];exact hc,by obtain⟨c0,d0,dt,sl⟩:=oe;cases dt<;>exact hdc,hd₃,by simp[hsz]⟩
 .refine⟨ob,_,?_,hobd,by simp⟩
  rw[GC _ _ (Ne.symm hTe)]
  exact C7 h₁ nf
theorem OG {base:Heap}{env:Env}{outer:List Env}{L e:Addr}{C:Value}{d:Option Addr}{Q:Unit->Shared->Prop}
  (hfr:A.frames=some (env::outer)) (hl:s.heap.FunFrames base (env::outer)) (hf:env.frame=some L) (hx:Cg s.heap e C d .none)
  (h:∀h' T,s.heap.objs.size<=T->EC ((env::outer).filterMap (·.frame)) [e] s.heap h'->Cg h' e C d (.ref T)->Gx h' T (rawInt L)->T≠e->Q () {s with heap:=h'}) :
  wpAny M A (noteFrame (.ref e) env) Q E s:=by
 obtain⟨oe,vs,he,hc,hdc,hd,h1⟩:=id hx
 unfold noteFrame
 simp only[hf]
 refine A9 (DQ he hd h1 ?_)
 rw[Al (by decide)]
 exact Qa hfr hl hf hx h
theorem WM {base:Heap}{env:Env}{outer:List Env}{L e T0:Addr}{C:Value}{d:Option Addr}{Q:Unit->Shared->Prop}
  (hfr:A.frames=some (env::outer)) (hl:s.heap.FunFrames base (env::outer)) (hf:env.frame=some L) (hx:Cg s.heap e C d (.ref T0)) (ht:Gx s.heap T0 .none) (hne:T0≠e)
  (h:∀h' T,s.heap.objs.size<=T->EC ((env::outer).filterMap (·.frame)) [e,T0] s.heap h'->Cg h' e C d (.ref T)->Gx h' T (rawInt L)->T≠e->Q () {s with heap:=h'}) :
  wpAny M A (noteFrame (.ref e) env) Q E s:=by
 obtain⟨oe,vs,he,hc,hdc,hd,h1⟩:=id hx
 obtain⟨oT,ts,hT,hdT,h3⟩:=ht
 unfold noteFrame
 simp only[hf]
 refine A9 (DQ he hd h1 ?_)
 rw[Ap (show(Value.ref T0 != Value.none)=true from by simp)]
 refine A9 (DQ hT hdT h3 ?_)
 rw[Al (show ¬((Value.none==rawInt L)=true) from by simp[rawInt])]
 refine A9 (MW hT hdT (MQ.mp h3).1 ?_)
 have other:∀b,b≠T0->(s.heap.update T0 (Obj.mapFields (·.setIfInBounds 3 Value.none))).get? b=s.heap.get? b:=fun b hb=>GC _ _ (Ne.symm hb)
 have hTf:=Rv hl hT hdT
 refine Qa (s:={s with heap:=s.heap.update T0 (Obj.mapFields (·.setIfInBounds 3 Value.none))}) hfr (hl.of_keeps fun b o hb hnf=>⟨o,(other b fun q=>by rw[q,hT]at hb;cases hb;exact hnf ts hdT).trans hb,rfl⟩) hf ⟨oe,vs,(other e (Ne.symm hne)).trans he,hc,hdc,hd,h1⟩ fun h' T hT0 hb hx' ht' hTe=>?_
 have hTn:s.heap.objs.size<=T:=by simpa[Heap.size_update] using hT0
 refine h h' T hTn (fun b o q hc=>?_) hx' ht' hTe
 have hbe:b∉[e]:=fun z=>hc (AZ.mpr (.inl (BL.mp z)))
 have hbT:b≠T0:=fun z=>hc (by rw[z];exact Cd _ Cz)
 exact hb b o ((other b hbT).trans q) hbe
theorem Mr {e T:Addr}{C:Value}{d:Option Addr}{fl:Value}{Q:Unit->Shared->Prop}(hx:Cg s.heap e C d (.ref T))(ht:Gx s.heap T fl)(hne:T≠e)
  (h:∀h',EC [] [T] s.heap h'->Cg h' e C d (.ref T)->Gx h' T .none->Q () {s with heap:=h'}):wpAny M A (setFlight (.ref e) none) Q E s:=by
 obtain⟨oe,vs,he,hc,hdc,hd,h1⟩:=id hx
 obtain⟨oT,ts,hT,hdT,h3⟩:=ht
 have hsz:3<ts.size:=(MQ.mp h3).1
 have other:∀b,b≠T->(s.heap.update T (Obj.mapFields (·.setIfInBounds 3 Value.none))).get? b=s.heap.get? b:=fun b hb=>GC _ _ (Ne.symm hb)
 refine wpAny_setFlight_none he hd h1 hT hdT hsz (h _ (fun b o q hc=>?_) ⟨oe,vs,(other e (Ne.symm hne)).trans he,hc,hdc,hd,h1⟩ ⟨_,_,IZ _ hT (Obj.isFreed_of_fields (Obj.data_mapFields hdT _)),Obj.data_mapFields hdT _,by simp[hsz]⟩)
 have hbT:b≠T:=fun z=>hc (by rw[z];exact Cz)
 exact⟨fun _=>(other b hbT).trans q,o.slots,(other b hbT).trans q⟩
theorem SU {e:Addr}{C:Value}{d:Option Addr}{Q:Unit->Shared->Prop}(hx:Cg s.heap e C d .none)(h:Q () s):wpAny M A (setFlight (.ref e) none) Q E s:=by
 obtain⟨oe,vs,he,hc,hdc,hd,h1⟩:=id hx
 unfold setFlight
 refine A9 (DQ he hd h1 ?_)
 rw[Al (by decide)]
 exact AA h
end
end EX
namespace EX
open PySem PySem.Spec PyProof.Rows
def JH (h:Heap)(C:Addr)(bm:List Value):Prop := ∃nm q N bs hdct sn sub ab col dd k0 k1 k2 k3 k5 newId,h.get? C=some (excClassObj nm q C N bs bm hdct sn sub ab col dd k0 k1 k2 k3 k5 newId)
section
variable {M:Model}{A:Around}{E:Value->Shared->Prop}{s:Shared}{env:Env}
theorem UE {x:Sem Value}{Q:Flow->Shared->Prop}(hh:A.handled=none)
  (h:wpAny M A x (fun v s₁=>∃e d C bm,v = .ref e/\JH s₁.heap C bm/\bm.contains (.type "BaseException")=true/\Cg s₁.heap e (.ref C) d .none/\E (.ref e) s₁) E s) :
  wpAny M A (raiseStmt env (some x) none) Q E s:=by
 unfold raiseStmt
 refine A9 (CN h (fun v s₁ h₁=>?_) fun _ _ x=>x)
 obtain⟨e,d,C,bm,rfl,⟨nm,q,N,bs,hdct,sn,sub,ab,col,dd,k0,k1,k2,k3,k5,newId,hC⟩,hbase,hx,hE⟩:=h₁
 have hcB:(Value.ref C::bm).contains (.type "BaseException")=true:=by rw[List.contains_cons,hbase,Bool.or_true]
 obtain⟨⟨c0,d0,dt,sl⟩,vs,he,hc,hdc,hd,h1⟩:=id hx
 obtain rfl:c0 = .ref C:=hc
 obtain rfl:dt = .fields vs:=hd
 obtain⟨hp,g,dr,tk,os⟩:=s₁
 repeat (first|with_reducible refine Jg he ?_|with_reducible refine Jg hC ?_|(with_reducible refine OD hC ?_;rw[hcB])|(refine A9 (SU hx ?_))|wp_step)
 exact wpAny_raiseNew_none hh hE
theorem Va {e:Expr}{pos:Pos}{Q:Flow->Shared->Prop}(hh:A.handled=none)
  (h:wpAny M A (eval e env) (fun v s₁=>∃a d C bm,v = .ref a/\JH s₁.heap C bm/\bm.contains (.type "BaseException")=true/\Cg s₁.heap a (.ref C) d .none/\E (.ref a) s₁) E s) :
  wpAny M A (exec (.Raise (some e) none pos) env) Q E s:=by
 rw[arm_exec_Raise]
 simp only[evalOpt,Option.map]
 refine A9 (Ja (UE hh (A9 (CN h (fun v s₁ h₁=>A9 (Ja (AA h₁))) fun _ _ x=>x))))
theorem TQ {h:Heap}{g:Array GenState}{dr:Drawn}{t:Nat}{os:OsState}{e C D:Addr}{bm bd:List Value}{d:Option Addr}{tb:Value}{Q:Bool->Shared->Prop}
  (kC:JH h C bm) (kD:JH h D bd) (hD:bd.contains (.type "BaseException")=true) (hx:Cg h e (.ref C) d tb)
  (hq:Q ((Value.ref C::bm).contains (.ref D)) ⟨h,g,dr,t,os⟩):wpAny M A (excMatches (.ref e) (.ref D)) Q E ⟨h,g,dr,t,os⟩:=by
 obtain⟨nm,q,N,bs,hdct,sn,sub,ab,col,dd,k0,k1,k2,k3,k5,newId,hC⟩:=kC
 obtain⟨nm',q',N',bs',hdct',sn',sub',ab',col',dd',k0',k1',k2',k3',k5',newId',hDc⟩:=kD
 obtain⟨oe,vs,he,hcls,hdc,hd,h1⟩:=hx
 have hcB:(Value.ref D::bd).contains (.type "BaseException")=true:=by rw[List.contains_cons,hD,Bool.or_true]
 have f:=tc_notTuple
 unfold excMatches
 generalize hb:(Value.ref C::bm).contains (.ref D)=b at hq
 repeat (any_goals (first|assumption|(with_reducible refine Jg he ?_;rw[hcls])|with_reducible refine Jg hDc ?_|(with_reducible refine OD hDc ?_;rw[hcB])|(with_reducible refine OD hC ?_;rw[hb])|wp_step))
 cases b<;>(wp_walk;exact hq)
end
end EX
namespace EX
open PySem PySem.Spec PySem.Calls PyProof.Rows
def Y5 (x:Addr)(R:Result->Shared->Prop)(r:Result)(s':Shared):Prop:=match r with
 |.ok (.ret v)=>v = .none/\R (.ok (.ret (.ref x))) s'
 |.ok _=>False
 |.error e=>R (.error e) s'
abbrev Hg (C t:Addr):Obj:={cls:=.ref C,data:=.fields #[.ref t,.none,.none,.none,.bool false,.none]}
abbrev IR (vs:List Value):Obj:={cls:=.type "tuple",data:=.seq vs.toArray}
section
variable {prog:Program}{w:World}{A:Around}{h:Heap}{g:Array GenState}{d:Drawn}{t:Nat}{os:OsState}{R:Result->Shared->Prop}
variable {nm q:Str}{C N:Addr}{bs bm bmB:List Value}{hdct:Bool}{sn:List Str}{sub:List Value}{ab:Bool}{col:Option Bool}{dd:Option Addr}{k0 k1 k2 k3 k5:Option Value}{B newId initId:String}
end
end EX
namespace EX
open PySem PySem.Spec PySem.Calls PyProof.Rows PySem.W PySem.Builtin PySem.Builtin.ObjectAttr
section
variable {prog:Program}{w:World}{A:Around}{E:Value->Shared->Prop}{s:Shared}{K:Frag}{x C:Addr}{ox:Obj}{od:Option Obj}{name:Str}{expr:Bool}
abbrev bmVE:List Value:=[.type "ValueError",.type "Exception",.type "BaseException",.type "object"]
noncomputable def N1:List Value->List Value
 |.ref _::r=>N1 r
 |l=>l
theorem R6 (self:Value):∀{l:List Value},N1 l=bmVE->refuseLoop self "__setattr__" l=pure ()
 |[],e=>by cases e
 |.ref c::r,e=>by rw[refuseLoop_ref];exact R6 self (l:=r) e
 |.type n::r,e=>by rw[show Value.type n::r=bmVE from e];exact F.store_ValueError.passes self
 |.none::r,e=>by cases e
 |.bool _::r,e=>by cases e
 |.int _ _::r,e=>by cases e
 |.float _ _::r,e=>by cases e
 |.str _ _::r,e=>by cases e
 |.bytes _ _::r,e=>by cases e
 |.builtin _::r,e=>by cases e
noncomputable def mroTail (K:Frag)(C:Addr):Bool:=(clsIn K C).any fun cd=>N1 cd.mro==bmVE
def ClsT (h:Heap)(C N:Addr)(bm:List Value):Prop := ∃nm q bs hdct sn sub ab col dd k0 k1 k2 k3 k5,h.get? C=some (excClassObj nm q C N bs bm hdct sn sub ab col dd k0 k1 k2 k3 k5 "ValueError.__new__")/\OwnTail h bmVE bm
theorem ClsT.at {h:Heap}{C N:Addr}{bm:List Value}(x:ClsT h C N bm):JH h C bm:=by
 obtain⟨nm,q,bs,hdct,sn,sub,ab,col,dd,k0,k1,k2,k3,k5,e,_⟩:=x
 exact⟨nm,q,N,bs,hdct,sn,sub,ab,col,dd,k0,k1,k2,k3,k5,_,e⟩
structure XC (K:Frag)(C:Addr):Prop where
 ga:findIn K (.ref C) "__getattribute__"=some (some (.builtin "BaseException.__getattribute__"))
 gh:findIn K (.ref C) "__getattr__"=some none
 be:mroIn K C (.type "BaseException")=some true
 sa:findIn K (.ref C) "__setattr__"=some (some (.builtin "object.__setattr__"))
 hd:hasDictIn K C=true
 mt:mroTail K C=true
 ob:mroIn K C (.type "object")=some true
 ct:∃N bm,∀h,K.In h->ClsT h C N bm
theorem VB {v:Value}{Q:Unit->Shared->Prop}(X:K.In s.heap)(hx:s.heap.get? x=some ox)(hcl:ox.cls = .ref C)(hno:notCls ox=true)(hdn:ox.dict=none)(c:XC K C)(ha:findIn K (.ref C) name=some none)
  (hq:∀h' tk',(∀b o,b≠x->s.heap.get? b=some o->h'.get? b=some o)->h'.get? x=some {cls:=ox.cls,dict:=some s.heap.objs.size,data:=ox.data,slots:=ox.slots}->h'.Ns1 s.heap.objs.size (fun y=>if y=name then some v else none)->
   Q () {s with heap:=h',toks:=tk'}):wpAny (model prog w) A (setAttr (.ref x) name v) Q E s:=by
 obtain⟨h,g,d,t,os⟩:=s
 have I:InstAt h x ox C none:=⟨hx,hcl,hno,by rw[hdn];exact True.intro⟩
 have SF:=F.store_ValueError
 have L0:=I.type (M:=model prog w)
 have L1:=looks_findIn (M:=model prog w) X c.sa
 have L2:=looks_findIn (M:=model prog w) X ha
 obtain⟨cd,hc,ho⟩:=any_some c.mt
 obtain⟨cd',hc',hd'⟩:=any_some c.hd
 obtain rfl:cd=cd':=Ck (hc.symm.trans hc')
 have hm:Looks (model prog w) h (mroOf (.ref C)) cd.mro:=(looks_clsIn X hc).andThen .now
 have sub:Looks (model prog w) h (isInstance (.ref x) (.type "object")) true:=L0.andThen (looks_mroIn X c.ob)
 unfold setAttr callSpecial? specialOf
 refine A9 (wpAny_mkText (A9 (A9 (A9 (L0.at (L1.at ?_))))))
 refine Er ?_
 rw[SF.slot.bind]
 refine A9 (AA (A9 ?_))
 refine Jd (Sg SF.slot.plain SF.entry (@check_slot (model prog w) _ _ ⟨h,g,d,t+1,os⟩ "object.__setattr__" "object" "__setattr__" (.ref x) [.str name t,v] [] _ SF.kind SF.split sub (SF.args (.ref x) (.str name t) v) ?_))
 show wpAny _ _ (Builtin.«object.__setattr__» ⟨[.ref x,.str name t,v],[]⟩) _ _ _
 rw[osa_eq,refuse_eq]
 refine A9 (A9 (L0.at (A9 (hm.at ?_))))
 rw[R6 _ (GI.mp ho)]
 refine AA (A9 (L0.at (A9 (L2.at (A9 (AA ?_))))))
 dsimp only
 obtain⟨oc,odi,oda,osl⟩:=ox
 obtain rfl:oc = .ref C:=hcl
 obtain rfl:odi=none:=hdn
 have hx:h.get? x=some ⟨.ref C,none,oda,osl⟩:=hx
 unfold storeInOwnDict
 refine A9 (AA ?_)
 rw[Al (by simp)]
 refine A9 ?_
 unfold ownDictForStores instanceDict
 refine A9 (wpAny_loadPart hx ?_)
 dsimp only
 refine A9 ((looks_clsIn X hc).at ?_)
 rw[hd']
 simp only[Bool.not_true,RY,KI]
 rw[Al (by simp[typeHasDict])]
 have hx₁:(h.push {cls:=.type "dict",data:=.dict #[]}).get? x=some ⟨.ref C,none,oda,osl⟩:=AD _ hx
 have hxs:x≠h.objs.size:=AV (AG hx)
 have fin:wpAny (model prog w) A.in1 (storeInDict h.objs.size (.str name t) name v) (fun fin s'=>match fin with
   |Fin.done (Flow.ret _)=>Q () s'
   |_=>False) (fun e s'=>E e s') ⟨(h.push {cls:=.type "dict",data:=.dict #[]}).update x fun o=>{cls:=o.cls,dict:=some h.objs.size,data:=o.data,slots:=o.slots},g,d,t+1,os⟩:=by
  have hgd:((h.push {cls:=.type "dict",data:=.dict #[]}).update x fun o=>{cls:=o.cls,dict:=some h.objs.size,data:=o.data,slots:=o.slots}).get? h.objs.size=some {cls:=.type "dict",data:=.dict #[]}:=
   (Heap.get?_update_ne _ _ _ _ hxs.symm).trans (Heap.get?_push_at rfl rfl)
  have hnd:((h.push {cls:=.type "dict",data:=.dict #[]}).update x fun o=>{cls:=o.cls,dict:=some h.objs.size,data:=o.data,slots:=o.slots}).Ns h.objs.size (fun _=>none):=
   ⟨_,#[],_,hgd,rfl,fun e he=>absurd he (by simp),fun _=>rfl⟩
  unfold storeInDict newKeyGuard
  refine A9 (AA (A9 (wpAny_nsSet1 (Heap.Ns1.of_empty hnd) fun h' hn' hs=>?_)))
  obtain⟨oD,esD,epD,hoD,hdD,hcD⟩:=hn'.count (Within.cons name v Within.nil)
  refine A9 (wpAny_lookBehind hoD (by rw[hdD];exact pastItsLine_dict (CL hcD (by rw[BH,G4,Hz];lia))) ?_)
  refine AA (hq h' _ (fun b ob hbx hb=>(hs.2 b (AV (AG hb))).trans ((Heap.get?_update_ne _ _ _ _ hbx).trans (AD _ hb))) ?_ hn')
  refine(hs.2 x hxs).trans (IZ _ hx₁ ?_)
  have hfr:=(Heap.get?_some_iff.mp hx).2
  cases oda<;>first|rfl|exact hfr
 have fin2:=CN fin (Q':=fun fin s'=>match fin with
   |
    Fin.done f=>(match (Except.ok f:Result) with
    |Except.ok (Flow.ret v)=>wpAny (model prog w) A (pure (some v)) (fun a s'=>wpAny (model prog w) A (match a with|some val=>pure PUnit.unit|x=>unsupported "internal:no-__setattr__") Q E s') E s'
    |Except.ok a=>False
    |Except.error e=>E e s')
   |
    Fin.again c'=>c'.quiet=true/\codeAny (model prog w) A c' (fun r s'=>match r with
    |Except.ok (Flow.ret v)=>wpAny (model prog w) A (pure (some v)) (fun a s'=>wpAny (model prog w) A (match a with|some val=>pure PUnit.unit|x=>unsupported "internal:no-__setattr__") Q E s') E s'
    |Except.ok a=>False
    |Except.error e=>E e s') s') (fun fin s' z=>by
  rcases fin with(_|_|_|_)|_<;>first|exact AA (AA z)|exact z.elim) fun _ _ z=>z
 have hno':∀c,oda≠.cls c:=fun c z=>by rw[z]at hno;cases hno
 split
 .exact absurd rfl (hno' _)
 .refine A9 (wpAny_alloc' ?_)
  refine A9 (wpAny_update' hx₁ ?_)
  refine AA ?_
  exact fin2
theorem bh {v:Value}{vs:Array Value}{R:Result->Shared->Prop}(X:K.In s.heap)(hx:s.heap.get? x=some ox)(hcl:ox.cls = .ref C)(hd:ox.data = .fields vs){t0:Addr}(h0:vs[0]?=some (.ref t0))(c:XC K C)
  (hq:∀h',(∀b o,b≠x->s.heap.get? b=some o->h'.get? b=some o)->h'.get? x=some {cls:=ox.cls,dict:=ox.dict,data:=.fields (vs.setIfInBounds 0 (.ref s.heap.objs.size)),slots:=ox.slots}->R (.ok (.ret .none)) {s with heap:=h'}) :
  codeAny (model prog w) A (.call (.builtin "ValueError.__init__") ⟨[.ref x,v],[]⟩) R s:=by
 obtain⟨h,g,d,t,os⟩:=s
 obtain⟨oc,odi,oda,osl⟩:=ox
 obtain rfl:oc = .ref C:=hcl
 obtain rfl:oda = .fields vs:=hd
 have hx:h.get? x=some ⟨.ref C,odi,.fields vs,osl⟩:=hx
 have L0:Looks (model prog w) h (typeOf (.ref x)) (.ref C):=(Looks.ld hx).andThen .now
 obtain⟨N,bm,ct⟩:=c.ct
 obtain⟨nm,q,bs,hdct,sn,sub,ab,col,dd,k0,k1,k2,k3,k5,hC,T⟩:=ct h X
 refine Sg F.excBase_ValueError.init.plain F.excBase_ValueError.initEntry (wpAny_check_init_subT F.excBase_ValueError T hC hx rfl ?_)
 have hz:0<vs.size:=(MQ.mp h0).1
 wp_walk
 rw[h0]
 refine AA ?_
 dsimp only
 have hx1:(h.push {cls:=Value.type "tuple",data:=Data.seq #[v]}).get? x=some ⟨.ref C,odi,.fields vs,osl⟩:=AD _ hx
 refine A9 (MW hx1 rfl hz ?_)
 refine KM (AA ?_)
 refine hq _ (fun b o hb e=>?_) ?_
 .rw[GC _ _ (Ne.symm hb)]
  exact AD _ e
 .rw[IZ _ hx1 rfl]
  rfl
end
end EX
namespace EX
open PySem PySem.Spec PySem.Calls PyProof.Rows PySem.W PySem.Builtin PySem.Builtin.ObjectAttr
section
variable {prog:Program}{w:World}{A:Around}{E:Value->Shared->Prop}{s:Shared}{K:Frag}{x C:Addr}{ox:Obj}{od:Option Obj}
end
end EX
namespace EX
open PySem PySem.Spec PyProof.Rows
theorem Cg.one {h:Heap}{a:Addr}{C C':Addr}{d d':Option Addr}{t t':Value}(x:Cg h a (.ref C) d t)(y:Cg h a (.ref C') d' t'):C'=C/\d'=d:=by
 obtain⟨oe,vs,h0,h1,h2,_⟩:=x
 obtain⟨oe',vs',g0,g1,g2,_⟩:=y
 rw[h0]at g0
 cases g0
 exact⟨Value.ref.inj (g1.symm.trans h1),g2.symm.trans h2⟩
theorem EC.then {fs ch:List Addr}{h h1 h2:Heap}{T:Addr}(a:EC fs ch h h1)(hT:h.objs.size<=T)(b:EC [] [T] h1 h2):EC fs ch h h2:=fun x o e hc=>by
 obtain⟨p,sl,q⟩:=a x o e hc
 have nT:x∉[T]:=fun z=>absurd (AG e) (by rw[BL.mp z];exact Nat.not_lt.mpr hT)
 exact⟨fun hf=>(b x o (p hf) nT).1 (by simp),(b x _ q nT).2⟩
theorem Cg.there {h:Heap}{a:Addr}{C:Value}{d:Option Addr}{t:Value}(x:Cg h a C d t):∃u,h.get? a=some u:=by obtain⟨oe,_,e,_⟩:=x;exact⟨oe,e⟩
end EX
namespace L2
open PySem PySem.Spec PyProof.Rows EX
def Gv (h:Heap)(a:Addr)(C:Value)(d:Option Addr):Prop := ∃oe vs t0,h.get? a=some oe/\oe.cls=C/\oe.dict=d/\oe.data = .fields vs/\vs[0]?=some (.ref t0)/\vs[1]?=some .none
theorem Gv.at {h:Heap}{a:Addr}{C:Value}{d:Option Addr}(x:Gv h a C d):Cg h a C d .none:=by obtain⟨oe,vs,_,h0,h1,h2,h3,_,h5⟩:=x;exact⟨oe,vs,h0,h1,h2,h3,h5⟩
noncomputable def DB (a C:Addr)(d:Option Addr):HO:=.ext fun h=>Gv h a (.ref C) d
noncomputable def Dl (a C:Addr)(d:Option Addr):HO:=.ext fun h=>∃tb,Cg h a (.ref C) d tb
section
variable {P:Program}{w:World}{H:Hp}{h:Heap}{a C:Addr}{d:Option Addr}
theorem O3 (x:Gv h a (.ref C) d):BG P w H h a (DB a C d):=by
 obtain⟨oe,vs,t0,h0,h1⟩:=x
 exact⟨⟨oe,vs,t0,h0,h1⟩,⟨oe,h0⟩,fun g1 g2 ⟨oe',vs',t0',z0,z⟩ k=>⟨oe',vs',t0',k _ z0,z⟩⟩
theorem L9 {tb:Value}(x:Cg h a (.ref C) d tb):BG P w H h a (Dl a C d):=by
 obtain⟨oe,vs,h0,h1⟩:=x
 exact⟨⟨tb,oe,vs,h0,h1⟩,⟨oe,h0⟩,fun g1 g2 ⟨tb',oe',vs',z0,z⟩ k=>⟨tb',oe',vs',k _ z0,z⟩⟩
theorem K9 (x:BD P w H h)(e:H a=some (DB a C d)):Gv h a (.ref C) d:=(show BG P w H h a (DB a C d) from x a _ e).1
theorem Rt (x:BD P w H h)(e:H a=some (Dl a C d)):∃tb,Cg h a (.ref C) d tb:=(show BG P w H h a (Dl a C d) from x a _ e).1
end
theorem Nm {H:Hp}{a:Addr}{o:HO}(h:H a=some o):upd H a o=H:=by
 funext b
 unfold upd
 split
 .rename_i e;rw[e,h]
 .rfl
def Il (P:Program)(w:World):Ef:=fun outer H s E e s'=>∃(a C:Addr) (d:Option Addr) (T:Addr) (H':Hp),e = .ref a/\s'.os=s.os/\AllBare s'.gens/\Un (DK outer) [] H H' s.heap s'.heap/\BD P w H' s'.heap/\H' a=some (Dl a C d)/\
 Cg s'.heap a (.ref C) d (.ref T)/\Gx s'.heap T .none/\T≠a/\H' T=none/\s.heap.objs.size<=T/\E (.ref a) none H'
section
variable {X:Cx}{pins:List (Addr×Obj)}{σ:St}{H:Hp}{s:Shared}{a C:Addr}{d:Option Addr}
def O8 (X:Cx)(pins:List (Addr×Obj))(H:Hp)(T:Addr):Prop:=H T=none/\X.s₀.heap.objs.size<=T/\T≠X.env.locals/\(∀x c,X.env.cells.lookup x=some c->c≠T)/\∀p∈X.pn++pins,p.1≠T
theorem A2.tok_new (I:A2 X pins σ H s){T:Addr}(hT:s.heap.objs.size<=T):O8 X pins H T:=
 ⟨I.hok.fresh hT,CL I.sz hT,CM (BO I.lt hT),fun x c e z=>by
  obtain⟨v,o,ho,_⟩:=I.cell x c e
  exact absurd (AG ho) (by rw[z];exact Nat.not_lt.mpr hT),fun p hp z=>by
  have:=(I.pin p hp).1
  exact absurd (AG this) (by rw[z];exact Nat.not_lt.mpr hT)⟩
theorem A2.fly {ch:List Addr}{h':Heap}{o:HO}{φ:Heap->Prop}(I:A2 X pins σ H s)(hb:EC (DK X.stack) (a::ch) s.heap h')(ha:H a=some (.ext φ))(new:BG X.prog X.w (upd H a o) h' a o)(ho:∃u,h'.get? a=some u)
  (hch:∀b∈ch,O8 X pins H b):A2 X pins σ (upd H a o) {s with heap:=h'}:=by
 have nea:∀b,H b=none->b≠a:=fun b n z=>by rw[z,ha]at n;cases n
 have nof:∀b u,H b=some u->(∀ψ,u≠.ext ψ)->b≠a:=fun b u e n z=>by rw[z,ha]at e;cases e;exact n φ rfl
 refine I.call' (s':={s with heap:=h'}) (ch:=ch) rfl ⟨fun b ob q n hf hc=>?_,fun b ob q n hf hc=>?_,fun b ob q n hc=>?_,fun b ob q hc=>?_,fun b xs q=>?_,fun b ob u q=>?_,fun b ps q=>⟨#[],?_⟩⟩ (fun b u e=>?_) I.bare fun b hm=>?_
 .exact(hb b ob q fun z=>(AZ.mp z).elim (nea b n) hc).1 hf
 .exact(hb b ob q fun z=>(AZ.mp z).elim (nea b n) hc).2
 .rw[Ai (nea b n)];exact n
 .by_cases z:b=a
  .rw[z];exact ho
  .obtain⟨_,sl,q'⟩:=hb b ob q fun y=>(AZ.mp y).elim z hc
   exact⟨_,q'⟩
 .rw[Ai (nof b _ q fun ψ y=>by cases y)];exact q
 .rw[Ai (nof b _ q fun ψ y=>by cases y)];exact q
 .rw[Ai (nof b _ q fun ψ y=>by cases y),q];simp
 .by_cases z:b=a
  .subst z;rw[A7]at e;cases e;exact new
  .rw[Ai z]at e
   have kp:∀c v,H c≠none->c≠a->s.heap.get? c=some v->h'.get? c=some v:=fun c v n1 n2 q=>
    (hb c v q fun y=>(AZ.mp y).elim n2 fun m=>n1 (hch c m).1).1 fun m=>n1 (I.stkFree c m)
   refine(I.hok b u e).stay (fun c v hc q=>?_) (fun c q=>?_) fun c xs q=>?_
   .rcases hc with rfl|hc
    .exact kp c v (by rw[e];simp) z q
    .exact kp c v (by rw[hc];simp) (nof c _ hc fun ψ y=>by cases y) q
   .rw[Ai (nof c _ q fun ψ y=>by cases y)];exact q
   .rw[Ai (nof c _ q fun ψ y=>by cases y)];exact q
 .obtain⟨_,h2,h3,h4,h5⟩:=hch b hm
  exact⟨.inr h2,h3,h4,h5⟩
end
section
variable {X:Cx}
def NJ (X:Cx)(Ek:St->XK):Prop := ∀(pins:List (Addr×Obj)) (σ:St) (H:Hp) (s:Shared) (a C:Addr) (d:Option Addr),A2 X pins σ H s->H a=some (DB a C d)->Ek σ (.ref a) none (upd H a (Dl a C d))->X.xe (.ref a) s
def Qh (X:Cx)(Ek:St->XK):Prop := ∀(pins:List (Addr×Obj)) (σ:St) (H:Hp) (s:Shared) (e:Value) (s':Shared),A2 X pins σ H s->Il X.prog X.w X.stack H s (Ek σ) e s'->X.xe e s'
variable {P:Program}{w:World}{K:Faa}{mg:Str->Option Value}{base:Heap}{N:List Str}{qual:Str}{scope:Scope}{f:Addr}{cd:Value}{A:Around}{outer:List Env}{s₀:Shared}{H₀:Hp}{E:XK}
theorem Xi:NJ (Gm (Il P w) P w K mg base N qual scope f cd A outer s₀ H₀ E) (fun _=>E):=by
 intro pins σ H s a C d I ha hE
 have x:=K9 I.hok ha
 show wpAny _ _ (leaving _ (.ref a)) _ _ s
 unfold leaving
 refine A9 (OG (base:=base) (L:=s₀.heap.objs.size) I.ok.frames I.stack rfl x.at fun h1 T hT b1 x1 t1 ne=>?_)
 refine Mr (s:={s with heap:=h1}) x1 t1 ne fun h2 b2 x2 t2=>?_
 have J:=I.fly (o:=Dl a C d) (ch:=[]) (h':=h2) (b1.then hT b2) ha (L9 x2) x2.there (fun b z=>absurd z (by simp))
 exact⟨a,C,d,T,_,rfl,J.os,J.bare,J.base,J.hok,A7,x2,t2,ne,by rw[Ai ne];exact I.hok.fresh hT,CL I.sz hT,hE⟩
end
section
variable {P:Program}{w:World}{K:Faa}{mg:Str->Option Value}{base:Heap}
theorem AW.okX {x qual:Str}{st:Stmt}{f:Addr}{fd:FuncData}{N ps:List Str}{k:Nat}{sp:Sp}(F:AW K x qual st f fd)(S:B7 N ps (AI st))(len:∀vs H Q E,sp vs H Q E->vs.length=ps.length)
  (hbody:∀(cdv:Value) (A:Around) (outer:List Env) (s:Shared) (H:Hp) (vs:List V) (Q:VK) (E:XK),C9 k (A.deeper (envOfC qual (AI st) s.heap.objs.size f cdv))->sp vs H Q E->
   ∃t,DC (Gm (Il P w) P w K mg base N qual (AI st) f cdv A outer s H E) (GT st) t/\t {nx:=fun _ H'=>Q .non H',rt:=Q} (start N vs) H):AS P w K mg base (Il P w) (k+1) f fd ps sp:=by
 obtain⟨oc,od,kV,doc,pm,an,cdv,ct,osl,rfl,lk,hcd⟩:=F.ex
 exact Pa lk hcd S len fun A outer s H vs Q E hr hsp=>hbody cdv A outer s H vs Q E hr hsp
end
section
variable {X:Cx}{Ek:St->XK}{e:Expr}{te:TE}{pos:Pos}
def So (K:Faa)(Ek:St->XK)(te:TE):TS:=fun _ σ H=>te σ H fun v H1=>∃a C d,v = .ref a/\H1 a=some (DB a C d)/\XC K C/\Ek σ (.ref a) none (upd H1 a (Dl a C d))
theorem Vx (hc:X.calm=true)(hr:NJ X Ek)(he:PE X e te):PS X (.Raise (some e) none pos) (So X.K Ek te):=by
 intro pins s σ H D I h
 refine Va (I.ok.hd hc) (Az (he pins s σ H _ I h) fun u s1 q=>?_)
 obtain⟨v,H1,I1,r,a,C,d,rfl,ha,xc,q⟩:=q
 obtain rfl:u = .ref a:=r
 obtain⟨N,bm,ct⟩:=xc.ct
 have c1:=ct _ I1.kIn
 obtain⟨_,_,_,_,_,_,_,_,_,_,_,_,_,_,_,T⟩:=id c1
 exact⟨a,d,C,bm,rfl,c1.at,T.hasType (by decide),(K9 I1.hok ha).at,hr pins σ H1 s1 a C d I1 ha q⟩
end
end L2
namespace EX
open PySem PySem.Spec PyProof.Rows
theorem ClsT.base {h:Heap}{C N:Addr}{bm:List Value}(x:ClsT h C N bm):bm.contains (.type "BaseException")=true:=by
 obtain⟨_,_,_,_,_,_,_,_,_,_,_,_,_,_,_,T⟩:=x
 exact T.hasType (by decide)
end EX
namespace L2
open PySem PySem.Spec PyProof.Rows EX
abbrev Cx.tried (X:Cx)(pn:List (Addr×Obj))(xe:Value->Shared->Prop):Cx:={X with pn:=pn,xe:=xe}
abbrev Cx.held (X:Cx)(a:Addr):Cx:={X with A:=X.A.mark (some (.ref a)),calm:=false,xe:=fun _ _=>False}
section
variable {X:Cx}{pins pins':List (Addr×Obj)}{σ:St}{H:Hp}{s:Shared}{a:Addr}{xe:Value->Shared->Prop}{pn:List (Addr×Obj)}
theorem Cx.Ok.tried (ok:X.Ok):(X.tried pn xe).Ok:=⟨ok.mod,ok.kind,ok.glob,ok.blt,ok.above,ok.inj,ok.has,ok.cab,ok.hd,ok.frames,ok.stk,ok.exf,ok.bs,ok.bsz,ok.noex,ok.exfs,ok.funs,ok.frf⟩
theorem Cx.Ok.untried (ok:(X.tried pn xe).Ok):X.Ok:=⟨ok.mod,ok.kind,ok.glob,ok.blt,ok.above,ok.inj,ok.has,ok.cab,ok.hd,ok.frames,ok.stk,ok.exf,ok.bs,ok.bsz,ok.noex,ok.exfs,ok.funs,ok.frf⟩
theorem Cx.Ok.held (ok:X.Ok):(X.held a).Ok:=⟨ok.mod,ok.kind,ok.glob,ok.blt,ok.above,ok.inj,ok.has,ok.cab,(fun z=>nomatch z),ok.frames,ok.stk,ok.exf,ok.bs,ok.bsz,ok.noex,ok.exfs,ok.funs,ok.frf⟩
theorem A2.tried (I:A2 X pins σ H s):A2 (X.tried (X.pn++pins) xe) [] σ H s:=⟨I.ok.tried,I.os,I.bare,I.base,I.loc,I.cell,I.free,I.freeC,fun p hp=>I.pin p (by simpa using hp),I.hok,I.len⟩
theorem A2.untried (I:A2 (X.tried (X.pn++pins) xe) pins' σ H s):A2 X pins σ H s:=⟨I.ok.untried,I.os,I.bare,I.base,I.loc,I.cell,I.free,I.freeC,fun p hp=>I.pin p (DN _ hp),I.hok,I.len⟩
theorem A2.held (I:A2 X pins σ H s):A2 (X.held a) pins σ H s:=⟨I.ok.held,I.os,I.bare,I.base,I.loc,I.cell,I.free,I.freeC,I.pin,I.hok,I.len⟩
theorem A2.unheld (ok:X.Ok)(I:A2 (X.held a) pins σ H s):A2 X pins σ H s:=⟨ok,I.os,I.bare,I.base,I.loc,I.cell,I.free,I.freeC,I.pin,I.hok,I.len⟩
theorem SP.untried {D:CC}{f:Flow}{s':Shared}(h:SP (X.tried (X.pn++pins) xe) pins' D f s'):SP X pins D f s':=by
 cases f with
 |next=>obtain⟨σ',H',I,q⟩:=h;exact⟨σ',H',I.untried,q⟩
 |brk=>obtain⟨σ',H',I,q⟩:=h;exact⟨σ',H',I.untried,q⟩
 |cont=>obtain⟨σ',H',I,q⟩:=h;exact⟨σ',H',I.untried,q⟩
 |ret u=>obtain⟨v,σ',H',I,r,q⟩:=h;exact⟨v,σ',H',I.untried,r,q⟩
theorem SP.unheld (ok:X.Ok){D:CC}{f:Flow}{s':Shared}(h:SP (X.held a) pins D f s'):SP X pins D f s':=by
 cases f with
 |next=>obtain⟨σ',H',I,q⟩:=h;exact⟨σ',H',I.unheld ok,q⟩
 |brk=>obtain⟨σ',H',I,q⟩:=h;exact⟨σ',H',I.unheld ok,q⟩
 |cont=>obtain⟨σ',H',I,q⟩:=h;exact⟨σ',H',I.unheld ok,q⟩
 |ret u=>obtain⟨v,σ',H',I,r,q⟩:=h;exact⟨v,σ',H',I.unheld ok,r,q⟩
end
def PH (X:Cx)(hs:List ExceptHandler)(th:Addr->Addr->Option Addr->TS):Prop:=
 ∀(pins:List (Addr×Obj)) (s:Shared) (σ:St) (H:Hp) (D:CC) (a C:Addr) (d:Option Addr) (T:Addr),A2 X pins σ H s->H a=some (Dl a C d)->Cg s.heap a (.ref C) d (.ref T)->Gx s.heap T .none->T≠a->O8 X pins H T->
  th a C d D σ H->wpAny (model X.prog X.w) X.A (handleBy (.ref a) X.env hs) (SP X pins D) X.xe s
def Tq (K:Faa)(Dc:Addr)(ts:Addr->TS)(th:Addr->Addr->Option Addr->TS):Addr->Addr->Option Addr->TS:=fun a C d D σ H=>
 ∃N bm b,(∀h,K.In h->ClsT h C N bm)/\(Value.ref C::bm).contains (.ref Dc)=b/\if b=true then ts a D σ H else th a C d D σ H
section
variable {X:Cx}{x n:Str}{np pos:Pos}{Dc:Addr}{b₀:Stmt}{suite:List Stmt}{rest:List ExceptHandler}{ts:Addr->TS}{th:Addr->Addr->Option Addr->TS}
theorem Uq (hg:Gl X x)(hm:X.mg x=some (.ref Dc))(xd:XC X.K Dc)(hs:∀a,DC (X.held a) (b₀::suite) (ts a))(hr:PH X rest th)(hdb:(x==("__debug__":Str))=false:=by decide) :
  PH X (.ExceptHandler (some (.Name x np)) none (b₀::suite) pos::rest) (Tq X.K Dc ts th):=by
 intro pins s σ H D a C d T I ha hx ht hne hT h
 obtain⟨N,bm,b,ct,hb,h⟩:=h
 obtain⟨N',bd,cd⟩:=xd.ct
 have I':A2 (X.held a) pins σ H s:=I.held
 refine wpAny_handleBy_cons (codeAny_handlers_test (II I' hg hm ?_ hdb)) (by intro q;cases q)
 obtain⟨hp,g,dr,t,os⟩:=s
 refine TQ (ct hp I.kIn).at (cd hp I.kIn).at (cd hp I.kIn).base hx ?_
 rw[hb]
 cases b with
 |
  false=>
  rw[Al (by simp)]at h
  exact hr pins _ σ H D a C d T I ha hx ht hne hT h
 |
  true=>
  rw[Ap rfl]at h
  refine codeAny_handlers_suite (Mr hx ht hne fun h2 b2 x2 t2=>?_)
  have J:=I.fly (o:=Dl a C d) (ch:=[T]) (h':=h2) (b2.mono (fun b z=>by cases z) fun b z=>Cd _ z) ha (L9 x2) x2.there (fun b z=>by rw[BL.mp z];exact hT)
  rw[Nm ha]at J
  exact CN (hs a pins _ σ H D J.held h) (fun f s2 q=>q.unheld I.ok) fun _ _ z=>z.elim
end
def XS (tb:(St->XK)->TS)(th:Addr->Addr->Option Addr->TS):TS:=fun D σ H=>tb (fun σ' v _ H'=>∃a C d,v = .ref a/\H' a=some (Dl a C d)/\th a C d D σ' H') D σ H
theorem TJ {X:Cx}{body:List Stmt}{h₀:ExceptHandler}{hs:List ExceptHandler}{pos:Pos}{tb:(St->XK)->TS}{th:Addr->Addr->Option Addr->TS}
  (hb:∀pn xe Ek,Qh (X.tried pn xe) Ek->NJ (X.tried pn xe) Ek->DC (X.tried pn xe) body (tb Ek)) (hh:PH X (h₀::hs) th) (hst:X.stack=X.env::X.outer:=by rfl) (hfr:X.env.frame=some X.env.locals:=by rfl) :
  PS X (.Try body (h₀::hs) [] [] pos) (XS tb th):=by
 intro pins s σ H D I h
 rw[arm_exec_Try]
 refine A9 (Ja (wpAny_tryStmt_except ?_))
 refine CN (hb (X.pn++pins) (fun e s₁=>wpAny (model X.prog X.w) X.A (noteFrame e X.env) (fun _ s₂=>wpAny (model X.prog X.w) X.A (setFlight e none) (fun _ s₃=>wpAny (model X.prog X.w) X.A (handleBy e X.env (h₀::hs)) (SP X pins D) X.xe s₃) X.xe s₂) X.xe s₁)
  (fun σ' v _ H'=>∃a C d,v = .ref a/\H' a=some (Dl a C d)/\th a C d D σ' H') ?_ ?_ [] s σ H D I.tried h) (fun f s1 q=>?_) (fun _ _ z=>z)
 .intro pins' σ' H1 s1 e s' I1 hc
  obtain⟨a,C,d,T0,H',rfl,os,bare,un,hok,ha,x0,t0,ne0,hT0,sT0,a',C',d',ea,ha',hth⟩:=hc
  obtain rfl:a=a':=Value.ref.inj ea
  have J1:A2 X pins σ' H1 s1:=I1.untried
  have J:=J1.call' (ch:=[]) os un hok bare (fun b z=>absurd z (by simp))
  obtain⟨tb',y⟩:=Rt J.hok ha'
  obtain⟨rfl,rfl⟩:=Cg.one x0 y
  have tk:=J1.tok_new sT0
  refine WM (base:=X.base) (L:=X.env.locals) (env:=X.env) (outer:=X.outer) (by rw[←hst];exact J.ok.frames) (by rw[←hst];exact J.stack) hfr x0 t0 ne0 fun h1 T hT b1 x1 t1 ne=>?_
  refine Mr (s:={s' with heap:=h1}) x1 t1 ne fun h2 b2 x2 t2=>?_
  rw[←hst]at b1
  have J2:=J.fly (o:=Dl a C' d') (ch:=[T0]) (h':=h2) (b1.then hT b2) ha (L9 x2) x2.there (fun b z=>by rw[BL.mp z];exact⟨hT0,tk.2⟩)
  rw[Nm ha]at J2
  exact hh pins _ σ' H' D a C' d' T J2 ha x2 t2 ne (J.tok_new hT) hth
 .intro pins' σ' H1 s1 a C d I1 ha hE
  obtain⟨a',C',d',ea,ha',hth⟩:=hE
  obtain rfl:a=a':=Value.ref.inj ea
  have J:A2 X pins σ' H1 s1:=I1.untried
  have x:=K9 J.hok ha
  refine OG (base:=X.base) (L:=X.env.locals) (env:=X.env) (outer:=X.outer) (by rw[←hst];exact J.ok.frames) (by rw[←hst];exact J.stack) hfr x.at fun h1 T hT b1 x1 t1 ne=>?_
  refine Mr (s:={s1 with heap:=h1}) x1 t1 ne fun h2 b2 x2 t2=>?_
  rw[←hst]at b1
  have J2:=J.fly (o:=Dl a C d) (ch:=[]) (h':=h2) (b1.then hT b2) ha (L9 x2) x2.there (fun b z=>absurd z (by simp))
  obtain⟨tb',y⟩:=Rt J2.hok ha'
  obtain⟨rfl,rfl⟩:=Cg.one x2 y
  have tk:=J.tok_new hT
  exact hh pins _ σ' _ D a C' d' T J2 ha' x2 t2 ne ⟨by rw[Ai ne];exact tk.1,tk.2⟩ hth
 .have q:=q.untried
  cases f with
  |next=>exact MS q
  |_=>exact q
section
variable {X:Cx}{k:Nat}{f C:Addr}{fd:FuncData}{ps:List Str}{sp:Sp}{dvs:List V}{ds:List Value}{Ek:St->XK}{x:Str}{p pos:Pos}{e:Expr}{es:List Expr}{t:TA}
def Yl (sp:Sp)(dvs:List V)(Ek:St->XK)(t:TA):TE:=fun σ H Q=>t σ H fun vs H1=>sp (vs++dvs) H1 Q (Ek σ)
theorem QZ (F:AS X.prog X.w X.K X.mg X.base (Il X.prog X.w) k f fd ps sp)(hr:C9 k X.A)(hg:Gl X x)(hm:X.mg x=some (.ref f))(hk:PySem.W.keepIn X.K (.ref f)=true)(hb:AX X.K fd ps ds)(hd:Aw dvs ds)(hx:Qh X Ek)
  (ha:PA X (e::es) t) (hdb:(x==("__debug__":Str))=false:=by decide) (he:starEach (e::es) X.env=(false,eval e X.env)::starEach es X.env:=by rfl) (hpl:(backTo pos (starEach es X.env)).any (·.1)=false:=by rfl) :
  PE X (.Call (.Name x p) (e::es) [] pos) (Yl sp dvs Ek t):=by
 intro pins s σ H Q I h
 refine KH (II I hg hm ?_ hdb)
 refine Ol (h₀:=X.base) I.ok.mod.kin hk (Az (ha pos pins s σ H _ I h) fun us s1 zz=>?_) he hpl
 obtain⟨vs,H1,I1,r,q⟩:=zz
 refine⟨I1.kIn,?_⟩
 have r2:Aw (vs++dvs) (us++ds):=r.append hd
 have hl:(us++ds).length=ps.length:=by rw[←r2.length];exact F.len _ _ _ _ q
 refine Jd (Je (F.run X.A X.stack s1 H1 ⟨us,[]⟩ (us++ds) (vs++dvs) Q (Ek σ) hr I1.env0 (hb s1 us I1.kIn hl) r2 q) fun r s' hq=>?_)
 cases r with
 |error e=>exact hx pins σ H1 s1 e s' I1 hq
 |
  ok fl=>
  cases fl with
  |ret u=>exact I1.after hq
  |next=>exact False.elim hq
  |brk=>exact False.elim hq
  |cont=>exact False.elim hq
end
end L2
namespace EX
open PySem PySem.Spec PySem.Calls PyProof.Rows PySem.W
section
variable {prog:Program}{w:World}{A:Around}{h:Heap}{g:Array GenState}{d:Drawn}{t:Nat}{os:OsState}{R:Result->Shared->Prop}{C N:Addr}{bm:List Value}
theorem YJ {E:Value->Shared->Prop}{rest:List Value}{f:Addr}{Q:PySem.Fin->Shared->Prop}(ct:ClsT h C N bm)(hL:Looks (model prog w) h (typeLookup (.ref C) "__init__") (some (.ref f)))
  (hB:∀self,Looks (model prog w) h (bindSpecial (.ref f) self) (.ref f,[self]))
  (hq:wpAny (model prog w) A (call (.ref f) (.ref (h.objs.size+1)::rest)) (fun v s'=>v = .none/\Q (.done (.ret (.ref (h.objs.size+1)))) s') E ⟨(h.push (IR rest)).push (Hg C h.objs.size),g,d,t,os⟩) (hrest:rest.length<=sizeLine) :
  wpAny (model prog w) A (Builtin.«type.__call__» ⟨.ref C::rest,[]⟩) Q E ⟨h,g,d,t,os⟩:=by
 obtain⟨nm,q,bs,hdct,sn,sub,ab,col,dd,k0,k1,k2,k3,k5,hC,T⟩:=ct
 repeat (first|with_reducible refine Jg hC ?_|with_reducible refine wpAny_madeBy_exc hC ?_|wp_step)
 refine codeAny_call_builtin_code (Code.quiet_builtin _ F.excBase_ValueError.quiet) (wpAny_check_new_subT F.excBase_ValueError T hC ?_)
 refine codeAny_exc_new_subT F.excBase_ValueError T hC ?_ hrest
 show wpAny _ _ _ _ _ _
 have k:∀b o,h.get? b=some o->((h.push (IR rest)).push (Hg C h.objs.size)).get? b=some o:=fun b o e=>AD _ (AD _ e)
 have hC₁:=k _ _ hC
 have hget:((h.push (IR rest)).push (Hg C h.objs.size)).get? (h.objs.size+1)=some (Hg C h.objs.size):=by heap_get
 have hcC:(Value.ref C::bm).contains (.ref C)=true:=by simp
 unfold isInstance
 repeat (first|with_reducible refine Jg hget ?_|(with_reducible refine OD hC₁ ?_;rw[hcC])|wp_step)
 show wpAny _ _ (typeLookup (.ref C) _) _ _ _
 refine(hL.keeps k).at ?_
 refine Er (A9 (((hB _).keeps k).at ?_))
 refine A9 (CN hq (fun v s' hv=>?_) fun _ _ z=>z)
 obtain⟨rfl,hv⟩:=hv
 wp_walk
 exact hv
theorem Uo {rest:List Value}{f:Addr}(ct:ClsT h C N bm)(hL:Looks (model prog w) h (typeLookup (.ref C) "__init__") (some (.ref f)))(hB:∀self,Looks (model prog w) h (bindSpecial (.ref f) self) (.ref f,[self]))
  (hq:codeAny (model prog w) (A.under (.builtin "type.__call__" ⟨.ref C::rest,[]⟩)) (.call (.ref f) ⟨.ref (h.objs.size+1)::rest,[]⟩) (Y5 (h.objs.size+1) R) ⟨(h.push (IR rest)).push (Hg C h.objs.size),g,d,t,os⟩) (hrest:rest.length<=sizeLine) :
  codeAny (model prog w) A (.call (.ref C) ⟨rest,[]⟩) R ⟨h,g,d,t,os⟩:=by
 have f1:=tc_lookup
 have f2:=tc_bind (.ref C)
 obtain⟨nm,q,bs,hdct,sn,sub,ab,col,dd,k0,k1,k2,k3,k5,hC,T⟩:=id ct
 have hT:(⟨h,g,d,t,os⟩:Shared).TypeIs (.ref C) "type":=⟨_,hC,rfl⟩
 refine codeAny_of_tree ?_
 show wpAny _ _ (callAny (.ref C) _) _ _ _
 repeat (any_goals (first|assumption|with_reducible refine Jg hC ?_|wp_step))
 refine⟨rfl,?_⟩
 refine codeAny_call_builtin_at (Code.quiet_builtin _ (by decide +kernel)) entry_typeCall (wpAny_check_type_call_sub hC (YJ ct hL hB (Jd (Je hq fun r s' z=>?_)) hrest))
 rcases r with e|(v|_|_|_)<;>first|exact z|exact z.elim
end
end EX
namespace L2
open PySem PySem.Spec PyProof.Rows
section
open EX
section
variable {X:Cx}{pins:List (Addr×Obj)}{σ:St}{H:Hp}{s:Shared}{M:Model}{A:Around}{E:Value->Shared->Prop}
end
section
variable {X:Cx}{x n:Str}{np pos:Pos}{Dc:Addr}{b₀:Stmt}{suite:List Stmt}{rest:List ExceptHandler}{ts:Addr->TS}{th:Addr->Addr->Option Addr->TS}{i:Nat}
end
section
variable {X:Cx}{k:Nat}{f C:Addr}{fd:FuncData}{ps:List Str}{sp:Sp}{CX:Ef}{E:XK}{x:Str}{p pos:Pos}{e:Expr}{es:List Expr}{t:TA}
structure QD (K:Faa)(C f:Addr):Prop where
 xc:XC K C
 init:PySem.W.findIn K (.ref C) "__init__"=some (some (.ref f))
 fn:PySem.W.isFn K (.ref f)=true
 kp:PySem.W.keepIn K (.ref C)=true
structure V9 (K:Faa)(C:Addr):Prop where
 xc:XC K C
 init:PySem.W.findIn K (.ref C) "__init__"=some (some (.builtin "ValueError.__init__"))
 kp:PySem.W.keepIn K (.ref C)=true
def T3 (C:Addr)(sp:Sp)(E:XK)(t:TA):TE:=fun σ H Q=>t σ H fun vs H1=>vs.length<=1000/\∀a,H1 a=none->sp (.ref a::vs) (upd H1 a (DB a C none)) (fun v H2=>v = .non/\Q (.ref a) H2) E
theorem ba (M:QD X.K C f)(F:AS X.prog X.w X.K X.mg X.base CX k f fd ps sp)(hr:C9 (k+1) X.A)(hg:Gl X x)(hm:X.mg x=some (.ref C))(hb:AX X.K fd ps [])(hx:IF CX X E)
  (ha:PA X (e::es) t) (hdb:(x==("__debug__":Str))=false:=by decide) (he:starEach (e::es) X.env=(false,eval e X.env)::starEach es X.env:=by rfl) (hpl:(backTo pos (starEach es X.env)).any (·.1)=false:=by rfl) :
  PE X (.Call (.Name x p) (e::es) [] pos) (T3 C sp E t):=by
 intro pins s σ H Q I h
 refine KH (II I hg hm ?_ hdb)
 refine Ol (h₀:=X.base) I.ok.mod.kin M.kp (Az (ha pos pins s σ H _ I h) fun us s1 zz=>?_) he hpl
 obtain⟨vs,H1,I1,r,l10,q⟩:=zz
 refine⟨I1.kIn,?_⟩
 obtain⟨hp,g,d,tk,os⟩:=s1
 have hq:=q (hp.objs.size+1) (I1.hok.fresh (Ht _))
 have nx:Gv ((hp.push (IR us)).push (Hg C hp.objs.size)) (hp.objs.size+1) (.ref C) none:=⟨_,_,_,by heap_get,rfl,rfl,rfl,rfl,rfl⟩
 have I2:=I1.laid (h':=(hp.push (IR us)).push (Hg C hp.objs.size)) (t':=tk) (o:=DB (hp.objs.size+1) C none) (fun b o e=>AD _ (AD _ e)) (Ht _) (O3 nx)
 have r2:Aw (V.ref (hp.objs.size+1)::vs) (Value.ref (hp.objs.size+1)::us):=.cons rfl r
 have hl:(Value.ref (hp.objs.size+1)::us).length=ps.length:=by rw[←r2.length];exact F.len _ _ _ _ hq
 have hb':=hb _ (Value.ref (hp.objs.size+1)::us) I2.kIn (by rw[IX];exact hl)
 rw[IX]at hb'
 obtain⟨N,bm,ct⟩:=M.xc.ct
 refine Jd (Uo (ct hp I1.kIn) (PySem.W.looks_findIn I1.kIn M.init) (fun self=>PySem.W.bind_fn I1.kIn self (GI.mp M.fn)) (Je (F.run _ X.stack _ _ ⟨Value.ref (hp.objs.size+1)::us,[]⟩ (Value.ref (hp.objs.size+1)::us) _ _ E (hr.make C us []) (I2.env0.make C us []) hb' r2 hq) fun r s' hq'=>?_) (by show us.length<=sizeLine;rw[←r.length,Hz];lia))
 cases r with
 |error e=>exact hx pins σ _ _ e s' I2 hq'
 |
  ok fl=>
  cases fl with
  |
   ret u=>
   obtain⟨v,H',I3,rv,ev,q3⟩:=I2.after hq'
   subst ev
   exact⟨rv,⟨V.ref (hp.objs.size+1),H',I3,rfl,q3⟩⟩
  |next=>exact False.elim hq'
  |brk=>exact False.elim hq'
  |cont=>exact False.elim hq'
end
end
section
open EX
structure XI (K:Faa)(C:Addr):Prop where
 xc:XC K C
 ca:PySem.W.findIn K (.ref C) "__class__"=some (some (.builtin "object.__class__"))
 cg:PySem.W.specialIn K (.builtin "object.__class__") "__get__"=some (some (.builtin "getset_descriptor.__get__"))
 ck:PySem.W.takesIn K (.builtin "object.__class__")=some true
section
variable {X:Cx}{e o:Expr}{ta tv:TE}{f x:Str}{pos pos' p apos:Pos}
def Vw (K:Faa)(ta tv:TE)(f:Str):TS:=fun D σ H=>tv σ H fun y H1=>ta σ H1 fun x H2=>∃a C,x = .ref a/\H2 a=some (DB a C none)/\XC K C/\D7 K C f/\
 ∀dx,H2 dx=none->dx≠a->D.nx σ (upd (upd H2 dx (.xd [(f,y)])) a (DB a C (some dx)))
theorem TN (ha:PE X o ta)(hv:PE X e tv)(hs:swapsWith e (some (.Attribute o f pos')) pos.line X.env=pure false):PS X (.Assign [.Attribute o f pos'] e pos) (Vw X.K ta tv f):=by
 intro pins s σ H D I h
 refine bL (Az (hv pins s σ H _ I h) fun u s1 zz=>?_) hs
 obtain⟨y,H1,I1,ry,q⟩:=zz
 refine Az (ha pins s1 σ H1 _ I1 q) fun ov s2 zz=>?_
 obtain⟨x,H2,I2,rx,a,C,ex,hx,c,n,q2⟩:=zz
 subst ex
 obtain rfl:ov=Value.ref a:=rx
 obtain⟨oe,vs,t0,h0,h1,h2,h3,h4,h5⟩:=K9 I2.hok hx
 refine VB I2.kIn h0 h1 (by unfold PySem.W.notCls;rw[h3]) h2 c n fun h' tk' kp hx' ns=>?_
 have fr:H2 s2.heap.objs.size=none:=I2.hok.fresh (Af _)
 have ne:s2.heap.objs.size≠a:=CM (AG h0)
 have q3:=q2 s2.heap.objs.size fr ne
 have nw:Gv h' a (.ref C) (some s2.heap.objs.size):=⟨_,vs,t0,hx',h1,rfl,h3,h4,h5⟩
 refine⟨σ,_,?_,q3⟩
 have nof:∀b v,H2 b=some v->(∀ψ,v≠.ext ψ)->b≠a:=fun b v e n z=>by rw[z,hx]at e;cases e;exact n _ rfl
 have nod:∀b v,H2 b=some v->b≠s2.heap.objs.size:=fun b v e z=>by rw[z,fr]at e;cases e
 have nob:∀b v,s2.heap.get? b=some v->b≠s2.heap.objs.size:=fun b v e=>AV (AG e)
 have none_a:∀b,H2 b=none->b≠a:=fun b e z=>by rw[z,hx]at e;cases e
 refine I2.un (t':=tk') ⟨fun b ob q n _ _=>kp b ob (none_a b n) q,fun b ob q n _ _=>⟨ob.slots,kp b ob (none_a b n) q⟩,fun b ob q n _=>?_,fun b ob q _=>?_,fun b xs q=>?_,fun b ob v q=>?_,fun b ps q=>⟨#[],?_⟩⟩ fun b v e=>?_
 .rw[Ai (none_a b n),Ai (nob b _ q)];exact n
 .by_cases z:b=a
  .rw[z];exact⟨_,hx'⟩
  .exact⟨ob,kp b ob z q⟩
 .rw[Ai (nof b _ q fun ψ z=>by cases z),Ai (nod b _ q)];exact q
 .rw[Ai (nof b _ q fun ψ z=>by cases z),Ai (nod b _ q)];exact q
 .rw[Ai (nof b _ q fun ψ z=>by cases z),Ai (nod b _ q),q];simp
 .by_cases z:b=a
  .subst z;rw[A7]at e;cases e;exact O3 nw
  .rw[Ai z]at e
   by_cases z2:b=s2.heap.objs.size
   .subst z2
    rw[A7]at e
    cases e
    refine⟨_,ns,fun g=>?_⟩
    by_cases hg:g=f
    .subst hg
     rw[Ap rfl]
     simp only[List.lookup,Sf]
     exact ry
    .rw[Al hg]
     have hb:(g==f)=false:=Hy.mpr hg
     simp only[List.lookup,hb]
     trivial
   .rw[Ai z2]at e
    refine(I2.hok b v e).stay (fun c o hc q=>kp c o ?_ q) (fun c q=>?_) fun c xs q=>?_
    .rcases hc with rfl|hc
     .exact z
     .exact nof c _ hc fun ψ y=>by cases y
    .rw[Ai (nof c _ q fun ψ y=>by cases y),Ai (nod c _ q)];exact q
    .rw[Ai (nof c _ q fun ψ y=>by cases y),Ai (nod c _ q)];exact q
def We (K:Faa)(t:TA):TE:=fun σ H Q=>t σ H fun vs H1=>∃a C d v,vs=[.ref a,v]/\H1 a=some (DB a C d)/\XC K C/\Q .non H1
structure XB (K:Faa)(D:Addr):Prop where
 ga:PySem.W.specialIn K (.ref D) "__getattribute__"=some (some (.builtin "type.__getattribute__"))
 rd:PySem.W.readsIn K D (.type "type")=true
 fc:PySem.W.findCls K (.ref D) (.type "type") "__init__"=some (.val (.builtin "ValueError.__init__"))
theorem Ve {D:Addr}{es:List Expr}{t:TA}{pl:Sem Bool}(hg:Gl X x)(hm:X.mg x=some (.ref D))(c:XB X.K D)(ha:PA X (e::es) t)(hdb:(x==("__debug__":Str))=false:=by decide)
  (hst:starEach (e::es) X.env=(false,eval e X.env)::starEach es X.env:=by rfl) (hpl:(backTo pos (starEach es X.env)).any (·.1)=false:=by rfl)
  (ht:eval (.Call (.Attribute (.Name x p) "__init__" apos) (e::es) [] pos) X.env=(do
   let ov ←eval (.Name x p) X.env
   standAt apos.atName
   let (f,first) ←holding [ov] (getMethod ov "__init__" pl)
   callWith pos f first (backTo pos (starEach (e::es) X.env)) (backToKw pos (keywordEach [] X.env))):=by rfl) :
  PE X (.Call (.Attribute (.Name x p) "__init__" apos) (e::es) [] pos) (We X.K t):=by
 intro pins s σ H Q I h
 refine PySem.W.methodCall_KW (pl:=pl) (II I hg hm ?_ hdb) ht
 refine PySem.W.method_cls I.kIn c.ga ?_
 refine PySem.W.cls_value I.kIn c.rd c.fc rfl ?_
 have I0:A2 X pins σ H {s with toks:=s.toks+1}:=I.tok _
 refine bx (Az (ha pos pins _ σ H _ I0 h) fun us s1 zz=>?_) hst hpl
 obtain⟨vs,H1,I1,r1,a,C,d,v,ev,hx,xc,q1⟩:=zz
 subst ev
 obtain⟨u1,r1',rfl,ra,rr⟩:∃u1 r1',us=u1::r1'/\AE (.ref a) u1/\Aw [v] r1':=by cases r1 with|cons a b=>exact⟨_,_,rfl,a,b⟩
 obtain⟨u2,rfl,rv⟩:=ET rr
 obtain rfl:u1 = .ref a:=ra
 obtain⟨oe,vs,t0,h0,h1,h2,h3,h4,h5⟩:=K9 I1.hok hx
 refine Jd (bh I1.kIn h0 h1 h3 h4 xc fun h' kp hx'=>?_)
 have nw:Gv h' a (.ref C) d:=⟨_,_,_,hx',h1,h2,rfl,by
  have hz:0<vs.size:=(MQ.mp h4).1
  simp[hz];rfl,by
  rw[Array.getElem?_setIfInBounds_ne (by decide)];exact h5⟩
 have J:=I1.write (x:=a) (e:=a) (o:=DB a C d) (h':=h') (t':=s1.toks) (by rw[hx];exact True.intro) (.inl rfl) kp ⟨_,hx'⟩ (O3 nw)
 rw[Nm hx]at J
 exact⟨.non,H1,J,rfl,q1⟩
end
end
end L2
namespace Wv
variable {α:Type}
end Wv
namespace L2
open PySem PySem.Spec PyProof.Rows
section
variable {X:Cx}{es:List Expr}{env:Env}{p:Pos}
def Vp (K:Faa):List V->Hp->VK->Prop:=fun xs H Q=>∃p ys,xs=[V.ref p]/\(A4 K H p ys\/A5 K H p ys)/\Q (V.int (ys.length:Int)) H
end
mutual
def Eb (H:Hp):PyData->V->Prop
 |.none,x=>x = .non
 |.bool b,x=>x = .bl b
 |.int i,x=>x = .int i
 |.str y,x=>x = .str y
 |.list ds,x=>∃p xs,x = .ref p/\H p=some (.lst xs)/\EV H ds xs
 |.tuple ds,x=>∃p xs,x = .ref p/\H p=some (.tup xs)/\EV H ds xs
 |.dict _,_=>False
def EV (H:Hp):List PyData->List V->Prop
 |[],xs=>xs=[]
 |d::ds,xs=>∃x xs',xs=x::xs'/\Eb H d x/\EV H ds xs'
end
section
variable {X:Cx}{pins:List (Addr×Obj)}{σ:St}{H:Hp}{s:Shared}
mutual
theorem Eb.reads (I:A2 X pins σ H s):∀{d:PyData} {x:V} {u:Value},Eb H d x->AE x u->∃as,PySem.Reads s.heap u d as
 |.none,x,u,h,r=>by rw[Eb]at h;subst h;cases r;exact⟨_,.none⟩
 |.bool b,x,u,h,r=>by rw[Eb]at h;subst h;cases r;exact⟨_,.bool b⟩
 |.int i,x,u,h,r=>by rw[Eb]at h;subst h;obtain⟨t,rfl⟩:=r;exact⟨_,.int i t⟩
 |.str y,x,u,h,r=>by rw[Eb]at h;subst h;obtain⟨t,rfl⟩:=r;exact⟨_,.str y t⟩
 |
  .list ds,x,u,h,r=>by
  rw[Eb]at h
  obtain⟨p,xs,rfl,hp,hs⟩:=h
  cases r
  obtain⟨its,rv,pl,hz⟩:=I.list (A4.of hp)
  obtain⟨o,ho,hc,n,hd⟩:=pl.isList
  obtain⟨as,ra⟩:=EV.reads I hs rv
  exact⟨_,.list ho hc hd (by simpa using ra)⟩
 |
  .tuple ds,x,u,h,r=>by
  rw[Eb]at h
  obtain⟨p,xs,rfl,hp,hs⟩:=h
  cases r
  obtain⟨its,rv,pl,hz⟩:=I.tuple (A5.of hp)
  obtain⟨o,ho,hc,n,hd⟩:=pl
  obtain⟨as,ra⟩:=EV.reads I hs rv
  exact⟨_,.tuple ho hc hd (by simpa using ra)⟩
 |.dict _,x,u,h,r=>by rw[Eb]at h;exact h.elim
theorem EV.reads (I:A2 X pins σ H s):∀{ds:List PyData} {xs:List V} {us:List Value},EV H ds xs->Aw xs us->∃as,PySem.ReadsAll s.heap us ds as
 |[],xs,us,h,r=>by rw[EV]at h;subst h;cases r;exact⟨_,.nil⟩
 |
  d::ds,xs,us,h,r=>by
  rw[EV]at h
  obtain⟨x,xs',rfl,h1,h2⟩:=h
  cases r with
  |
   cons r1 r2=>
   obtain⟨as,a⟩:=Eb.reads I h1 r1
   obtain⟨bs,b⟩:=EV.reads I h2 r2
   exact⟨_,.cons a b⟩
end
structure Fj (n w:Nat)(d:PyData):Prop where
 sh:d.showable=true
 lf:d.leavesShort 13=true
 wt:d.weight<=w
 dp:d.depth<=n
 nd:d.hasDict=false
end
theorem Ql {n w:Nat}:∀{ds:List PyData},(∀d∈ds,Fj n w d)->PyData.showableAll ds=true/\PyData.leavesShortAll 13 ds=true/\PyData.weightAll ds<=(w+1)*ds.length/\PyData.depthAll ds<=n/\PyData.hasDictAll ds=false
 |[],_=>by simp[PyData.showableAll,PyData.leavesShortAll,PyData.weightAll,PyData.depthAll,PyData.hasDictAll]
 |
  d::ds,h=>by
  obtain⟨a,b,c,e,f⟩:=Ql (ds:=ds) fun x hx=>h x (Cd _ hx)
  have g:=h d Cz
  have g3:=g.wt
  have g4:=g.dp
  simp only[PyData.showableAll,PyData.leavesShortAll,PyData.weightAll,PyData.depthAll,PyData.hasDictAll,g.sh,g.lf,g.nd,a,b,f,BH,Bool.and_self,Bool.or_self]
  refine⟨trivial,trivial,?_,by lia,trivial⟩
  rw[Nat.mul_add,Nat.mul_one]
  lia
theorem WG {n w:Nat}{ds:List PyData}(h:∀d∈ds,Fj n w d):Fj (n+1) ((w+1)*ds.length) (.list ds):=by
 obtain⟨a,b,c,e,f⟩:=Ql h
 exact⟨by rw[PyData.showable];exact a,by rw[PyData.leavesShort];exact b,by rw[PyData.weight];exact c,by rw[PyData.depth];lia,by rw[PyData.hasDict];exact f⟩
theorem Fj.mono {n w m v:Nat}{d:PyData}(h:Fj n w d)(h1:n<=m)(h2:w<=v):Fj m v d:=⟨h.sh,h.lf,CL h.wt h2,CL h.dp h1,h.nd⟩
noncomputable def Oh (n w:Nat)(d:PyData):Bool:=d.showable&&(d.leavesShort 13&&(decide (d.weight<=w)&&(decide (d.depth<=n)&&!d.hasDict)))
theorem ae {n w:Nat}{d:PyData}(h:Oh n w d=true):Fj n w d:=by
 unfold Oh at h
 simp only[EJ,Sd,Bool.not_eq_true']at h
 exact⟨h.1,h.2.1,h.2.2.1,h.2.2.2.1,h.2.2.2.2⟩
theorem Yk {i:Nat}(h:i<500):Fj 1 20 (.int (i:Int)):=by
 have:∀i<500,Oh 1 20 (.int ((i:Nat):Int))=true:=by decide +kernel
 exact ae (this i h)
section
open EX
def VC (t:TE):TE:=fun σ H Q=>t σ H fun v H1=>∃p d,v = .ref p/\Eb H1 d (.ref p)/\Fj 50 1000000 d/\(d.shown.length<=15000013->Q (.str d.shown) H1)
theorem UY {X:Cx}{e:Expr}{t:TE}{pos:Pos}(hg:X.A.guards=some [])(hu:X.A.units+64<cLine)(h:PE X e t):PE X (.FormattedValue e 114 none pos) (VC t):=by
 intro pins s σ H Q I hq
 refine wpAny_FormattedValue_repr (Az (h pins s σ H _ I hq) fun v s1 hx=>?_)
 obtain⟨x,H1,I1,r1,p,d,rfl,hs,sm,q⟩:=hx
 obtain rfl:v = .ref p:=r1
 obtain⟨as,rd⟩:=hs.reads I1 (u:=.ref p) rfl
 have dp:=sm.dp
 have sl:d.shown.length<=15000013:=by
  have:=PyData.shown_le 13 (by decide) d sm.lf
  have:=sm.wt
  lia
 have sz:d.shown.length<=sizeLine:=PyData.shown_fits (B:=13) (by decide) (by decide) sm.lf (CL sm.wt (by decide))
 refine pyReprObj_of_reads rd sm.sh (PyData.noDict_hsm sm.nd) hg (by lia) (fun _ _ e=>e) (fun h' u tk hk=>?_) sz
 have I2:A2 X pins σ H1 {s1 with heap:=h',toks:=tk}:=I1.kept (t':=tk) hk
 exact wpAny_formatField_str ⟨.str d.shown,H1,I2,⟨_,rfl⟩,q sl⟩ ⟨.str d.shown,H1,I2.tok _,⟨_,rfl⟩,q sl⟩ sz
section
variable {P:Program}{w:World}{K:Faa}{mg:Str->Option Value}{base:Heap}
end
section
variable {X:Cx}{k:Nat}{f:Addr}{fd:FuncData}{ps:List Str}{sp:Sp}{x:Str}{p pos:Pos}{e:Expr}{es:List Expr}{t:TA}
end
end
section
open EX
noncomputable def LN (K:Faa)(C:Addr)(own:List Addr):Bool:=match K.lookup C with
 |
  some ⟨.type "type",_,.cls cd,sl⟩=>(match cd.mro,sl.toList with
  |.ref C'::bm,[_,_,_,_,some (.builtin n),_]=>C'==C&&n=="ValueError.__new__"&&!cd.hasDel&&bm==own.map Value.ref++bmVE&&PySem.W.tailIn K bmVE bm
  |_,_=>false)
 |_=>false
theorem Ih {K:Faa}{C:Addr}{own:List Addr}(q:LN K C own=true):∃N,∀h,K.In h->ClsT h C N (own.map Value.ref++bmVE):=by
 unfold LN at q
 split at q
 .rename_i dd cd sl ho
  split at q
  .rename_i C' bm k0 k1 k2 k3 n k5 hm hs
   simp only[EJ,GI,Bool.not_eq_true']at q
   obtain⟨⟨⟨⟨rfl,rfl⟩,hdel⟩,hb⟩,ht⟩:=q
   obtain⟨nm,bs,mro,ns,qn,hd,sn,sub,ab,col,del⟩:=cd
   dsimp only at hm hdel
   subst hm hdel
   have hsl:sl = #[k0,k1,k2,k3,some (.builtin "ValueError.__new__"),k5]:=by
    obtain⟨l⟩:=sl
    simp only at hs
    rw[hs]
   subst hsl
   rw[←hb]
   exact⟨ns,fun h X=>⟨nm,qn,bs,hd,sn,sub,ab,col,dd,k0,k1,k2,k3,k5,X _ _ ho,PySem.W.tail_of_in X ht⟩⟩
  .cases q
 .cases q
def Vy:Addr->Addr->Option Addr->TS:=fun _ _ _ _ _ _=>False
theorem Ur {X:Cx}:PH X [] Vy:=fun _ _ _ _ _ _ _ _ _ _ _ _ _ _ _ h=>h.elim
theorem WD {C:Addr}{own:List Addr}{D:Addr}:(Value.ref C::(own.map Value.ref++bmVE)).contains (.ref D)=decide (D=C\/D∈own):=by
 rw[Kw,List.contains_iff_mem,decide_eq_true_iff]
 simp[bmVE]
end
section
open EX
def Xo (C:Addr):Sp:=fun vs H Q _=>∃(a rg:Addr) (rs:List Int),vs=[.ref a,.ref rg]/\H a=some (DB a C none)/\H rg=some (.lst (rs.map V.int))/\rs.length<=60/\(∀x∈rs,0<=x/\x<60)/\
 ∀l dx,H l=none->l≠dx->H dx=none->dx≠a->Q .non (upd (upd (upd H l (.lst (rs.map V.int))) dx (.xd [("ring",.ref l)])) a (DB a C (some dx)))
theorem T8 {H:Hp}{p:Addr}{rs:List Int}(h:H p=some (.lst (rs.map V.int)))(h60:∀x∈rs,0<=x/\x<60)(hl:rs.length<=60):∃d,Eb H d (.ref p)/\Fj 50 1000000 d:=by
 have rps:∀l:List Int,EV H (l.map PyData.int) (l.map V.int):=fun l=>by
  induction l with
  |nil=>rfl
  |cons x l ih=>exact⟨_,_,rfl,rfl,ih⟩
 refine⟨.list (rs.map PyData.int),⟨p,_,rfl,h,rps rs⟩,?_⟩
 refine(WG (n:=1) (w:=20) fun d hd=>?_).mono (by decide) ?_
 .obtain⟨x,hx,rfl⟩:=Co.mp hd
  obtain⟨h0,h1⟩:=h60 x hx
  obtain⟨m,rfl⟩:∃m:Nat,x=(m:Int):=⟨x.toNat,by lia⟩
  exact Yk (by lia)
 .rw[Au];lia
theorem Qr:(Str.empty++("no values, by the ring ":Str)).length<=30:=by decide +kernel
theorem X6 {x y:Str}{n:Nat}(hx:x.length<=30)(hy:y.length<=n)(hn:n<=15000013):(x++y).length<=sizeLine:=by
 rw[Oe,Hz]
 lia
theorem NA {H H1:Hp}{a:Addr}{o:HO}(e:Aa H H1)(h:H a=none):Aa H (upd H1 a o):=fun b ob hb=>by
 rw[Ai (AQ hb h)]
 exact e _ _ hb
end
end L2
namespace Bd
open PySem L2
theorem Holds.left {f:Nat->Int}{B C:List Ao}(h:Holds f (B++C)):Holds f B:=fun b hb=>h b (DN _ hb)
theorem Zw {n:Nat}{B:List Ao}{x y:Nat}{f:Nat->Int}(hy:y<n)(hf:Holds f B)(hw:WF n B)(hne:x≠y)(hq:(fin B y).q x=none)(k:Int):∃g,Holds g (B++[⟨y,x,k⟩]):=by
 have hst:=NR hy hf hw (Lc hy hf hw).1
 have hJ:=Ji.all hy hf hw (Fl B y)
 change L7 B (fin B y) at hst
 change Ji n B y f (fin B y) at hJ
 have hL:(fin B y).L x=none:=by
  cases hL:(fin B y).L x with
  |none=>rfl
  |
   some lx=>
   rcases hJ.has x lx hL with h|⟨i,h⟩
   .exact absurd h hne
   .rw[hq]at h;cases h
 have hS:∃T:Int,0<=T/\f y-f x-k<=T:=by
  rcases Int.le_total 0 (f y-f x-k) with c|c
  .exact⟨_,c,GF _⟩
  .exact⟨0,GF _,c⟩
 obtain⟨T,T0,T1⟩:=hS
 refine⟨fun v=>f v-(if(fin B y).L v=none then 0 else T),fun b hb=>?_⟩
 rcases BX.mp hb with h|h
 .have h0:=hf b h
  show f b.x-(if(fin B y).L b.x=none then 0 else T)-(f b.y-(if(fin B y).L b.y=none then 0 else T))<=b.c
  cases ey:(fin B y).L b.y with
  |none=>rw[Ap rfl];split<;>lia
  |
   some l=>
   obtain⟨lx,e1,_⟩:=hst b h l ey
   rw[e1,Al (by simp),Al (by simp)]
   lia
 .rw[BL.mp h]
  show f y-(if(fin B y).L y=none then 0 else T)-(f x-(if(fin B y).L x=none then 0 else T))<=k
  rw[hJ.at0,hL,Al (by simp),Ap rfl]
  lia
end Bd
namespace L2
open PySem PySem.Spec PyProof.Rows EX Bd
theorem UK {X:Cx}:BC X (binaryOp .FloorDiv) (rI (fun _ j=>0<j/\j<18446744073709551616) fun i j=>.int (i/j)):=JM fun i j _ _ _ _ _ hc q=>by
 have h1:(0:Int)<j:=hc.1
 have h2:j<18446744073709551616:=hc.2
 refine floordiv_int (by lia) (by rw[Int.fdiv_eq_ediv_of_nonneg i (by lia)];exact q) (.inl (PyProof.noPylong_of_log2 ?_))
 have:j.natAbs.log2<64:=by
  by_cases h0:j.natAbs=0
  .rw[h0];decide
  .exact(Nat.log2_lt h0).mpr (by lia)
 lia
def WH (C:Addr):Sp:=fun vs H Q E=>∃(n:Nat) (b:Addr) (B:List Ao) (x y:Nat),vs=[.int (n:Int),.ref b,.int (x:Int),.int (y:Int)]/\Ew H b B/\WF n B/\n<=1000/\B.length<=60/\x<n/\y<n/\
 (∀f,Holds f B->∀(v:V) (H':Hp),Aa H H'->HQ n B x y H' v->Q v H')/\
 (∀(R:List Nat) (u:Nat->Nat),DU n B=(.str "ring",BF R)->EW B R u->∀(a dx r:Addr) (H':Hp),Aa H H'->H' a=some (Dl a C (some dx))->H' dx=some (.xd [("ring",.ref r)])->H' r=some (.lst (BF R))->E (.ref a) none H')
end L2
namespace Fo
variable {W:Type}
theorem IM:∀(f:F W) (q:List Int) (j:Nat) (en:En),en∈deedsF f q j->∃(r:Nat) (rs:List Int),en.path=q++(r:Int)::rs/\j<=r
 |.nil,q,j,en,h=>nomatch h
 |
  .leaf k pl rest,q,j,en,h=>by
  rcases AZ.mp (show en∈⟨k,pl,q++[(j:Int)]⟩::deedsF rest q (j+1) from h) with rfl|h
  .exact⟨j,[],rfl,Af _⟩
  .obtain⟨r,rs,e,l⟩:=IM rest q (j+1) en h
   exact⟨r,rs,e,by lia⟩
 |
  .node c w sub rest,q,j,en,h=>by
  rcases BX.mp (show en∈deedsF sub (q++[(j:Int)]) 0++deedsF rest q (j+1) from h) with h|h
  .obtain⟨r,rs,e,l⟩:=IM sub (q++[(j:Int)]) 0 en h
   exact⟨j,(r:Int)::rs,by rw[e,Dp];rfl,Af _⟩
  .obtain⟨r,rs,e,l⟩:=IM rest q (j+1) en h
   exact⟨r,rs,e,by lia⟩
theorem sw_pre:∀(f:F W) (q:List Int) (j:Nat) (s:Sw W),s∈swF f q j->∃(r:Nat) (rs:List Int),s.1=q++(r:Int)::rs/\j<=r
 |.nil,q,j,s,h=>nomatch h
 |
  .leaf k pl rest,q,j,s,h=>by
  obtain⟨r,rs,e,l⟩:=sw_pre rest q (j+1) s h
  exact⟨r,rs,e,by lia⟩
 |
  .node c w sub rest,q,j,s,h=>by
  rcases AZ.mp (show s∈(q++[(j:Int)],c,w)::(swF sub (q++[(j:Int)]) 0++swF rest q (j+1)) from h) with rfl|h
  .exact⟨j,[],rfl,Af _⟩
  rcases BX.mp h with h|h
  .obtain⟨r,rs,e,l⟩:=sw_pre sub (q++[(j:Int)]) 0 s h
   exact⟨j,(r:Int)::rs,by rw[e,Dp];rfl,Af _⟩
  .obtain⟨r,rs,e,l⟩:=sw_pre rest q (j+1) s h
   exact⟨r,rs,e,by lia⟩
theorem Ld {q x y:List Int}{a b:Int}{P S:List Int}(hP:P=q++a::x)(hS:S=q++b::y)(h:P.take S.length=S):a=b:=by
 have l:q.length<S.length:=by rw[hS,AB,BH];lia
 have e:(P.take S.length)[q.length]?=S[q.length]?:=by rw[h]
 rw[DO l,hP,hS,Bz (Af _),Bz (Af _),Cn]at e
 exact Ck e
theorem sw_longer:∀(f:F W) (q:List Int) (j:Nat) (en:En) (s:Sw W),en∈deedsF f q j->s∈swF f q j->en.path.take s.1.length=s.1->s.1.length<en.path.length
 |.nil,q,j,en,s,h,_,_=>nomatch h
 |
  .leaf k pl rest,q,j,en,s,h,hs,e=>by
  rcases AZ.mp (show en∈⟨k,pl,q++[(j:Int)]⟩::deedsF rest q (j+1) from h) with rfl|h
  .obtain⟨r,rs,e1,l⟩:=sw_pre rest q (j+1) s hs
   have:=Ld (q:=q) (x:=[]) (a:=(j:Int)) rfl e1 e
   lia
  .exact sw_longer rest q (j+1) en s h hs e
 |
  .node c w sub rest,q,j,en,s,h,hs,e=>by
  rcases BX.mp (show en∈deedsF sub (q++[(j:Int)]) 0++deedsF rest q (j+1) from h) with h|h
  .rcases AZ.mp (show s∈(q++[(j:Int)],c,w)::(swF sub (q++[(j:Int)]) 0++swF rest q (j+1)) from hs) with rfl|hs
   .obtain⟨r,rs,e1,l⟩:=IM sub _ 0 en h
    rw[e1]
    show(q++[(j:Int)]).length<_
    rw[AB (as:=q++[(j:Int)]),BH]
    lia
   rcases BX.mp hs with hs|hs
   .exact sw_longer sub _ 0 en s h hs e
   .obtain⟨r,rs,e1,l⟩:=sw_pre rest q (j+1) s hs
    obtain⟨r2,rs2,e2,l2⟩:=IM sub _ 0 en h
    have:=Ld (q:=q) (a:=(j:Int)) (x:=(r2:Int)::rs2) (by rw[e2,Dp];rfl) e1 e
    lia
  .obtain⟨r2,rs2,e2,l2⟩:=IM rest q (j+1) en h
   rcases AZ.mp (show s∈(q++[(j:Int)],c,w)::(swF sub (q++[(j:Int)]) 0++swF rest q (j+1)) from hs) with rfl|hs
   .have:=Ld (q:=q) (b:=(j:Int)) (y:=[]) e2 rfl e
    lia
   rcases BX.mp hs with hs|hs
   .obtain⟨r,rs,e1,l⟩:=sw_pre sub _ 0 s hs
    have:=Ld (q:=q) (b:=(j:Int)) (y:=(r:Int)::rs) e2 (by rw[e1,Dp];rfl) e
    lia
   .exact sw_longer rest q (j+1) en s h hs e
theorem sw_nodup:∀(f:F W) (q:List Int) (j:Nat),((swF f q j).map (·.1)).Nodup
 |.nil,q,j=>List.nodup_nil
 |.leaf k pl rest,q,j=>sw_nodup rest q (j+1)
 |
  .node c w sub rest,q,j=>by
  show((q++[(j:Int)])::((swF sub (q++[(j:Int)]) 0++swF rest q (j+1)).map (·.1))).Nodup
  rw[BA,GA,List.nodup_append]
  refine⟨fun h=>?_,sw_nodup sub _ 0,sw_nodup rest q (j+1),fun x hx y hy e=>?_⟩
  .rcases BX.mp h with h|h
   .obtain⟨s,hs,e⟩:=Co.mp h
    obtain⟨r,rs,e1,l⟩:=sw_pre sub _ 0 s hs
    rw[e1]at e
    have:=congrArg List.length e
    rw[AB (as:=q++[(j:Int)]),BH]at this
    lia
   .obtain⟨s,hs,e⟩:=Co.mp h
    obtain⟨r,rs,e1,l⟩:=sw_pre rest q (j+1) s hs
    rw[e1]at e
    have:=List.append_cancel_left e
    injection this with a1 _
    lia
  .obtain⟨s,hs,rfl⟩:=Co.mp hx
   obtain⟨s2,hs2,rfl⟩:=Co.mp hy
   obtain⟨r,rs,e1,l⟩:=sw_pre sub _ 0 s hs
   obtain⟨r2,rs2,e2,l2⟩:=sw_pre rest q (j+1) s2 hs2
   rw[e1,e2,Dp]at e
   have:=List.append_cancel_left e
   injection this with a1 _
   lia
theorem Nl:∀(f:F W) (q:List Int) (j r:Nat) {c:Bool} {w:W} {sub:F W},itm f r=some (.sweep c w sub)->(q++[((j+r:Nat):Int)],c,w)∈swF f q j/\∀s∈swF sub (q++[((j+r:Nat):Int)]) 0,s∈swF f q j
 |.nil,q,j,r,c,w,sub,h=>by cases r<;>cases h
 |.leaf k pl rest,q,j,0,c,w,sub,h=>by cases h
 |
  .leaf k pl rest,q,j,r+1,c,w,sub,h=>by
  have:=Nl rest q (j+1) r h
  rw[show j+1+r=j+(r+1) by lia]at this
  exact this
 |
  .node c' w' s' rest,q,j,0,c,w,sub,h=>by
  cases h
  exact⟨Cz,fun s hs=>Cd _ (DN _ hs)⟩
 |
  .node c' w' s' rest,q,j,r+1,c,w,sub,h=>by
  have:=Nl rest q (j+1) r h
  rw[show j+1+r=j+(r+1) by lia]at this
  exact⟨Cd _ (CD _ this.1),fun s hs=>Cd _ (CD _ (this.2 s hs))⟩
theorem Qi:∀(rs:List Nat) (f:F W) (q:List Int) (j r:Nat) (ws:List (Bool×W)),Down f (r::rs) ws->∀e x,ws[e]?=some x->((q++((j+r:Nat):Int)::rs.map (fun n:Nat=>(n:Int))).take (q.length+e+1),x)∈swF f q j
 |
  rs,f,q,j,r,ws,h,e,x,hx=>by
  rcases h with⟨_,_,_,_,rfl⟩|⟨c,w,sub,ws',h1,rfl,h2⟩
  .cases hx
  .obtain⟨m1,m2⟩:=Nl f q j r h1
   cases e with
   |
    zero=>
    cases hx
    rw[show q.length+0+1=q.length+1 by lia,List.take_append,Du (by lia),show q.length+1-q.length=1 by lia]
    exact m1
   |
    succ e=>
    cases rs with
    |nil=>exact h2.elim
    |
     cons r' rs'=>
     have:=Qi rs' sub (q++[((j+r:Nat):Int)]) 0 r' ws' h2 e x hx
     have:=m2 _ this
     rw[Dp,AB,B4,J5]at this
     rw[show q.length+(e+1)+1=q.length+1+e+1 by lia]
     exact this
theorem level_sw {f:F W}{B:List (Bo W)}{i:Nat}{en:En}{b:Bo W}(h:Is f B 0)(ok:Ok B)(he:(deedsF f [] 0)[i]?=some en)(hb:B[i]?=some b){e:Nat}{x:Bool×W}(hx:b.ways[e]?=some x):(en.path.take (e+1),x)∈swF f [] 0:=by
 obtain⟨r,rs,e1,d⟩:=deeds_down f B 0 [] 0 i en b h (fun _ _ _=>Bj _) ok (fun _ _=>Bj _) he hb
 have:=Qi rs f [] 0 r _ d e x (by rw[KA];exact hx)
 rw[G4,show 0+e+1=e+1 by lia,GD]at this
 rw[e1,GD]
 exact this
end Fo
namespace L2
open PySem PySem.Spec PyProof.Rows
section
open EX Bd
theorem Ud {X:Cx}(hc:X.calm=true):DX X (.builtin "max") (fun xs H Q=>∃(p:Addr) (ns:List Int),xs=[.ref p]/\A4 X.K H p (ns.map V.int)/\0<ns.length/\∀M∈ns,(∀a∈ns,a<=M)->Q (.int M) H):=by
 intro pins s σ H xs us Q I r h
 obtain⟨p,ns,rfl,hq,hpos,q⟩:=h
 obtain⟨u,rfl,ru⟩:=ET r
 cases ru
 obtain⟨its,rv,pl,hz⟩:=I.list hq
 have hi:=Mi rv
 obtain⟨xs,e⟩:=hi.allInts.items
 have hns:ns=xs.toList.map (·.1):=by rw[←hi.numsOf,←nums_intItems,←e]
 have hsz:0<xs.size:=by
  have h3:=hpos;rw[hns,Au,Gy]at h3;exact h3
 have hl:=pl.isList
 rw[e]at hl
 refine max_intList (I.ok.hd hc) hl hsz fun v h' tk hv hk=>?_
 obtain⟨t,rfl⟩:=intItems_at hv
 obtain⟨h1,h2⟩:=argBest_gt (numAt xs) (xs.size-1)
 refine⟨.int _,H,I.kept (t':=tk) hk,⟨_,rfl⟩,q _ ?_ fun a ha=>?_⟩
 .rw[hns,numAt_eq];exact getD_mem (by rw[Au,Gy];lia)
 .rw[hns]at ha
  obtain⟨j,hj,rfl⟩:=mem_getD ha
  rw[Au,Gy]at hj
  rw[←numAt_eq];exact h2 j (by lia)
structure GB (B:List Ag):Prop where
 ok:Fo.Ok B
 len:∀b∈B,b.ways.length<=6
 pll:∀b∈B,b.pl.length=b.ways.length
 n6:B.length<=6
 nd:(B.map (·.k)).Nodup
def FV (H:Hp)(p:Addr)(B:List Ag)(f:B3):Prop:=Ff H p f/\Fo.Is f B 0/\GB B
theorem FV.over {H H':Hp}{p:Addr}{B:List Ag}{f:B3}(h:FV H p B f)(e:Aa H H'):FV H' p B f:=⟨h.1.over e,h.2⟩
theorem YD {f:B3}{B:List Ag}{i j s:Nat}{b c:Ag}{x y:Fo.En}(h:Fo.Is f B 0)(g:Fo.Ok B)(hb:B[i]?=some b)(hc:B[j]?=some c)(hx:(Fo.deedsF f [] 0)[i]?=some x)(hy:(Fo.deedsF f [] 0)[j]?=some y)(hm:EB B i j s) :
  s<=b.ways.length/\s<=c.ways.length/\(∀e<s,x.path.getD e 0=y.path.getD e 0)/\(s<b.ways.length->s<c.ways.length->x.path.getD s 0≠y.path.getD s 0)/\x.path.length=b.ways.length+1/\y.path.length=c.ways.length+1:=by
 have zero:∀i c,B[i+1]?=some c->0<=c.sh:=fun _ _ _=>Bj _
 obtain⟨r1,rs1,e1,d1⟩:=Fo.deeds_down f B 0 [] 0 i x b h zero g (fun _ _=>Bj _) hx hb
 obtain⟨r2,rs2,e2,d2⟩:=Fo.deeds_down f B 0 [] 0 j y c h zero g (fun _ _=>Bj _) hy hc
 have l1:=LM d1
 have l2:=LM d2
 rw[KA]at l1 l2
 have x1:x.path.length=b.ways.length+1:=by rw[e1,GD,BH,Au,←l1];rfl
 have y1:y.path.length=c.ways.length+1:=by rw[e2,GD,BH,Au,←l2];rfl
 have sep:∀{u v:List Int} {n:Nat},Fo.Sep u v n->n<u.length/\n<v.length/\(∀e<n,u.getD e 0=v.getD e 0)/\u.getD n 0≠v.getD n 0:=fun{u v n} hs=>by
  obtain⟨cc,a,b,q,r,rfl,rfl,rfl,hab⟩:=hs
  refine⟨by simp,by simp,fun e he=>?_,?_⟩
  .rw[Bv,Bv,BR he,BR he]
  .rw[Bv,Bv,Bz (Af _),Bz (Af _),Cn]
   show a≠b
   lia
 rcases hm with⟨rfl,b',hb',rfl⟩|⟨hij,hl⟩|⟨hij,hl⟩
 .rw[hb]at hb' hc
  cases hb'
  cases hc
  rw[hx]at hy
  cases hy
  exact⟨Af _,Af _,fun _ _=>rfl,fun z=>by lia,x1,y1⟩
 .obtain⟨_,hs⟩:=Fo.deeds_sep f B 0 [] 0 i j s x y h zero hij hx hy hl
  obtain⟨a1,a2,a3,a4⟩:=sep hs
  simp only[G4,J5,Oq]at a1 a2 a3 a4
  exact⟨by lia,by lia,a3,fun _ _=>a4,x1,y1⟩
 .obtain⟨_,hs⟩:=Fo.deeds_sep f B 0 [] 0 j i s y x h zero hij hy hx hl
  obtain⟨a1,a2,a3,a4⟩:=sep hs
  simp only[G4,J5,Oq]at a1 a2 a3 a4
  exact⟨by lia,by lia,fun e he=>(a3 e he).symm,fun _ _ z=>a4 z.symm,x1,y1⟩
noncomputable def B1 (f:B3):List (List Int):=((Fo.swF f [] 0).filter (·.2.1)).map (·.1)
theorem Vt (f:B3):(B1 f).Nodup:=((Fo.sw_nodup f [] 0).sublist ((List.filter_sublist).map _))
theorem Rg {f:B3}{B:List Ag}{i:Nat}{en:Fo.En}{b:Ag}(h:Fo.Is f B 0)(ok:Fo.Ok B)(he:(Fo.deedsF f [] 0)[i]?=some en)(hb:B[i]?=some b){e:Nat}{x:Bool×Str}(hx:b.ways[e]?=some x):en.path.take (e+1)∈B1 f↔x.1=true:=by
 have m:=Fo.level_sw h ok he hb hx
 refine⟨fun hc=>?_,fun hc=>Co.mpr ⟨_,MH.mpr ⟨m,hc⟩,rfl⟩⟩
 obtain⟨s,hs,es⟩:=Co.mp hc
 obtain⟨hs,hc⟩:=MH.mp hs
 have nd:=Fo.sw_nodup f [] 0
 have:s=(en.path.take (e+1),x):=by
  obtain⟨i1,l1,g1⟩:=E5.mp hs
  obtain⟨i2,l2,g2⟩:=E5.mp m
  have:i1=i2:=by
   have eq:((Fo.swF f [] 0).map (·.1))[i1]'(by rw[Au];exact l1)=((Fo.swF f [] 0).map (·.1))[i2]'(by rw[Au];exact l2):=by
    rw[Ow,Ow,g1,g2]
    exact es
   rcases RX i1 i2 with z|z|z
   .exact absurd eq (RW.mp nd i1 i2 _ _ z)
   .exact z
   .exact absurd eq.symm (RW.mp nd i2 i1 _ _ z)
  subst this
  rw[←g1,g2]
 rw[this]at hc
 exact hc
noncomputable def CQ (u w:Nat->Nat)(ln hn:Nat->Int):Nat->List Ao
 |0=>[]
 |n+1=>CQ u w ln hn n++[⟨u n,1+n,-(ln n)⟩]++[⟨1+n,w n,hn n⟩]
theorem QA (u w:Nat->Nat)(ln hn:Nat->Int):∀n,(CQ u w ln hn n).length=2*n
 |0=>rfl
 |n+1=>by rw[CQ,AB,AB,QA u w ln hn n];show 2*n+1+1=_;lia
theorem Qc (u w:Nat->Nat)(ln hn:Nat->Int):∀n i,i<n->(⟨u i,1+i,-(ln i)⟩:Ao)∈CQ u w ln hn n/\(⟨1+i,w i,hn i⟩:Ao)∈CQ u w ln hn n
 |
  n+1,i,h=>by
  rw[CQ]
  rcases Da i n with z|z
  .obtain⟨a,b⟩:=Qc u w ln hn n i z
   exact⟨DN _ (DN _ a),DN _ (DN _ b)⟩
  .have:i=n:=by lia
   subst this
   exact⟨DN _ (CD _ Cz),CD _ Cz⟩
theorem QV (u w:Nat->Nat)(ln hn:Nat->Int):∀n b,b∈CQ u w ln hn n->∃i<n,b=⟨u i,1+i,-(ln i)⟩\/b=⟨1+i,w i,hn i⟩
 |0,b,h=>nomatch h
 |
  n+1,b,h=>by
  rw[CQ]at h
  rcases BX.mp h with h|h
  .rcases BX.mp h with h|h
   .obtain⟨i,hi,e⟩:=QV u w ln hn n b h
    exact⟨i,by lia,e⟩
   .exact⟨n,by lia,.inl (BL.mp h)⟩
  .exact⟨n,by lia,.inr (BL.mp h)⟩
theorem QM {u w:Nat->Nat}{ln hn:Nat->Int}{n:Nat}(h:∀i<n,u i<=i/\w i<=i):WF (1+n) (CQ u w ln hn n):=fun b hb=>by
 obtain⟨i,hi,rfl|rfl⟩:=QV u w ln hn n b hb
 .have:=h i hi;exact⟨by show u i<1+n;lia,by show 1+i<1+n;lia⟩
 .have:=h i hi;exact⟨by show 1+i<1+n;lia,by show w i<1+n;lia⟩
theorem Ry {u w:Nat->Nat}{ln hn:Nat->Int}{n:Nat}(h:∀i<n,u i<=i/\w i<=i):∀v,v<1+n->∃M:Int,∀f,Holds f (CQ u w ln hn n)->f v-f 0<=M/\f 0-f v<=M:=by
 intro v
 induction v using Nat.strongRecOn with
 |
  _ v ih=>
  intro hv
  rcases S1 v with rfl|hp
  .exact⟨0,fun f _=>by lia⟩
  obtain⟨i,rfl⟩:∃i,v=1+i:=⟨v-1,by lia⟩
  have hi:i<n:=by lia
  obtain⟨h1,h2⟩:=h i hi
  obtain⟨M1,m1⟩:=ih (u i) (by lia) (by lia)
  obtain⟨M2,m2⟩:=ih (w i) (by lia) (by lia)
  obtain⟨a,b⟩:=Qc u w ln hn n i hi
  have up:∀x y:Int,∃M,x<=M/\y<=M:=fun x y=>by
   rcases Int.le_total x y with z|z
   .exact⟨y,z,GF _⟩
   .exact⟨x,GF _,z⟩
  obtain⟨M,k1,k2⟩:=up (M1-ln i) (M2+hn i)
  refine⟨M,fun f hf=>?_⟩
  have c1:f (u i)-f (1+i)<=-(ln i):=hf _ a
  have c2:f (1+i)-f (w i)<=hn i:=hf _ b
  have:=m1 f hf
  have:=m2 f hf
  lia
theorem Pi {u w:Nat->Nat}{ln hn:Nat->Int}{n:Nat}(h:∀i<n,u i<=i/\w i<=i){x y:Nat}(hx:x<1+n)(hy:y<1+n)(h0:x=0\/y=0){f:Nat->Int}(hf:Holds f (CQ u w ln hn n)):∃(c:Int) (R:List Nat) (vs:List V),G7 (1+n) (CQ u w ln hn n) x y=some (c,R,vs)/\(∀g,Holds g (CQ u w ln hn n)->g x-g y<=c)/\∃g,Holds g (CQ u w ln hn n)/\g x-g y=c:=by
 have wf:=QM (ln:=ln) (hn:=hn) h
 rcases Zy hx hy hf wf with⟨e,ne,q⟩|⟨c,R,g,v,e,g0,hg,hgc,hC,hc,hRl,_,_⟩
 .exfalso
  have bd:∃M:Int,∀f,Holds f (CQ u w ln hn n)->f x-f y<=M:=by
   rcases h0 with rfl|rfl
   .obtain⟨M,m⟩:=Ry (ln:=ln) (hn:=hn) h y hy
    exact⟨M,fun f hf=>(m f hf).2⟩
   .obtain⟨M,m⟩:=Ry (ln:=ln) (hn:=hn) h x hx
    exact⟨M,fun f hf=>(m f hf).1⟩
  obtain⟨M,m⟩:=bd
  obtain⟨g,hg⟩:=Zw hy hf wf ne q (-(M+1))
  have h1:=m g hg.left
  have h2:g y-g x<=-(M+1):=hg ⟨y,x,-(M+1)⟩ (CD _ Cz)
  lia
 .exact⟨c,R,_,e,fun g' hg'=>by have:=hC.sum hg';lia,g,hg,hgc⟩
noncomputable def Pc (D:Dw)(i:Nat):Str:=match D.loops[i]? with
 |some t=>t.nm
 |none=>""
noncomputable def F7 (D:Dw)(i:Nat):Str×Int:=match D.loops[i]? with
 |some t=>t.lo
 |none=>("",0)
noncomputable def Fg (D:Dw)(i:Nat):Str×Int:=match D.loops[i]? with
 |some t=>t.hi
 |none=>("",0)
theorem Lh {D:Dw}{i:Nat}{t:Hf}(h:D.loops[i]?=some t):Pc D i=t.nm/\F7 D i=t.lo/\Fg D i=t.hi:=by unfold Pc F7 Fg;rw[h];exact⟨rfl,rfl,rfl⟩
structure LW (D:Dw)(u w:Nat->Nat):Prop where
 l3:D.loops.length<=3
 lt:∀i<D.loops.length,u i<=i/\w i<=i
 lo:∀i<D.loops.length,Fk (D.loops.map (·.nm)) (F7 D i).1 1 (u i:Int)
 hi:∀i<D.loops.length,Fk (D.loops.map (·.nm)) (Fg D i).1 1 (w i:Int)
abbrev DS (D:Dw)(u w:Nat->Nat):List Ao:=CQ u w (fun i=>(F7 D i).2) (fun i=>(Fg D i).2) D.loops.length
theorem WB {H:Hp}{u w:Nat->Nat}{ln hn:Nat->Int}:∀(n:Nat) {ys:List V},DW H ys (Gp (JC 1 (fun i=>(u i:Int)) ln) (Jt 1 (fun i=>(w i:Int)) hn) n)->F8 H ys (CQ u w ln hn n):=fun n ys h=>by
 have e:∀n,Gp (JC 1 (fun i=>(u i:Int)) ln) (Jt 1 (fun i=>(w i:Int)) hn) n=(CQ u w ln hn n).map fun b=>((b.x:Int),(b.y:Int),b.c):=fun n=>by
  induction n with
  |zero=>rfl
  |
   succ n ih=>
   rw[Gp,CQ,ih,BA,BA]
   have:((1+n:Nat):Int)=1+(n:Int):=by lia
   show _++[((u n:Int),1+(n:Int),-(ln n))]++[(1+(n:Int),(w n:Int),hn n)]=_++[((u n:Int),((1+n:Nat):Int),-(ln n))]++[(((1+n:Nat):Int),(w n:Int),hn n)]
   rw[this]
 rw[e]at h
 refine⟨by rw[h.1,Au],fun i v b hv hb=>?_⟩
 obtain⟨t,rfl,ht⟩:=h.2 i v _ hv (by rw[Bq,hb];rfl)
 exact⟨t,rfl,ht⟩
def MC (D:Dw)(u w:Nat->Nat)(e:Nat)(d:Int)(L:List Int):Prop:=(L=[]/\∀f,¬Holds f (DS D u w))\/∃lo hi,L=[lo,hi]/\(∀f,Holds f (DS D u w)->lo<=f (1+e)-f 0+d/\f (1+e)-f 0+d<=hi)/\(∃f,Holds f (DS D u w)/\f (1+e)-f 0+d=lo)/\∃f,Holds f (DS D u w)/\f (1+e)-f 0+d=hi
theorem MC.len {D:Dw}{u w:Nat->Nat}{e:Nat}{d:Int}{L:List Int}(h:MC D u w e d L):L.length<=2:=by
 rcases h with⟨rfl,_⟩|⟨_,_,rfl,_⟩
 .exact Bj _
 .exact Af _
def VF (C:Addr)(c:Cs):Sp:=fun vs H Q _=>∃(x:V) (pp:Addr) (D:Dw) (u w:Nat->Nat) (e:Nat) (d:Int),vs=[x,.ref pp]/\DA C c H x D/\LW D u w/\H pp=some (.tup [.int (e:Int),.int d])/\e<D.loops.length/\∀(r:Addr) (H':Hp) (L:List Int),Aa H H'->H' r=some (.lst (L.map V.int))->MC D u w e d L->Q (.ref r) H'
structure Ln (B:List Ag)(Ds:List Dw)(u w:Nat->Nat->Nat):Prop where
 dd:∀b∈B,∃(k:Nat) (D:Dw),b.k=(k:Int)/\Ds[k]?=some D/\∀p∈b.pl,0<=p.1/\p.1<(D.loops.length:Int)
 lw:∀(k:Nat) (D:Dw),Ds[k]?=some D->LW D (u k) (w k)
inductive FB (Ds:List Dw)(u w:Nat->Nat->Nat)(P:List Int):List Fo.En->List Int->Prop
 |nil:FB Ds u w P [] []
 |skip {en:Fo.En} {ens:List Fo.En} {L:List Int}:FB Ds u w P ens L->en.path.take P.length≠P->FB Ds u w P (ens++[en]) L
 |add {en:Fo.En} {ens:List Fo.En} {L M:List Int} {k e:Nat} {D:Dw} {d:Int}:FB Ds u w P ens L->en.path.take P.length=P->en.k=(k:Int)->Ds[k]?=some D->en.pl[P.length-1]?=some ((e:Int),d)->MC D (u k) (w k) e d M->FB Ds u w P (ens++[en]) (L++M)
theorem FB.len {Ds:List Dw}{u w:Nat->Nat->Nat}{P:List Int}{ens:List Fo.En}{L:List Int}(h:FB Ds u w P ens L):L.length<=2*ens.length:=by
 induction h with
 |nil=>exact Af _
 |skip _ _ ih=>rw[AB,B4];lia
 |add _ _ _ _ _ hM ih=>rw[AB,AB,B4];have:=hM.len;lia
def Zd (L:List Int)(pr:Int×Int):Prop:=(L=[]/\pr=(0,0))\/(pr.1∈L/\(∀a∈L,pr.1<=a)/\pr.2∈L/\∀a∈L,a<=pr.2)
def LU (Ds:List Dw)(u w:Nat->Nat->Nat)(f:B3)(P:List Int)(pr:Int×Int):Prop := ∃L,FB Ds u w P (Fo.deedsF f [] 0) L/\Zd L pr
def GX (H:Hp)(y:V)(pr:Int×Int):Prop := ∃t,y = .ref t/\H t=some (.tup [.int pr.1,.int pr.2])
theorem GX.over {H H':Hp}{y:V}{pr:Int×Int}(h:GX H y pr)(e:Aa H H'):GX H' y pr:=by obtain⟨t,a,b⟩:=h;exact⟨t,a,e _ _ b⟩
def VW (CP C:Addr)(c:Cs):Sp:=fun vs H Q _=>∃(v:V) (p pa:Addr) (n:Int) (Ds:List Dw) (B:List Ag) (f:B3) (u w:Nat->Nat->Nat) (s:Fo.Sw Str),vs=[v,.ref p,.ref pa]/\Kc CP C c H v n Ds/\FV H p B f/\Ln B Ds u w/\s∈Fo.swF f [] 0/\H pa=some (.tup (s.1.map V.int))/\∀(y:V) (H':Hp) (pr:Int×Int),Aa H H'->GX H' y pr->LU Ds u w f s.1 pr->Q y H'
def Tn:Sp:=fun vs H Q _=>∃(p:Addr) (B:List Ag) (f:B3),vs=[.ref p]/\FV H p B f/\∀(r:Addr) (ys:List V) (H':Hp),Aa H H'->H' r=some (.lst ys)->Av (DF H') ys (B1 f)->Q (.ref r) H'
def SN (CP C:Addr)(c:Cs):Sp:=fun vs H Q _=>∃(v:V) (p:Addr) (n:Int) (Ds:List Dw) (B:List Ag) (f:B3) (u w:Nat->Nat->Nat),vs=[v,.ref p]/\Kc CP C c H v n Ds/\FV H p B f/\Ln B Ds u w/\∀(r:Addr) (ys:List V) (H':Hp) (E:List (Int×Int)),Aa H H'->H' r=some (.lst ys)->Av (GX H') ys E->E.length=(B1 f).length->(∀(i:Nat) (P:List Int) (pr:Int×Int),(B1 f)[i]?=some P->E[i]?=some pr->LU Ds u w f P pr)->Q (.ref r) H'
noncomputable def pK (P:List Int):List AC:=P.map Sum.inl
theorem Qm {P R:List Int}(h:pK P=pK R):P=R:=by
 unfold pK at h
 have:∀{x y:List Int},x.map (Sum.inl:Int->AC)=y.map Sum.inl->x=y:=fun{x y} h=>by
  induction x generalizing y with
  |
   nil=>cases y with
   |nil=>rfl
   |cons _ _=>cases h
  |
   cons a x ih=>cases y with
   |nil=>cases h
   |
    cons b y=>
    rw[Bx,Bx]at h
    injection h with h1 h2
    injection h1 with h1
    rw[h1,ih h2]
 exact this h
theorem Rm (P:List Int):(pK P).map kV=P.map V.int:=by unfold pK;rw[KB];rfl
open Classical in
theorem Nw:∀(L kvs:List (List AC×V)) (k:List AC),(L.map fun x=>x.1).Nodup->Ca (EZ kvs L) k=if k∈(L.map fun x=>x.1) then Ca L k else Ca kvs k
 |[],kvs,k,_=>by rw[Al (by simp)];rfl
 |
  (k0,v0)::L,kvs,k,nd=>by
  rw[Bx,GA]at nd
  show Ca (EZ (CU kvs k0 v0) L) k=_
  rw[Nw L _ k nd.2]
  by_cases c:k=k0
  .subst c
   rw[Al nd.1,MF,Ap rfl,Ap (by rw[Bx];exact Cz),Ed rfl]
  .by_cases d:k∈(L.map fun x=>x.1)
   .rw[Ap d,Ap (by rw[Bx];exact Cd _ d),Eh (fun z=>c z.symm)]
   .rw[Al d,MF,Al c,Al (by rw[Bx];intro z;rcases AZ.mp z with z|z;exact c z;exact d z)]
def Mq (H:Hp)(r:Addr)(C:List (List Int))(E:List (Int×Int))(W:List Int):Prop := ∃kvs,Rd H r (.dT kvs)/\(∀P,P∉C->Ca kvs (pK P)=none)/\∀(i:Nat) (P:List Int) (pr:Int×Int) (wd:Int),C[i]?=some P->E[i]?=some pr->W[i]?=some wd->∃t,Ca kvs (pK P)=some (.ref t)/\H t=some (.tup [.int pr.1,.int wd])
theorem Mq.over {H H':Hp}{r:Addr}{C:List (List Int)}{E:List (Int×Int)}{W:List Int}(h:Mq H r C E W)(e:Aa H H'):Mq H' r C E W:=by
 obtain⟨kvs,a,b,c⟩:=h
 exact⟨kvs,a.elim (fun q=>.inl (e _ _ q)) (fun⟨o,q⟩=>.inr ⟨o,e _ _ q⟩),b,fun i P pr wd h1 h2 h3=>let ⟨t,x,y⟩:=c i P pr wd h1 h2 h3;⟨t,x,e _ _ y⟩⟩
def Vr:Sp:=fun vs H Q _=>∃(p l m:Addr) (B:List Ag) (f:B3) (ys:List V) (E:List (Int×Int)) (W:List Int),vs=[.ref p,.ref l,.ref m]/\FV H p B f/\H l=some (.lst ys)/\Av (GX H) ys E/\E.length=(B1 f).length/\H m=some (.lst (W.map V.int))/\W.length=(B1 f).length/\∀(r:Addr) (H':Hp),Aa H H'->Mq H' r (B1 f) E W->Q (.ref r) H'
noncomputable def Of (t:Int):Option (Int×Int)->Int
 |none=>t
 |some (l,w)=>(t-l)/w
def Qv (H:Hp)(v:V)(o:Option (Int×Int)):Prop:=match o with
 |none=>v = .non
 |some (l,w)=>∃t,v = .ref t/\H t=some (.tup [.int l,.int w])
def ZN:Sp:=fun vs H Q _=>∃(v p:Addr) (W:List Int) (e:Nat) (d:Int) (ru:V) (o:Option (Int×Int)),vs=[.ref v,.ref p,ru]/\H v=some (.tup (W.map V.int))/\H p=some (.tup [.int (e:Int),.int d])/\e<W.length/\Qv H ru o/\(∀l w,o=some (l,w)->0<w/\w<18446744073709551616)/\Q (.int (Of (W.getD e 0+d) o)) H
noncomputable def Es (w:Str)(b:Bool):Int:=if w="any" then 0 else if b=decide (w="up") then -1 else 1
def Z8:Sp:=fun vs H Q _=>∃(w:Str) (b:Bool),vs=[.str w,.bl b]/\Q (.int (Es w b)) H
def Uw:Sp:=fun vs H Q _=>∃(p:Addr) (B:List Ag) (f:B3) (i j s:Nat) (b c:Ag) (x:Fo.En),vs=[.ref p,.int b.k,.int c.k]/\FV H p B f/\B[i]?=some b/\B[j]?=some c/\(Fo.deedsF f [] 0)[i]?=some x/\EB B i j s/\∀(r:Addr) (ys:List V) (H':Hp),Aa H H'->H r=none->H' r=some (.lst ys)->Av (JW H') ys (FC b c x.path s)->s<=b.ways.length/\s<=c.ways.length->Q (.ref r) H'
noncomputable def De:List (Str×Int×Int)->Bool->Int
 |[],b=>if b then -1 else 1
 |(w,x,y)::r,b=>if x=y then De r b else Es w (decide (x<y))
noncomputable def FQ (C:List (List Int))(E:List (Int×Int))(W:List Int)(P:List Int):Option (Int×Int):=if P∈C then some ((E.getD (C.idxOf P) (0,0)).1,W.getD (C.idxOf P) 0) else none
noncomputable def CH (V:List Int)(p:Int×Int):Int:=V.getD p.1.toNat 0+p.2
noncomputable def Df (C:List (List Int))(E:List (Int×Int))(W:List Int)(b c:Ag)(P:List Int)(T U:List Int)(e:Nat):Str×Int×Int:=((b.ways.getD e (false,"")).2,Of (CH T (b.pl.getD e (0,0))) (FQ C E W (P.take (e+1))),Of (CH U (c.pl.getD e (0,0))) (FQ C E W (P.take (e+1))))
def ZY (CP C:Addr)(c:Cs):Sp:=fun vs H Q _=>∃(v x y:V) (p wl:Addr) (n:Int) (Ds:List Dw) (B:List Ag) (f:B3) (u w:Nat->Nat->Nat) (W:List Int) (i j s:Nat) (b d:Ag) (en:Fo.En) (T U:List Int),vs=[v,.ref p,.ref wl,x,y]/\Kc CP C c H v n Ds/\FV H p B f/\Ln B Ds u w/\H wl=some (.lst (W.map V.int))/\W.length=(B1 f).length/\(∀m∈W,0<m/\m<18446744073709551616)/\B[i]?=some b/\B[j]?=some d/\(∃t r,x = .ref t/\H t=some (.tup [.int b.k,.ref r])/\H r=some (.tup (T.map V.int)))/\(∃t r,y = .ref t/\H t=some (.tup [.int d.k,.ref r])/\H r=some (.tup (U.map V.int)))/\(∀p∈b.pl,0<=p.1/\p.1<(T.length:Int))/\(∀p∈d.pl,0<=p.1/\p.1<(U.length:Int))/\(Fo.deedsF f [] 0)[i]?=some en/\EB B i j s/\
 ∀(H':Hp) (E:List (Int×Int)),Aa H H'->E.length=(B1 f).length->(∀(i:Nat) (P:List Int) (pr:Int×Int),(B1 f)[i]?=some P->E[i]?=some pr->LU Ds u w f P pr)->Q (.int (De ((List.range s).map (Df (B1 f) E W b d en.path T U)) (decide (i<j)))) H'
theorem aW {f:B3}{B:List Ag}{i j s:Nat}{x y:Fo.En}(h:Fo.Is f B 0)(hx:(Fo.deedsF f [] 0)[i]?=some x)(hy:(Fo.deedsF f [] 0)[j]?=some y)(hm:EB B i j s):HT.lexLt x.path y.path=decide (i<j):=by
 rw[X8 h hx hy hm]
 by_cases c:i<j
 .rw[Bw c,Bw (by lia)]
 .rw[Bk c,Bk (by lia)]
theorem M5 {l:List (Str×Int×Int)}{e:Nat}{b:Bool}(h:∀i<e,∀w x y,l[i]?=some (w,x,y)->x=y):De l b=De (l.drop e) b:=by
 induction e generalizing l with
 |zero=>rfl
 |
  succ e ih=>
  cases l with
  |nil=>rfl
  |
   cons t r=>
   obtain⟨w,x,y⟩:=t
   have e0:=h 0 (Nat.succ_pos _) w x y rfl
   show(if x=y then De r b else Es w (decide (x<y)))=_
   rw[Ap e0]
   exact ih fun i hi w x y hl=>h (i+1) (Nat.succ_lt_succ hi) w x y hl
theorem KR:∀A B:List Int,Ft (A.map fun i=>Tr.v (.int i)) (B.map fun i=>Tr.v (.int i))=true
 |[],_=>by cases ‹List Int› <;> rfl
 |_::_,[]=>rfl
 |a::A,b::B=>by rw[Bx,Bx,Ft,KR A B];rfl
theorem Nj:∀A:List Int,BN (A.map fun i=>Tr.v (.int i)) (A.map fun i=>Tr.v (.int i))=true
 |[]=>rfl
 |a::A=>by rw[Bx,BN,Nj A,BW,Qo rfl];rfl
theorem Ru {A B:List Int}(h:A≠B):BN (A.map fun i=>Tr.v (.int i)) (B.map fun i=>Tr.v (.int i))=false:=by
 induction A generalizing B with
 |
  nil=>cases B with
  |nil=>exact absurd rfl h
  |cons b B=>rfl
 |
  cons a A ih=>cases B with
  |nil=>rfl
  |
   cons b B=>
   rw[Bx,Bx,BN,BW]
   by_cases c:a=b
   .subst c
    rw[ih (fun z=>h (by rw[z])),Oo]
   .have:DY (.int a) (.int b)=false:=by simp[DY,c]
    rw[this];rfl
theorem YG {L:List (List AC×V)}{i:Nat}{k:List AC}{v:V}(nd:(L.map fun x=>x.1).Nodup)(h:L[i]?=some (k,v)):Ca L k=some v:=by
 induction L generalizing i with
 |nil=>cases h
 |
  cons x L ih=>
  rw[Bx,GA]at nd
  cases i with
  |zero=>cases h;exact Ed rfl
  |
   succ i=>
   rw[Eh (fun z=>nd.1 (by rw[z];exact Co.mpr ⟨_,AH h,rfl⟩))]
   exact ih nd.2 h
end
noncomputable def FU (n:Nat)(prev:List (Nat×Nat))(b:Ag):List (Nat×Nat):=prev.take b.sh++(((List.range b.ways.length).map fun e=>(n,e)).drop b.sh)
inductive AR (B:List Ag):Nat->Nat->Nat->Prop
 |own {j e:Nat} {b:Ag}:B[j]?=some b->b.sh<=e->e<b.ways.length->AR B j e j
 |up {j e m:Nat} {b:Ag}:B[j+1]?=some b->e<b.sh->e<b.ways.length->AR B j e m->AR B (j+1) e m
theorem AR.lt {B:List Ag}{j e m:Nat}(h:AR B j e m):∃b,B[j]?=some b/\e<b.ways.length:=by cases h with
 |own h1 _ h3=>exact⟨_,h1,h3⟩
 |up h1 _ h3 _=>exact⟨_,h1,h3⟩
theorem AR.le {B:List Ag}{j e m:Nat}(h:AR B j e m):m<=j:=by induction h with
 |own=>exact Af _
 |up _ _ _ _ ih=>lia
theorem AR.inj {B:List Ag}{j e m m':Nat}(h:AR B j e m)(g:AR B j e m'):m=m':=by
 induction h with
 |
  own h1 h2 h3=>
  cases g with
  |own=>rfl
  |up g1 g2 _ _=>rw[h1]at g1;cases g1;lia
 |
  up h1 h2 h3 _ ih=>
  cases g with
  |own g1 g2 _=>rw[h1]at g1;cases g1;lia
  |up _ _ _ g4=>exact ih g4
theorem AR.self {B:List Ag}{j e m:Nat}(h:AR B j e m):AR B m e m:=by induction h with
 |own h1 h2 h3=>exact .own h1 h2 h3
 |up _ _ _ _ ih=>exact ih
theorem AR.big {B:List Ag}{e k:Nat}{c:Ag}(k3:B[k]?=some c)(z:c.sh<=e){j m:Nat}(h:AR B j e m):k<=j->k<=m:=by
 induction h with
 |own h1 h2 h3=>intro h;exact h
 |
  @up j e m b h1 h2 h3 h4 ih=>
  intro hk
  rcases Da j k with z2|z2
  .have:k=j+1:=by lia
   subst this
   rw[h1]at k3
   cases k3
   lia
  .exact ih z z2
theorem AR.on {B:List Ag}(ok:Fo.Ok B){i e s m:Nat}(hs:e<s):∀(n:Nat),(∀k c,i<k->k<=i+n->B[k]?=some c->s<=c.sh)->i+n<B.length->(AR B i e m↔AR B (i+n) e m)
 |0,_,_=>Iff.rfl
 |
  n+1,hl,hb=>by
  rw[AR.on ok hs n (fun k c h1 h2 h3=>hl k c h1 (by lia) h3) (by lia)]
  have hc:B[i+n+1]?=some (B[i+n+1]'hb):=As _
  generalize B[i+n+1]'hb=c at hc
  have:=hl (i+n+1) c (by lia) (by lia) hc
  have:=ok.sh c (AH hc)
  refine⟨fun h=>.up hc (by lia) (by lia) h,fun h=>?_⟩
  cases h with
  |own h1 h2 h3=>rw[show i+(n+1)=i+n+1 from rfl,hc]at h1;cases h1;lia
  |up h1 h2 h3 h4=>exact h4
theorem AR.share {B:List Ag}(ok:Fo.Ok B){i e s m m':Nat}(hi:AR B i e m)(n:Nat)(hj:AR B (i+n) e m')(hl:Fo.Least B i (i+n) s):m=m'↔e<s:=by
 refine⟨fun hm=>?_,fun hs=>?_⟩
 .rcases Da e s with z|z
  .exact z
  .exfalso
   obtain⟨⟨k,c,k1,k2,k3,k4⟩,_⟩:=hl
   have:=hj.big k3 (by lia) k2
   have:=hi.le
   lia
 .obtain⟨b,hb,_⟩:=hj.lt
  exact((AR.on ok hs n hl.2 (Ay.mp hb).1).mp hi).inj hj
theorem AR.many {B:List Ag}(ok:Fo.Ok B){i j e s m m':Nat}(hi:AR B i e m)(hj:AR B j e m')(hm:EB B i j s):m=m'↔e<s:=by
 rcases hm with⟨rfl,b,hb,rfl⟩|⟨hij,hl⟩|⟨hij,hl⟩
 .obtain⟨b',hb',he⟩:=hi.lt
  rw[hb]at hb'
  cases hb'
  exact⟨fun _=>he,fun _=>hi.inj hj⟩
 .obtain⟨n,rfl⟩:∃n,j=i+n:=⟨j-i,by lia⟩
  exact hi.share ok n hj hl
 .obtain⟨n,rfl⟩:∃n,i=j+n:=⟨i-j,by lia⟩
  rw[←hj.share ok n hi hl]
  exact eq_comm
theorem aE {n:Nat}{prev:List (Nat×Nat)}{b:Ag}(h1:b.sh<=prev.length)(h2:b.sh<=b.ways.length):(FU n prev b).length=b.ways.length:=by
 unfold FU
 rw[AB,AY,Fx,Au,Dx]
 lia
theorem ZH {n e:Nat}{prev:List (Nat×Nat)}{b:Ag}(h1:b.sh<=prev.length)(h:e<b.sh):(FU n prev b)[e]?=prev[e]?:=by
 unfold FU
 rw[BR (by rw[AY];lia),DO h]
theorem U9 {n e:Nat}{prev:List (Nat×Nat)}{b:Ag}(h1:b.sh<=prev.length)(h:b.sh<=e)(h2:e<b.ways.length):(FU n prev b)[e]?=some (n,e):=by
 unfold FU
 have l:(prev.take b.sh).length=b.sh:=by rw[AY];lia
 rw[Bz (by lia),l,J7,show b.sh+(e-b.sh)=e by lia,Bq,DP h2]
 rfl
inductive DH (B:List Ag):Nat->List (List (Nat×Nat))->Prop
 |nil:DH B 0 []
 |snoc {n:Nat} {R:List (List (Nat×Nat))} {row:List (Nat×Nat)} {b:Ag}:DH B n R->B[n]?=some b->row.length=b.ways.length->(∀e,e<b.ways.length->∃m,row[e]?=some (m,e)/\AR B n e m)->DH B (n+1) (R++[row])
theorem DH.len {B:List Ag}{n:Nat}{R:List (List (Nat×Nat))}(h:DH B n R):R.length=n:=by
 induction h with
 |nil=>rfl
 |snoc _ _ _ _ ih=>rw[AB,ih];rfl
theorem DH.at {B:List Ag}{n:Nat}{R:List (List (Nat×Nat))}(h:DH B n R){i:Nat}{b:Ag}(hi:i<n)(hb:B[i]?=some b):∃row,R[i]?=some row/\row.length=b.ways.length/\∀e,e<b.ways.length->∃m,row[e]?=some (m,e)/\AR B i e m:=by
 induction h with
 |nil=>lia
 |
  @snoc n R row b' h1 h2 h3 h4 ih=>
  rcases Da i n with z|z
  .obtain⟨r,a,c⟩:=ih z
   exact⟨r,by rw[BR (by rw[h1.len];exact z)];exact a,c⟩
  .have:i=n:=by lia
   subst this
   rw[hb]at h2
   cases h2
   exact⟨row,by rw[Bz (by rw[h1.len];exact Af _),h1.len,Cn];rfl,h3,h4⟩
theorem DH.next {B:List Ag}(ok:Fo.Ok B)(h0:∀b,B.head?=some b->b.sh=0){n:Nat}{R:List (List (Nat×Nat))}{b:Ag}(h:DH B n R)(hb:B[n]?=some b):DH B (n+1) (R++[if b.sh=0 then(List.range b.ways.length).map fun e=>(n,e) else FU n (R.getD (n-1) []) b]):=by
 have hsh:=ok.sh b (AH hb)
 by_cases c:b.sh=0
 .rw[Ap c]
  refine .snoc h hb (by rw[Au,Dx]) fun e he=>⟨n,?_,.own hb (by lia) he⟩
  rw[Bq,DP he]
  rfl
 .rw[Al c]
  cases n with
  |zero=>exact absurd (h0 b (by rw[KD];exact hb)) c
  |
   succ n=>
   have l:=(Ay.mp hb).1
   have ha:B[n]?=some (B[n]'(by lia)):=As _
   generalize B[n]'(by lia)=a at ha
   obtain⟨row,r1,r2,r3⟩:=h.at (Gz n) ha
   have hln:=(ok.ln n a b ha hb).1
   have e:R.getD (n+1-1) []=row:=by rw[Bv,Nat.add_sub_cancel,r1];rfl
   rw[e]
   refine .snoc h hb (aE (by lia) hsh) fun e he=>?_
   rcases Da e b.sh with z|z
   .obtain⟨m,m1,m2⟩:=r3 e (by lia)
    exact⟨m,by rw[ZH (by lia) z];exact m1,.up hb z he m2⟩
   .exact⟨n+1,U9 (by lia) z he,.own hb z he⟩
theorem DH.con {B:List Ag}{n:Nat}{R:List (List (Nat×Nat))}(h:DH B n R){i m e:Nat}{b:Ag}{row:List (Nat×Nat)}(hi:i<n)(hb:B[i]?=some b)(hr:R[i]?=some row):(m,e)∈row↔AR B i e m:=by
 obtain⟨row',r1,r2,r3⟩:=h.at hi hb
 rw[hr]at r1
 cases r1
 refine⟨fun z=>?_,fun z=>?_⟩
 .obtain⟨k,hk,ek⟩:=E5.mp z
  obtain⟨m',m1,m2⟩:=r3 k (by lia)
  rw[As hk,ek]at m1
  cases m1
  exact m2
 .obtain⟨b',hb',he⟩:=z.lt
  rw[hb]at hb'
  cases hb'
  obtain⟨m',m1,m2⟩:=r3 e he
  rw[z.inj m2]
  exact AH m1
noncomputable def wr (b:Ag)(e:Nat):Ag:=⟨b.k,if b.sh>e then b.sh+1 else b.sh,b.ways.take e++[(true,(b.ways.getD e (false,"")).2)]++b.ways.drop e,b.pl.take e++[b.pl.getD e (0,0)]++b.pl.drop e⟩
theorem Kf {α:Type}{l:List α}{e:Nat}{x:α}(h:e<l.length):(l.take e++[x]++l.drop e).length=l.length+1:=by
 rw[AB,AB,AY,Fx,B4];lia
theorem Hn {α:Type}{l:List α}{e i:Nat}{x:α}(h:e<l.length)(hi:i<e):(l.take e++[x]++l.drop e)[i]?=l[i]?:=by
 rw[Dp,BR (by rw[AY];lia),DO hi]
theorem KO {α:Type}{l:List α}{e:Nat}{x:α}(h:e<l.length):(l.take e++[x]++l.drop e)[e]?=some x:=by
 have l1:(l.take e).length=e:=by rw[AY];lia
 rw[Dp,Bz (by lia),l1,Cn];rfl
theorem MD {α:Type}{l:List α}{e i:Nat}{x:α}(h:e<l.length)(hi:e<=i):(l.take e++[x]++l.drop e)[i+1]?=l[i]?:=by
 have l1:(l.take e++[x]).length=e+1:=by rw[AB,AY,B4];lia
 rw[Bz (by lia),l1,J7]
 congr 1
 lia
theorem VO {α:Type}{l:List α}{e i:Nat}{x:α}(h:e<l.length)(hi:i<=e):(l.take e++[x]++l.drop e).take i=l.take i:=by
 rw[Dp,KG (by rw[AY];lia),Hx,G5 hi]
theorem Qq {α:Type}{l:List α}{e i:Nat}{x:α}(h:e<l.length)(hi:e<=i):(l.take e++[x]++l.drop e).take (i+1)=(l.take i).take e++[x]++(l.take i).drop e:=by
 have l1:(l.take e++[x]).length=e+1:=by rw[AB,AY,B4];lia
 rw[List.take_append,l1,Du (by lia),Hx,G5 hi,List.drop_take,show i+1-(e+1)=i-e by lia]
theorem Zn {α:Type}{l:List α}{e i:Nat}{x:α}(h:e<l.length)(hi:e<=i):(l.take e++[x]++l.drop e).drop (i+1)=l.drop i:=by
 have l1:(l.take e++[x]).length=e+1:=by rw[AB,AY,B4];lia
 rw[List.drop_append,l1,S2 (by lia),GD,List.drop_drop]
 congr 1
 lia
theorem Nt {b:Ag}{e:Nat}(h:e<b.ways.length):(wr b e).ways.length=b.ways.length+1:=Kf h
theorem NZ {b:Ag}{e i:Nat}(h:e<b.ways.length)(hi:i<=e):(wr b e).ways.take i=b.ways.take i:=VO h hi
theorem JD (b:Ag)(e:Nat):(wr b e).sh=if b.sh>e then b.sh+1 else b.sh:=rfl
structure Ce (B W:List Ag)(m e0:Nat):Prop where
 len:W.length=B.length
 yes:∀i b,B[i]?=some b->AR B i e0 m->W[i]?=some (wr b e0)
 no:∀i b,B[i]?=some b->¬AR B i e0 m->W[i]?=some b
theorem Ce.inv {B W:List Ag}{m e0:Nat}(h:Ce B W m e0){i:Nat}{x:Ag}(hx:W[i]?=some x):∃b,B[i]?=some b/\((AR B i e0 m/\x=wr b e0/\e0<b.ways.length)\/(¬AR B i e0 m/\x=b)):=by
 have l:=(Ay.mp hx).1
 rw[h.len]at l
 have hb:B[i]?=some B[i]:=As l
 generalize B[i]=b at hb
 by_cases c:AR B i e0 m
 .have:=h.yes i b hb c
  rw[hx]at this
  obtain⟨b',hb',he⟩:=c.lt
  rw[hb]at hb'
  cases hb'
  exact⟨b,hb,.inl ⟨c,Ck this,he⟩⟩
 .have:=h.no i b hb c
  rw[hx]at this
  exact⟨b,hb,.inr ⟨c,Ck this⟩⟩
theorem Ce.ks {B W:List Ag}{m e0:Nat}(h:Ce B W m e0):W.map (·.k)=B.map (·.k):=by
 refine Ot fun i=>?_
 rw[Bq,Bq]
 cases hx:W[i]? with
 |
  none=>
  have:W.length<=i:=IW.mp hx
  rw[IW.mpr (by rw[←h.len];exact this)]
 |
  some x=>
  obtain⟨b,hb,⟨_,rfl,_⟩|⟨_,rfl⟩⟩:=h.inv hx
  .rw[hb];rfl
  .rw[hb]
theorem Ce.ok {B W:List Ag}{m e0:Nat}(h:Ce B W m e0)(ok:Fo.Ok B):Fo.Ok W:=by
 refine⟨fun x hx=>?_,fun i x y hx hy=>?_⟩
 .obtain⟨i,hi,rfl⟩:=E5.mp hx
  obtain⟨b,hb,⟨_,e,l⟩|⟨_,e⟩⟩:=h.inv (As hi)
  .rw[e]
   have:=ok.sh b (AH hb)
   rw[Nt l,JD]
   split<;>lia
  .rw[e];exact ok.sh b (AH hb)
 .obtain⟨b,hb,hx'⟩:=h.inv hx
  obtain⟨c,hc,hy'⟩:=h.inv hy
  obtain⟨o1,o2⟩:=ok.ln i b c hb hc
  have o3:=ok.sh c (AH hc)
  rcases hx' with⟨kb,rfl,lb⟩|⟨kb,rfl⟩<;>rcases hy' with⟨kc,rfl,lc⟩|⟨kc,rfl⟩
  .have up:e0<c.sh:=by
    cases kc with
    |own=>have:=kb.le;lia
    |up g1 g2 _ _=>rw[hc]at g1;cases g1;exact g2
   have es:(wr c e0).sh=c.sh+1:=Ap up
   rw[es]
   have gd:∀(x:Ag),(wr x e0).ways=x.ways.take e0++[(true,(x.ways.getD e0 (false,"")).2)]++x.ways.drop e0:=fun _=>rfl
   refine⟨by rw[gd,Kf lb];lia,?_⟩
   rw[gd,gd,Qq lc (by lia),Qq lb (by lia),o2]
   have:c.ways.getD e0 (false,"")=b.ways.getD e0 (false,""):=by
    have h:(c.ways.take c.sh)[e0]?=(b.ways.take c.sh)[e0]?:=by rw[o2]
    rw[DO up,DO up]at h
    rw[Bv,Bv,h]
   rw[this]
  .have up:y.sh<=e0:=by
    rcases Da e0 y.sh with z|z
    .exact absurd (.up hc z (by lia) kb) kc
    .exact z
   refine⟨?_,?_⟩
   .rw[Nt lb];lia
   .rw[NZ lb up]
    exact o2
  .have up:c.sh<=e0:=by
    cases kc with
    |own g1 g2 _=>rw[hc]at g1;cases g1;exact g2
    |up g1 g2 g3 g4=>exact absurd g4 kb
   have es:(wr c e0).sh=c.sh:=Al (by lia)
   rw[es]
   refine⟨o1,?_⟩
   rw[NZ lc up]
   exact o2
  .exact⟨o1,o2⟩
theorem Ce.wys {B W:List Ag}{m e0 n:Nat}(h:Ce B W m e0)(hn:∀b∈B,b.ways.length<=n/\b.pl.length=b.ways.length):∀x∈W,x.ways.length<=n+1/\x.pl.length=x.ways.length:=fun x hx=>by
 obtain⟨i,hi,rfl⟩:=E5.mp hx
 obtain⟨b,hb,⟨_,e,l⟩|⟨_,e⟩⟩:=h.inv (As hi)
 .obtain⟨h1,h2⟩:=hn b (AH hb)
  rw[e]
  have a1:(wr b e0).ways.length=b.ways.length+1:=Kf l
  have a2:(wr b e0).pl.length=b.pl.length+1:=Kf (by lia)
  lia
 .obtain⟨h1,h2⟩:=hn b (AH hb)
  rw[e]
  lia
theorem Ce.lv {B W:List Ag}{m e0:Nat}(h:Ce B W m e0)(lv:Fq B)(h3:∀b∈B,b.ways.length<=3):Fq W:=by
 have:=h.wys fun b hb=>⟨h3 b hb,lv.pll b hb⟩
 refine⟨h.ok lv.ok,fun x hx=>?_,by rw[h.len];exact lv.len,fun x hx=>by have:=(this x hx).1;lia,fun x hx=>(this x hx).2⟩
 rw[KD]at hx
 obtain⟨b,hb,hc⟩:=h.inv hx
 have b0:=lv.fst b (by rw[KD];exact hb)
 rcases hc with⟨_,rfl,_⟩|⟨_,rfl⟩
 .show(if b.sh>e0 then b.sh+1 else b.sh)=0
  rw[b0,Al (by lia)]
 .exact b0
theorem b9 {b:Ag}{e:Nat}:b.sh<=(wr b e).sh:=by
 show b.sh<=(if b.sh>e then b.sh+1 else b.sh)
 split<;>lia
open Classical in
def EU (B:List Ag)(m e0 i s:Nat):Nat:=if e0<s/\AR B i e0 m then s+1 else s
theorem Ce.least {B W:List Ag}{m e0:Nat}(h:Ce B W m e0)(ok:Fo.Ok B){i j s:Nat}(hij:i<j)(hj:j<B.length)(hl:Fo.Least B i j s):Fo.Least W i j (EU B m e0 i s)/\(e0<s->(AR B i e0 m↔AR B j e0 m)):=by
 obtain⟨⟨k,c,k1,k2,k3,k4⟩,hall⟩:=hl
 have on:e0<s->∀k,i<k->k<=j->(AR B i e0 m↔AR B k e0 m):=fun hs k h1 h2=>by
  obtain⟨n,rfl⟩:∃n,k=i+n:=⟨k-i,by lia⟩
  exact AR.on ok hs n (fun k' c g1 g2 g3=>hall k' c g1 (by lia) g3) (by lia)
 refine⟨?_,fun hs=>on hs j hij (Af _)⟩
 unfold EU
 by_cases q:e0<s/\AR B i e0 m
 .rw[Ap q]
  refine⟨⟨k,wr c e0,k1,k2,h.yes k c k3 ((on q.1 k k1 k2).mp q.2),?_⟩,fun k' x g1 g2 g3=>?_⟩
  .show(if c.sh>e0 then c.sh+1 else c.sh)=_
   rw[Ap (by lia),k4]
  .obtain⟨b,hb,hc⟩:=h.inv g3
   have:=hall k' b g1 g2 hb
   rcases hc with⟨_,rfl,_⟩|⟨nk,rfl⟩
   .show _<=(if b.sh>e0 then b.sh+1 else b.sh)
    rw[Ap (by lia)]
    lia
   .exact absurd ((on q.1 k' g1 g2).mp q.2) nk
 .rw[Al q]
  have ge:∀k' x,i<k'->k'<=j->W[k']?=some x->s<=x.sh:=fun k' x g1 g2 g3=>by
   obtain⟨b,hb,hc⟩:=h.inv g3
   have:=hall k' b g1 g2 hb
   rcases hc with⟨_,rfl,_⟩|⟨_,rfl⟩
   .have:=@b9 b e0;lia
   .exact this
  refine⟨?_,ge⟩
  by_cases kc:AR B k e0 m
  .have ns:s<=e0:=by
    rcases Da e0 s with z|z
    .exact absurd ⟨z,(on z k k1 k2).mpr kc⟩ q
    .exact z
   refine⟨k,wr c e0,k1,k2,h.yes k c k3 kc,?_⟩
   show(if c.sh>e0 then c.sh+1 else c.sh)=_
   rw[Al (by lia),k4]
  .exact⟨k,c,k1,k2,h.no k c k3 kc,k4⟩
theorem Ce.many {B W:List Ag}{m e0:Nat}(h:Ce B W m e0)(ok:Fo.Ok B){i j s:Nat}(hi:i<B.length)(hj:j<B.length)(hm:EB B i j s):EB W i j (EU B m e0 i s)/\(e0<s->(AR B i e0 m↔AR B j e0 m)):=by
 rcases hm with⟨rfl,b,hb,rfl⟩|⟨hij,hl⟩|⟨hij,hl⟩
 .refine⟨?_,fun _=>Iff.rfl⟩
  unfold EU
  by_cases c:AR B i e0 m
  .obtain⟨b',hb',he⟩:=c.lt
   rw[hb]at hb'
   cases hb'
   rw[Ap ⟨he,c⟩]
   refine .inl ⟨rfl,_,h.yes i b hb c,?_⟩
   rw[Nt he]
  .rw[Al (fun z=>c z.2)]
   exact .inl ⟨rfl,_,h.no i b hb c,rfl⟩
 .obtain⟨a,b⟩:=h.least ok hij hj hl
  exact⟨.inr (.inl ⟨hij,a⟩),b⟩
 .obtain⟨a,b⟩:=h.least ok hij hi hl
  refine⟨.inr (.inr ⟨hij,?_⟩),fun z=>(b z).symm⟩
  have:EU B m e0 i s=EU B m e0 j s:=by
   unfold EU
   by_cases z:e0<s
   .by_cases c:AR B j e0 m
    .rw[Ap ⟨z,(b z).mp c⟩,Ap ⟨z,c⟩]
    .rw[Al (fun y=>c ((b z).mpr y.2)),Al (fun y=>c y.2)]
   .rw[Al (fun y=>z y.1),Al (fun y=>z y.1)]
  rw[this]
  exact a
theorem Np (p:List Int):∀(ws:List CS) (e:Nat),((Fo.swOf p e ws).filter (·.2.1)).length=EM ws
 |[],e=>rfl
 |
  w::ws,e=>by
  show(((p.take (e+1),w.1,w.2)::Fo.swOf p (e+1) ws).filter (·.2.1)).length=List.countP _ _
  rw[List.filter_cons,List.countP_cons]
  have ih:_=List.countP (fun w:CS=>w.1) ws:=Np p ws (e+1)
  cases h:w.1 with
  |true=>show(_::_).length=_;rw[BH,ih];rfl
  |false=>show(List.filter _ _).length=_;rw[ih];rfl
abbrev cu (b:Ag):Nat:=EM (b.ways.drop b.sh)
noncomputable def FK:List Ag->Nat
 |[]=>0
 |b::B=>cu b+FK B
theorem R0:∀(B:List Ag) (prev:List Int),((Fo.sweepsFrom prev B).filter (·.2.1)).length=FK B
 |[],_=>rfl
 |
  b::B,prev=>by
  show((Fo.swOf (Fo.nxt prev b) b.sh (b.ways.drop b.sh)++Fo.sweepsFrom (Fo.nxt prev b) B).filter (·.2.1)).length=_
  rw[S3,AB,Np,R0 B]
  rfl
theorem QB:∀(B:List Ag),(∀b∈B,cu b=0)->FK B=0
 |[],_=>rfl
 |
  b::B,h=>by
  show cu b+FK B=0
  rw[h b Cz,QB B fun c hc=>h c (Cd _ hc)]
theorem PL:∀(B:List Ag) (m:Nat),m<B.length->(∀i b,B[i]?=some b->cu b=if i=m then 1 else 0)->FK B=1
 |[],m,h,_=>absurd h (J9 _)
 |
  b::B,0,_,h=>by
  show cu b+FK B=1
  rw[h 0 b rfl,QB B fun c hc=>?_]
  .rfl
  .obtain⟨i,hi,e⟩:=E5.mp hc
   have:=h (i+1) c (by rw[Hw,As hi,e])
   rw[this];rfl
 |
  b::B,m+1,hl,h=>by
  show cu b+FK B=1
  rw[h 0 b rfl,PL B m (by rw[BH]at hl;lia) fun i c hc=>?_]
  .rfl
  .have:=h (i+1) c (by rw[Hw];exact hc)
   rw[this]
   by_cases z:i=m
   .rw[Ap z,Ap (by lia)]
   .rw[Al z,Al (by lia)]
theorem Yz {f:B3}{B:List Ag}(h:Fo.Is f B 0)(hn:0<B.length)(h0:∀b,B.head?=some b->b.sh=0):(B1 f).length=FK B:=by
 unfold B1
 rw[Au,X2 h hn]
 cases B with
 |nil=>cases hn
 |
  cons b B=>
  show((Fo.swOf _ 0 b.ways++Fo.sweepsFrom _ B).filter (·.2.1)).length=cu b+FK B
  rw[S3,AB,Np,R0 B]
  show _=EM (b.ways.drop b.sh)+_
  rw[h0 b rfl,KA]
def Ko (B:List Ag):Prop := ∀b∈B,∀x∈b.ways,x.1=false
theorem Io {ws:List CS}(h:∀x∈ws,x.1=false):EM ws=0:=by
 refine List.countP_eq_zero.mpr fun x hx=>?_
 rw[h x hx]
 decide
theorem Ce.cut {B W:List Ag}{m e0:Nat}(h:Ce B W m e0)(pl:Ko B)(hm:AR B m e0 m):∀i x,W[i]?=some x->cu x=if i=m then 1 else 0:=fun i x hx=>by
 obtain⟨b,hb,hc⟩:=h.inv hx
 have pb:=pl b (AH hb)
 rcases hc with⟨kb,rfl,l⟩|⟨kb,rfl⟩
 .show EM (List.drop _ _)=_
  rcases Da e0 b.sh with z|z
  .have ne:i≠m:=fun y=>by
    cases kb with
    |own g1 g2 _=>rw[hb]at g1;cases g1;lia
    |up g1 g2 g3 g4=>have:=g4.le;lia
   rw[Al ne,JD,Ap z]
   rw[show(wr b e0).ways.drop (b.sh+1)=b.ways.drop b.sh from Zn l (by lia)]
   exact Io fun x hx=>pb x (KE hx)
  .have eq:i=m:=by
    cases kb with
    |own g1 g2 _=>rfl
    |up g1 g2 g3 g4=>rw[hb]at g1;cases g1;lia
   rw[Ap eq,JD,Al (by lia)]
   have t:=List.take_append_drop b.sh (wr b e0).ways
   have c1:EM ((wr b e0).ways.take b.sh++(wr b e0).ways.drop b.sh)=EM ((wr b e0).ways.take b.sh)+EM ((wr b e0).ways.drop b.sh):=S4
   rw[t,NZ l z,Io (fun x hx=>pb x (J8 hx))]at c1
   have c2:EM (wr b e0).ways=1:=by
    show List.countP _ (_++_++_)=1
    rw[S4,S4,List.countP_singleton]
    have a1:List.countP (fun w:CS=>w.1) (b.ways.take e0)=0:=Io fun x hx=>pb x (J8 hx)
    have a2:List.countP (fun w:CS=>w.1) (b.ways.drop e0)=0:=Io fun x hx=>pb x (KE hx)
    rw[a1,a2]
    rfl
   lia
 .have ne:i≠m:=fun y=>kb (y▸hm)
  rw[Al ne]
  exact Io fun x hx=>pb x (KE hx)
theorem Ce.one {B W:List Ag}{m e0:Nat}{f:B3}(h:Ce B W m e0)(pl:Ko B)(hm:AR B m e0 m)(hl:Fq W)(hI:Fo.Is f W 0):(B1 f).length=1:=by
 obtain⟨b,hb,_⟩:=hm.lt
 have l:=(Ay.mp hb).1
 rw[Yz hI (by rw[h.len];lia) hl.fst]
 exact PL W m (by rw[h.len];exact l) (h.cut pl hm)
noncomputable def CG (b d:Ag)(T U:List Int)(e:Nat):Str×Int×Int:=((b.ways.getD e (false,"")).2,CH T (b.pl.getD e (0,0)),CH U (d.pl.getD e (0,0)))
theorem Qe {B:List Ag}(ok:Fo.Ok B){i j s:Nat}{b d:Ag}(hb:B[i]?=some b)(hd:B[j]?=some d)(hm:EB B i j s):s<=b.ways.length/\s<=d.ways.length:=by
 have lt:∀{i j:Nat} {b d:Ag},B[i]?=some b->B[j]?=some d->i<j->Fo.Least B i j s->s<=b.ways.length/\s<=d.ways.length:=fun{i j b d} hb hd hij hl=>by
  have lj:=(Ay.mp hd).1
  have hc:B[i+1]?=some (B[i+1]'(by lia)):=As _
  generalize B[i+1]'(by lia)=c at hc
  have:=hl.2 (i+1) c (by lia) (by lia) hc
  have:=(ok.ln i b c hb hc).1
  have:=hl.2 j d hij (Af _) hd
  have:=ok.sh d (AH hd)
  lia
 rcases hm with⟨rfl,b',hb',rfl⟩|⟨hij,hl⟩|⟨hij,hl⟩
 .rw[hb]at hb' hd
  cases hb'
  cases hd
  exact⟨Af _,Af _⟩
 .exact lt hb hd hij hl
 .exact(lt hd hb hij hl).symm
theorem QW {w:Str}{x0 y0 xd yd:Int}{bb:Bool}(h1:x0=y0->xd=yd)(h2:xd≠yd->decide (xd<yd)=decide (x0<y0)):∀(l:List (Str×Int×Int)) (e:Nat),l[e]?=some (w,x0,y0)->De (l.take e++[(w,xd,yd)]++l.drop e) bb=De l bb
 |[],e,h=>by cases h
 |
  t::r,0,h=>by
  cases h
  show(if xd=yd then De ((w,x0,y0)::r) bb else Es w (decide (xd<yd)))=_
  by_cases c:xd=yd
  .rw[Ap c]
  .rw[Al c,h2 c]
   show _=if x0=y0 then De r bb else Es w (decide (x0<y0))
   rw[Al (fun z=>c (h1 z))]
 |
  (w',a,b)::r,e+1,h=>by
  show(if a=b then De (r.take e++[(w,xd,yd)]++r.drop e) bb else Es w' (decide (a<b)))=(if a=b then De r bb else Es w' (decide (a<b)))
  rw[QW h1 h2 r e h]
theorem Dm {α:Type}{l:List α}{i:Nat}{d x:α}(h:l[i]?=some x):l.getD i d=x:=by rw[Bv,h];rfl
theorem VP {x y l w:Int}(hw:0<w):(x=y->(x-l)/w=(y-l)/w)/\((x-l)/w≠(y-l)/w->decide ((x-l)/w<(y-l)/w)=decide (x<y)):=by
 refine⟨fun h=>by rw[h],fun h=>?_⟩
 rcases Int.lt_or_le x y with c|c
 .have:=Int.ediv_le_ediv hw (show x-l<=y-l by lia)
  rw[Bw c,Bw (by lia)]
 .have:=Int.ediv_le_ediv hw (show y-l<=x-l by lia)
  rw[Bk (by lia),Bk (by lia)]
theorem Nr {f:B3}{W:List Ag}{i:Nat}{en:Fo.En}{x y:Ag}{E:List (Int×Int)}{Ws:List Int}{T U:List Int}{e:Nat}{wy:Str}(hI:Fo.Is f W 0)(ok:Fo.Ok W)(he:(Fo.deedsF f [] 0)[i]?=some en)(hx:W[i]?=some x)(hw:x.ways[e]?=some (false,wy)):Df (B1 f) E Ws x y en.path T U e=CG x y T U e:=by
 have r:FQ (B1 f) E Ws (en.path.take (e+1))=none:=by
  unfold FQ
  rw[Al fun z=>?_]
  have:=(Rg hI ok he hx hw).mp z
  cases this
 unfold Df CG
 rw[r]
 rfl
theorem Sn {f:B3}{W:List Ag}{i:Nat}{en:Fo.En}{x y:Ag}{E:List (Int×Int)}{w:Int}{T U:List Int}{e:Nat}{wy:Str}(hI:Fo.Is f W 0)(ok:Fo.Ok W)(he:(Fo.deedsF f [] 0)[i]?=some en)(hx:W[i]?=some x)(hw:x.ways[e]?=some (true,wy))(h1:(B1 f).length=1):∃l,Df (B1 f) E [w] x y en.path T U e=(wy,(CH T (x.pl.getD e (0,0))-l)/w,(CH U (y.pl.getD e (0,0))-l)/w):=by
 have mem:=(Rg hI ok he hx hw).mpr rfl
 have ix:(B1 f).idxOf (en.path.take (e+1))=0:=by have:=bI mem;lia
 refine⟨(E.getD 0 (0,0)).1,?_⟩
 have r:FQ (B1 f) E [w] (en.path.take (e+1))=some ((E.getD 0 (0,0)).1,w):=by
  unfold FQ
  rw[Ap mem,ix]
  rfl
 unfold Df
 rw[r,Dm hw]
 rfl
theorem Ce.ord {B W:List Ag}{m e0:Nat}{f:B3}(h:Ce B W m e0)(ok:Fo.Ok B)(pl:Ko B)(hpl:∀b∈B,b.pl.length=b.ways.length)(hI:Fo.Is f W 0)(h1:(B1 f).length=1){i j s:Nat}{b d x y:Ag}{en:Fo.En}{E:List (Int×Int)}{w:Int}{T U:List Int}{bb:Bool}(hw:0<w)(hb:B[i]?=some b)(hd:B[j]?=some d)(hx:W[i]?=some x)(hy:W[j]?=some y)(he:(Fo.deedsF f [] 0)[i]?=some en)(hm:EB B i j s) :
  De ((List.range (EU B m e0 i s)).map (Df (B1 f) E [w] x y en.path T U)) bb=De ((List.range s).map (CG b d T U)) bb:=by
 obtain⟨sb,sd⟩:=Qe ok hb hd hm
 have lb:=(Ay.mp hb).1
 have ld:=(Ay.mp hd).1
 have both:=(h.many (e0:=e0) ok lb ld hm).2
 have okW:=h.ok ok
 have pb:=pl b (AH hb)
 have qb:=hpl b (AH hb)
 have qd:=hpl d (AH hd)
 have wayb:∀e,e<b.ways.length->∃wy,b.ways[e]?=some (false,wy):=fun e he=>by
  have:b.ways[e]?=some b.ways[e]:=As he
  have p:=pb _ (AH this)
  generalize b.ways[e]=z at this p
  obtain⟨z1,z2⟩:=z
  cases p
  exact⟨z2,this⟩
 by_cases q:e0<s/\AR B i e0 m
 .have ex:x=wr b e0:=by have:=h.yes i b hb q.2;rw[hx]at this;exact Ck this
  have ey:y=wr d e0:=by have:=h.yes j d hd ((both q.1).mp q.2);rw[hy]at this;exact Ck this
  have es:EU B m e0 i s=s+1:=Ap q
  have l0:e0<b.ways.length:=by lia
  have l1:e0<b.pl.length:=by lia
  have l2:e0<d.pl.length:=by lia
  obtain⟨wy,hwy⟩:=wayb e0 l0
  have xw:x.ways[e0]?=some (true,wy):=by
   rw[ex]
   refine(KO l0).trans ?_
   rw[Dm hwy]
  have xp:x.pl.getD e0 (0,0)=b.pl.getD e0 (0,0):=by
   rw[ex];exact Dm (KO l1)
  have yp:y.pl.getD e0 (0,0)=d.pl.getD e0 (0,0):=by
   rw[ey];exact Dm (KO l2)
  obtain⟨l,hl⟩:=Sn (y:=y) (E:=E) (w:=w) (T:=T) (U:=U) hI okW he hx xw h1
  rw[xp,yp]at hl
  have g0:CG b d T U e0=(wy,CH T (b.pl.getD e0 (0,0)),CH U (d.pl.getD e0 (0,0))):=by unfold CG;rw[Dm hwy]
  obtain⟨d1,d2⟩:=VP (x:=CH T (b.pl.getD e0 (0,0))) (y:=CH U (d.pl.getD e0 (0,0))) (l:=l) hw
  have at0:((List.range s).map (CG b d T U))[e0]?=some (wy,CH T (b.pl.getD e0 (0,0)),CH U (d.pl.getD e0 (0,0))):=by
   rw[Bq,DP q.1,←g0];rfl
  rw[←QW d1 d2 _ e0 at0,es]
  congr 1
  have len:((List.range s).map (CG b d T U)).length=s:=by rw[Au,Dx]
  refine Ot fun e=>?_
  rw[Bq]
  rcases Da e (s+1) with z|z
  .rw[DP z]
   show some _=_
   rcases RX e e0 with c|c|c
   .rw[Hn (by lia) c,Bq,DP (by lia)]
    show _=some _
    obtain⟨w1,hw1⟩:=wayb e (by lia)
    have xe:x.ways[e]?=some (false,w1):=by
     rw[ex];exact(Hn l0 c).trans hw1
    rw[Nr hI okW he hx xe]
    unfold CG
    rw[Dm xe,Dm hw1,ex,ey,Bv,Bv,Bv,Bv]
    rw[show(wr b e0).pl[e]?=b.pl[e]? from Hn l1 c,show(wr d e0).pl[e]?=d.pl[e]? from Hn l2 c]
   .subst c
    rw[KO (by lia),hl]
   .obtain⟨e',rfl⟩:∃e',e=e'+1:=⟨e-1,by lia⟩
    rw[MD (by lia) (by lia),Bq,DP (by lia)]
    show _=some _
    obtain⟨w1,hw1⟩:=wayb e' (by lia)
    have xe:x.ways[e'+1]?=some (false,w1):=by
     rw[ex];exact(MD l0 (by lia)).trans hw1
    rw[Nr hI okW he hx xe]
    unfold CG
    rw[Dm xe,Dm hw1,ex,ey,Bv,Bv,Bv,Bv]
    rw[show(wr b e0).pl[e'+1]?=b.pl[e']? from MD l1 (by lia),show(wr d e0).pl[e'+1]?=d.pl[e']? from MD l2 (by lia)]
  .rw[IW.mpr (by rw[Dx];exact z),IW.mpr (by rw[Kf (by lia)];lia)]
   rfl
 .have es:EU B m e0 i s=s:=Al q
  rw[es]
  congr 1
  refine RQ fun e he'=>?_
  have es':=G3.mp he'
  obtain⟨w1,hw1⟩:=wayb e (by lia)
  have cx:x.ways[e]?=b.ways[e]?/\x.pl[e]?=b.pl[e]?:=by
   obtain⟨b',hb',hc⟩:=h.inv hx
   rw[hb]at hb'
   cases hb'
   rcases hc with⟨kb,rfl,l⟩|⟨kb,rfl⟩
   .have:¬e0<s:=fun z=>q ⟨z,kb⟩
    exact⟨Hn l (by lia),Hn (by lia) (by lia)⟩
   .exact⟨rfl,rfl⟩
  have cy:y.pl[e]?=d.pl[e]?:=by
   obtain⟨d',hd',hc⟩:=h.inv hy
   rw[hd]at hd'
   cases hd'
   rcases hc with⟨kb,rfl,l⟩|⟨kb,rfl⟩
   .have:¬e0<s:=fun z=>q ⟨z,(both z).mpr kb⟩
    exact Hn (by lia) (by lia)
   .rfl
  have xe:x.ways[e]?=some (false,w1):=by rw[cx.1];exact hw1
  rw[Nr hI okW he hx xe]
  unfold CG
  rw[Dm xe,Dm hw1,Bv,Bv,Bv,Bv,cx.2,cy]
def Gh (K:Faa)(H:Hp)(x:V)(P:List Int):Prop := ∃t,x = .ref t/\A5 K H t (P.map V.int)
theorem Ij {K:Faa}{H:Hp}:∀P:List Int,Cc K H (P.map V.int) (P.map fun i=>Tr.v (.int i))
 |[]=>.nil
 |a::P=>.cons (.flat rfl) (Ij P)
theorem Gh.tr {K:Faa}{H:Hp}{x:V}{P:List Int}(h:Gh K H x P):BE K H x (.tup (P.map fun i=>Tr.v (.int i))):=by
 obtain⟨t,rfl,h⟩:=h
 exact .tup h (Ij P)
theorem PY (A B:List Int):BW (.tup (A.map fun i=>Tr.v (.int i))) (.tup (B.map fun i=>Tr.v (.int i)))=decide (A=B):=by
 rw[BW]
 by_cases c:A=B
 .subst c;rw[Nj,Bw rfl]
 .rw[Ru c,Bk c]
theorem Pq:∀{A B:List Int},(A.map fun i=>Tr.v (.int i))=(B.map fun i=>Tr.v (.int i))->A=B
 |[],[],_=>rfl
 |[],_::_,h=>by cases h
 |_::_,[],h=>by cases h
 |
  a::A,b::B,h=>by
  rw[Bx,Bx]at h
  injection h with h1 h2
  injection h1 with h1
  injection h1 with h1
  rw[h1,Pq h2]
theorem VG {xs:List V}{us:List Value}(h:Aw xs us):∀{j:Nat} {u:Value},us[j]?=some u->∃x,xs[j]?=some x/\AE x u:=by
 induction h with
 |nil=>intro j u h;cases h
 |
  cons r t ih=>
  intro j u hj
  cases j with
  |zero=>cases hj;exact⟨_,rfl,r⟩
  |succ j=>exact ih hj
def Lw (K:Faa)(neg:Bool):R2:=fun x y H Q=>∃(p:Addr) (xs:List V) (A:List Int) (L:List (List Int)),Gh K H x A/\y = .ref p/\A4 K H p xs/\Av (Gh K H) xs L/\Q (.bl (if neg then !decide (A∈L) else decide (A∈L))) H
open Classical in
theorem Rw {X:Cx}{pins:List (Addr×Obj)}{s:Shared}{σ:List (Option V)}{H:Hp}(I:A2 X pins σ H s){A:Around}(hu:A.units+2<cLine){x:V}{v:Value}{P:List Int}{xs:List V}{its:List Value}{L:List (List Int)}(hx:Gh X.K H x P)(rx:AE x v)(rv:Aw xs its)(al:Av (Gh X.K H) xs L):∃g:Value->Bool,(∀w∈its,SeqAt.EqAt A s w v (g w))/\its.any g=decide (P∈L):=by
 have key:∀(j:Nat) (w:Value),its[j]?=some w->∃(t:Addr) (R:List Int),xs[j]?=some (.ref t)/\w = .ref t/\L[j]?=some R/\A5 X.K H t (R.map V.int):=fun j w hw=>by
  obtain⟨y,hy,r⟩:=VG rv hw
  obtain⟨R,hR,t,rfl,ht⟩:=al.get' hy
  cases r
  exact⟨t,R,hy,rfl,hR,ht⟩
 let g:Value->Bool:=fun u=>decide (∃(j:Nat),its[j]?=some u/\L[j]?=some P)
 have gv:∀(j:Nat) (w:Value) (R:List Int),its[j]?=some w->L[j]?=some R->g w=decide (R=P):=fun j w R hw hR=>by
  obtain⟨t,R',h1,rfl,h3,h4⟩:=key j w hw
  rw[hR]at h3
  cases h3
  by_cases c:R=P
  .subst c
   rw[Bw rfl]
   exact Bw ⟨j,hw,hR⟩
  .rw[Bk c]
   refine Bk fun⟨k,k1,k2⟩=>c ?_
   obtain⟨t',R',g1,g2,g3,g4⟩:=key k _ k1
   rw[k2]at g3
   cases g3
   cases g2
   have:=BE.inj I (BE.tup h4 (Ij R)) (BE.tup g4 (Ij P))
   injection this with this
   exact Pq this
 refine⟨g,fun w hw=>?_,?_⟩
 .obtain⟨j,hj,e⟩:=E5.mp hw
  have hj':its[j]?=some w:=by rw[As hj,e]
  obtain⟨t,R,h1,rfl,h3,h4⟩:=key j w hj'
  rw[gv j _ R hj' h3,←PY]
  refine Nk I 2 A _ _ (.ref t) x _ v ?_ hu ?_ (BE.tup h4 (Ij R)) rfl hx.tr rx
  .rw[Ct]
   have:∀Q:List Int,CK (Q.map fun i=>Tr.v (.int i))=0:=fun Q=>by
    induction Q with
    |nil=>rfl
    |cons a Q ih=>rw[Bx,CK,ih];rfl
   rw[this]
   decide
  .rw[Cf];exact KR R P
 .have ll:=al.1
  by_cases c:P∈L
  .rw[Bw c,RO]
   obtain⟨j,hj,e⟩:=E5.mp c
   have hl:j<its.length:=by rw[←rv.length];lia
   refine⟨its[j],Hu hl,?_⟩
   rw[gv j _ P (As hl) (by rw[As hj,e]),Bw rfl]
  .rw[Bk c,List.any_eq_false]
   intro w hw
   obtain⟨j,hj,e⟩:=E5.mp hw
   have hj':its[j]?=some w:=by rw[As hj,e]
   obtain⟨t,R,h1,rfl,h3,h4⟩:=key j w hj'
   rw[gv j _ R hj' h3,Bk (fun z:R=P=>c (by rw[←z];exact AH h3))]
   exact Cm
theorem T6 {X:Cx}(hu:X.A.units+64<cLine):BC X (compareOp .In) (Lw X.K false):=by
 intro pins s σ H x y v u Q I rx ry h
 obtain⟨p,xs,P,L,hx,rfl,hq,al,q⟩:=h
 cases ry
 obtain⟨its,r,pl,hz⟩:=I.list hq
 obtain⟨g,g1,g2⟩:=Rw I (A:=X.A.in1) (by show X.A.units+1+2<cLine;lia) hx rx r al
 refine SeqAt.in_listAt g pl.isList (fun w hw=>g1 w (by simpa using hw)) ⟨.bl _,H,I,rfl,?_⟩
 rw[show its.toArray.any g=its.any g by simp,g2]
 exact q
theorem b8 {X:Cx}(hu:X.A.units+64<cLine):BC X (compareOp .NotIn) (Lw X.K true):=by
 intro pins s σ H x y v u Q I rx ry h
 obtain⟨p,xs,P,L,hx,rfl,hq,al,q⟩:=h
 cases ry
 obtain⟨its,r,pl,hz⟩:=I.list hq
 obtain⟨g,g1,g2⟩:=Rw I (A:=X.A.in1) (by show X.A.units+1+2<cLine;lia) hx rx r al
 refine SeqAt.notIn_listAt g pl.isList (fun w hw=>g1 w (by simpa using hw)) ⟨.bl _,H,I,rfl,?_⟩
 rw[show its.toArray.any g=its.any g by simp,g2]
 exact q
def VN:Sp:=fun vs H Q _=>∃(m:Int),vs=[.int m]/\0<=m/\∀(n:Nat) (H':Hp),Aa H H'->1<=n->n<=6->Q (.int (n:Int)) H'
noncomputable def G1 (sc b:Int)(s:Str×Int):Str×Int:=if s.1="" then("",sc*s.2+b) else(s.1,sc*s.2)
noncomputable def Jv (sc b:Int)(q:Lq):Hf:=⟨q.nm,G1 sc b q.lo,G1 sc b q.hi⟩
noncomputable def DL (sc b:Int)(D:Dq):Dw:=⟨D.L.map (Jv sc b),"a",[("",0)],.n 1,D.path⟩
def Sc (sc:Int):Prop:=0<sc/\sc<=10000000000000000
def Xv:Sp:=fun vs H Q _=>∃(x:V) (sc b:Int) (s:Str×Int),vs=[x,.int sc,.int b]/\Sc sc/\Dh H x s/\∀(r:V) (H':Hp),Aa H H'->Dh H' r (G1 sc b s)->Q r H'
def br (C:Addr)(c:Cs):Sp:=fun vs H Q _=>∃(l:Addr) (sc b:Int) (xs:List V) (Ds:List Dq),vs=[.ref l,.int sc,.int b]/\Sc sc/\H l=some (.lst xs)/\Av (GR H) xs Ds/\Ds.length<=6/\(∀D∈Ds,D.L.length<=3)/\∀(r:Addr) (ys:List V) (H':Hp),Aa H H'->H' r=some (.lst ys)->Av (DA C c H') ys (Ds.map (DL sc b))->Q (.ref r) H'
theorem QS {zs:List Str}{z:Str}:∀{j:Nat},zs[j]?=some z->∃i≤j,zs[i]?=some z/\∀m<i,zs[m]?≠some z
 |0,h=>⟨0,Af _,h,fun m hm=>absurd hm (J9 _)⟩
 |
  j+1,h=>by
  by_cases c:∃i≤j,zs[i]?=some z
  .obtain⟨i,hi,e⟩:=c
   obtain⟨k,k1,k2⟩:=QS e
   exact⟨k,by lia,k2⟩
  .exact⟨j+1,Af _,h,fun m hm e=>c ⟨m,by lia,e⟩⟩
theorem Qd (sc b:Int)(s:Str×Int):(G1 sc b s).1=s.1:=by
 unfold G1
 split
 .next h=>exact h.symm
 .rfl
theorem Yh {D:Dq}{sc b:Int}(h:CF D.L)(h3:D.L.length<=3):∃u w,LW (DL sc b D) u w:=by
 have ln:(DL sc b D).loops.length=D.L.length:=by show(D.L.map _).length=_;rw[Au]
 have nm:(DL sc b D).loops.map (·.nm)=D.L.map (·.nm):=by show(D.L.map _).map _=_;rw[KB];rfl
 have one:∀(i:Nat) (z:Str),i<D.L.length->(z=""\/∃y∈D.L.take i,z=y.nm)->∃u:Nat,u<=i/\Fk (D.L.map (·.nm)) z 1 (u:Int):=fun i z hi hz=>by
  by_cases c:z=""
  .exact⟨0,Bj _,.inl ⟨c,rfl⟩⟩
  .rcases hz with hz|⟨y,hy,rfl⟩
   .exact absurd hz c
   .obtain⟨j,hj,e⟩:=E5.mp hy
    rw[AY]at hj
    have hj':(D.L.map (·.nm))[j]?=some y.nm:=by
     rw[Bq,←DO (show j<i by lia),As (by rw[AY];exact hj),e]
     rfl
    obtain⟨k,k1,k2,k3⟩:=QS hj'
    exact⟨1+k,by lia,.inr ⟨c,k,k2,k3,by lia⟩⟩
 have ch:∀g:Lq->Str,(∀(i:Nat) (q:Lq),D.L[i]?=some q->g q=""\/∃y∈D.L.take i,g q=y.nm)->∃u:Nat->Nat,∀i q,D.L[i]?=some q->u i<=i/\Fk (D.L.map (·.nm)) (g q) 1 (u i:Int):=fun g hg=>by
  have:∀i,∃u:Nat,∀q,D.L[i]?=some q->u<=i/\Fk (D.L.map (·.nm)) (g q) 1 (u:Int):=fun i=>by
   by_cases c:i<D.L.length
   .have hq:D.L[i]?=some D.L[i]:=As c
    obtain⟨u,h1,h2⟩:=one i _ c (hg i _ hq)
    exact⟨u,fun q e=>by rw[hq]at e;cases e;exact⟨h1,h2⟩⟩
   .exact⟨0,fun q e=>absurd (Ay.mp e).1 c⟩
  exact⟨fun i=>Classical.choose (this i),fun i=>Ou (this i)⟩
 obtain⟨u,hu⟩:=ch (fun q=>q.lo.1) fun i q hq=>(h i q hq).l1
 obtain⟨w,hw⟩:=ch (fun q=>q.hi.1) fun i q hq=>(h i q hq).h1
 have at_:∀i,i<(DL sc b D).loops.length->∃q,D.L[i]?=some q/\(DL sc b D).loops[i]?=some (Jv sc b q):=fun i hi=>by
  rw[ln]at hi
  have hq:D.L[i]?=some D.L[i]:=As hi
  exact⟨_,hq,by show(D.L.map _)[i]?=_;rw[Bq,hq];rfl⟩
 refine⟨u,w,by rw[ln];exact h3,fun i hi=>?_,fun i hi=>?_,fun i hi=>?_⟩
 .obtain⟨q,hq,_⟩:=at_ i hi
  exact⟨(hu i q hq).1,(hw i q hq).1⟩
 .obtain⟨q,hq,e⟩:=at_ i hi
  rw[nm,(Lh e).2.1]
  show Fk _ (G1 sc b q.lo).1 _ _
  rw[Qd]
  exact(hu i q hq).2
 .obtain⟨q,hq,e⟩:=at_ i hi
  rw[nm,(Lh e).2.2]
  show Fk _ (G1 sc b q.hi).1 _ _
  rw[Qd]
  exact(hw i q hq).2
theorem SA {Ds:List Dq}{sc b:Int}(h:Fp Ds):∃u w:Nat->Nat->Nat,∀(k:Nat) (D:Dw),(Ds.map (DL sc b))[k]?=some D->LW D (u k) (w k):=by
 have:∀k,∃p:(Nat->Nat)×(Nat->Nat),∀D:Dw,(Ds.map (DL sc b))[k]?=some D->LW D p.1 p.2:=fun k=>by
  by_cases c:k<Ds.length
  .have hq:Ds[k]?=some Ds[k]:=As c
   obtain⟨u,w,l⟩:=Yh (sc:=sc) (b:=b) (h.in7 _ (AH hq)) (h.row.ok _ (AH hq)).ll
   exact⟨(u,w),fun D e=>by rw[Bq,hq]at e;cases e;exact l⟩
  .refine⟨(fun _=>0,fun _=>0),fun D e=>?_⟩
   have:=(Ay.mp e).1
   rw[Au]at this
   exact absurd this c
 exact⟨fun k=>(Classical.choose (this k)).1,fun k=>(Classical.choose (this k)).2,fun k=>Ou (this k)⟩
def Z2 (K:Faa):Sp:=fun vs H Q _=>∃(sc old:Addr) (ns:List Int) (first:Int) (n:Nat) (ws0:List CS),vs=[.ref sc,.int first,.int (n:Int),.ref old]/\A4 K H sc (ns.map V.int)/\0<=first/\first<=1000/\n<=3/\ED H old ws0/\(∀x∈ws0,x.1=false)/\
 ∀(r:Addr) (H':Hp) (ws:List CS),Aa H H'->H r=none->ED H' r ws->ws.length=n->(∀x∈ws,x.1=false)->(∀m,m<=ws0.length->m<=n->ws.take m=ws0.take m)->Q (.ref r) H'
def V1 (K:Faa):Sp:=fun vs H Q _=>∃(sc lo:Addr) (ns L:List Int) (first:Int),vs=[.ref sc,.int first,.ref lo]/\A4 K H sc (ns.map V.int)/\0<=first/\first<=1000/\H lo=some (.lst (L.map V.int))/\L.length<=3/\
 ∀(r:Addr) (H':Hp) (ps:List (Int×Int)),Aa H H'->H r=none->E7 H' r ps->ps.map (·.1)=L->Q (.ref r) H'
def N7 (D:List Int)(b:Ag):Prop := ∃k:Nat,b.k=(k:Int)/\D[k]?=some (b.ways.length:Int)/\∀p∈b.pl,0<=p.1/\p.1<(b.ways.length:Int)
structure GL (B:List Ag)(D:List Int):Prop where
 lv:Fq B
 nd:(B.map (·.k)).Nodup
 pn:Ko B
 lf:∀b∈B,N7 D b
 w3:∀b∈B,b.ways.length<=3
def XQ (K:Faa):Sp:=fun vs H Q _=>∃(sc dl:Addr) (ns D:List Int) (first:Int),vs=[.ref sc,.int first,.ref dl]/\A4 K H sc (ns.map V.int)/\0<=first/\first<=100/\H dl=some (.lst (D.map V.int))/\(∀d∈D,0<=d/\d<=3)/\0<D.length/\D.length<=6/\
 ∀(r:Addr) (H':Hp) (B:List Ag),Aa H H'->Fs H' r B->GL B D->B.length=D.length->Q (.ref r) H'
structure Fm (B:List Ag)(D R:List Int)(i:Nat):Prop where
 st:F1 B R i
 pn:Ko B
 lf:∀b∈B,N7 D b
 w3:∀b∈B,b.ways.length<=3
theorem Fm.nil (D R:List Int):Fm [] D R 0:=⟨F1.nil R,fun b hb=>(by cases hb),fun b hb=>(by cases hb),fun b hb=>(by cases hb)⟩
theorem Fm.snoc {B:List Ag}{D R:List Int}{i:Nat}{b:Ag}(h:Fm B D R i)(hk:R[i]?=some b.k)(h1:b.sh<=b.ways.length)(h0:B=[]->b.sh=0)(h2:∀c,B.getLast?=some c->b.sh<=c.ways.length/\b.ways.take b.sh=c.ways.take b.sh)(hp:b.pl.length=b.ways.length)(pb:∀x∈b.ways,x.1=false)(lb:N7 D b)(wb:b.ways.length<=3):Fm (B++[b]) D R (i+1):=by
 have all:∀{p:Ag->Prop},(∀c∈B,p c)->p b->∀c∈B++[b],p c:=fun{p} g1 g2 c hc=>by
  rcases BX.mp hc with z|z
  .exact g1 c z
  .rw[BL.mp z];exact g2
 refine⟨h.st.snoc hk h1 h0 h2 ⟨?_,by lia⟩ hp,all h.pn pb,all h.lf lb,all h.w3 wb⟩
 rw[Io pb]
 exact Bj _
theorem Fm.fin {B:List Ag}{D R:List Int}(h:Fm B D R R.length)(hl:R.length<=6)(hn:R.Nodup):GL B D/\B.length=R.length:=by
 obtain⟨a,b,c⟩:=h.st.fin hl hn
 exact⟨⟨a,c,h.pn,h.lf,h.w3⟩,b⟩
noncomputable def EG (k:Nat×Nat):List Int:=[(k.1:Int),(k.2:Int)]
theorem Ze {k l:Nat×Nat}(h:EG k=EG l):k=l:=by
 obtain⟨a,b⟩:=k
 obtain⟨c,d⟩:=l
 unfold EG at h
 injection h with h1 h2
 injection h2 with h2 _
 have h1:(a:Int)=(c:Int):=h1
 have h2:(b:Int)=(d:Int):=h2
 have e1:a=c:=by lia
 have e2:b=d:=by lia
 rw[e1,e2]
def Di (H:Hp)(x:V)(k:Nat×Nat):Prop := ∃t,x = .ref t/\H t=some (.tup [.int (k.1:Int),.int (k.2:Int)])
theorem Di.tk {H H':Hp}{x:V}{k:Nat×Nat}(h:Di H x k)(e:TK H H'):Di H' x k:=by obtain⟨t,a,b⟩:=h;exact⟨t,a,e _ _ b⟩
theorem Di.over {H H':Hp}{x:V}{k:Nat×Nat}(h:Di H x k)(e:Aa H H'):Di H' x k:=h.tk (Aa.tk e)
theorem Di.pa {K:Faa}{H:Hp}{x:V}{k:Nat×Nat}(h:Di H x k):Gh K H x (EG k):=by obtain⟨t,a,b⟩:=h;exact⟨t,a,A5.of b⟩
def FD (H:Hp)(x:V)(row:List (Nat×Nat)):Prop := ∃r ys,x = .ref r/\H r=some (.lst ys)/\Av (Di H) ys row
theorem FD.over {H H':Hp}{x:V}{row:List (Nat×Nat)}(h:FD H x row)(e:Aa H H'):FD H' x row:=by obtain⟨r,ys,a,b,c⟩:=h;exact⟨r,ys,a,e _ _ b,c.mono fun _ _ z=>z.over e⟩
theorem FD.av {H:Hp}{l:Addr}{xs:List V}{x:V}{row:List (Nat×Nat)}(h:FD H x row)(hl:H l=some (.lst xs))(hn:x≠.ref l):FD (av H [l]) x row:=by
 obtain⟨r,ys,rfl,a,b⟩:=h
 exact⟨r,ys,rfl,by rw[HM (by rw[BL];exact fun z=>hn (by rw[z]))];exact a,b.mono fun _ _ z=>z.tk (GU hl)⟩
def Gs (H:Hp)(l:Addr)(R:List (List (Nat×Nat))):Prop := ∃xs,H l=some (.lst xs)/\Av (FD H) xs R
theorem Gs.over {H H':Hp}{l:Addr}{R:List (List (Nat×Nat))}(h:Gs H l R)(e:Aa H H'):Gs H' l R:=by obtain⟨xs,a,b⟩:=h;exact⟨xs,e _ _ a,b.mono fun _ _ z=>z.over e⟩
theorem Av.pas {K:Faa}{H:Hp}{xs:List V}{row:List (Nat×Nat)}(h:Av (Di H) xs row):Av (Gh K H) xs (row.map EG):=by
 refine⟨by rw[h.1,Au],fun i x P hx hP=>?_⟩
 rw[Bq]at hP
 cases c:row[i]? with
 |none=>rw[c]at hP;cases hP
 |some k=>rw[c]at hP;cases hP;exact(h.2 i x k hx c).pa
theorem QN {k:Nat×Nat}{row:List (Nat×Nat)}:EG k∈row.map EG↔k∈row:=by
 refine⟨fun h=>?_,fun h=>Co.mpr ⟨k,h,rfl⟩⟩
 obtain⟨l,hl,e⟩:=Co.mp h
 rw[←Ze e]
 exact hl
def XH:Sp:=fun vs H Q _=>∃(l:Addr) (B:List Ag),vs=[.ref l]/\Fs H l B/\Fq B/\∀(r:Addr) (H':Hp) (R:List (List (Nat×Nat))),Aa H H'->Gs H' r R->DH B B.length R->Q (.ref r) H'
def VT:Sp:=fun vs H Q _=>∃(l kl ky:Addr) (B:List Ag) (R:List (List (Nat×Nat))) (m e0:Nat),vs=[.ref l,.ref kl,.ref ky]/\Fs H l B/\Fq B/\Gs H kl R/\DH B B.length R/\Di H (.ref ky) (m,e0)/\∀(r:Addr) (H':Hp) (W:List Ag),Aa H H'->Fs H' r W->Ce B W m e0->Q (.ref r) H'
structure FL (B W:List Ag)(m e0 n:Nat):Prop where
 len:W.length=n
 yes:∀i b,i<n->B[i]?=some b->AR B i e0 m->W[i]?=some (wr b e0)
 no:∀i b,i<n->B[i]?=some b->¬AR B i e0 m->W[i]?=some b
theorem FL.nil (B:List Ag)(m e0:Nat):FL B [] m e0 0:=⟨rfl,fun i b h=>absurd h (J9 _),fun i b h=>absurd h (J9 _)⟩
theorem FL.snoc {B W:List Ag}{m e0 n:Nat}{b x:Ag}(h:FL B W m e0 n)(hb:B[n]?=some b)(hx:(AR B n e0 m/\x=wr b e0)\/(¬AR B n e0 m/\x=b)):FL B (W++[x]) m e0 (n+1):=by
 refine⟨by rw[AB,h.len];rfl,fun i c hi hc k=>?_,fun i c hi hc k=>?_⟩
 .rcases Da i n with z|z
  .rw[BR (by rw[h.len];exact z)]
   exact h.yes i c z hc k
  .have:i=n:=by lia
   subst this
   rw[hb]at hc
   cases hc
   rw[Bz (by rw[h.len];exact Af _),h.len,Cn]
   rcases hx with⟨_,e⟩|⟨e,_⟩
   .rw[e];rfl
   .exact absurd k e
 .rcases Da i n with z|z
  .rw[BR (by rw[h.len];exact z)]
   exact h.no i c z hc k
  .have:i=n:=by lia
   subst this
   rw[hb]at hc
   cases hc
   rw[Bz (by rw[h.len];exact Af _),h.len,Cn]
   rcases hx with⟨e,_⟩|⟨_,e⟩
   .exact absurd e k
   .rw[e];rfl
theorem FL.fin {B W:List Ag}{m e0:Nat}(h:FL B W m e0 B.length):Ce B W m e0:=⟨h.len,fun i b hb k=>h.yes i b (Ay.mp hb).1 hb k,fun i b hb k=>h.no i b (Ay.mp hb).1 hb k⟩
def LG (B:List Ag)(T:F5):Prop := ∃b,B[T.1]?=some b/\T.2.length=b.ways.length
def aK:Sp:=fun vs H Q _=>∃(x y:V) (l kl:Addr) (B:List Ag) (D:List Int) (R:List (List (Nat×Nat))) (T U:F5) (s:Nat) (b d:Ag),vs=[x,y,.ref l,.ref kl]/\Ex H x T/\Ex H y U/\Fs H l B/\GL B D/\Gs H kl R/\DH B B.length R/\B[T.1]?=some b/\B[U.1]?=some d/\T.2.length=b.ways.length/\U.2.length=d.ways.length/\EB B T.1 U.1 s/\∀H',Aa H H'->Q (.int (De ((List.range s).map (CG b d T.2 U.2)) (decide (T.1<U.1)))) H'
def Z7 (K:Faa):Sp:=fun vs H Q _=>∃(sc:Addr) (ns:List Int) (first:Int),vs=[.ref sc,.int first]/\A4 K H sc (ns.map V.int)/\0<=first/\first<=1000/\∀(r:Addr) (H':Hp) (scl b:Int),Aa H H'->H' r=some (.tup [.int scl,.int b])->Sc scl->Q (.ref r) H'
def W7:Sp:=fun vs H Q _=>∃(ll:Addr) (L:List Lq),vs=[.ref ll]/\E3 H ll L/\CF L/\L.length<=3/\∀(r:Addr) (ys:List V) (H':Hp) (R:List (List Int)),Aa H H'->H r=none->H' r=some (.lst ys)->Av (DF H') ys R->(∀v∈R,v.length=L.length)->R.length<=101321->Q (.ref r) H'
def aU:Sp:=fun vs H Q _=>∃(dl l fr:Addr) (xs:List V) (Ds:List Dq) (B:List Ag) (D:List Int) (scl b:Int),vs=[.ref dl,.ref l,.ref fr]/\H dl=some (.lst xs)/\Av (GR H) xs Ds/\Fp Ds/\Fs H l B/\GL B D/\D=Ds.map (fun D=>(D.L.length:Int))/\H fr=some (.tup [.int scl,.int b])/\Sc scl/\∀(r:Addr) (ts:List V) (Ts:List F5) (H':Hp),Aa H H'->H' r=some (.lst ts)->Av (Ex H') ts Ts->(∀T∈Ts,LG B T)->Ts.length<=607926->Q (.ref r) H'
theorem Xj {b:Ag}{e:Nat}(h:e<b.pl.length){p:Int×Int}(hp:p∈(wr b e).pl):p∈b.pl:=by
 rcases BX.mp hp with z|z
 .rcases BX.mp z with z|z
  .exact J8 z
  .rw[BL.mp z,Bv,As h]
   exact Hu h
 .exact KE z
theorem Ce.pl68 {B W:List Ag}{m e0:Nat}(h:Ce B W m e0){D:List Int}(l8:GL B D){i:Nat}{x b:Ag}(hx:W[i]?=some x)(hb:B[i]?=some b):x.k=b.k/\∀p∈x.pl,0<=p.1/\p.1<(b.ways.length:Int):=by
 have bm:=AH hb
 obtain⟨_,_,_,lf⟩:=l8.lf b bm
 obtain⟨b',hb',hc⟩:=h.inv hx
 rw[hb]at hb'
 cases hb'
 rcases hc with⟨_,rfl,l⟩|⟨_,rfl⟩
 .exact⟨rfl,fun p hp=>lf p (Xj (by rw[l8.lv.pll b bm];exact l) hp)⟩
 .exact⟨rfl,lf⟩
theorem Vm {B W:List Ag}{m e0:Nat}(h:Ce B W m e0){Ds:List Dq}{sc bs:Int}(l8:GL B (Ds.map fun D=>(D.L.length:Int))){u w:Nat->Nat->Nat}(hl:∀(k:Nat) (D:Dw),(Ds.map (DL sc bs))[k]?=some D->LW D (u k) (w k)):Ln W (Ds.map (DL sc bs)) u w:=by
 refine⟨fun x hx=>?_,hl⟩
 obtain⟨i,hi,e⟩:=E5.mp hx
 have hx':W[i]?=some x:=by rw[As hi,e]
 obtain⟨b,hb,_⟩:=h.inv hx'
 obtain⟨hk,hp⟩:=h.pl68 l8 hx' hb
 obtain⟨k,bk,dk,_⟩:=l8.lf b (AH hb)
 rw[Bq]at dk
 cases c:Ds[k]? with
 |none=>rw[c]at dk;cases dk
 |
  some Dd=>
  rw[c]at dk
  have dk:(Dd.L.length:Int)=(b.ways.length:Int):=Ck dk
  refine⟨k,DL sc bs Dd,by rw[hk,bk],by rw[Bq,c];rfl,fun p hp'=>?_⟩
  have ln:(DL sc bs Dd).loops.length=Dd.L.length:=by show(Dd.L.map _).length=_;rw[Au]
  have:=hp p hp'
  rw[ln]
  lia
theorem Z9 {B W:List Ag}{m e0:Nat}(h:Ce B W m e0){D:List Int}(l8:GL B D):Fq W/\GB W:=by
 have lv:=h.lv l8.lv l8.w3
 exact⟨lv,lv.ok,lv.way,lv.pll,lv.len,by rw[h.ks];exact l8.nd⟩
noncomputable def L6 (k:Nat×Nat):Tr:=.tup ((EG k).map fun i=>Tr.v (.int i))
theorem OV {K:Faa}{H:Hp}:∀{xs:List V} {S:List (Nat×Nat)},Av (Di H) xs S->Cc K H xs (S.map L6)
 |[],[],_=>.nil
 |[],_::_,h=>by have:=h.1;cases this
 |_::_,[],h=>by have:=h.1;cases this
 |x::xs,k::S,h=>.cons ((h.2 0 x k rfl rfl).pa).tr (OV ⟨by have:=h.1;simpa using this,fun i y l h1 h2=>h.2 (i+1) y l h1 h2⟩)
theorem RB:∀S:List (Nat×Nat),CK (S.map L6)<=2
 |[]=>by rw[IY,CK];decide
 |
  k::S=>by
  have:=RB S
  rw[Bx,CK]
  have:Ct (L6 k)<=2:=by
   show Ct (.tup [.v _,.v _])<=2
   simp[Ct,CK]
  lia
theorem EY {t u:TS}{D:CC}{σ:St}{H:Hp}(M:St->Hp->Prop)(hu:∀σ' H',M σ' H'->u D σ' H')(ht:∀N:St->Hp->Prop,(∀σ' H',M σ' H'->N σ' H')->t {D with nx:=N} σ H):GM t u D σ H:=ht _ hu
theorem Ak {G:Prop}(h:∀G':Prop,(G->G')->G'):G:=h G id
def vO (Q:V->Prop):Option V->Prop
 |some v=>Q v
 |none=>False
def Ka:St->Nat->(V->Prop)->Prop
 |[],_,_=>False
 |x::_,0,Q=>vO Q x
 |_::l,n+1,Q=>Ka l n Q
theorem Qn:∀{σ:St} {i:Nat} {Q:V->Prop},Ka σ i Q->∃v,σ[i]?=some (some v)/\Q v
 |[],_,_,h=>h.elim
 |some v::_,0,_,h=>⟨v,rfl,h⟩
 |none::_,0,_,h=>h.elim
 |_::l,n+1,Q,h=>Qn (σ:=l) (i:=n) (Q:=Q) h
theorem Ga:∀{σ:St} {i:Nat} {Q Q':V->Prop},(∀v,Q v->Q' v)->Ka σ i Q->Ka σ i Q'
 |[],_,_,_,_,h=>h.elim
 |some v::_,0,_,_,k,h=>k v h
 |none::_,0,_,_,_,h=>h.elim
 |_::l,n+1,_,_,k,h=>Ga (σ:=l) (i:=n) k h
def tV (i:Nat)(σ:St)(H:Hp)(Q:VK):Prop:=Ka σ i fun v=>Q v H
theorem pw {X:Cx}(i:Nat){x:Str}{pos:Pos}(hN:X.N[i]?=some x:=by rfl)(hv:JV X.env.scope x:=by first|exact Or.inl rfl|exact Or.inr (.inl rfl)|exact Or.inr (.inr rfl))(hd:(x==("__debug__":Str))=false:=by decide)
 (hcd:(x==("__classdict__":Str))=false:=by decide):PE X (.Name x pos) (tV i):=fun pins s σ H Q I h=>pv i hN hv hd hcd pins s σ H Q I (Qn h)
theorem ME.vr (i:Nat):ME (tV i):=fun σ H Q Q' hq h=>Ga (fun v k=>hq v H k) h
def Ei (g:Int->Int->V)(x y:V)(H:Hp)(Q:VK):Prop:=match x,y with
 |.int i,.int j=>Q (g i j) H
 |_,_=>False
def rJ (C:Int->Int->Prop)(g:Int->Int->V)(x y:V)(H:Hp)(Q:VK):Prop:=match x,y with
 |.int i,.int j=>C i j/\Q (g i j) H
 |_,_=>False
theorem Aq {X:Cx}{f:Value->Value->Sem Value}{g:Int->Int->V}(h:BC X f (He g)):BC X f (Ei g):=fun pins s σ H x y v u Q I rx ry k=>h pins s σ H x y v u Q I rx ry (by
 cases x<;>first|exact k.elim|(cases y<;>first|exact k.elim|exact⟨_,_,rfl,rfl,k⟩))
theorem oJ {X:Cx}{f:Value->Value->Sem Value}{C:Int->Int->Prop}{g:Int->Int->V}(h:BC X f (rI C g)):BC X f (rJ C g):=fun pins s σ H x y v u Q I rx ry k=>h pins s σ H x y v u Q I rx ry (by
 cases x<;>first|exact k.elim|(cases y<;>first|exact k.elim|exact⟨_,_,rfl,rfl,k⟩))
theorem MR.j0 (g:Int->Int->V):MR (Ei g):=fun x y H Q Q' hq k=>by
 cases x<;>first|exact k.elim|(cases y<;>first|exact k.elim|exact hq _ _ k)
def gC (t:TG)(u:EL)(vs:List V)(σ:St)(H:Hp)(Q:St->Hp->Prop):Prop:=match vs with
 |v::r=>t v σ H fun σ' H'=>u r σ' H' Q
 |[]=>False
theorem AN {X:Cx}{e:Expr}{es:List Expr}{t:TG}{u:EL}(h1:PG X e t)(h2:Hq X es u)
  (hs:(assignEach (e::es) X.env).map (·.2)=assign e X.env::(assignEach es X.env).map (·.2):=by rfl):Hq X (e::es) (gC t u):=fun pins s σ H vs us Q I r h=>Zz h1 h2 hs pins s σ H vs us Q I r (by
 cases vs with
 |nil=>exact h.elim
 |cons v l=>exact⟨v,l,rfl,h⟩)
theorem Nn {v:V}{σ:St}{H:Hp}{Q:VK}:tC v σ H Q=Q v H:=rfl
theorem ixT {K:Faa}{H:Hp}{t:Addr}{xs:List V}{i:Int}{v:V}{Q:VK}(h:H t=some (.tup xs))(e:B5 xs i=some v)(q:Q v H):DT K (.ref t) (.int i) H Q:=⟨t,xs,i,v,rfl,rfl,A5.of h,e,q⟩
theorem ixL {K:Faa}{H:Hp}{t:Addr}{xs:List V}{i:Int}{v:V}{Q:VK}(h:H t=some (.lst xs))(e:B5 xs i=some v)(q:Q v H):IK K (.ref t) (.int i) H Q:=⟨t,xs,i,v,rfl,rfl,A4.of h,e,q⟩
theorem Me {te:TE}{i:Nat}{u:TS}{D:CC}{σ:St}{H:Hp}{x:V}(h:∀Q:VK,Q x H->te σ H Q)(k:u D (σ.set i (some x)) H):GM (Ip te (Am i)) u D σ H:=h _ k
theorem Hk {l:List Int}{n:Nat}(h:l.length=n+1):∃a m,l=a::m/\m.length=n:=by
 cases l with
 |nil=>cases h
 |cons a m=>exact⟨a,m,rfl,Nat.succ.inj h⟩
theorem NS {l:List Int}(h:l.length=2):∃a b,l=[a,b]:=by
 obtain⟨a,l1,rfl,h1⟩:=Hk h
 obtain⟨b,l2,rfl,h2⟩:=Hk h1
 exact⟨a,b,by rw[Ox h2]⟩
theorem PJ {l:List Int}(h:l.length=3):∃a b c,l=[a,b,c]:=by
 obtain⟨a,l1,rfl,h1⟩:=Hk h
 obtain⟨b,c,rfl⟩:=NS h1
 exact⟨a,b,c,rfl⟩
theorem XF {l:List Int}(h:l.length=7):∃a b c d e f g,l=[a,b,c,d,e,f,g]:=by
 obtain⟨a,l1,rfl,h1⟩:=Hk h
 obtain⟨b,l2,rfl,h2⟩:=Hk h1
 obtain⟨c,l3,rfl,h3⟩:=Hk h2
 obtain⟨d,l4,rfl,h4⟩:=Hk h3
 obtain⟨e,f,g,rfl⟩:=PJ h4
 exact⟨a,b,c,d,e,f,g,rfl⟩
end L2
namespace Fw
open PySem L2 Bd
noncomputable def Bi (i:Nat):Stmt:=PySem.Challenge.pw_furrow_k68_cut_round_itself.main.body.getD i (.Pass ⟨0,0,0,0⟩)
abbrev LF:Stmt:=Mj (Bi 3) 0
abbrev LA:Stmt:=Mj (Bi 6) 0
abbrev KW:Stmt:=Mj (Bi 8) 0
abbrev L8:Stmt:=Mj (Bi 9) 0
abbrev LX:Stmt:=Bi 10
abbrev LQ:Stmt:=Bi 12
abbrev Lu:Stmt:=Bi 13
abbrev LL:Stmt:=Bi 14
abbrev Mm:Stmt:=Bi 15
abbrev Mx:Stmt:=Bi 16
abbrev Kn:Stmt:=Bi 18
abbrev Mv:Stmt:=Bi 19
abbrev LR:Stmt:=Bi 20
abbrev K7:Stmt:=Bi 22
abbrev Mt:Stmt:=Bi 23
abbrev LK:Stmt:=Bi 24
abbrev L4:Stmt:=Bi 25
abbrev KS:Stmt:=Bi 27
abbrev Ls:Stmt:=Bi 28
abbrev JQ:Stmt:=Bi 30
abbrev JF:Stmt:=Bi 31
abbrev La:Stmt:=Bi 32
abbrev LO:Stmt:=Bi 33
abbrev Ke:Stmt:=Bi 34
abbrev LV:Stmt:=Bi 35
abbrev Lr:Stmt:=Bi 36
abbrev KN:Stmt:=Bi 37
abbrev M3:Stmt:=Bi 39
abbrev M7:Stmt:=Bi 40
abbrev Lg:Stmt:=Bi 41
abbrev K4:Stmt:=Bi 42
abbrev LZ:Stmt:=Bi 43
abbrev Lo:Stmt:=Bi 44
abbrev Hl:Stmt:=Bi 45
abbrev KZ:Stmt:=Bi 46
abbrev LC:Stmt:=Bi 47
abbrev Mw:Stmt:=Bi 48
abbrev Jl:Stmt:=Bi 49
abbrev LD:Stmt:=Bi 50
abbrev JG:Stmt:=Bi 51
abbrev KY:Stmt:=Bi 52
abbrev M8:Stmt:=Bi 53
abbrev Le:Stmt:=Bi 54
abbrev Jk:Stmt:=Bi 55
abbrev Iu:Stmt:=Bi 56
theorem Bh {N P:List Str}{sc:Scope}(a:sc.kind = .function:=by rfl)(b:sc.isCoroutine=false:=by rfl)(c:sc.isGenerator=false:=by rfl)(d:N.Nodup:=by decide +kernel)(e:N.take P.length=P:=by rfl)(f:∀x∈P,sc.names.lookup x=some .local\/sc.names.lookup x=some .cell:=by decide +kernel)(g:∀y∈sc.names,y.2≠.free:=by decide +kernel):B7 N P sc:=⟨a,b,c,d,e,f,g⟩
theorem Wm:B7 ["self","ring"] ["self","ring"] (AI LF):=Bh
theorem Y1:B7 ["self","n"] ["self","n"] (AI LA):=Bh
theorem Ug:B7 ["self","names","lows","highs","table","spots","term","path"] ["self","names","lows","highs","table","spots","term","path"] (AI KW):=Bh
theorem Uh:B7 ["self","size","deeds"] ["self","size","deeds"] (AI L8):=Bh
theorem PV:B7 ["path","other","most","e"] ["path","other","most"] (AI LX):=Bh
theorem Jp:B7 ["items","path","cuts","found","number","item","here"] ["items","path","cuts"] (AI LQ):=Bh
theorem TU:B7 ["plan"] ["plan"] (AI Lu):=Bh
theorem Jx:B7 ["items","path","found","number","item","here"] ["items","path"] (AI LL):=Bh
theorem Jo:B7 ["plan","k","number","places","path","cuts"] ["plan","k"] (AI Mm):=Bh
theorem Gd:B7 ["plan","k","l","one","other","found","items","level","item"] ["plan","k","l"] (AI Mx):=Bh
theorem HV:B7 ["count","bonds","values","lowered_by","lowered","lap"] ["count","bonds"] (AI Kn):=Bh
theorem HP:B7 ["bonds","values","lowered_by","lowered","number","bond","top"] ["bonds","values","lowered_by"] (AI Mv):=Bh
theorem Hh:B7 ["count","bonds","lowered_by","lowered","start","lap","ring","at"] ["count","bonds","lowered_by","lowered"] (AI LR):=Bh
theorem Lj:B7 ["count","bonds","x","y","answer","chain","c"] ["count","bonds","x","y"] (AI K7):=Bh
theorem JS:B7 ["count","bonds","x","y","reached_by","chain","at"] ["count","bonds","x","y"] (AI Mt):=Bh
theorem JB:B7 ["count","bonds","y","lengths","reached_by","shortened"] ["count","bonds","y"] (AI LK):=Bh
theorem IU:B7 ["bonds","lengths","reached_by","shortened","number","bond","length"] ["bonds","lengths","reached_by"] (AI L4):=Bh
theorem Kv:B7 ["deed","first","bonds","e","low","high"] ["deed","first"] (AI KS):=Bh
theorem Tb:B7 ["spot","names","first"] ["spot","names","first"] (AI Ls):=Bh
theorem aA:B7 ["program","plan"] ["program","plan"] (AI JQ):=Bh
theorem YR:B7 ["plan"] ["plan"] (AI JF):=Bh
theorem Hc:B7 ["program","plan","path","depth","times","k","places","where","cuts"] ["program","plan","path"] (AI La):=Bh
theorem Kq:B7 ["deed","pair","bonds","count","below","above"] ["deed","pair"] (AI LO):=Bh
theorem UF:B7 ["plan","found","widths"] ["plan","found","widths"] (AI Ke):=Bh
theorem Rx:B7 ["values","pair","ruler","time"] ["values","pair","ruler"] (AI LV):=Bh
theorem FX:B7 ["program","plan","widths","one","other","ruled","path","cut","way","pair","other_pair","number","other_number"] ["program","plan","widths","one","other"] (AI Lr):=Bh
theorem Yx:B7 ["way","less"] ["way","less"] (AI KN):=Bh
theorem Ku:B7 ["_law_script","_law_k","_law_number"] ["_law_script","_law_k"] (AI M3):=Bh
theorem Mz:B7 ["_law_cell","_law_sizes","_law_found","_law_many"] ["_law_cell","_law_sizes"] (AI M7):=Bh
theorem Wp:B7 ["_law_cell"] ["_law_cell"] (AI Lg):=Bh
theorem Cu:B7 ["_law_cell","_law_loops","_law_kind","_law_step","_law_many","_law_thin","_law_which","_law_sign","_law_more","_law_letters","_law_name","_law_at_here","_law_high","_law_outer","_law_low","_law_first","_law_last","_law_other"] ["_law_cell","_law_loops"] (AI K4):=Bh
theorem CZ:B7 ["_law_script","_law_first","_law_count_here","_law_deeds_here","_law_n","_law_deep","_law_common","_law_loops","_law_path","_law_old","_law_cell"] ["_law_script","_law_first","_law_count_here"] (AI LZ):=Bh
theorem aN:B7 ["_law_spot","_law_scale","_law_base"] ["_law_spot","_law_scale","_law_base"] (AI Lo):=Bh
theorem Gk:B7 ["_law_deeds_here","_law_scale","_law_base","_law_found","_law_loops","_law_path","_law_common","_law_names","_law_lows","_law_highs"] ["_law_deeds_here","_law_scale","_law_base"] (AI Hl):=Bh
theorem EA:B7 ["_law_loops","_law_rows","_law_loop_here","_law_grown","_law_row","_law_worths","_law_other","_law_value","_law_low","_law_high"] ["_law_loops"] (AI KZ):=Bh
theorem LY:B7 ["_law_script","_law_first","_law_depth","_law_old","_law_sweeps_here","_law_way"] ["_law_script","_law_first","_law_depth","_law_old"] (AI LC):=Bh
theorem GV:B7 ["_law_script","_law_first","_law_loops","_law_places_here","_law_e","_law_number","_law_cell","_law_shift"] ["_law_script","_law_first","_law_loops"] (AI Mw):=Bh
theorem E6:B7 ["_law_script","_law_first","_law_depths","_law_start","_law_leaves_here","_law_n","_law_k","_law_cell","_law_like","_law_turn","_law_flip","_law_loops","_law_old","_law_sweeps_here"] ["_law_script","_law_first","_law_depths"] (AI Jl):=Bh
theorem GZ:B7 ["_law_leaves_here","_law_level","_law_items_here","_law_at_here","_law_upto","_law_pair"] ["_law_leaves_here","_law_level"] (AI LD):=Bh
theorem IV:B7 ["_law_leaves_here","_law_found","_law_n","_law_leaf","_law_keys_here"] ["_law_leaves_here"] (AI JG):=Bh
theorem Ey:B7 ["_law_leaves_here","_law_keys_here","_law_key","_law_found","_law_leaf","_law_row","_law_k","_law_share","_law_sweeps_here","_law_places_here","_law_e"] ["_law_leaves_here","_law_keys_here","_law_key"] (AI KY):=Bh
theorem HZ:B7 ["_law_one","_law_other","_law_leaves_here","_law_keys_here","_law_mine","_law_others","_law_e","_law_left","_law_right"] ["_law_one","_law_other","_law_leaves_here","_law_keys_here"] (AI M8):=Bh
theorem Kp:B7 ["_law_script","_law_first","_law_scale","_law_base"] ["_law_script","_law_first"] (AI Le):=Bh
theorem JA:B7 ["_law_deeds_here","_law_leaves_here","_law_frame_here","_law_found","_law_n","_law_leaf","_law_small"] ["_law_deeds_here","_law_leaves_here","_law_frame_here"] (AI Jk):=Bh
theorem CJ:B7 ["_law_script","_law_deeds_here","_law_leaves_here","_law_keys_here","_law_frame_here","_law_program","_law_some","_law_row","_law_key","_law_plan","_law_width","_law_entries_here","_law_j","_law_at_here","_law_step","_law_one","_law_other","_law_turn","_law_found"] ["_law_script"] (AI Iu):=Bh
theorem UU:D8 (E4 [(".0",.local),("value",.local),("values",.free)]) (AI Kn) ["count","bonds","values","lowered_by","lowered","lap"] ["value","values"] [none,some 2]=true:=by decide +kernel
theorem X7:(["value","values"]:List Str).Nodup:=by decide +kernel
theorem UX:D8 (E4 [(".0",.local),("number",.local),("bonds",.free)]) (AI K7) ["count","bonds","x","y","answer","chain","c"] ["number","bonds"] [none,some 1]=true:=by decide +kernel
theorem TL:(["number","bonds"]:List Str).Nodup:=by decide +kernel
theorem WO:D8 (E4 [(".0",.local),("path",.local),("cut",.local),("way",.local)]) (AI JF) ["plan"] ["path","cut","way"] [none,none,none]=true:=by decide +kernel
theorem Ni:(["path","cut","way"]:List Str).Nodup:=by decide +kernel
theorem Vv:D8 (E4 [(".0",.local),("path",.local),("ends_at",.globalImplicit),("plan",.free),("program",.free)]) (AI JQ) ["program","plan"] ["path","plan","program"] [none,some 1,some 0]=true:=by decide +kernel
theorem SX:(["path","plan","program"]:List Str).Nodup:=by decide +kernel
theorem Vc:D8 (E4 [(".0",.local),("path",.local),("pair",.local),("width",.local)]) (AI Ke) ["plan","found","widths"] ["path","pair","width"] [none,none,none]=true:=by decide +kernel
theorem MY:(["path","pair","width"]:List Str).Nodup:=by decide +kernel
theorem UQ:D8 (E4 [(".0",.local),("_law_loop_here",.local)]) (AI K4) ["_law_cell","_law_loops","_law_kind","_law_step","_law_many","_law_thin","_law_which","_law_sign","_law_more","_law_letters","_law_name","_law_at_here","_law_high","_law_outer","_law_low","_law_first","_law_last","_law_other"] ["_law_loop_here"] [none]=true:=by decide +kernel
theorem Yt:(["_law_loop_here"]:List Str).Nodup:=by decide +kernel
theorem Zf:D8 (E4 [(".0",.local),("_law_loop_here",.local)]) (AI Hl) ["_law_deeds_here","_law_scale","_law_base","_law_found","_law_loops","_law_path","_law_common","_law_names","_law_lows","_law_highs"] ["_law_loop_here"] [none]=true:=by decide +kernel
theorem WY:(["_law_loop_here"]:List Str).Nodup:=by decide +kernel
theorem XR:D8 (E4 [(".0",.local),("_law_loop_here",.local),("_law_told",.globalImplicit),("_law_base",.free),("_law_scale",.free)]) (AI Hl) ["_law_deeds_here","_law_scale","_law_base","_law_found","_law_loops","_law_path","_law_common","_law_names","_law_lows","_law_highs"] ["_law_loop_here","_law_base","_law_scale"] [none,some 2,some 1]=true:=by decide +kernel
theorem ak:(["_law_loop_here","_law_base","_law_scale"]:List Str).Nodup:=by decide +kernel
theorem Um:D8 (E4 [(".0",.local),("_law_loop_here",.local),("_law_told",.globalImplicit),("_law_base",.free),("_law_scale",.free)]) (AI Hl) ["_law_deeds_here","_law_scale","_law_base","_law_found","_law_loops","_law_path","_law_common","_law_names","_law_lows","_law_highs"] ["_law_loop_here","_law_base","_law_scale"] [none,some 2,some 1]=true:=by decide +kernel
theorem Wg:(["_law_loop_here","_law_base","_law_scale"]:List Str).Nodup:=by decide +kernel
theorem TC:D8 (E4 [(".0",.local),("_law_e",.local),("_law_depths",.free),("_law_k",.free),("_law_turn",.free)]) (AI Jl) ["_law_script","_law_first","_law_depths","_law_start","_law_leaves_here","_law_n","_law_k","_law_cell","_law_like","_law_turn","_law_flip","_law_loops","_law_old","_law_sweeps_here"] ["_law_e","_law_depths","_law_k","_law_turn"] [none,some 2,some 6,some 9]=true:=by decide +kernel
theorem af:(["_law_e","_law_depths","_law_k","_law_turn"]:List Str).Nodup:=by decide +kernel
theorem U6:D8 (E4 [(".0",.local),("_law_e",.local),("_law_n",.free)]) (AI JG) ["_law_leaves_here","_law_found","_law_n","_law_leaf","_law_keys_here"] ["_law_e","_law_n"] [none,some 2]=true:=by decide +kernel
theorem aI:(["_law_e","_law_n"]:List Str).Nodup:=by decide +kernel
theorem V4:D8 (E4 [(".0",.local),("_law_one",.local),("_law_frame_here",.free)]) (AI Jk) ["_law_deeds_here","_law_leaves_here","_law_frame_here","_law_found","_law_n","_law_leaf","_law_small"] ["_law_one","_law_frame_here"] [none,some 2]=true:=by decide +kernel
theorem Vf:(["_law_one","_law_frame_here"]:List Str).Nodup:=by decide +kernel
theorem Sm:D8 (E4 [(".0",.local),("_law_deed",.local),("len",.globalImplicit)]) (AI Iu) ["_law_script","_law_deeds_here","_law_leaves_here","_law_keys_here","_law_frame_here","_law_program","_law_some","_law_row","_law_key","_law_plan","_law_width","_law_entries_here","_law_j","_law_at_here","_law_step","_law_one","_law_other","_law_turn","_law_found"] ["_law_deed"] [none]=true:=by decide +kernel
theorem Zo:(["_law_deed"]:List Str).Nodup:=by decide +kernel
theorem WC:D8 (E4 [(".0",.local),("_law_key",.local),("_law_some",.free)]) (AI Iu) ["_law_script","_law_deeds_here","_law_leaves_here","_law_keys_here","_law_frame_here","_law_program","_law_some","_law_row","_law_key","_law_plan","_law_width","_law_entries_here","_law_j","_law_at_here","_law_step","_law_one","_law_other","_law_turn","_law_found"] ["_law_key","_law_some"] [none,some 6]=true:=by decide +kernel
theorem Vk:(["_law_key","_law_some"]:List Str).Nodup:=by decide +kernel
structure Bt (K:Faa)(x:Str)(st:Stmt)(f:Addr)(d:FuncData):Prop where
 a:PySem.W.nsIn K mainGlobals x=some (some (.ref f))
 F:AW K x x st f d
structure Mo (K:Faa)(C:Addr)(x q:Str)(st:Stmt)(f:Addr)(d:FuncData):Prop where
 a:PySem.W.findIn K (.ref C) x=some (some (.ref f))
 i:PySem.W.isFn K (.ref f)=true
 F:AW K x q st f d
structure ClA (K:Faa)(C:Addr)(x:Str):Prop where
 a:PySem.W.nsIn K mainGlobals x=some (some (.ref C))
 pg:PySem.W.plainGet K C Str.empty=true
 hd:PySem.W.hasDictIn K C=true
 po:PySem.W.plainOver K C=true
 sa:PySem.W.findIn K (.ref C) "__setattr__"=some (some (.builtin "object.__setattr__"))
 mi:PySem.W.makesIn K C=true
 kc:PySem.W.keepIn K (.ref C)=true
abbrev Bg (x q:Str)(st:Stmt)(ps:List Str):Prop := ∀(kV doc pm:Value) (an:Option Addr) (cdv ct:Value) (us:List Value),us.length=ps.length->bindArgs (PySem.W.fnOf x q (Ks st) (GT st) (AI st) .none kV doc pm an cdv ct) ⟨us,[]⟩=pure (ps.zip us)
structure Ad where
 f_P:Addr
 d_P:FuncData
 f_Q:Addr
 d_Q:FuncData
 f_R:Addr
 d_R:FuncData
 f_S:Addr
 d_S:FuncData
 f_m:Addr
 d_m:FuncData
 f_d:Addr
 d_d:FuncData
 f_n:Addr
 d_n:FuncData
 f_e:Addr
 d_e:FuncData
 f_c:Addr
 d_c:FuncData
 f_o:Addr
 d_o:FuncData
 f_h:Addr
 d_h:FuncData
 f_p:Addr
 d_p:FuncData
 f_q:Addr
 d_q:FuncData
 f_i:Addr
 d_i:FuncData
 f_r:Addr
 d_r:FuncData
 f_s:Addr
 d_s:FuncData
 f_t:Addr
 d_t:FuncData
 f_u:Addr
 d_u:FuncData
 f_j:Addr
 d_j:FuncData
 f_v:Addr
 d_v:FuncData
 f_f:Addr
 d_f:FuncData
 f_w:Addr
 d_w:FuncData
 f_x:Addr
 d_x:FuncData
 f_y:Addr
 d_y:FuncData
 f_k:Addr
 d_k:FuncData
 f_z:Addr
 d_z:FuncData
 f_A:Addr
 d_A:FuncData
 f_a:Addr
 d_a:FuncData
 f_b:Addr
 d_b:FuncData
 f_B:Addr
 d_B:FuncData
 f_C:Addr
 d_C:FuncData
 f_D:Addr
 d_D:FuncData
 f_l:Addr
 d_l:FuncData
 f_E:Addr
 d_E:FuncData
 f_F:Addr
 d_F:FuncData
 f_G:Addr
 d_G:FuncData
 f_H:Addr
 d_H:FuncData
 f_I:Addr
 d_I:FuncData
 f_g:Addr
 d_g:FuncData
 f_J:Addr
 d_J:FuncData
 f_K:Addr
 d_K:FuncData
 f_L:Addr
 d_L:FuncData
 f_M:Addr
 d_M:FuncData
 f_N:Addr
 d_N:FuncData
 f_O:Addr
 d_O:FuncData
 c_Number:Addr
 c_Deed:Addr
 c_Program:Addr
 c_FurrowError:Addr
 c_NoValues:Addr
structure Tx (K:Faa)(mg:Str->Option Value)(a:Ad):Prop where
 F_P:AW K "__init__" "NoValues.__init__" LF a.f_P a.d_P
 b_P:AX K a.d_P ["self","ring"] []
 F_Q:AW K "__init__" "Number.__init__" LA a.f_Q a.d_Q
 b_Q:AX K a.d_Q ["self","n"] []
 F_R:AW K "__init__" "Deed.__init__" KW a.f_R a.d_R
 b_R:AX K a.d_R ["self","names","lows","highs","table","spots","term","path"] []
 F_S:AW K "__init__" "Program.__init__" L8 a.f_S a.d_S
 b_S:AX K a.d_S ["self","size","deeds"] []
 F_m:AW K "alike_numbers" "alike_numbers" LX a.f_m a.d_m
 b_m:AX K a.d_m ["path","other","most"] []
 m_m:mg "alike_numbers"=some (.ref a.f_m)
 F_d:AW K "deeds_within" "deeds_within" LQ a.f_d a.d_d
 b_d:AX K a.d_d ["items","path","cuts"] []
 m_d:mg "deeds_within"=some (.ref a.f_d)
 F_n:AW K "sweeps_of" "sweeps_of" Lu a.f_n a.d_n
 b_n:AX K a.d_n ["plan"] []
 m_n:mg "sweeps_of"=some (.ref a.f_n)
 F_e:AW K "sweeps_within" "sweeps_within" LL a.f_e a.d_e
 b_e:AX K a.d_e ["items","path"] []
 m_e:mg "sweeps_within"=some (.ref a.f_e)
 F_c:AW K "stand" "stand" Mm a.f_c a.d_c
 b_c:AX K a.d_c ["plan","k"] []
 m_c:mg "stand"=some (.ref a.f_c)
 F_o:AW K "round_both" "round_both" Mx a.f_o a.d_o
 b_o:AX K a.d_o ["plan","k","l"] []
 m_o:mg "round_both"=some (.ref a.f_o)
 F_h:AW K "settled" "settled" Kn a.f_h a.d_h
 b_h:AX K a.d_h ["count","bonds"] []
 m_h:mg "settled"=some (.ref a.f_h)
 F_p:AW K "lowered_in_a_round" "lowered_in_a_round" Mv a.f_p a.d_p
 b_p:AX K a.d_p ["bonds","values","lowered_by"] []
 m_p:mg "lowered_in_a_round"=some (.ref a.f_p)
 F_q:AW K "ring_behind" "ring_behind" LR a.f_q a.d_q
 b_q:AX K a.d_q ["count","bonds","lowered_by","lowered"] []
 m_q:mg "ring_behind"=some (.ref a.f_q)
 F_i:AW K "most" "most" K7 a.f_i a.d_i
 b_i:AX K a.d_i ["count","bonds","x","y"] []
 m_i:mg "most"=some (.ref a.f_i)
 F_r:AW K "shortest_chain" "shortest_chain" Mt a.f_r a.d_r
 b_r:AX K a.d_r ["count","bonds","x","y"] []
 m_r:mg "shortest_chain"=some (.ref a.f_r)
 F_s:AW K "chains_to" "chains_to" LK a.f_s a.d_s
 b_s:AX K a.d_s ["count","bonds","y"] []
 m_s:mg "chains_to"=some (.ref a.f_s)
 F_t:AW K "shortened_in_a_round" "shortened_in_a_round" L4 a.f_t a.d_t
 b_t:AX K a.d_t ["bonds","lengths","reached_by"] []
 m_t:mg "shortened_in_a_round"=some (.ref a.f_t)
 F_u:AW K "loop_bonds" "loop_bonds" KS a.f_u a.d_u
 b_u:AX K a.d_u ["deed","first"] []
 m_u:mg "loop_bonds"=some (.ref a.f_u)
 F_j:AW K "unknown_of" "unknown_of" Ls a.f_j a.d_j
 b_j:AX K a.d_j ["spot","names","first"] []
 m_j:mg "unknown_of"=some (.ref a.f_j)
 F_v:AW K "ends" "ends" JQ a.f_v a.d_v
 b_v:AX K a.d_v ["program","plan"] []
 m_v:mg "ends"=some (.ref a.f_v)
 F_f:AW K "cut_paths" "cut_paths" JF a.f_f a.d_f
 b_f:AX K a.d_f ["plan"] []
 m_f:mg "cut_paths"=some (.ref a.f_f)
 F_w:AW K "ends_at" "ends_at" La a.f_w a.d_w
 b_w:AX K a.d_w ["program","plan","path"] []
 m_w:mg "ends_at"=some (.ref a.f_w)
 F_x:AW K "end_times" "end_times" LO a.f_x a.d_x
 b_x:AX K a.d_x ["deed","pair"] []
 m_x:mg "end_times"=some (.ref a.f_x)
 F_y:AW K "rulers" "rulers" Ke a.f_y a.d_y
 b_y:AX K a.d_y ["plan","found","widths"] []
 m_y:mg "rulers"=some (.ref a.f_y)
 F_k:AW K "number_shown" "number_shown" LV a.f_k a.d_k
 b_k:AX K a.d_k ["values","pair","ruler"] []
 m_k:mg "number_shown"=some (.ref a.f_k)
 F_z:AW K "order_of" "order_of" Lr a.f_z a.d_z
 b_z:AX K a.d_z ["program","plan","widths","one","other"] []
 m_z:mg "order_of"=some (.ref a.f_z)
 F_A:AW K "order_by_way" "order_by_way" KN a.f_A a.d_A
 b_A:AX K a.d_A ["way","less"] []
 m_A:mg "order_by_way"=some (.ref a.f_A)
 F_a:AW K "_law_at" "_law_at" M3 a.f_a a.d_a
 b_a:AX K a.d_a ["_law_script","_law_k"] []
 m_a:mg "_law_at"=some (.ref a.f_a)
 F_b:AW K "_law_digits" "_law_digits" M7 a.f_b a.d_b
 b_b:AX K a.d_b ["_law_cell","_law_sizes"] []
 m_b:mg "_law_digits"=some (.ref a.f_b)
 F_B:AW K "_law_count" "_law_count" Lg a.f_B a.d_B
 b_B:AX K a.d_B ["_law_cell"] []
 m_B:mg "_law_count"=some (.ref a.f_B)
 F_C:AW K "_law_loop" "_law_loop" K4 a.f_C a.d_C
 b_C:AX K a.d_C ["_law_cell","_law_loops"] []
 m_C:mg "_law_loop"=some (.ref a.f_C)
 F_D:AW K "_law_deeds" "_law_deeds" LZ a.f_D a.d_D
 b_D:AX K a.d_D ["_law_script","_law_first","_law_count_here"] []
 m_D:mg "_law_deeds"=some (.ref a.f_D)
 F_l:AW K "_law_told" "_law_told" Lo a.f_l a.d_l
 b_l:AX K a.d_l ["_law_spot","_law_scale","_law_base"] []
 m_l:mg "_law_told"=some (.ref a.f_l)
 F_E:AW K "_law_told_deeds" "_law_told_deeds" Hl a.f_E a.d_E
 b_E:AX K a.d_E ["_law_deeds_here","_law_scale","_law_base"] []
 m_E:mg "_law_told_deeds"=some (.ref a.f_E)
 F_F:AW K "_law_values" "_law_values" KZ a.f_F a.d_F
 b_F:AX K a.d_F ["_law_loops"] []
 m_F:mg "_law_values"=some (.ref a.f_F)
 F_G:AW K "_law_sweeps" "_law_sweeps" LC a.f_G a.d_G
 b_G:AX K a.d_G ["_law_script","_law_first","_law_depth","_law_old"] []
 m_G:mg "_law_sweeps"=some (.ref a.f_G)
 F_H:AW K "_law_places" "_law_places" Mw a.f_H a.d_H
 b_H:AX K a.d_H ["_law_script","_law_first","_law_loops"] []
 m_H:mg "_law_places"=some (.ref a.f_H)
 F_I:AW K "_law_leaves" "_law_leaves" Jl a.f_I a.d_I
 b_I:AX K a.d_I ["_law_script","_law_first","_law_depths"] []
 m_I:mg "_law_leaves"=some (.ref a.f_I)
 F_g:AW K "_law_items" "_law_items" LD a.f_g a.d_g
 b_g:AX K a.d_g ["_law_leaves_here","_law_level"] []
 m_g:mg "_law_items"=some (.ref a.f_g)
 F_J:AW K "_law_keys" "_law_keys" JG a.f_J a.d_J
 b_J:AX K a.d_J ["_law_leaves_here"] []
 m_J:mg "_law_keys"=some (.ref a.f_J)
 F_K:AW K "_law_wrapped" "_law_wrapped" KY a.f_K a.d_K
 b_K:AX K a.d_K ["_law_leaves_here","_law_keys_here","_law_key"] []
 m_K:mg "_law_wrapped"=some (.ref a.f_K)
 F_L:AW K "_law_order" "_law_order" M8 a.f_L a.d_L
 b_L:AX K a.d_L ["_law_one","_law_other","_law_leaves_here","_law_keys_here"] []
 m_L:mg "_law_order"=some (.ref a.f_L)
 F_M:AW K "_law_frame" "_law_frame" Le a.f_M a.d_M
 b_M:AX K a.d_M ["_law_script","_law_first"] []
 m_M:mg "_law_frame"=some (.ref a.f_M)
 F_N:AW K "_law_entries" "_law_entries" Jk a.f_N a.d_N
 b_N:AX K a.d_N ["_law_deeds_here","_law_leaves_here","_law_frame_here"] []
 m_N:mg "_law_entries"=some (.ref a.f_N)
 F_O:AW K "law" "law" Iu a.f_O a.d_O
 b_O:AX K a.d_O ["_law_script"] []
 m_O:mg "law"=some (.ref a.f_O)
 cl_Number:Fh K a.c_Number
 mc_Number:mg "Number"=some (.ref a.c_Number)
 mk_Number:Mk K a.c_Number a.f_Q
 n_Number_n:D7 K a.c_Number "n"
 cl_Deed:Fh K a.c_Deed
 mc_Deed:mg "Deed"=some (.ref a.c_Deed)
 mk_Deed:Mk K a.c_Deed a.f_R
 n_Deed_names:D7 K a.c_Deed "names"
 n_Deed_lows:D7 K a.c_Deed "lows"
 n_Deed_highs:D7 K a.c_Deed "highs"
 n_Deed_table:D7 K a.c_Deed "table"
 n_Deed_spots:D7 K a.c_Deed "spots"
 n_Deed_term:D7 K a.c_Deed "term"
 n_Deed_path:D7 K a.c_Deed "path"
 cl_Program:Fh K a.c_Program
 mc_Program:mg "Program"=some (.ref a.c_Program)
 mk_Program:Mk K a.c_Program a.f_S
 n_Program_size:D7 K a.c_Program "size"
 n_Program_deeds:D7 K a.c_Program "deeds"
 mc_FurrowError:mg "FurrowError"=some (.ref a.c_FurrowError)
 xi_FurrowError:XI K a.c_FurrowError
 ct_FurrowError:∃N,∀h,K.In h->EX.ClsT h a.c_FurrowError N (([]:List Addr).map Value.ref++EX.bmVE)
 xm_FurrowError:V9 K a.c_FurrowError
 mc_NoValues:mg "NoValues"=some (.ref a.c_NoValues)
 xi_NoValues:XI K a.c_NoValues
 ct_NoValues:∃N,∀h,K.In h->EX.ClsT h a.c_NoValues N (([a.c_FurrowError]:List Addr).map Value.ref++EX.bmVE)
 xm_NoValues:QD K a.c_NoValues a.f_P
 n_NoValues_ring:D7 K a.c_NoValues "ring"
 xnd:([a.c_FurrowError,a.c_NoValues]:List Addr).Nodup
 xb:XB K a.c_FurrowError
 z_bool:mg "bool"=none
 z_dict:mg "dict"=none
 z_enumerate:mg "enumerate"=none
 z_int:mg "int"=none
 z_isinstance:mg "isinstance"=none
 z_len:mg "len"=none
 z_list:mg "list"=none
 z_max:mg "max"=none
 z_min:mg "min"=none
 z_range:mg "range"=none
 z_sum:mg "sum"=none
 z_tuple:mg "tuple"=none
 z_zip:mg "zip"=none
noncomputable def G9 (a:Ad):Cs:=⟨a.c_Number,0,0,0⟩
section
variable {P:Program}{w:World}{K:Faa}{mg:Str->Option Value}{base:Heap}{a:Ad}
theorem X4 (T:Tx K mg a):AS P w K mg base B9 1 a.f_Q a.d_Q ["self","n"] (SO a.c_Number):=by
 refine T.F_Q.ok Y1 (fun vs H Q E h=>?_) (fun cdv A outer s H vs Q E hr h=>?_)
 .obtain⟨_,_,_,rfl,_⟩:=h;rfl
 obtain⟨x,dx,n,rfl,hx,q⟩:=h
 refine⟨_,(Aj (Fb (pw 0) (pw 1) rfl)),?_⟩
 exact⟨x,_,dx,_,rfl,hx,T.cl_Number,T.n_Number_n,(by show 0<1000;decide),q _ (fun b o e hb=>by rw[Ai hb];exact e) ⟨dx,A7⟩⟩
theorem TX (T:Tx K mg a):AS P w K mg base B9 1 a.f_R a.d_R ["self","names","lows","highs","table","spots","term","path"] (aq a.c_Deed):=by
 refine T.F_R.ok Ug (fun vs H Q E h=>?_) (fun cdv A outer s H vs Q E hr h=>?_)
 .obtain⟨_,_,_,_,_,_,_,_,_,rfl,_⟩:=h;rfl
 obtain⟨x,dx,v1,v2,v3,v4,v5,v6,v7,rfl,hx,q⟩:=h
 refine⟨_,(A8 (Fb (pw 0) (pw 1) rfl)
  (A8 (Fb (pw 0) (pw 2) rfl)
  (A8 (Fb (pw 0) (pw 3) rfl)
  (A8 (Fb (pw 0) (pw 4) rfl)
  (A8 (Fb (pw 0) (pw 5) rfl)
  (A8 (Fb (pw 0) (pw 6) rfl)
  (Aj (Fb (pw 0) (pw 7) rfl)))))))),?_⟩
 refine⟨x,_,dx,_,rfl,hx,T.cl_Deed,T.n_Deed_names,(by show 0<1000;decide),?_⟩
 refine⟨x,_,dx,_,rfl,A7,T.cl_Deed,T.n_Deed_lows,(by show 1<1000;decide),?_⟩
 refine⟨x,_,dx,_,rfl,A7,T.cl_Deed,T.n_Deed_highs,(by show 2<1000;decide),?_⟩
 refine⟨x,_,dx,_,rfl,A7,T.cl_Deed,T.n_Deed_table,(by show 3<1000;decide),?_⟩
 refine⟨x,_,dx,_,rfl,A7,T.cl_Deed,T.n_Deed_spots,(by show 4<1000;decide),?_⟩
 refine⟨x,_,dx,_,rfl,A7,T.cl_Deed,T.n_Deed_term,(by show 5<1000;decide),?_⟩
 refine⟨x,_,dx,_,rfl,A7,T.cl_Deed,T.n_Deed_path,(by show 6<1000;decide),?_⟩
 exact q _ (fun b o e hb=>by
   repeat rw[Ai hb]
   exact e) ⟨dx,A7⟩
theorem TB (T:Tx K mg a):AS P w K mg base B9 1 a.f_S a.d_S ["self","size","deeds"] (Z3 K a.c_Program):=by
 refine T.F_S.ok Uh (fun vs H Q E h=>?_) (fun cdv A outer s H vs Q E hr h=>?_)
 .obtain⟨_,_,_,_,_,rfl,_⟩:=h;rfl
 obtain⟨x,dx,sz,p,ys,rfl,hx,hp,q⟩:=h
 refine⟨_,(A8 (Fb (pw 0) (pw 1) rfl)
  (Aj (Fb (pw 0) (Do Rh (by rfl) T.z_list Pr (A0 (pw 2) A3)) rfl))),?_⟩
 refine⟨x,_,dx,_,rfl,hx,T.cl_Program,T.n_Program_size,(by show 0<1000;decide),?_⟩
 refine⟨p,ys,rfl,.inl (A4.updI hp hx),fun l hl=>?_⟩
 have nxl:x≠l:=fun e=>by rw[e,A7]at hl;cases hl
 have hlH:H l=none:=by rw[Ai (Ne.symm nxl)]at hl;exact hl
 refine⟨x,_,dx,_,rfl,(by rw[Ai nxl];exact A7),T.cl_Program,T.n_Program_deeds,(by show 1<1000;decide),?_⟩
 refine q l _ hlH (fun b o e hb=>?_) ?_ ⟨dx,A7⟩
 .rw[Ai hb,Ai (AQ e hlH),Ai hb]
  exact e
 .rw[Ai (Ne.symm nxl)]
  exact A7
theorem Wk (T:Tx K mg a):AS P w K mg base B9 1 a.f_m a.d_m ["path","other","most"] SZ:=by
 refine T.F_m.ok PV (fun vs H Q E h=>?_) (fun cdv A outer s H vs Q E hr h=>?_)
 .obtain⟨_,_,_,_,_,_,rfl,_⟩:=h;rfl
 obtain⟨p1,p2,xs,ys,m,k,rfl,hp1,hp2,hm1,hm2,hm3,hkm,ke,kn,q⟩:=h
 refine⟨_,(A8 (C8 PassesOwn.never rfl (F2 (by rfl) T.z_range (A0 (pw 2) A3)) (Ax (i:=3) PV.nd rfl (.inl rfl))
  (Aj (Bp (AU IP (A6 Ae (pw 0) (pw 3) (fun _ _=>rfl)) (A6 Ae (pw 1) (pw 3) (fun _ _=>rfl)) (AK _))
  (Aj (AM (pw 3)))
  BB)))
  (Aj (AM (pw 2)))),?_⟩
 refine⟨_,rfl,by lia,by lia,?_⟩
 refine Fe (lo:=0) (n:=m) (fun i σ' H'=>H'=H/\(∃o,σ'=[some (.ref p1),some (.ref p2),some (.int (m:Int)),o])/\i<=k) ⟨rfl,⟨_,rfl⟩,Bj _⟩ (fun i σ' H' hi p=>?_) (fun σ' H' p=>?_)
 .obtain⟨rfl,⟨o,rfl⟩,hik⟩:=p
  have a1:B5 (xs.map V.int) (0+(i:Int))=some (.int (xs.getD i 0)):=by
   have:=Ho (ns:=xs) (k:=0+(i:Int)) (by lia) (by lia)
   rwa [show(0+(i:Int)).toNat=i by rw[GH];rfl]at this
  have a2:B5 (ys.map V.int) (0+(i:Int))=some (.int (ys.getD i 0)):=by
   have:=Ho (ns:=ys) (k:=0+(i:Int)) (by lia) (by lia)
   rwa [show(0+(i:Int)).toNat=i by rw[GH];rfl]at this
  refine⟨p1,_,_,_,rfl,rfl,A5.of hp1,a1,?_⟩
  refine⟨p2,_,_,_,rfl,rfl,A5.of hp2,a2,rfl,_,rfl,?_⟩
  by_cases hk:i<k
  .refine B8 (Iv (congrArg V.int (ke i hk))) (BZ ?_)
   exact⟨rfl,⟨_,rfl⟩,hk⟩
  .have e:i=k:=by lia
   subst e
   refine B8 (K6 (fun z=>kn hi (V.int.inj z))) (BY ?_)
   exact by rw[GH];exact q
 .obtain⟨rfl,⟨o,rfl⟩,hik⟩:=p
  have e:m=k:=by lia
  subst e
  exact q
theorem NT (T:Tx K mg a):∀n:Nat,AS P w K mg base B9 (n+2) a.f_d a.d_d ["items","path","cuts"] (Q7 n)
 |
  0=>by
  have no:∀vs H Q E,¬Q7 0 vs H Q E:=fun vs H Q E h=>by
   obtain⟨it,pa,cu,f,P',cs,_,_,_,_,hd,_⟩:=h
   have:=KQ f
   lia
  exact⟨fun vs H Q E h=>absurd h (no vs H Q E),fun A outer s H args us vs Q E _ _ _ _ h=>absurd h (no vs H Q E)⟩
 |
  n+1=>by
  have G_d:=NT T n
  refine T.F_d.ok Jp (fun vs H Q E h=>?_) (fun cdv A outer s H vs Q E hr h=>?_)
  .obtain⟨_,_,_,_,_,_,rfl,_⟩:=h;rfl
  obtain⟨it,pa,cu,f,PP,cs,rfl,⟨xs,hit,hf⟩,hpa,hcu,hdep,pl,cl,hlen,q⟩:=h
  refine⟨_,(A8 (Ah (i:=3) Jp.nd rfl (.inl rfl) (Bs A3))
  (A8 (C8 PassesOwn.never rfl (Rn (by rfl) T.z_enumerate (A0 (pw 0) A3)) (Dg rfl (AN (Ax (i:=4) Jp.nd rfl (.inl rfl)) (AN (Ax (i:=5) Jp.nd rfl (.inl rfl)) CB)))
  (A8 (Ah (i:=6) Jp.nd rfl (.inl rfl) (Ab Gu (pw 1) (Bb (A0 (pw 4) A3))))
  (Aj (Bp (AU C3 (A6 Ae (pw 5) A1 (fun _ _=>rfl)) C6 (AK _))
  (Aj (Cr (Cw CA Dy Dz D9 (pw 3) (A0 (CO (Ar (A6 Ae (pw 5) A1 (fun _ _=>rfl)) (Ar (A6 Ae (pw 5) A1 (fun _ _=>rfl)) (Ar (pw 6) (Ar (pw 2) Cj Cb) Cb) DG) DG)) A3))))
  (Aj (Cr (Cw CA Oy OA Lz (pw 3) (A0 (AJ G_d (hr.mono (by lia)) (by rfl) T.m_d T.F_d.kp T.b_d .nil AF (A0 (A6 Ae (pw 5) A1 (fun _ _=>rfl)) (A0 (pw 6) (A0 (Ab Gu (pw 2) (Bb (A0 (A6 Ae (pw 5) A1 (fun _ _=>rfl)) A3))) A3)))) A3))))))))
  (Aj (AM (pw 3))))),?_⟩
  refine⟨An rfl,fun fo hfo=>?_⟩
  have e1:=Ac hfo (.lst [])
  have hfo1:(upd H fo (.lst [])) fo=some (.lst []):=A7
  generalize upd H fo (.lst [])=H1 at e1 hfo1
  refine⟨it,rfl,⟨_,A5.of (e1 _ _ hit)⟩,?_⟩
  refine Qw (xs:=xs) (fun i σ' H'=>∃(g:B3) (done:List Fo.En) (ys:List V) (o4 o5 o6:Option V),σ'=[some (.ref it),some (.ref pa),some (.ref cu),some (.ref fo),o4,o5,o6]/\Aa H H'/\By H (xs.drop i) g/\Cy g<=n+1/\H' fo=some (.lst ys)/\Av (Gq H') ys done/\done++Fo.deedsF g PP i=Fo.deedsF f PP 0) ⟨f,[],[],_,_,_,rfl,e1,hf,hdep,hfo1,.nil,rfl⟩ (fun i σ' H' _ pp=>by obtain⟨_,_,_,_,_,_,_,e,_⟩:=pp;exact A5.of (e _ _ hit)) (fun i x Tt σ' H' hx pp hT=>?_) (fun σ' H' pp=>?_)
  rotate_left
  .obtain⟨g,done,ys,o4,o5,o6,rfl,e,hg,_,hy,ay,hd⟩:=pp
   have hz:xs.drop xs.length=[]:=MN (Af _)
   rw[hz]at hg
   have gn:g = .nil:=by
    cases g with
    |nil=>rfl
    |leaf k pl r=>obtain⟨_,_,_,z,_⟩:=hg;cases z
    |node c w s r=>obtain⟨_,_,_,_,z,_⟩:=hg;cases z
   subst gn
   have:done=Fo.deedsF f PP 0:=by rw[←hd];show done=done++[];rw[IX]
   rw[this]at ay
   exact q fo ys _ e hy ay
  refine Ak fun _ zA=>?_
  obtain⟨g,done,ys,o4,o5,o6,rfl,e,hg,gdep,hy,ay,hd⟩:=pp
  obtain⟨hi,ex⟩:=Ay.mp hx
  refine zA ?_
  rw[GG hi,ex]at hg
  have tot:=congrArg List.length hd
  rw[AB]at tot
  have yl:=ay.1
  have sT:=Ac hT (.tup [V.int (i:Int),x])
  have e2:=e.trans sT
  have hy2:=sT _ _ hy
  have ay2:=ay.mono fun y v z=>z.over sT
  refine⟨Tt,_,rfl,A5.of A7,rfl,rfl,?_⟩
  generalize upd H' Tt (.tup [V.int (i:Int),x])=H2 at e2 hy2 ay2
  refine⟨An rfl,fun t1 ht1=>?_⟩
  have s3:=Ac ht1 (.tup [V.int (i:Int)])
  refine⟨pa,t1,_,[V.int (i:Int)],rfl,rfl,s3 _ _ (e2 _ _ hpa),A7,Bu (by rw[Au,B4];lia),fun he H3 e3 hhe=>?_⟩
  have hhe:H3 he=some (.tup ((PP++[(i:Int)]).map V.int)):=by rw[BA];exact hhe
  have e23:=s3.trans e3
  have eH3:=e2.trans e23
  have hy3:=e23 _ _ hy2
  have ay3:=ay2.mono fun y v z=>z.over e23
  dsimp only[Am]
  clear s3 e3 sT
  cases g with
  |nil=>cases hg
  |
   leaf k pl rest=>
   refine Ak fun _ zB=>?_
   obtain⟨t,pp,zs,z,ht,hpr,hrest⟩:=hg
   refine zB ?_
   cases z
   change Cy rest<=n+1 at gdep
   change done++(⟨k,pl,PP++[(i:Int)]⟩::Fo.deedsF rest PP (i+1))=Fo.deedsF f PP 0 at hd
   have tot':done.length+(Fo.deedsF rest PP (i+1)).length+1=(Fo.deedsF f PP 0).length:=by rw[←hd,AB,BH];lia
   refine⟨t,_,0,_,rfl,rfl,A5.of (eH3 _ _ ht),rfl,rfl,_,rfl,B8 (v:=true) (Bw rfl) (BY ?_)⟩
   refine⟨.inl ⟨rfl,_,A4.of hy3⟩,t,_,1,_,rfl,rfl,A5.of (eH3 _ _ ht),rfl,t,_,2,_,rfl,rfl,A5.of (eH3 _ _ ht),rfl,An rfl,fun r hr=>?_⟩
   have s4:=Ac hr (.tup [V.int k,V.ref pp,V.ref he,V.ref cu])
   have nr:r≠fo:=fun z=>by rw[z,hy3]at hr;cases hr
   refine⟨fo,_,_,rfl,rfl,s4 _ _ hy3,CT (by lia),?_⟩
   have tk:=(Aa.tk s4).trans (TK.upd (o:=.lst (ys++[V.ref r])) (s4 _ _ hy3))
   refine⟨rest,done++[⟨k,pl,PP++[(i:Int)]⟩],_,_,_,_,rfl,fun a o ha=>by rw[Ai (AQ ha hfo)];exact s4 _ _ (eH3 _ _ ha),hrest,gdep,A7,?_,by rw[Dp];exact hd⟩
   exact(ay3.mono fun y v z=>z.tk tk).snoc ⟨r,pp,he,cu,rfl,by rw[Ai nr];exact A7,(hpr.over eH3).tk tk,tk _ _ hhe⟩
  |
   node c w sub rest=>
   refine Ak fun _ zC=>?_
   obtain⟨t,pp,zs,us,z,ht,hpp,hsub,hrest⟩:=hg
   refine zC ?_
   cases z
   unfold Cy at gdep
   change done++(Fo.deedsF sub (PP++[(i:Int)]) 0++Fo.deedsF rest PP (i+1))=Fo.deedsF f PP 0 at hd
   have tot':done.length+((Fo.deedsF sub (PP++[(i:Int)]) 0).length+(Fo.deedsF rest PP (i+1)).length)=(Fo.deedsF f PP 0).length:=by rw[←hd,AB,AB]
   refine⟨t,_,0,_,rfl,rfl,A5.of (eH3 _ _ ht),rfl,rfl,_,rfl,B8 (v:=false) (dS (by decide +kernel)) (BZ ?_)⟩
   refine⟨.inl ⟨rfl,_,A4.of hy3⟩,t,_,3,_,rfl,rfl,A5.of (eH3 _ _ ht),rfl,t,_,1,_,rfl,rfl,A5.of (eH3 _ _ ht),rfl,An rfl,fun t2 ht2=>?_⟩
   have s4:=Ac ht2 (.tup [V.bl c])
   refine⟨cu,t2,cs,[V.bl c],rfl,rfl,s4 _ _ (eH3 _ _ hcu),A7,Bu (by rw[B4];lia),fun cu2 H4 e4 hcu2=>?_⟩
   have e34:=s4.trans e4
   have eH4:=eH3.trans e34
   refine⟨pp,he,cu2,sub,PP++[(i:Int)],cs++[V.bl c],rfl,⟨zs,eH4 _ _ hpp,By.over eH4 hsub⟩,e34 _ _ hhe,hcu2,by lia,by rw[AB,B4];lia,by rw[AB,B4];lia,by lia,fun r ys2 H5 e5 hr5 ay5=>?_⟩
   have yl5:=ay5.1
   have hy5:=(e34.trans e5) _ _ hy3
   refine⟨fo,r,_,_,rfl,rfl,hy5,hr5,Bu (by lia),?_⟩
   have tk:=TK.upd (o:=.lst (ys++ys2)) hy5
   refine⟨rest,done++Fo.deedsF sub (PP++[(i:Int)]) 0,_,_,_,_,rfl,fun a o ha=>by rw[Ai (AQ ha hfo)];exact e5 _ _ (eH4 _ _ ha),hrest,by lia,A7,?_,by rw[Dp];exact hd⟩
   exact((ay3.mono fun y v z=>(z.over (e34.trans e5)).tk tk)).app (ay5.mono fun y v z=>z.tk tk)
theorem OH (T:Tx K mg a):AS P w K mg base B9 10 a.f_c a.d_c ["plan","k"] WW:=by
 have G_d :=@NT P w K mg base a T 7
 refine T.F_c.ok Jo (fun vs H Q E h=>?_) (fun cdv A outer s H vs Q E hr h=>?_)
 .obtain⟨_,_,_,_,_,rfl,_⟩:=h;rfl
 obtain⟨p,k,f,i,e0,rfl,hf,hdep,hlen,he0,hk0,hfirst,q⟩:=h
 refine⟨_,(A8 (C8 PassesOwn.never rfl (CV (AJ G_d (hr.mono (by lia)) (by rfl) T.m_d T.F_d.kp T.b_d .nil AF (A0 (pw 0) (A0 (Bb A3) (A0 (Bb A3) A3))))) (Dg rfl (AN (Ax (i:=2) Jo.nd rfl (.inl rfl)) (AN (Ax (i:=3) Jo.nd rfl (.inl rfl)) (AN (Ax (i:=4) Jo.nd rfl (.inl rfl)) (AN (Ax (i:=5) Jo.nd rfl (.inl rfl)) CB)))))
  (Aj (Bp (AU C3 (pw 2) (pw 1) (AK _))
  (Aj (AM (Bb (A0 (pw 4) (A0 (pw 3) A3)))))
  BB)))
  (Aj (AM E2))),?_⟩
 refine⟨An rfl,fun t1 ht1=>⟨An rfl,fun t2 ht2=>?_⟩⟩
 have s1:=Ac ht1 (.tup [])
 have s2:=Ac ht2 (.tup [])
 have e2:=s1.trans s2
 refine⟨p,t1,t2,f,[],[],rfl,hf.over e2,s2 _ _ A7,A7,hdep,by decide,by decide,hlen,fun l ys H3 e3 hl ay=>?_⟩
 have e23:=e2.trans e3
 have yl:=ay.1
 have hi:i<ys.length:=by rw[yl];exact(Ay.mp he0).1
 refine⟨l,rfl,⟨_,A4.of hl⟩,?_⟩
 refine FJ (xs:=ys) (fun j σ' H'=>H'=H3/\j<=i/\∃o2 o3 o4 o5,σ'=[some (.ref p),some (.int k),o2,o3,o4,o5]) ⟨rfl,Bj _,_,_,_,_,rfl⟩ (fun j σ' H' _ pp=>by rw[pp.1];exact A4.of hl) (fun j x σ' H' hx pp=>?_) (fun σ' H' pp=>?_)
 .obtain⟨rfl,hji,o2,o3,o4,o5,rfl⟩:=pp
  refine Ak fun _ zA=>?_
  obtain⟨en,hen,t,pl,pt,cu,rfl,ht,hpl,hpt⟩:=ay.get' hx
  refine zA ?_
  refine⟨t,_,rfl,A5.of ht,rfl,rfl,?_⟩
  refine⟨rfl,_,rfl,?_⟩
  by_cases c:j=i
  .subst c
   rw[he0]at hen
   cases hen
   refine B8 (v:=true) (Bw (congrArg V.int hk0)) (BY ?_)
   refine⟨An rfl,fun r hr=>?_⟩
   have s4:=Ac hr (.tup [V.ref pt,V.ref pl])
   exact q r pt pl _ (e23.trans s4) A7 (s4 _ _ hpt) (hpl.over s4)
  .refine B8 (v:=false) (Bk fun z=>hfirst j en (by lia) hen (V.int.inj z)) (BZ ?_)
   exact⟨rfl,by lia,_,_,_,_,rfl⟩
 .obtain⟨_,h,_⟩:=pp
  lia
theorem QR (T:Tx K mg a):∀n:Nat,AS P w K mg base B9 (n+2) a.f_e a.d_e ["items","path"] (PB n)
 |
  0=>by
  have no:∀vs H Q E,¬PB 0 vs H Q E:=fun vs H Q E h=>by
   obtain⟨it,pa,f,P',_,_,_,hd,_⟩:=h
   have:=KQ f
   lia
  exact⟨fun vs H Q E h=>absurd h (no vs H Q E),fun A outer s H args us vs Q E _ _ _ _ h=>absurd h (no vs H Q E)⟩
 |
  n+1=>by
  have G_e:=QR T n
  refine T.F_e.ok Jx (fun vs H Q E h=>?_) (fun cdv A outer s H vs Q E hr h=>?_)
  .obtain⟨_,_,_,_,rfl,_⟩:=h;rfl
  obtain⟨it,pa,f,PP,rfl,⟨xs,hit,hf⟩,hpa,hdep,pl,hlen,q⟩:=h
  refine⟨_,(A8 (Ah (i:=2) Jx.nd rfl (.inl rfl) (Bs A3))
  (A8 (C8 PassesOwn.never rfl (Rn (by rfl) T.z_enumerate (A0 (pw 0) A3)) (Dg rfl (AN (Ax (i:=3) Jx.nd rfl (.inl rfl)) (AN (Ax (i:=4) Jx.nd rfl (.inl rfl)) CB)))
  (Aj (Bp (AU C3 (A6 Ae (pw 4) A1 (fun _ _=>rfl)) C6 (AK _))
  (A8 (Ah (i:=5) Jx.nd rfl (.inl rfl) (Ab Gu (pw 1) (Bb (A0 (pw 3) A3))))
  (A8 (Cr (Cw CA Dy Dz D9 (pw 2) (A0 (CO (Ar (pw 5) (Ar (A6 Ae (pw 4) A1 (fun _ _=>rfl)) (Ar (A6 Ae (pw 4) A1 (fun _ _=>rfl)) Cj DG) DG) Cb)) A3)))
  (Aj (Cr (Cw CA Oy OA Lz (pw 2) (A0 (AJ G_e (hr.mono (by lia)) (by rfl) T.m_e T.F_e.kp T.b_e .nil AF (A0 (A6 Ae (pw 4) A1 (fun _ _=>rfl)) (A0 (pw 5) A3))) A3))))))
  BB)))
  (Aj (AM (pw 2))))),?_⟩
  refine⟨An rfl,fun fo hfo=>?_⟩
  have e1:=Ac hfo (.lst [])
  have hfo1:(upd H fo (.lst [])) fo=some (.lst []):=A7
  generalize upd H fo (.lst [])=H1 at e1 hfo1
  refine⟨it,rfl,⟨_,A5.of (e1 _ _ hit)⟩,?_⟩
  refine Qw (xs:=xs) (fun i σ' H'=>∃(g:B3) (done:List (Fo.Sw Str)) (ys:List V) (o4 o5 o6:Option V),σ'=[some (.ref it),some (.ref pa),some (.ref fo),o4,o5,o6]/\Aa H H'/\By H (xs.drop i) g/\Cy g<=n+1/\H' fo=some (.lst ys)/\Av (Fi H') ys done/\done++Fo.swF g PP i=Fo.swF f PP 0) ⟨f,[],[],_,_,_,rfl,e1,hf,hdep,hfo1,.nil,rfl⟩ (fun i σ' H' _ pp=>by obtain⟨_,_,_,_,_,_,_,e,_⟩:=pp;exact A5.of (e _ _ hit)) (fun i x Tt σ' H' hx pp hT=>?_) (fun σ' H' pp=>?_)
  rotate_left
  .obtain⟨g,done,ys,o4,o5,o6,rfl,e,hg,_,hy,ay,hd⟩:=pp
   have hz:xs.drop xs.length=[]:=MN (Af _)
   rw[hz]at hg
   have gn:g = .nil:=by
    cases g with
    |nil=>rfl
    |leaf k pl r=>obtain⟨_,_,_,z,_⟩:=hg;cases z
    |node c w s r=>obtain⟨_,_,_,_,z,_⟩:=hg;cases z
   subst gn
   have:done=Fo.swF f PP 0:=by rw[←hd];show done=done++[];rw[IX]
   rw[this]at ay
   exact q fo ys _ e hfo hy ay
  refine Ak fun _ zA=>?_
  obtain⟨g,done,ys,o4,o5,o6,rfl,e,hg,gdep,hy,ay,hd⟩:=pp
  obtain⟨hi,ex⟩:=Ay.mp hx
  refine zA ?_
  rw[GG hi,ex]at hg
  have tot:=congrArg List.length hd
  rw[AB]at tot
  have yl:=ay.1
  have sT:=Ac hT (.tup [V.int (i:Int),x])
  have e2:=e.trans sT
  have hy2:=sT _ _ hy
  have ay2:=ay.mono fun y v z=>z.over sT
  refine⟨Tt,_,rfl,A5.of A7,rfl,rfl,?_⟩
  generalize upd H' Tt (.tup [V.int (i:Int),x])=H2 at e2 hy2 ay2
  cases g with
  |nil=>cases hg
  |
   leaf k pl rest=>
   refine Ak fun _ zB=>?_
   obtain⟨t,pp,zs,z,ht,hpr,hrest⟩:=hg
   refine zB ?_
   cases z
   change Cy rest<=n+1 at gdep
   change done++Fo.swF rest PP (i+1)=Fo.swF f PP 0 at hd
   refine⟨t,_,0,_,rfl,rfl,A5.of (e2 _ _ ht),rfl,rfl,_,rfl,B8 (v:=false) (dS (by decide +kernel)) (BZ ?_)⟩
   exact⟨rest,done,ys,_,_,_,rfl,e2,hrest,gdep,hy2,ay2,hd⟩
  |
   node c w sub rest=>
   refine Ak fun _ zC=>?_
   obtain⟨t,pp,zs,us,z,ht,hpp,hsub,hrest⟩:=hg
   refine zC ?_
   cases z
   unfold Cy at gdep
   change done++((PP++[(i:Int)],c,w)::(Fo.swF sub (PP++[(i:Int)]) 0++Fo.swF rest PP (i+1)))=Fo.swF f PP 0 at hd
   have tot':done.length+(((Fo.swF sub (PP++[(i:Int)]) 0).length+(Fo.swF rest PP (i+1)).length)+1)=(Fo.swF f PP 0).length:=by rw[←hd,AB,BH,AB]
   refine⟨t,_,0,_,rfl,rfl,A5.of (e2 _ _ ht),rfl,rfl,_,rfl,B8 (v:=true) (Bw rfl) (BY ?_)⟩
   refine⟨An rfl,fun t1 ht1=>?_⟩
   have s3:=Ac ht1 (.tup [V.int (i:Int)])
   refine⟨pa,t1,_,[V.int (i:Int)],rfl,rfl,s3 _ _ (e2 _ _ hpa),A7,Bu (by rw[Au,B4];lia),fun he H3 e3 hhe=>?_⟩
   have hhe:H3 he=some (.tup ((PP++[(i:Int)]).map V.int)):=by rw[BA];exact hhe
   have e23:=s3.trans e3
   have eH3:=e2.trans e23
   have hy3:=e23 _ _ hy2
   have ay3:=ay2.mono fun y v z=>z.over e23
   dsimp only[Am]
   clear s3 e3 sT
   refine⟨.inl ⟨rfl,_,A4.of hy3⟩,t,_,1,_,rfl,rfl,A5.of (eH3 _ _ ht),rfl,t,_,2,_,rfl,rfl,A5.of (eH3 _ _ ht),rfl,An rfl,fun r hr=>?_⟩
   have s4:=Ac hr (.tup [V.ref he,V.bl c,V.str w])
   have nr:r≠fo:=fun z=>by rw[z,hy3]at hr;cases hr
   refine⟨fo,_,_,rfl,rfl,s4 _ _ hy3,CT (by lia),?_⟩
   have tk:=(Aa.tk s4).trans (TK.upd (o:=.lst (ys++[V.ref r])) (s4 _ _ hy3))
   have hhe4:=tk _ _ hhe
   have hfo4:(upd (upd H3 r (.tup [V.ref he,V.bl c,V.str w])) fo (.lst (ys++[V.ref r]))) fo=some (.lst (ys++[V.ref r])):=A7
   have eH4:Aa H (upd (upd H3 r (.tup [V.ref he,V.bl c,V.str w])) fo (.lst (ys++[V.ref r]))):=fun a o ha=>by rw[Ai (AQ ha hfo)];exact s4 _ _ (eH3 _ _ ha)
   have ay4:Av (Fi (upd (upd H3 r (.tup [V.ref he,V.bl c,V.str w])) fo (.lst (ys++[V.ref r])))) (ys++[V.ref r]) (done++[(PP++[(i:Int)],c,w)]):=(ay3.mono fun y v z=>z.tk tk).snoc ⟨r,he,rfl,by rw[Ai nr];exact A7,hhe4⟩
   generalize upd (upd H3 r (.tup [V.ref he,V.bl c,V.str w])) fo (.lst (ys++[V.ref r]))=H4 at tk hhe4 hfo4 eH4 ay4
   refine⟨.inl ⟨rfl,_,A4.of hfo4⟩,t,_,3,_,rfl,rfl,A5.of (eH4 _ _ ht),rfl,?_⟩
   refine⟨pp,he,sub,PP++[(i:Int)],rfl,⟨zs,eH4 _ _ hpp,By.over eH4 hsub⟩,hhe4,by lia,by rw[AB,B4];lia,by lia,fun rr ys2 H5 e5 _ hr5 ay5=>?_⟩
   have yl5:=ay5.1
   have hy5:=e5 _ _ hfo4
   refine⟨fo,rr,_,_,rfl,rfl,hy5,hr5,Bu (by rw[AB,B4];lia),?_⟩
   have tk:=TK.upd (o:=.lst ((ys++[V.ref r])++ys2)) hy5
   refine⟨rest,(done++[(PP++[(i:Int)],c,w)])++Fo.swF sub (PP++[(i:Int)]) 0,_,_,_,_,rfl,fun a o ha=>by rw[Ai (AQ ha hfo)];exact e5 _ _ (eH4 _ _ ha),hrest,by lia,A7,?_,by rw[←hd];simp⟩
   exact((ay4.mono fun y v z=>(z.over e5).tk tk)).app (ay5.mono fun y v z=>z.tk tk)
theorem UR (T:Tx K mg a):AS P w K mg base B9 10 a.f_n a.d_n ["plan"] SV:=by
 have G_e :=@QR P w K mg base a T 7
 refine T.F_n.ok TU (fun vs H Q E h=>?_) (fun cdv A outer s H vs Q E hr h=>?_)
 .obtain⟨_,_,rfl,_⟩:=h;rfl
 obtain⟨p,f,rfl,hf,hdep,hlen,q⟩:=h
 refine⟨_,(Aj (AM (AJ G_e (hr.mono (by lia)) (by rfl) T.m_e T.F_e.kp T.b_e .nil AF (A0 (pw 0) (A0 (Bb A3) A3))))),?_⟩
 refine⟨An rfl,fun t1 ht1=>?_⟩
 have s1:=Ac ht1 (.tup [])
 exact⟨p,t1,f,[],rfl,hf.over s1,A7,hdep,by decide,hlen,fun l ys H3 e3 hn hl ay=>q l ys H3 (s1.trans e3) (s1.free hn) hl ay⟩
theorem U4 (T:Tx K mg a):AS P w K mg base B9 11 a.f_o a.d_o ["plan","k","l"] Uw:=by
 have G_c :=@OH P w K mg base a T
 have G_m :=@Wk P w K mg base a T
 refine T.F_o.ok Gd (fun vs H Q E h=>?_) (fun cdv A outer s H vs Q E hr h=>?_)
 .obtain⟨_,_,_,_,_,_,_,_,_,rfl,_⟩:=h;rfl
 obtain⟨p,B,f,i,j,s,b,c,x,rfl,⟨hf,hI,g⟩,hb,hc,hx,hm,q⟩:=h
 refine⟨_,(A8 (Ah (i:=3) Gd.nd rfl (.inl rfl) (AJ G_c (hr.mono (by lia)) (by rfl) T.m_c T.F_c.kp T.b_c .nil AF (A0 (pw 0) (A0 (pw 1) A3))))
  (A8 (Ah (i:=4) Gd.nd rfl (.inl rfl) (AJ G_c (hr.mono (by lia)) (by rfl) T.m_c T.F_c.kp T.b_c .nil AF (A0 (pw 0) (A0 (pw 2) A3))))
  (A8 (Ah (i:=5) Gd.nd rfl (.inl rfl) (Bs A3))
  (A8 (Ah (i:=6) Gd.nd rfl (.inl rfl) (pw 0))
  (A8 (C8 PassesOwn.never rfl (F2 (by rfl) T.z_range (A0 (AJ G_m (hr.mono (by lia)) (by rfl) T.m_m T.F_m.kp T.b_m .nil AF (A0 (A6 Ae (pw 3) A1 (fun _ _=>rfl)) (A0 (A6 Ae (pw 4) A1 (fun _ _=>rfl)) (A0 (Bf (Jy rfl) (by rfl) T.z_min GO (A0 (Bf BI (by rfl) T.z_len BJ (A0 (A6 Ae (pw 3) A1 (fun _ _=>rfl)) A3)) (A0 (Bf BI (by rfl) T.z_len BJ (A0 (A6 Ae (pw 4) A1 (fun _ _=>rfl)) A3)) A3))) A3)))) A3)) (Ax (i:=7) Gd.nd rfl (.inl rfl))
  (A8 (Ah (i:=8) Gd.nd rfl (.inl rfl) (A6 Ae (pw 6) (A6 Ae (A6 Ae (pw 3) A1 (fun _ _=>rfl)) (pw 7) (fun _ _=>rfl)) (fun _ _=>rfl)))
  (A8 (Cr (Cw CA Dy Dz D9 (pw 5) (A0 (CO (Ar (DV JI (A6 Ae (pw 3) A1 (fun _ _=>rfl)) Ee (DM (Ab (Aq AL) (pw 7) A1))) (Ar (A6 Ae (pw 8) A1 (fun _ _=>rfl)) (Ar (A6 Ae (pw 8) A1 (fun _ _=>rfl)) (Ar (A6 Ae (A6 Ae (pw 3) A1 (fun _ _=>rfl)) (pw 7) (fun _ _=>rfl)) (Ar (A6 Ae (A6 Ae (pw 4) A1 (fun _ _=>rfl)) (pw 7) (fun _ _=>rfl)) Cj DG) DG) DG) DG) DG)) A3)))
  (Aj (Ah (i:=6) Gd.nd rfl (.inl rfl) (A6 Ae (pw 8) A1 (fun _ _=>rfl)))))))
  (Aj (AM (pw 5)))))))),?_⟩
 refine Ak fun _ zA=>?_
 have dep7:Cy f<=7:=GQ f B 0 6 hI fun b hb=>by have:=g.len b hb;lia
 have dl:(Fo.deedsF f [] 0).length<=1000:=by rw[Fo.deeds_len [] 0 hI];have:=g.n6;lia
 obtain⟨xk,xpl⟩:x.k=b.k/\x.pl=b.pl:=by
  obtain⟨x2,hx2,a1,a2⟩:=Hr hI hb
  rw[hx]at hx2
  cases hx2
  exact⟨a1,a2⟩
 obtain⟨y,hy,yk,ypl⟩:=Hr hI hc
 obtain⟨sb,sc,agree,differ,xl,yl⟩:=YD hI g.ok hb hc hx hy hm
 have bm:=AH hb
 have cm:=AH hc
 have bw:=g.len b bm
 have cw:=g.len c cm
 obtain⟨r0,rs0,ep,dn⟩:=Fo.deeds_down f B 0 [] 0 i x b hI (fun _ _ _=>Bj _) g.ok (fun _ _=>Bj _) hx hb
 refine zA ?_
 rw[J5,GD]at ep
 refine⟨p,b.k,f,i,x,rfl,hf,dep7,dl,hx,xk,Lf hI g.nd hb,fun r1 pt1 pl1 H1 e1 hr1 hpt1 hpl1=>?_⟩
 refine⟨p,c.k,f,j,y,rfl,hf.over e1,dep7,dl,hy,yk,Lf hI g.nd hc,fun r2 pt2 pl2 H2 e2 hr2 hpt2 hpl2=>?_⟩
 dsimp only[Am]
 refine Ak fun _ zB=>?_
 have hr1:=e2 _ _ hr1
 have hpt1:=e2 _ _ hpt1
 obtain⟨px,hpx,apx⟩:=hpl1.over e2
 obtain⟨qx,hqx,aqx⟩:=hpl2
 refine zB ?_
 rw[xpl]at apx
 rw[ypl]at aqx
 have pxl:px.length=b.ways.length:=by rw[apx.1,g.pll b bm]
 have qxl:qx.length=c.ways.length:=by rw[aqx.1,g.pll c cm]
 have e2:=e1.trans e2
 refine⟨An rfl,fun fo hfo=>?_⟩
 have s3:=Ac hfo (.lst [])
 have hfo3:(upd H2 fo (.lst [])) fo=some (.lst []):=A7
 have fo0:=e2.free hfo
 generalize upd H2 fo (.lst [])=H3 at s3 hfo3
 have e3:=e2.trans s3
 have hmin:(if((qx.length:Nat):Int)<((px.length:Nat):Int) then((qx.length:Nat):Int) else((px.length:Nat):Int))=((min b.ways.length c.ways.length:Nat):Int):=by split<;>lia
 refine⟨r1,_,0,_,rfl,rfl,A5.of (s3 _ _ hr1),rfl,r2,_,0,_,rfl,rfl,A5.of (s3 _ _ hr2),rfl,r1,_,1,_,rfl,rfl,A5.of (s3 _ _ hr1),rfl,pl1,_,rfl,.inr (A5.of (s3 _ _ hpx)),r2,_,1,_,rfl,rfl,A5.of (s3 _ _ hr2),rfl,pl2,_,rfl,.inr (A5.of (s3 _ _ hqx)),_,_,rfl,?_⟩
 rw[hmin]
 refine⟨pt1,pt2,x.path,y.path,min b.ways.length c.ways.length,s,rfl,s3 _ _ hpt1,s3 _ _ hpt2,by lia,by lia,by lia,by lia,agree,fun z=>differ (by lia) (by lia),_,rfl,by lia,by lia,?_⟩
 refine Fe (lo:=0) (n:=s) (fun e σ' H'=>∃(ite:Addr) (fe:B3) (rs:List Nat) (ys:List V) (o7 o8:Option V),σ'=[some (.ref p),some (.int b.k),some (.int c.k),some (.ref r1),some (.ref r2),some (.ref fo),some (.ref ite),o7,o8]/\(∀a o,a≠fo->H3 a=some o->H' a=some o)/\Ff H3 ite fe/\Fo.Down fe rs (b.ways.drop e)/\x.path.drop e=rs.map (fun n:Nat=>(n:Int))/\H' fo=some (.lst ys)/\Av (JW H') ys (FC b c x.path e)) ⟨p,f,r0::rs0,[],_,_,rfl,fun _ _ _ h=>h,hf.over e3,dn,ep,hfo3,.nil⟩ (fun e σ' H' he pp=>?_) (fun σ' H' pp=>?_)
 rotate_left
 .obtain⟨ite,fe,rs,ys,o7,o8,rfl,k,_,_,_,hy',ay⟩:=pp
  exact q fo ys _ (fun a o ha=>k a o (AQ ha fo0) (e3 _ _ ha)) fo0 hy' ay ⟨sb,sc⟩
 refine Ak fun _ zC=>?_
 obtain⟨ite,fe,rs,ys,o7,o8,rfl,k,⟨zs,hite,hfe⟩,dne,epe,hy',ay⟩:=pp
 refine zC ?_
 have ylen:ys.length=e:=by rw[ay.1,Rq]
 have tk:TK H3 H':=fun a o ha=>k a _ (E9 ha hfo3 (by intro z;cases z)) ha
 have hew:e<b.ways.length:=BO he sb
 have hec:e<c.ways.length:=BO he sc
 have dw:b.ways.drop e=b.ways[e]::b.ways.drop (e+1):=GG hew
 have gw:b.ways.getD e (false,"")=b.ways[e]:=by rw[Bv,As hew];rfl
 rw[dw]at dne
 cases rs with
 |nil=>exact dne.elim
 |
  cons r rs=>
  rcases dne with⟨_,_,_,_,z⟩|⟨cc,w,sub,ws',him,z,dsub⟩
  .cases z
  refine Ak fun _ zD=>?_
  obtain⟨zw,zd⟩:=List.cons.inj z
  obtain⟨t,p',zs',hzt,ht,hp',hsub⟩:=Ny hfe him
  have xe:x.path[e]?=some (r:Int):=by
   have:=congrArg (fun l:List Int=>l[0]?) epe
   simpa using this
  have xd:x.path.drop (e+1)=rs.map (fun n:Nat=>(n:Int)):=by
   have:=congrArg List.tail epe
   rw[List.tail_drop]at this
   exact this
  have z0:(0+(e:Int))=(e:Int):=GH _
  have at1:B5 (x.path.map V.int) (0+(e:Int))=some (.int (r:Int)):=by rw[z0];exact Br (by rw[Bq,xe];rfl)
  have at2:B5 zs (r:Int)=some (.ref t):=Br hzt
  have pe:px[e]?=some (px[e]'(pxl▸hew)):=As (pxl▸hew)
  have qe:qx[e]?=some (qx[e]'(qxl▸hec)):=As (qxl▸hec)
  obtain⟨pv,hpv,ta,eta,hta⟩:=apx.get' pe
  obtain⟨qv,hqv,tb,etb,htb⟩:=aqx.get' qe
  refine zD ?_
  have at3:B5 px (0+(e:Int))=some (.ref ta):=by rw[z0];exact(Br pe).trans (congrArg some eta)
  have at4:B5 qx (0+(e:Int))=some (.ref tb):=by rw[z0];exact(Br qe).trans (congrArg some etb)
  have k1:=tk _ _ (s3 _ _ hr1)
  have k2:=tk _ _ (s3 _ _ hr2)
  have kp:=tk _ _ (s3 _ _ hpt1)
  refine⟨r1,_,0,_,rfl,rfl,A5.of k1,rfl,pt1,_,_,_,rfl,rfl,A5.of kp,at1,ite,_,_,_,rfl,rfl,A5.of (tk _ _ hite),at2,?_⟩
  refine⟨.inl ⟨rfl,_,A4.of hy'⟩,r1,_,0,_,rfl,rfl,A5.of k1,rfl,_,rfl,pt1,_,rfl,kp,fun sl H4 e4 hsl=>?_⟩
  have ht4:=e4 _ _ (tk _ _ ht)
  refine⟨t,_,1,_,rfl,rfl,A5.of ht4,rfl,t,_,2,_,rfl,rfl,A5.of ht4,rfl,r1,_,1,_,rfl,rfl,A5.of (e4 _ _ k1),rfl,pl1,_,_,_,rfl,rfl,A5.of (e4 _ _ (tk _ _ (s3 _ _ hpx))),at3,r2,_,1,_,rfl,rfl,A5.of (e4 _ _ k2),rfl,pl2,_,_,_,rfl,rfl,A5.of (e4 _ _ (tk _ _ (s3 _ _ hqx))),at4,An rfl,fun rr hrr=>?_⟩
  have s5:=Ac hrr (.tup [V.ref sl,V.bl cc,V.str w,V.ref ta,V.ref tb])
  have hy5:=s5 _ _ (e4 _ _ hy')
  have nr:rr≠fo:=fun z=>by rw[z,e4 _ _ hy']at hrr;cases hrr
  refine⟨fo,_,_,rfl,rfl,hy5,CT (by lia),?_⟩
  have tk5:=((Aa.tk e4).trans (Aa.tk s5)).trans (TK.upd (o:=.lst (ys++[V.ref rr])) hy5)
  have htF:=tk5 _ _ (tk _ _ ht)
  have htaF:=tk5 _ _ (tk _ _ (s3 _ _ (show H2 ta=_ from hta)))
  have htbF:=tk5 _ _ (tk _ _ (s3 _ _ (show H2 tb=_ from htb)))
  refine ixT htF rfl ?_
  refine⟨p',sub,rs,_,_,_,rfl,fun a o ha h=>by rw[Ai ha];exact s5 _ _ (e4 _ _ (k a o ha h)),⟨zs',hp',hsub⟩,by rw[zd];exact dsub,xd,A7,?_⟩
  rw[VH]
  refine(ay.mono fun u v z=>z.tk tk5).snoc ⟨rr,sl,ta,tb,rfl,?_,?_,?_,?_⟩
  .rw[Ai nr,gw,zw]
   exact A7
  .have:b.pl.getD e (0,0)=pv:=by rw[Bv,hpv];rfl
   rw[this]
   exact htaF
  .have:c.pl.getD e (0,0)=qv:=by rw[Bv,hqv];rfl
   rw[this]
   exact htbF
  .have cy:BS (x.path.map V.int) none (some (0+(e:Int)+1))=(x.path.take (e+1)).map V.int:=by
    have h:BS (x.path.map V.int) none (some (0+(e:Int)+1))=(x.path.map V.int).take (0+(e:Int)+1).toNat:=Hj _ (by lia)
    rw[h,show(0+(e:Int)+1).toNat=e+1 by lia,List.map_take]
   rw[cy]at hsl
   exact((Aa.tk s5).trans (TK.upd (o:=.lst (ys++[V.ref rr])) hy5)) _ _ hsl
theorem U7 (T:Tx K mg a):AS P w K mg base B9 1 a.f_p a.d_p ["bonds","values","lowered_by"] T9:=by
 refine T.F_p.ok HP (fun vs H Q E h=>?_) (fun cdv A outer s H vs Q E hr h=>?_)
 .obtain⟨_,_,_,_,_,_,rfl,_⟩:=h;rfl
 obtain⟨b,v,l,B,n,s,rfl,nv,nl,nvl,hB,hw,hv,hl,q⟩:=h
 refine⟨_,(A8 (Ah (i:=3) HP.nd rfl (.inl rfl) E2)
  (A8 (C8 PassesOwn.never rfl (Jz (by rfl) T.z_enumerate (A0 (pw 0) A3)) (Dg rfl (AN (Ax (i:=4) HP.nd rfl (.inl rfl)) (AN (Ax (i:=5) HP.nd rfl (.inl rfl)) CB)))
  (A8 (Ah (i:=6) HP.nd rfl (.inl rfl) (Ab (Aq AL) (A6 AO (pw 1) (A6 Ae (pw 5) A1 (fun _ _=>rfl)) (fun _ _=>rfl)) (A6 Ae (pw 5) A1 (fun _ _=>rfl))))
  (Aj (Bp (AU (Aq FZ) (A6 AO (pw 1) (A6 Ae (pw 5) A1 (fun _ _=>rfl)) (fun _ _=>rfl)) (pw 6) (AK _))
  (A8 (ES (pw 6) (Kg (pw 1) (A6 Ae (pw 5) A1 (fun _ _=>rfl)) Kd))
  (A8 (ES (pw 4) (Kg (pw 2) (A6 Ae (pw 5) A1 (fun _ _=>rfl)) Kd))
  (Aj (Ah (i:=3) HP.nd rfl (.inl rfl) (A6 Ae (pw 5) A1 (fun _ _=>rfl))))))
  BB))))
  (Aj (AM (pw 3))))),?_⟩
 refine Ak fun _ zA=>?_
 obtain⟨vs,hb,hbs⟩:=hB
 refine zA ?_
 have hbl:=hbs.1
 refine⟨b,rfl,⟨_,A4.of hb⟩,?_⟩
 refine Ju (xs:=vs) (fun i σ' H'=>IS H H' v l/\(∃o4 o5 o6,σ'=[some (.ref b),some (.ref v),some (.ref l),some (JN (rnd B i {s with low:=none}).low),o4,o5,o6])/\H' v=some (.lst (vl n (rnd B i {s with low:=none}).v))/\H' l=some (.lst (pl n (rnd B i {s with low:=none}).p))) ⟨fun a o e _ _=>e,⟨_,_,_,rfl⟩,hv,hl⟩ (fun i σ' H' _ p=>A4.of (p.1 _ _ hb nv nl)) (fun i x Tt σ' H' hx p hT=>?_) (fun σ' H' p=>?_)
 case refine_2=>
  refine Ak fun _ zB=>?_
  obtain⟨e,⟨o4,o5,o6,rfl⟩,h1,h2⟩:=p
  refine zB ?_
  rw[hbl]at h1 h2 ⊢
  exact q H' e h1 h2
 refine Ak fun _ zC=>?_
 obtain⟨e,⟨o4,o5,o6,rfl⟩,h1,h2⟩:=p
 have hi:i<B.length:=by have:=(Ay.mp hx).1;lia
 have eB:B[i]?=some B[i]:=As hi
 obtain⟨t,rfl,ht⟩:=hbs.2 i x _ hx eB
 refine zC ?_
 have hW:=hw _ (Hu hi)
 have ht':=e _ _ ht (E9 ht hv (by intro z;cases z)) (E9 ht hl (by intro z;cases z))
 have st:rnd B (i+1) {s with low:=none}=IQ i B[i] (rnd B i {s with low:=none}):=by
  show(match B[i]? with|some b=>IQ i b (rnd B i {s with low:=none})|none=>rnd B i {s with low:=none})=_
  rw[eB]
 rw[st]
 generalize rnd B i {s with low:=none}=s0 at h1 h2 ⊢
 generalize B[i]=bb at ht' hW
 have sT:=Ac hT (.tup [V.int (i:Int),.ref t])
 have ht2:=sT _ _ ht'
 have h12:=sT _ _ h1
 have h22:=sT _ _ h2
 have e2:IS H (upd H' Tt (.tup [V.int (i:Int),.ref t])) v l:=fun a o ha na nb=>sT _ _ (e a o ha na nb)
 refine⟨Tt,_,rfl,A5.of A7,rfl,rfl,?_⟩
 generalize upd H' Tt (.tup [V.int (i:Int),.ref t])=H2 at ht2 h12 h22 e2 ⊢
 refine⟨t,_,1,_,rfl,rfl,A5.of ht2,rfl,v,_,_,_,rfl,rfl,A4.of h12,Od hW.2,t,_,2,_,rfl,rfl,A5.of ht2,rfl,?_⟩
 dsimp only[Am]
 refine⟨t,_,0,_,rfl,rfl,A5.of ht2,rfl,v,_,_,_,rfl,rfl,A4.of h12,Od hW.1,_,rfl,?_⟩
 unfold IQ
 refine BV (fun c=>?_) (fun c=>?_)
 .have c:=dT c
  rw[Ap (by lia)]
  refine⟨t,_,0,_,rfl,rfl,A5.of ht2,rfl,v,_,_,_,rfl,rfl,h12,JZ (by rw[JU];exact hW.1),?_⟩
  rw[Xl]
  have tv:t≠v:=E9 ht2 h12 (by intro z;cases z)
  have tl:t≠l:=E9 ht2 h22 (by intro z;cases z)
  refine⟨t,_,0,_,rfl,rfl,A5.of (by rw[Ai tv];exact ht2),rfl,l,_,_,_,rfl,rfl,(by rw[Ai (Ne.symm nvl)];exact h22),JZ (by rw[OS];exact hW.1),?_⟩
  rw[R8]
  refine ixT (by rw[Ai tl,Ai tv];exact ht2) rfl ?_
  refine⟨fun a o ha na nb=>?_,⟨_,_,_,rfl⟩,?_,A7⟩
  .rw[Ai nb,Ai na];exact e2 a o ha na nb
  .rw[Ai nvl];exact A7
 .have c:=dF c
  rw[Al (by lia)]
  exact⟨e2,⟨_,_,_,rfl⟩,h12,h22⟩
theorem Yc (T:Tx K mg a):AS P w K mg base B9 1 a.f_q a.d_q ["count","bonds","lowered_by","lowered"] ZT:=by
 refine T.F_q.ok Hh (fun vs H Q E h=>?_) (fun cdv A outer s H vs Q E hr h=>?_)
 .obtain⟨_,_,_,_,_,_,_,rfl,_⟩:=h;rfl
 obtain⟨n,b,l,B,s,x0,m,rfl,⟨bs,hb,hbs⟩,hBl,hn,hl,hlow,hR,hw,q⟩:=h
 refine⟨_,(A8 (Ah (i:=4) Hh.nd rfl (.inl rfl) (pw 3))
  (A8 (C8 PassesOwn.never rfl (F2 (by rfl) T.z_range (A0 (pw 0) A3)) (Ax (i:=5) Hh.nd rfl (.inl rfl))
  (Aj (Ah (i:=4) Hh.nd rfl (.inl rfl) (A6 Ae (A6 AO (pw 1) (A6 AO (pw 2) (pw 4) (fun _ _=>rfl)) (fun _ _=>rfl)) A1 (fun _ _=>rfl)))))
  (A8 (Ah (i:=6) Hh.nd rfl (.inl rfl) (Bs (A0 (A6 AO (pw 2) (pw 4) (fun _ _=>rfl)) A3)))
  (A8 (Ah (i:=7) Hh.nd rfl (.inl rfl) (A6 Ae (A6 AO (pw 1) (A6 AO (pw 2) (pw 4) (fun _ _=>rfl)) (fun _ _=>rfl)) A1 (fun _ _=>rfl)))
  (A8 (Gn PassesOwn.never (AU IP (pw 7) (pw 4) (AK _))
  (A8 (Cr (Cw CA Dy Dz D9 (pw 6) (A0 (A6 AO (pw 2) (pw 7) (fun _ _=>rfl)) A3)))
  (Aj (Ah (i:=7) Hh.nd rfl (.inl rfl) (A6 Ae (A6 AO (pw 1) (A6 AO (pw 2) (pw 7) (fun _ _=>rfl)) (fun _ _=>rfl)) A1 (fun _ _=>rfl))))))
  (Aj (AM (pw 6)))))))),?_⟩
 have hm:=hR.pos
 have hm2:=hR.le
 refine⟨(n:Int),rfl,by lia,by lia,?_⟩
 refine Fe (lo:=0) (n:=n) (fun i σ' H'=>H'=H/\∃o5 o6 o7,σ'=[some (.int (n:Int)),some (.ref b),some (.ref l),some (.int (x0:Int)),some (.int (it B s.p i x0:Int)),o5,o6,o7]) ⟨rfl,_,_,_,rfl⟩ (fun i σ' H' hi p=>?_) (fun σ' H' p=>?_)
 .obtain⟨rfl,o5,o6,o7,rfl⟩:=p
  refine Ak fun _ zA=>?_
  obtain⟨j,bb,g1,g2,g3⟩:=hR.walk i hi
  obtain⟨t,c0,c1⟩:=hbs.get g2
  refine zA ?_
  have hz:=hR.lt i (by lia)
  have ha:B5 (pl n s.p) (it B s.p i x0:Int)=some (.int (j:Int)):=(JT hz).trans (by rw[g1];rfl)
  refine⟨l,_,_,_,rfl,rfl,A4.of hl,ha,b,_,_,_,rfl,rfl,A4.of hb,c0,t,_,1,_,rfl,rfl,A5.of c1,rfl,rfl,_,_,_,congrArg (fun v:Nat=>[some (V.int (n:Int)),some (.ref b),some (.ref l),some (.int (x0:Int)),some (.int (v:Int)),some (.int (0+(i:Int))),o6,o7]) (show bb.y=it B s.p (i+1) x0 by rw[F0,DD g1 g2])⟩
 refine Ak fun _ zB=>?_
 obtain⟨rfl,o5,o6,o7,rfl⟩:=p
 refine zB ?_
 have he:=hR.lt n (Af _)
 have hal:=hR.alive
 have hlt:∀k,it B s.p k (it B s.p n x0)<n:=fun k=>by
  obtain⟨i,bb,g1,g2,g3⟩:=hal k
  rw[←g3]
  exact(hw _ (AH g2)).1
 have heq:=hR.eq hlow
 have hback:=hR.back
 have hleast:=hR.least
 rw[heq]at q
 generalize it B s.p n x0=e at *
 refine Ak fun _ zC=>?_
 obtain⟨j,bb,g1,g2,g3⟩:=hal 0
 refine zC ?_
 change s.p e=some j at g1
 refine Ak fun _ zD=>?_
 obtain⟨t,c0,c1⟩:=hbs.get g2
 refine zD ?_
 have ha:B5 (pl n s.p) (e:Int)=some (.int (j:Int)):=(JT he).trans (by rw[g1];rfl)
 refine ixL hl ha ⟨An rfl,fun r hr=>?_⟩
 have s1:=Ac hr (.lst [V.int (j:Int)])
 refine⟨l,_,_,_,rfl,rfl,A4.of (s1 _ _ hl),ha,b,_,_,_,rfl,rfl,A4.of (s1 _ _ hb),c0,t,_,1,_,rfl,rfl,A5.of (s1 _ _ c1),rfl,?_⟩
 dsimp only[Am]
 refine EY (fun σ' H''=>∃o5 o7,σ'=[some (.int (n:Int)),some (.ref b),some (.ref l),some (.int (x0:Int)),some (.int (e:Int)),o5,some (.ref r),o7]/\Aa H' H''/\H'' r=some (.lst (BF (C0 B s.p e m)))) (fun σ' H'' pp=>?_) (fun _ nx=>?_)
 .obtain⟨o5,o7,rfl,e1,hr1⟩:=pp
  exact q r H'' e1 hr hr1
 refine Gf (m-1) (fun i σ' H''=>∃o5,σ'=[some (.int (n:Int)),some (.ref b),some (.ref l),some (.int (x0:Int)),some (.int (e:Int)),o5,some (.ref r),some (.int (it B s.p (i+1) e:Int))]/\Aa H' H''/\H'' r=some (.lst (BF (C0 B s.p e (i+1))))) ⟨o5,?_,s1,?_⟩ (fun i σ' H'' hi pp=>?_) (fun σ H Q Q' hq h=>?_)
 .rw[F0]
  show _=[_,_,_,_,_,_,_,some (V.int ((pb B s.p e).y:Int))]
  rw[DD g1 g2]
  rfl
 .rw[A7]
  show _=some (HO.lst [V.int (((s.p e).getD 0:Nat):Int)])
  rw[g1]
  rfl
 .obtain⟨o5,rfl,e1,hr1⟩:=pp
  refine⟨rfl,_,rfl,?_⟩
  by_cases c:it B s.p (i+1) e=e
  .have hi2:i+1=m:=by
    by_cases z:i+1<m
    .exact absurd c (hleast _ (by lia) z)
    .lia
   rw[c]
   refine B8 (Iv rfl) (BZ ?_)
   rw[hi2]at hr1
   exact nx _ _ ⟨_,_,rfl,e1,hr1⟩
  .have hi2:i+1<m:=by
    by_cases z:i+1=m
    .rw[z]at c;exact absurd hback c
    .lia
   refine B8 (K6 (fun z=>c (by have:=V.int.inj z;lia))) (BY ⟨by lia,?_⟩)
   refine Ak fun _ zE=>?_
   obtain⟨j2,b2,k1,k2,k3⟩:=hal (i+1)
   obtain⟨t2,d0,d1⟩:=hbs.get k2
   refine zE ?_
   have ha2:B5 (pl n s.p) (it B s.p (i+1) e:Int)=some (.int (j2:Int)):=(JT (hlt (i+1))).trans (by rw[k1];rfl)
   refine⟨.inl ⟨rfl,_,A4.of hr1⟩,ixL (e1 _ _ hl) ha2 ⟨r,_,_,rfl,rfl,hr1,(by rw[Jj];unfold C0;rw[Au,Dx];exact CT (by lia)),?_⟩⟩
   have s2:Aa H' (upd H'' r (.lst (BF (C0 B s.p e (i+1))++[V.int (j2:Int)]))):=fun a o ha=>by rw[Ai (AQ ha hr)];exact e1 _ _ ha
   have hr2:(upd H'' r (.lst (BF (C0 B s.p e (i+1))++[V.int (j2:Int)]))) r=some (.lst (BF (C0 B s.p e (i+1+1)))):=by
    rw[A7,Pf]
    unfold C0
    rw[Hv (n:=i+1),BA]
    show some (HO.lst (BF (_++[j2])))=some (HO.lst (BF (_++[(s.p (it B s.p (i+1) e)).getD 0])))
    rw[k1]
    rfl
   refine⟨l,_,_,_,rfl,rfl,A4.of (s2 _ _ hl),ha2,b,_,_,_,rfl,rfl,A4.of (s2 _ _ hb),d0,t2,_,1,_,rfl,rfl,A5.of (s2 _ _ d1),rfl,?_⟩
   refine⟨o5,?_,s2,hr2⟩
   rw[F0 B s.p (i+1),DD k1 k2]
   rfl
 .refine Ga (fun _ z=>Ga (fun _ zz=>?_) z) h
  obtain⟨h3,a3,h4,h5⟩:=zz
  exact⟨h3,a3,h4,hq _ _ h5⟩
theorem Uz (T:Tx K mg a):AS P w K mg base B9 2 a.f_h a.d_h ["count","bonds"] Zp:=by
 have G_p :=@U7 P w K mg base a T
 have G_q :=@Yc P w K mg base a T
 refine T.F_h.ok HV (fun vs H Q E h=>?_) (fun cdv A outer s H vs Q E hr h=>?_)
 .obtain⟨_,_,_,rfl,_⟩:=h;rfl
 obtain⟨n,b,B,rfl,hB,hw,n0,n1,hBl,q⟩:=h
 refine⟨_,(A8 (Ah (i:=2) HV.nd rfl (.inr rfl) (Ab Mn (Bs (A0 A1 A3)) (pw 0)))
  (A8 (Ah (i:=3) HV.nd rfl (.inl rfl) (Ab Mn (Bs (A0 E2 A3)) (pw 0)))
  (A8 (Ah (i:=4) HV.nd rfl (.inl rfl) E2)
  (A8 (C8 PassesOwn.never rfl (F2 (by rfl) T.z_range (A0 (pw 0) A3)) (Ax (i:=5) HV.nd rfl (.inl rfl))
  (A8 (Ah (i:=4) HV.nd rfl (.inl rfl) (AJ G_p (hr.mono (by lia)) (by rfl) T.m_p T.F_p.kp T.b_p .nil AF (A0 (pw 1) (A0 (pw 2) (A0 (pw 3) A3)))))
  (Aj (Bp (AU Kj (pw 4) E2 (AK _))
  (Aj (AM (Bb (A0 C6 (A0 (Et ["value","values"] [none,some 2] (by rfl) (CV (pw 2)) UU (fun _ _ _ _ _ _=>⟨(Ax (i:=0) X7 rfl (.inl rfl)),EE,(Ab (Aq Ci) (pw 0) (A6 (show D4 _ (IK K) from AO) (pw 1) A1 (fun _ _=>rfl)))⟩)) A3)))))
  BB))))
  (Aj (AM (Bb (A0 C6 (A0 (AJ G_q (hr.mono (by lia)) (by rfl) T.m_q T.F_q.kp T.b_q .nil AF (A0 (pw 0) (A0 (pw 1) (A0 (pw 3) (A0 (pw 4) A3))))) A3))))))))),?_⟩
 have p63:(2:Int) ^ 63=9223372036854775808:=by decide
 refine⟨An rfl,fun l1 hl1=>⟨l1,_,_,rfl,rfl,A7,by lia,by lia,Bu (by show 1*n<=1000000;lia),fun v hv=>?_⟩⟩
 have s1:=(Ac hl1 (.lst [V.int 0])).trans (Ac hv (.lst (List.replicate ((n:Int)).toNat [V.int 0]).flatten))
 have hv1:(upd (upd H l1 (.lst [V.int 0])) v (.lst (List.replicate ((n:Int)).toNat [V.int 0]).flatten)) v=some (.lst (vl n EN.v)):=by rw[A7];exact congrArg (fun z=>some (HO.lst z)) (LP n _)
 have hv0:H v=none:=(Ac hl1 (.lst [V.int 0])).free hv
 dsimp only[Am]
 generalize upd (upd H l1 (.lst [V.int 0])) v (.lst (List.replicate ((n:Int)).toNat [V.int 0]).flatten)=H1 at s1 hv1
 refine⟨An rfl,fun l2 hl2=>⟨l2,_,_,rfl,rfl,A7,by lia,by lia,Bu (by show 1*n<=1000000;lia),fun l hl=>?_⟩⟩
 have s2:=(Ac hl2 (.lst [V.non])).trans (Ac hl (.lst (List.replicate ((n:Int)).toNat [V.non]).flatten))
 have hl1':(upd (upd H1 l2 (.lst [V.non])) l (.lst (List.replicate ((n:Int)).toNat [V.non]).flatten)) l=some (.lst (pl n EN.p)):=by rw[A7];exact congrArg (fun z=>some (HO.lst z)) (LP n _)
 have hlH1:H1 l=none:=(Ac hl2 (.lst [V.non])).free hl
 have hl0:H l=none:=s1.free hlH1
 have nvl:v≠l:=AQ hv1 hlH1
 have hv2:=s2 _ _ hv1
 have s12:=s1.trans s2
 dsimp only[Am]
 generalize upd (upd H1 l2 (.lst [V.non])) l (.lst (List.replicate ((n:Int)).toNat [V.non]).flatten)=H2 at s12 hv2 hl1'
 clear s1 s2 hv1 hl hv hl1 hl2 hlH1
 have nbv:b≠v:=by obtain⟨vs,g,_⟩:=hB;exact AQ g hv0
 have nbl:b≠l:=by obtain⟨vs,g,_⟩:=hB;exact AQ g hl0
 refine⟨(n:Int),rfl,by lia,by lia,?_⟩
 refine Fe (lo:=0) (n:=n) (fun i σ' H'=>Aa H H'/\∃(s:Sv) (o5:Option V),σ'=[some (.int (n:Int)),some (.ref b),some (.ref v),some (.ref l),some (JN s.low),o5]/\H' v=some (.lst (vl n s.v))/\H' l=some (.lst (pl n s.p))/\go B n EN=go B (n-i) s) ⟨s12,EN,_,rfl,hv2,hl1',rfl⟩ (fun i σ' H' hi pp=>?_) (fun σ' H' pp=>?_)
 .obtain⟨e,s,o5,rfl,h1,h2,hg⟩:=pp
  refine⟨b,v,l,B,n,s,rfl,nbv,nbl,nvl,hB.over e,hw,h1,h2,fun H3 fr h13 h23=>?_⟩
  have e3:Aa H H3:=fun a o ha=>fr _ _ (e _ _ ha) (AQ ha hv0) (AQ ha hl0)
  obtain⟨k,hk⟩:∃k,n-i=k+1:=⟨n-i-1,by lia⟩
  rw[hk]at hg
  dsimp only[Am]
  refine⟨rfl,_,rfl,?_⟩
  cases hlow:(CW B s).low with
  |
   none=>
   refine B8 (v:=true) (Bw rfl) (BY ?_)
   have hg2:go B n EN = .inl (CW B s):=by rw[hg];unfold go;rw[hlow]
   have er:DU n B=(.str "values",vl n fun i=>(CW B s).v i-(CW B s).v 0):=by unfold DU;rw[hg2]
   rw[er]at q
   refine⟨v,rfl,⟨_,A4.of h13⟩,?_⟩
   refine FM (xs:=vl n (CW B s).v) (fun i ys H'=>H'=H3/\ys=vl i fun i=>(CW B s).v i-(CW B s).v 0) ⟨rfl,rfl⟩ (by rw[JU];exact Bu (by lia)) (fun i ys H' hi p=>by obtain⟨rfl,rfl⟩:=p;exact⟨A4.of h13,by rw[JU];exact Af _⟩) (fun i x ys H' hx p=>?_) (fun ys H' p r hr'=>?_)
   .obtain⟨rfl,rfl⟩:=p
    have hi:i<n:=by have:=(Ay.mp hx).1;rwa [JU]at this
    have ex:x = .int ((CW B s).v i):=Ck (hx.symm.trans (M4 (n:=n) (f:=fun i=>V.int ((CW B s).v i)) hi))
    subst ex
    exact⟨v,_,0,_,rfl,rfl,A4.of h13,Od n0,rfl,(Yy _ _).symm⟩
   .obtain⟨rfl,rfl⟩:=p
    rw[JU]
    refine⟨An rfl,fun t ht=>?_⟩
    exact q t r _ ((e3.trans (Ac hr' _)).trans (Ac ht _)) (e3.free hr') A7 (Ac ht _ _ _ A7)
  |
   some x=>
   refine B8 (v:=false) (Bk (by intro z;cases z)) (BZ ?_)
   refine⟨e3,CW B s,some (.int (0+(i:Int))),by rw[hlow];rfl,h13,h23,?_⟩
   rw[show n-(i+1)=k by lia,hg]
   show(match (CW B s).low with|none=>_|some _=>_)=_
   rw[hlow]
 .obtain⟨e,s,o5,rfl,h1,h2,hg⟩:=pp
  rw[Cn]at hg
  change go B n EN = .inr s at hg
  rcases OM n0 hw with⟨s',e',_⟩|⟨s',x0,m,e',hl',hR⟩
  .rw[hg]at e';cases e'
  rw[hg]at e'
  cases e'
  have er:DU n B=(.str "ring",BF (Iq n B s)):=by unfold DU;rw[hg]
  rw[er]at q
  rw[hl']
  refine⟨n,b,l,B,s,x0,m,rfl,hB.over e,hBl,n1,h2,hl',hR,hw,fun r H3 e3 hr0 hr3=>?_⟩
  refine⟨An rfl,fun t ht=>?_⟩
  exact q t r _ ((e.trans e3).trans (Ac ht _)) (e.free hr0) A7 (Ac ht _ _ _ hr3)
theorem VQ (T:Tx K mg a):AS P w K mg base B9 1 a.f_t a.d_t ["bonds","lengths","reached_by"] UL:=by
 refine T.F_t.ok IU (fun vs H Q E h=>?_) (fun cdv A outer s H vs Q E hr h=>?_)
 .obtain⟨_,_,_,_,_,_,rfl,_⟩:=h;rfl
 obtain⟨b,v,l,B,n,s,rfl,nv,nl,nvl,hB,hw,hv,hl,q⟩:=h
 refine⟨_,(A8 (Ah (i:=3) IU.nd rfl (.inl rfl) Gg)
  (A8 (C8 PassesOwn.never rfl (Jz (by rfl) T.z_enumerate (A0 (pw 0) A3)) (Dg rfl (AN (Ax (i:=4) IU.nd rfl (.inl rfl)) (AN (Ax (i:=5) IU.nd rfl (.inl rfl)) CB)))
  (Aj (Bp (AU SH (A6 AO (pw 1) (A6 Ae (pw 5) A1 (fun _ _=>rfl)) (fun _ _=>rfl)) E2 (AK _))
  (A8 (Ah (i:=6) IU.nd rfl (.inl rfl) (Ab (Aq AL) (A6 AO (pw 1) (A6 Ae (pw 5) A1 (fun _ _=>rfl)) (fun _ _=>rfl)) (A6 Ae (pw 5) A1 (fun _ _=>rfl))))
  (Aj (Bp ((QK (AU Kj (A6 AO (pw 1) (A6 Ae (pw 5) A1 (fun _ _=>rfl)) (fun _ _=>rfl)) E2 (AK _)) (Q3 (AU (Aq F4) (pw 6) (A6 AO (pw 1) (A6 Ae (pw 5) A1 (fun _ _=>rfl)) (fun _ _=>rfl)) (AK _))))).pt
  (A8 (ES (pw 6) (Kg (pw 1) (A6 Ae (pw 5) A1 (fun _ _=>rfl)) Kd))
  (A8 (ES (pw 4) (Kg (pw 2) (A6 Ae (pw 5) A1 (fun _ _=>rfl)) Kd))
  (Aj (Ah (i:=3) IU.nd rfl (.inl rfl) Gg))))
  BB)))
  BB)))
  (Aj (AM (pw 3))))),?_⟩
 refine Ak fun _ zA=>?_
 obtain⟨vs,hb,hbs⟩:=hB
 refine zA ?_
 have hbl:=hbs.1
 refine⟨b,rfl,⟨_,A4.of hb⟩,?_⟩
 refine Ju (xs:=vs) (fun i σ' H'=>IS H H' v l/\(∃o4 o5 o6,σ'=[some (.ref b),some (.ref v),some (.ref l),some (.bl (srnd B i {s with ch:=false}).ch),o4,o5,o6])/\H' v=some (.lst (ol n (srnd B i {s with ch:=false}).L))/\H' l=some (.lst (pl n (srnd B i {s with ch:=false}).q))) ⟨fun a o e _ _=>e,⟨_,_,_,rfl⟩,hv,hl⟩ (fun i σ' H' _ p=>A4.of (p.1 _ _ hb nv nl)) (fun i x Tt σ' H' hx p hT=>?_) (fun σ' H' p=>?_)
 case refine_2=>
  refine Ak fun _ zB=>?_
  obtain⟨e,⟨o4,o5,o6,rfl⟩,h1,h2⟩:=p
  refine zB ?_
  rw[hbl]at h1 h2 ⊢
  exact q H' e h1 h2
 refine Ak fun _ zC=>?_
 obtain⟨e,⟨o4,o5,o6,rfl⟩,h1,h2⟩:=p
 have hi:i<B.length:=by have:=(Ay.mp hx).1;lia
 have eB:B[i]?=some B[i]:=As hi
 obtain⟨t,rfl,ht⟩:=hbs.2 i x _ hx eB
 refine zC ?_
 have hW:=hw _ (Hu hi)
 have ht':=e _ _ ht (E9 ht hv (by intro z;cases z)) (E9 ht hl (by intro z;cases z))
 have st:srnd B (i+1) {s with ch:=false}=Ej i B[i] (srnd B i {s with ch:=false}):=by
  show(match B[i]? with|some b=>Ej i b (srnd B i {s with ch:=false})|none=>srnd B i {s with ch:=false})=_
  rw[eB]
 rw[st]
 generalize srnd B i {s with ch:=false}=s0 at h1 h2 ⊢
 generalize B[i]=bb at ht' hW
 have sT:=Ac hT (.tup [V.int (i:Int),.ref t])
 have ht2:=sT _ _ ht'
 have h12:=sT _ _ h1
 have h22:=sT _ _ h2
 have e2:IS H (upd H' Tt (.tup [V.int (i:Int),.ref t])) v l:=fun a o ha na nb=>sT _ _ (e a o ha na nb)
 refine⟨Tt,_,rfl,A5.of A7,rfl,rfl,?_⟩
 generalize upd H' Tt (.tup [V.int (i:Int),.ref t])=H2 at ht2 h12 h22 e2 ⊢
 refine⟨t,_,1,_,rfl,rfl,A5.of ht2,rfl,v,_,_,_,rfl,rfl,A4.of h12,LJ hW.2,rfl,_,rfl,?_⟩
 unfold Ej
 cases hy:s0.L bb.y with
 |
  none=>
  refine B8 (v:=false) rfl (BZ ?_)
  exact⟨e2,⟨_,_,_,rfl⟩,h12,h22⟩
 |
  some ly=>
  have hay:B5 (ol n s0.L) (bb.y:Int)=some (.int ly):=(LJ hW.2).trans (by rw[hy];rfl)
  refine B8 (v:=true) rfl (BY ?_)
  refine⟨t,_,1,_,rfl,rfl,A5.of ht2,rfl,v,_,_,_,rfl,rfl,A4.of h12,hay,t,_,2,_,rfl,rfl,A5.of ht2,rfl,?_⟩
  dsimp only[Am]
  have tv:t≠v:=E9 ht2 h12 (by intro z;cases z)
  have tl:t≠l:=E9 ht2 h22 (by intro z;cases z)
  dsimp only[Ei]
  refine aM (fun H''=>H''=H2/\Ir (s0.L bb.x) (ly+bb.c)=true) (fun H'' hh=>?_) (fun go=>?_)
  .obtain⟨rfl,hlow⟩:=hh
   rw[Ap hlow]
   refine⟨t,_,0,_,rfl,rfl,A5.of ht2,rfl,v,_,_,_,rfl,rfl,h12,JZ (by rw[Rz];exact hW.1),?_⟩
   rw[Q8]
   refine⟨t,_,0,_,rfl,rfl,A5.of (by rw[Ai tv];exact ht2),rfl,l,_,_,_,rfl,rfl,(by rw[Ai (Ne.symm nvl)];exact h22),JZ (by rw[OS];exact hW.1),?_⟩
   rw[R8]
   refine⟨fun a o ha na nb=>?_,⟨_,_,_,rfl⟩,?_,A7⟩
   .rw[Ai nb,Ai na];exact e2 a o ha na nb
   .rw[Ai nvl];exact A7
  .have hcase:s0.L bb.x=none\/∃lx,s0.L bb.x=some lx:=by cases s0.L bb.x with|none=>exact .inl rfl|some lx=>exact .inr ⟨lx,rfl⟩
   rcases hcase with hx|⟨lx,hx⟩
   ·
    have hax:B5 (ol n s0.L) (bb.x:Int)=some .non:=(LJ hW.1).trans (by rw[hx];rfl)
    refine⟨t,_,0,_,rfl,rfl,A5.of ht2,rfl,v,_,_,_,rfl,rfl,A4.of h12,hax,rfl,_,rfl,?_⟩
    rw[Bw rfl]
    exact BY (BY (go _ ⟨rfl,by rw[hx];rfl⟩))
   ·
    have hax:B5 (ol n s0.L) (bb.x:Int)=some (.int lx):=(LJ hW.1).trans (by rw[hx];rfl)
    refine⟨t,_,0,_,rfl,rfl,A5.of ht2,rfl,v,_,_,_,rfl,rfl,A4.of h12,hax,rfl,_,rfl,?_⟩
    rw[Bk (by intro z;cases z)]
    refine BZ ⟨t,_,0,_,rfl,rfl,A5.of ht2,rfl,v,_,_,_,rfl,rfl,A4.of h12,hax,_,rfl,?_⟩
    refine BV (fun c=>go _ ⟨rfl,by rw[hx];exact c⟩) (fun c=>?_)
    rw[Al (by rw[hx];exact c)]
    exact⟨e2,⟨_,_,_,rfl⟩,h12,h22⟩
theorem Tz (T:Tx K mg a):AS P w K mg base B9 2 a.f_s a.d_s ["count","bonds","y"] Xc:=by
 have G_t :=@VQ P w K mg base a T
 refine T.F_s.ok JB (fun vs H Q E h=>?_) (fun cdv A outer s H vs Q E hr h=>?_)
 .obtain⟨_,_,_,_,_,rfl,_⟩:=h;rfl
 obtain⟨n,b,B,y,f,rfl,hB,hw,n1,hy,hf,q⟩:=h
 refine⟨_,(A8 (Ah (i:=3) JB.nd rfl (.inl rfl) (Ab Mn (Bs (A0 E2 A3)) (pw 0)))
  (A8 (ES A1 (Kg (pw 3) (pw 2) Kd))
  (A8 (Ah (i:=4) JB.nd rfl (.inl rfl) (Ab Mn (Bs (A0 E2 A3)) (pw 0)))
  (A8 (Ah (i:=5) JB.nd rfl (.inl rfl) Gg)
  (A8 (Gn PassesOwn.never (O7 (pw 5))
  (Aj (Ah (i:=5) JB.nd rfl (.inl rfl) (AJ G_t (hr.mono (by lia)) (by rfl) T.m_t T.F_t.kp T.b_t .nil AF (A0 (pw 1) (A0 (pw 3) (A0 (pw 4) A3)))))))
  (Aj (AM (pw 4)))))))),?_⟩
 have p63:(2:Int) ^ 63=9223372036854775808:=by decide
 obtain⟨hK1,hK2⟩:=Lc hy hf hw
 refine⟨An rfl,fun l1 hl1=>⟨l1,_,_,rfl,rfl,A7,by lia,by lia,Bu (by show 1*n<=1000000;lia),fun v hv=>?_⟩⟩
 have s1:=(Ac hl1 (.lst [V.non])).trans (Ac hv (.lst (List.replicate ((n:Int)).toNat [V.non]).flatten))
 have hv1:(upd (upd H l1 (.lst [V.non])) v (.lst (List.replicate ((n:Int)).toNat [V.non]).flatten)) v=some (.lst (ol n fun _=>none)):=by rw[A7];exact congrArg (fun z=>some (HO.lst z)) (LP n _)
 have hv0:H v=none:=(Ac hl1 (.lst [V.non])).free hv
 dsimp only[Am]
 generalize upd (upd H l1 (.lst [V.non])) v (.lst (List.replicate ((n:Int)).toNat [V.non]).flatten)=H1 at s1 hv1
 refine⟨v,_,_,_,rfl,rfl,hv1,JZ (by rw[Rz];exact hy),?_⟩
 rw[Q8]
 have s1:Aa H (upd H1 v (.lst (ol n (BK (fun _=>none) y (some 0))))):=fun a o ha=>by rw[Ai (AQ ha hv0)];exact s1 _ _ ha
 have hv1:(upd H1 v (.lst (ol n (BK (fun _=>none) y (some 0))))) v=some (.lst (ol n (GS y).L)):=A7
 generalize upd H1 v (.lst (ol n (BK (fun _=>none) y (some 0))))=H1 at s1 hv1
 refine⟨An rfl,fun l2 hl2=>⟨l2,_,_,rfl,rfl,A7,by lia,by lia,Bu (by show 1*n<=1000000;lia),fun l hl=>?_⟩⟩
 have s2:=(Ac hl2 (.lst [V.non])).trans (Ac hl (.lst (List.replicate ((n:Int)).toNat [V.non]).flatten))
 have hl1':(upd (upd H1 l2 (.lst [V.non])) l (.lst (List.replicate ((n:Int)).toNat [V.non]).flatten)) l=some (.lst (pl n (GS y).q)):=by rw[A7];exact congrArg (fun z=>some (HO.lst z)) (LP n _)
 have hlH1:H1 l=none:=(Ac hl2 (.lst [V.non])).free hl
 have hl0:H l=none:=s1.free hlH1
 have nvl:v≠l:=AQ hv1 hlH1
 have hv2:=s2 _ _ hv1
 have s12:=s1.trans s2
 dsimp only[Am]
 generalize upd (upd H1 l2 (.lst [V.non])) l (.lst (List.replicate ((n:Int)).toNat [V.non]).flatten)=H2 at s12 hv2 hl1'
 clear s1 s2 hv1 hl hv hl1 hl2 hlH1
 have nbv:b≠v:=by obtain⟨vs,g,_⟩:=hB;exact AQ g hv0
 have nbl:b≠l:=by obtain⟨vs,g,_⟩:=hB;exact AQ g hl0
 show GM (Mb _ _) (O2 _) _ _ _
 refine EY (fun σ' H'=>∃o,σ'=[some (.int (n:Int)),some (.ref b),some (.int (y:Int)),some (.ref v),some (.ref l),o]/\Aa H H'/\H' l=some (.lst (pl n (fin B y).q))) (fun σ' H' pp=>?_) (fun _ nx=>?_)
 .obtain⟨o,rfl,e1,hr1⟩:=pp
  exact q l H' e1 hr1
 refine Gf (Fl B y) (fun i σ' H'=>σ'=[some (.int (n:Int)),some (.ref b),some (.int (y:Int)),some (.ref v),some (.ref l),some (.bl (Sx B y i).ch)]/\Aa H H'/\H' v=some (.lst (ol n (Sx B y i).L))/\H' l=some (.lst (pl n (Sx B y i).q))) ⟨rfl,s12,hv2,hl1'⟩ (fun i σ' H' hi pp=>?_) (fun σ H Q Q' hq h=>?_)
 .obtain⟨rfl,e,h1,h2⟩:=pp
  by_cases c:i<Fl B y
  .rw[hK2 i c]
   refine⟨_,rfl,BY ⟨c,?_⟩⟩
   refine⟨b,v,l,B,n,Sx B y i,rfl,nbv,nbl,nvl,hB.over e,hw,h1,h2,fun H3 fr h13 h23=>?_⟩
   exact⟨rfl,fun a o ha=>fr _ _ (e _ _ ha) (AQ ha hv0) (AQ ha hl0),h13,h23⟩
  .have ei:i=Fl B y:=by lia
   subst ei
   rw[hK1]
   exact⟨_,rfl,BZ (nx _ _ ⟨_,rfl,e,h2⟩)⟩
 .refine Ga (fun _ zz=>?_) h
  obtain⟨a2,h2,h3⟩:=zz
  exact⟨a2,h2,hq _ _ h3⟩
theorem Yu (T:Tx K mg a):AS P w K mg base B9 3 a.f_r a.d_r ["count","bonds","x","y"] YZ:=by
 have G_s :=@Tz P w K mg base a T
 refine T.F_r.ok JS (fun vs H Q E h=>?_) (fun cdv A outer s H vs Q E hr h=>?_)
 .obtain⟨_,_,_,_,_,_,rfl,_⟩:=h;rfl
 obtain⟨n,b,B,x,y,f,rfl,hB,hw,n1,hBl,hx,hy,hf,q⟩:=h
 refine⟨_,(A8 (Ah (i:=4) JS.nd rfl (.inl rfl) (AJ G_s (hr.mono (by lia)) (by rfl) T.m_s T.F_s.kp T.b_s .nil AF (A0 (pw 0) (A0 (pw 1) (A0 (pw 3) A3)))))
  (A8 (Bp (AU Kj (A6 AO (pw 4) (pw 2) (fun _ _=>rfl)) E2 (AK _))
  (Aj (AM E2))
  BB)
  (A8 (Ah (i:=5) JS.nd rfl (.inl rfl) (Bs A3))
  (A8 (Ah (i:=6) JS.nd rfl (.inl rfl) (pw 2))
  (A8 (Gn PassesOwn.never (AU IP (pw 6) (pw 3) (AK _))
  (A8 (Cr (Cw CA Dy Dz D9 (pw 5) (A0 (A6 AO (pw 4) (pw 6) (fun _ _=>rfl)) A3)))
  (Aj (Ah (i:=6) JS.nd rfl (.inl rfl) (A6 Ae (A6 AO (pw 1) (A6 AO (pw 4) (pw 6) (fun _ _=>rfl)) (fun _ _=>rfl)) A1 (fun _ _=>rfl))))))
  (Aj (AM (pw 5)))))))),?_⟩
 refine⟨n,b,B,y,f,rfl,hB,hw,n1,hy,hf,fun l H1 e1 hl=>?_⟩
 dsimp only[Am]
 refine Ak fun _ zA=>?_
 obtain⟨bs,hb,hbs⟩:=hB
 refine zA ?_
 refine⟨l,_,_,_,rfl,rfl,A4.of hl,JT hx,rfl,_,rfl,?_⟩
 cases hq:(fin B y).q x with
 |
  none=>
  refine B8 (v:=true) rfl (BY ?_)
  exact q _ _ e1 (.inl ⟨hq,rfl⟩)
 |
  some l0=>
  refine B8 (v:=false) rfl (BZ ?_)
  obtain⟨m0,hC⟩:=Rj hy hf hw hq
  have hq2:∀(r:Addr) (H':Hp),Aa H H'->H' r=some (.lst (BF (C0 B (fin B y).q x (Hb n B y x))))->Q (.ref r) H':=fun r H' e hr'=>q _ H' e (.inr ⟨⟨_,hq⟩,r,rfl,hr'⟩)
  generalize Hb n B y x=m at hC hq2 m0
  generalize fin B y=s at hC hq2 hl
  refine⟨An rfl,fun r hr'=>?_⟩
  have s1:=Ac hr' (.lst [])
  have hr0:H r=none:=e1.free hr'
  dsimp only[Am]
  refine Me (fun _ h=>h) ?_
  refine EY (fun σ' H''=>∃o6,σ'=[some (.int (n:Int)),some (.ref b),some (.int (x:Int)),some (.int (y:Int)),some (.ref l),some (.ref r),o6]/\Aa H1 H''/\H'' r=some (.lst (BF (C0 B s.q x m)))) (fun σ' H'' pp=>?_) (fun _ nx=>?_)
  .obtain⟨o6,rfl,e2,hr2⟩:=pp
   exact hq2 r H'' (e1.trans e2) hr2
  refine Gf m (fun i σ' H''=>σ'=[some (.int (n:Int)),some (.ref b),some (.int (x:Int)),some (.int (y:Int)),some (.ref l),some (.ref r),some (.int (it B s.q i x:Int))]/\Aa H1 H''/\H'' r=some (.lst (BF (C0 B s.q x i)))) ⟨rfl,s1,A7⟩ (fun i σ' H'' hi pp=>?_) (fun σ H Q Q' hq h=>?_)
  .obtain⟨rfl,e2,hr2⟩:=pp
   refine⟨rfl,_,rfl,?_⟩
   by_cases c:i=m
   .subst c
    rw[hC.at']
    refine B8 (Iv rfl) (BZ ?_)
    exact nx _ _ ⟨_,rfl,e2,hr2⟩
   .obtain⟨hne,j,bb,k1,k2,k3⟩:=hC.alive i (by lia)
    refine B8 (K6 (fun z=>hne (by have:=V.int.inj z;lia))) (BY ⟨by lia,?_⟩)
    refine Ak fun _ zB=>?_
    obtain⟨t,d0,d1⟩:=hbs.get k2
    refine zB ?_
    have hlt:=hC.lt i hi
    have ha:B5 (pl n s.q) (it B s.q i x:Int)=some (.int (j:Int)):=(JT hlt).trans (by rw[k1];rfl)
    have e12:=e1.trans e2
    have mn:=hC.le
    refine⟨.inl ⟨rfl,_,A4.of hr2⟩,ixL (e2 _ _ hl) ha ⟨r,_,_,rfl,rfl,hr2,(by rw[Jj];unfold C0;rw[Au,Dx];exact CT (by lia)),?_⟩⟩
    have s2:Aa H1 (upd H'' r (.lst (BF (C0 B s.q x i)++[V.int (j:Int)]))):=fun a o ha=>by rw[Ai (AQ ha hr')];exact e2 _ _ ha
    have hr3:(upd H'' r (.lst (BF (C0 B s.q x i)++[V.int (j:Int)]))) r=some (.lst (BF (C0 B s.q x (i+1)))):=by
     rw[A7,Pf]
     unfold C0
     rw[Hv (n:=i),BA]
     show some (HO.lst (BF (_++[j])))=some (HO.lst (BF (_++[(s.q (it B s.q i x)).getD 0])))
     rw[k1]
     rfl
    have e13:=e1.trans s2
    refine⟨l,_,_,_,rfl,rfl,A4.of (s2 _ _ hl),ha,b,_,_,_,rfl,rfl,A4.of (e13 _ _ hb),d0,t,_,1,_,rfl,rfl,A5.of (e13 _ _ d1),rfl,?_⟩
    refine⟨?_,s2,hr3⟩
    rw[F0 B s.q i,DD k1 k2]
    rfl
  .refine Ga (fun _ z=>Ga (fun _ zz=>?_) z) h
   obtain⟨h3,a3,h4,h5⟩:=zz
   exact⟨h3,a3,h4,hq _ _ h5⟩
theorem aG (T:Tx K mg a):AS P w K mg base B9 1 a.f_P a.d_P ["self","ring"] (Xo a.c_NoValues):=by
 refine T.F_P.ok Wm (fun vs H Q E h=>?_) (fun cdv A outer s H vs Q E hr h=>?_)
 .obtain⟨_,_,_,rfl,_⟩:=h;rfl
 obtain⟨x,rg,rs,rfl,hx,hrg,r60,rb,q⟩:=h
 refine⟨_,(A8 (Cr (Ve (by rfl) T.mc_FurrowError T.xb (A0 (pw 0) (A0 (UN C6 (UY hr.gd (FE hr) (pw 1))) A3))))
  (Aj (TN (pw 0) (Do Rh (by rfl) T.z_list Pr (A0 (pw 1) A3)) rfl))),?_⟩
 refine Ak fun _ zA=>?_
 obtain⟨d,hd,sm⟩:=T8 hrg rb r60
 refine zA ?_
 refine⟨_,rfl,CL Qr (by rw[Hz];lia),rg,d,rfl,hd,sm,fun sl=>⟨_,rfl,X6 Qr sl (by lia),x,_,_,_,rfl,hx,T.xi_NoValues.xc,?_⟩⟩
 refine⟨rg,_,rfl,.inl (A4.of hrg),fun l hl=>⟨x,_,rfl,?_,T.xi_NoValues.xc,T.n_NoValues_ring,fun dx hd ne=>?_⟩⟩
 .rw[Ai (AQ hx hl)];exact hx
 .have nl:dx≠l:=fun z=>by rw[z,A7]at hd;cases hd
  rw[Ai nl]at hd
  exact q l dx hl (Ne.symm nl) hd ne
theorem ZU (T:Tx K mg a):AS P w K mg base (Il P w) 5 a.f_i a.d_i ["count","bonds","x","y"] (WH a.c_NoValues):=by
 have G_h :=@Uz P w K mg base a T
 have G_r :=@Yu P w K mg base a T
 have G_P :=@aG P w K mg base a T
 refine T.F_i.okX Lj (fun vs H Q E h=>?_) (fun cdv A outer s H vs Q E hr h=>?_)
 .obtain⟨_,_,_,_,_,rfl,_⟩:=h;rfl
 obtain⟨n,b,B,x,y,rfl,hB,hw,n1,hBl,hx,hy,q,qr⟩:=h
 refine⟨_,(A8 (Ah (i:=4) Lj.nd rfl (.inl rfl) (AJ G_h (hr.mono (by lia)) (by rfl) T.m_h T.F_h.kp T.b_h .nil AF (A0 (pw 0) (A0 (pw 1) A3))))
  (A8 (Bp (AU C3 (A6 Ae (pw 4) A1 (fun _ _=>rfl)) C6 (AK _))
  (Aj (Vx rfl Xi (ba T.xm_NoValues G_P (hr.mono (by lia)) (by rfl) T.mc_NoValues T.b_P AF (A0 (A6 Ae (pw 4) A1 (fun _ _=>rfl)) A3))))
  BB)
  (A8 (Bp (AU C3 (pw 2) (pw 3) (AK _))
  (Aj (AM (CO (Ar A1 (Ar (Bs A3) (Ar (A6 Ae (pw 4) A1 (fun _ _=>rfl)) Cj DG) UO) BM))))
  BB)
  (A8 (Ah (i:=5) Lj.nd rfl (.inl rfl) (AJ G_r (hr.mono (by lia)) (by rfl) T.m_r T.F_r.kp T.b_r .nil AF (A0 (pw 0) (A0 (pw 1) (A0 (pw 2) (A0 (pw 3) A3))))))
  (A8 (Bp (AU Kj (pw 5) E2 (AK _))
  (Aj (AM E2))
  BB)
  (A8 (Ah (i:=6) Lj.nd rfl (.inl rfl) (Bf (b7 rfl) (by rfl) T.z_sum Xg (A0 (Et ["number","bonds"] [none,some 1] (by rfl) (CV (pw 5)) UX (fun _ _ _ _ _ _=>⟨(Ax (i:=0) TL rfl (.inl rfl)),EE,(A6 (show D4 _ (DT K) from Ae) (A6 (show D4 _ (IK K) from AO) (pw 1) (pw 0) (fun _ _=>rfl)) A1 (fun _ _=>rfl))⟩)) A3)))
  (Aj (AM (CO (Ar (pw 6) (Ar (pw 5) (Ar (A6 Ae (AJ G_h (hr.mono (by lia)) (by rfl) T.m_h T.F_h.kp T.b_h .nil AF (A0 (pw 0) (A0 (Ab GP (pw 1) (Bs (A0 (CO (Ar (pw 3) (Ar (pw 2) (Ar (Mf Lv (pw 6)) Cj QG) Cb) Cb)) A3))) A3))) A1 (fun _ _=>rfl)) Cj DG) Cb) Cb)))))))))),?_⟩
 have n0:0<n:=by lia
 refine⟨n,b,B,rfl,hB,hw,n0,n1,by lia,fun t l H1 e1 hl0 ht hl=>?_⟩
 dsimp only[Am]
 rcases Pu n0 hw with⟨f,ef,f0,hf⟩|⟨R,u,eR,hR⟩
 rotate_left
 .have ht':H1 t=some (.tup [.str "ring",.ref l]):=by rw[ht,eR]
  have hl':H1 l=some (.lst (BF R)):=by rw[hl,eR]
  refine⟨t,_,0,_,rfl,rfl,A5.of ht',rfl,rfl,_,rfl,B8 (v:=true) (Bw rfl) (BY ?_)⟩
  have rl:(R.map fun i=>((i:Nat):Int)).length<=60:=by rw[Au];have:=hR.le;lia
  have rb:∀z∈R.map fun i=>((i:Nat):Int),0<=z/\z<60:=fun z hz=>by
   obtain⟨i,hi,rfl⟩:=Co.mp hz
   obtain⟨k,hk⟩:=Ov.mp hi
   obtain⟨bb,e1,_⟩:=hR.bond k i hk
   have:=(Ay.mp e1).1
   lia
  refine ixT ht' rfl ⟨(by show 1<=1000;decide),fun xx hxx=>⟨xx,l,_,rfl,A7,Ac hxx _ _ _ hl',rl,rb,fun l3 dx hl3 nl hd ne=>⟨rfl,xx,_,some dx,rfl,A7,T.xi_NoValues.xc,?_⟩⟩⟩
  have nlx:l3≠xx:=fun z=>by rw[z,A7]at hl3;cases hl3
  rw[Ai ne]at hd
  rw[Ai nlx]at hl3
  rw[Sq]
  have sm:=NA (o:=Dl xx a.c_NoValues (some dx)) (NA (o:=.xd [("ring",.ref l3)]) (NA (o:=.lst (BF R)) (Ac hxx (DB xx a.c_NoValues none)) hl3) hd) hxx
  have hdx:(upd (upd (upd (upd H1 xx (DB xx a.c_NoValues none)) l3 (.lst (BF R))) dx (.xd [("ring",.ref l3)])) xx (Dl xx a.c_NoValues (some dx))) dx=some (.xd [("ring",.ref l3)]):=by rw[Ai ne,A7]
  have hll:(upd (upd (upd (upd H1 xx (DB xx a.c_NoValues none)) l3 (.lst (BF R))) dx (.xd [("ring",.ref l3)])) xx (Dl xx a.c_NoValues (some dx))) l3=some (.lst (BF R)):=by rw[Ai nlx,Ai nl,A7]
  exact qr R u eR hR xx dx l3 _ (e1.trans sm) A7 hdx hll
 refine Ak fun _ zA=>?_
 have q:=q f hf
 obtain⟨g,eg,g0,hg⟩:=Nu n0 hw hf
 refine zA ?_
 have ht':H1 t=some (.tup [.str "values",.ref l]):=by rw[ht,eg]
 refine⟨t,_,0,_,rfl,rfl,A5.of ht',rfl,rfl,_,rfl,?_⟩
 refine B8 (v:=false) (Bk (by intro z;exact absurd (V.str.inj z) (by decide +kernel))) (BZ ?_)
 refine⟨rfl,_,rfl,?_⟩
 by_cases c:x=y
 .subst c
  refine B8 (v:=true) (Bw rfl) (BY ?_)
  refine⟨An rfl,fun r hr'=>ixT (Ac hr' _ _ _ ht') rfl ⟨An rfl,fun t2 ht2=>?_⟩⟩
  have s2:=Ac hr' (.lst [])
  have s3:=Ac ht2 (.tup [V.int 0,V.ref r,V.ref l])
  refine q _ _ (e1.trans (s2.trans s3)) ?_
  unfold HQ G7
  rw[Ap rfl]
  exact⟨t2,r,l,rfl,A7,s3 _ _ A7,s3 _ _ (s2 _ _ hl)⟩
 .refine B8 (v:=false) (Bk (fun z=>c (by have:=V.int.inj z;lia))) (BZ ?_)
  refine⟨n,b,B,x,y,f,rfl,hB.over e1,hw,n1,by lia,hx,hy,hf,fun v H2 e2 hv=>?_⟩
  have e12:=e1.trans e2
  dsimp only[Am]
  rcases hv with⟨hq,rfl⟩|⟨⟨l0,hq⟩,r,rfl,hr2⟩
  .refine⟨rfl,_,rfl,B8 (v:=true) (Bw rfl) (BY ?_)⟩
   refine q _ _ e12 ?_
   unfold HQ G7
   rw[Al c,Ap hq]
  .refine⟨rfl,_,rfl,B8 (v:=false) (Bk (by intro z;cases z)) (BZ ?_)⟩
   refine Ak fun _ zB=>?_
   obtain⟨u,hC,hcl,hL⟩:=PZ hy hf hw hq
   refine zB ?_
   have hq2:∀(v:V) (H':Hp),Aa H H'->(∃t l1 l2,v = .ref t/\H' t=some (.tup [.int (C1 B (Ea n B y x)),.ref l1,.ref l2])/\H' l1=some (.lst (BF (Ea n B y x)))/\H' l2=some (.lst (DU n (B++[⟨y,x,-(C1 B (Ea n B y x))⟩])).2))->Q v H':=fun v H' e h=>q v H' e (by
    unfold HQ G7
    rw[Al c,Al (by rw[hq];intro z;cases z)]
    exact h)
   generalize Ea n B y x=R at hC hcl hL hq2 hr2
   refine Ak fun _ zC=>?_
   obtain⟨bs,hb,hbs⟩:=hB
   refine zC ?_
   have hb2:=e12 _ _ hb
   have hbs2:=hbs.over e12
   refine⟨r,rfl,⟨_,A4.of hr2⟩,?_⟩
   refine FM (xs:=BF R) (fun i ys H'=>H'=H2/\ys=((R.take i).map fun i=>(B.getD i FP).c).map V.int) ⟨rfl,rfl⟩ (by rw[Jj];exact Bu (by lia)) (fun i ys H' hi p=>by obtain⟨rfl,rfl⟩:=p;exact⟨A4.of hr2,by rw[Au,Au,AY];lia⟩) (fun i z ys H' hz p=>?_) (fun ys H' p r3 hr3=>?_)
   .obtain⟨rfl,rfl⟩:=p
    have hi:i<R.length:=by have:=(Ay.mp hz).1;rwa [Jj]at this
    have eR:R[i]?=some R[i]:=As hi
    have ex:z = .int (R[i]:Int):=Ck (hz.symm.trans (Za eR))
    subst ex
    refine Ak fun _ zD=>?_
    obtain⟨bb,k1,k2,k3⟩:=hC.bond i _ eR
    obtain⟨t4,d0,d1⟩:=hbs2.get k1
    refine zD ?_
    refine⟨b,_,_,_,rfl,rfl,A4.of hb2,d0,t4,_,2,_,rfl,rfl,A5.of d1,rfl,rfl,?_⟩
    rw[DI eR,BA,BA]
    congr 1
    show[V.int bb.c]=[V.int (B.getD R[i] FP).c]
    rw[Bv,k1]
    rfl
   .obtain⟨rfl,rfl⟩:=p
    rw[Jj,KC]
    have s3:=Ac hr3 (.lst ((R.map fun i=>(B.getD i FP).c).map V.int))
    refine⟨r3,_,rfl,A4.of A7,?_⟩
    rw[ZQ]
    generalize upd H' r3 (.lst ((R.map fun i=>(B.getD i FP).c).map V.int))=H3 at s3
    dsimp only[Am]
    have hb3:=s3 _ _ hb2
    have hbs3:=hbs2.over s3
    refine⟨_,rfl,An rfl,fun t5 ht5=>⟨An rfl,fun l5 hl5=>?_⟩⟩
    have s4:=Ac ht5 (.tup [V.int (y:Int),V.int (x:Int),V.int (-(C1 B R))])
    have s5:=Ac hl5 (.lst [V.ref t5])
    have hbl:=hbs.1
    refine⟨b,l5,_,_,rfl,rfl,s5 _ _ (s4 _ _ hb3),A7,Bu (by simp only[B4];lia),fun r6 hr6=>?_⟩
    have s6:=Ac hr6 (.lst (bs++[V.ref t5]))
    have e36:=(e12.trans s3).trans ((s4.trans s5).trans s6)
    have hB6:Ew _ r6 (B++[⟨y,x,-(C1 B R)⟩]):=⟨_,A7,(hbs3.over ((s4.trans s5).trans s6)).snoc ⟨t5,rfl,s6 _ _ (s5 _ _ A7)⟩⟩
    refine⟨n,r6,B++[⟨y,x,-(C1 B R)⟩],rfl,hB6,WF.app hw (WF.one hy hx),n0,n1,by rw[AB,B4];lia,fun t7 l7 H7 e7 hl7 ht7 hl7'=>?_⟩
    refine ixT ht7 rfl ⟨An rfl,fun t8 ht8=>?_⟩
    have s8:=Ac ht8 (.tup [V.int (C1 B R),V.ref r,V.ref l7])
    refine hq2 _ _ (e36.trans (e7.trans s8)) ⟨t8,r,l7,rfl,A7,s8 _ _ (e7 _ _ (s6 _ _ (s5 _ _ (s4 _ _ (s3 _ _ hr2))))),s8 _ _ hl7'⟩
theorem YB (T:Tx K mg a):AS P w K mg base B9 1 a.f_j a.d_j ["spot","names","first"] Ys:=by
 refine T.F_j.ok Tb (fun vs H Q E h=>?_) (fun cdv A outer s H vs Q E hr h=>?_)
 .obtain⟨_,_,_,_,_,_,_,rfl,_⟩:=h;rfl
 obtain⟨t,nm,z,n,first,zs,u,rfl,ht,hn,hw,q⟩:=h
 refine⟨_,(A8 (Bp (AU C3 (A6 Ae (pw 0) A1 (fun _ _=>rfl)) C6 (AK _))
  (Aj (AM A1))
  BB)
  (Aj (AM (Ab (Aq AL) (pw 2) (Wn PySem.F.slot_tuple_index PySem.F.type_tuple_index YC (pw 1) (A0 (A6 Ae (pw 0) A1 (fun _ _=>rfl)) A3)))))),?_⟩
 refine⟨t,_,0,_,rfl,rfl,A5.of ht,rfl,rfl,_,rfl,?_⟩
 rcases hw with⟨rfl,rfl⟩|⟨hz,j,hj,hno,rfl⟩
 .exact B8 (v:=true) (Bw rfl) (BY q)
 .refine B8 (v:=false) (dS hz) (BZ ?_)
  exact⟨⟨nm,_,rfl,hn⟩,ixT ht rfl ⟨nm,zs,z,j,rfl,rfl,A5.of hn,hj,hno,q⟩⟩
theorem au (T:Tx K mg a):AS P w K mg base B9 2 a.f_u a.d_u ["deed","first"] (Vu a.c_Deed):=by
 have G_j :=@YB P w K mg base a T
 refine T.F_u.ok Kv (fun vs H Q E h=>?_) (fun cdv A outer s H vs Q E hr h=>?_)
 .obtain⟨_,_,_,_,_,_,_,_,_,_,_,_,_,_,_,_,_,rfl,_⟩:=h;rfl
 obtain⟨d,dx,nm,lo,hh,v4,v5,v6,v7,f,zs,lz,hz,ln,hn,u,w2,rfl,hd,hnm,hlo,hhi,zl,hu,hw,q⟩:=h
 refine⟨_,(A8 (Ah (i:=2) Kv.nd rfl (.inl rfl) (Bs A3))
  (A8 (C8 PassesOwn.never rfl (F2 (by rfl) T.z_range (A0 (Bf BI (by rfl) T.z_len BJ (A0 (GK (pw 0) rfl) A3)) A3)) (Ax (i:=3) Kv.nd rfl (.inl rfl))
  (A8 (Ah (i:=4) Kv.nd rfl (.inl rfl) (A6 Ae (GK (pw 0) rfl) (pw 3) (fun _ _=>rfl)))
  (A8 (Ah (i:=5) Kv.nd rfl (.inl rfl) (A6 Ae (GK (pw 0) rfl) (pw 3) (fun _ _=>rfl)))
  (A8 (Cr (Cw CA Dy Dz D9 (pw 2) (A0 (CO (Ar (AJ G_j (hr.mono (by lia)) (by rfl) T.m_j T.F_j.kp T.b_j .nil AF (A0 (pw 4) (A0 (GK (pw 0) rfl) (A0 (pw 1) A3)))) (Ar (Ab (Aq AL) (pw 1) (pw 3)) (Ar (Mf Lv (A6 Ae (pw 4) A1 (fun _ _=>rfl))) Cj QG) FN) K3)) A3)))
  (Aj (Cr (Cw CA Dy Dz D9 (pw 2) (A0 (CO (Ar (Ab (Aq AL) (pw 1) (pw 3)) (Ar (AJ G_j (hr.mono (by lia)) (by rfl) T.m_j T.F_j.kp T.b_j .nil AF (A0 (pw 5) (A0 (GK (pw 0) rfl) (A0 (pw 1) A3)))) (Ar (A6 Ae (pw 5) A1 (fun _ _=>rfl)) Cj DG) K3) FN)) A3))))))))
  (Aj (AM (pw 2))))),?_⟩
 refine Ak fun _ zA=>?_
 obtain⟨xs,hx,xl,hxs⟩:=hlo
 obtain⟨os,ho,ol,hos⟩:=hhi
 refine zA ?_
 refine⟨An rfl,fun l hl=>?_⟩
 have e1:=Ac hl (.lst [])
 have hl1:(upd H l (.lst [])) l=some (.lst []):=A7
 dsimp only[Am]
 generalize upd H l (.lst [])=H1 at e1 hl1
 refine⟨d,_,dx,_,_,rfl,e1 _ _ hd,T.cl_Deed,T.n_Deed_names,rfl,nm,_,rfl,.inr (A5.of (e1 _ _ hnm)),_,rfl,by rw[Au];lia,by rw[Au];lia,?_⟩
 rw[Au]
 refine Fe (lo:=0) (n:=zs.length) (fun i σ' H'=>Aa H H'/\(∃o3 o4 o5,σ'=[some (.ref d),some (.int f),some (.ref l),o3,o4,o5])/\∃ys:List V,H' l=some (.lst ys)/\DW H' ys (Gp (JC f u ln) (Jt f w2 hn) i)) ⟨e1,⟨_,_,_,rfl⟩,[],hl1,.nil⟩ (fun i σ' H' hi pp=>?_) (fun σ' H' pp=>?_)
 .obtain⟨e,⟨o3,o4,o5,rfl⟩,ys,hy,tr⟩:=pp
  refine Ak fun _ zB=>?_
  have z0:(0+(i:Int))=(i:Int):=GH _
  have x1:xs[i]?=some xs[i]:=As (by lia)
  have x2:os[i]?=some os[i]:=As (by lia)
  obtain⟨t1,et1,ht1⟩:=hxs i _ x1
  obtain⟨t2,et2,ht2⟩:=hos i _ x2
  refine zB ?_
  have at1:B5 xs (0+(i:Int))=some (.ref t1):=by rw[z0];exact(Br x1).trans (congrArg some et1)
  have at2:B5 os (0+(i:Int))=some (.ref t2):=by rw[z0];exact(Br x2).trans (congrArg some et2)
  have yl:ys.length=2*i:=by rw[tr.1,Zh]
  have g1:=e _ _ ht1
  have g2:=e _ _ ht2
  refine⟨d,_,dx,_,_,rfl,e _ _ hd,T.cl_Deed,T.n_Deed_lows,rfl,ixT (e _ _ hx) at1 ?_⟩
  dsimp only[Am]
  refine⟨d,_,dx,_,_,rfl,e _ _ hd,T.cl_Deed,T.n_Deed_highs,rfl,ixT (e _ _ ho) at2 ?_⟩
  dsimp only[Am]
  refine⟨.inl ⟨rfl,_,A4.of hy⟩,d,_,dx,_,_,rfl,e _ _ hd,T.cl_Deed,T.n_Deed_names,rfl,t1,nm,lz i,ln i,f,zs,u i,rfl,g1,e _ _ hnm,hu i hi,t1,_,1,_,rfl,rfl,A5.of g1,rfl,_,rfl,An rfl,fun b1 hb1=>?_⟩
  rw[z0]
  have s3:=Ac hb1 (.tup [V.int (u i),V.int (f+(i:Int)),V.int (-(ln i))])
  have nb1:b1≠l:=fun z=>by rw[z,hy]at hb1;cases hb1
  refine⟨l,_,_,rfl,rfl,s3 _ _ hy,CT (by lia),?_⟩
  have tr3:=((tr.over s3).upd (xs:=ys++[V.ref b1]) (s3 _ _ hy)).snoc (t:=b1) (b:=JC f u ln i) (by rw[Ai nb1];exact A7)
  have hy3:(upd (upd H' b1 (.tup [V.int (u i),V.int (f+(i:Int)),V.int (-(ln i))])) l (.lst (ys++[V.ref b1]))) l=some (.lst (ys++[V.ref b1])):=A7
  have e3:Aa H (upd (upd H' b1 (.tup [V.int (u i),V.int (f+(i:Int)),V.int (-(ln i))])) l (.lst (ys++[V.ref b1]))):=fun a o ha=>by rw[Ai (AQ ha hl)];exact s3 _ _ (e _ _ ha)
  generalize upd (upd H' b1 (.tup [V.int (u i),V.int (f+(i:Int)),V.int (-(ln i))])) l (.lst (ys++[V.ref b1]))=H3 at tr3 hy3 e3
  have g2:=e3 _ _ ht2
  refine⟨.inl ⟨rfl,_,A4.of hy3⟩,d,_,dx,_,_,rfl,e3 _ _ hd,T.cl_Deed,T.n_Deed_names,rfl,t2,nm,hz i,hn i,f,zs,w2 i,rfl,g2,e3 _ _ hnm,hw i hi,ixT g2 rfl ⟨An rfl,fun b2 hb2=>?_⟩⟩
  have s4:=Ac hb2 (.tup [V.int (f+(i:Int)),V.int (w2 i),V.int (hn i)])
  have nb2:b2≠l:=fun z=>by rw[z,hy3]at hb2;cases hb2
  refine⟨l,_,_,rfl,rfl,s4 _ _ hy3,CT (by rw[AB,B4];lia),?_⟩
  have tr4:=((tr3.over s4).upd (xs:=ys++[V.ref b1]++[V.ref b2]) (s4 _ _ hy3)).snoc (t:=b2) (b:=Jt f w2 hn i) (by rw[Ai nb2];exact A7)
  exact⟨fun a o ha=>by rw[Ai (AQ ha hl)];exact s4 _ _ (e3 _ _ ha),⟨_,_,_,rfl⟩,_,A7,tr4⟩
 .obtain⟨e,⟨o3,o4,o5,rfl⟩,ys,hy,tr⟩:=pp
  exact q l ys _ e hy tr
theorem P3 (T:Tx K mg a):AS P w K mg base B9 11 a.f_f a.d_f ["plan"] Tn:=by
 have G_n :=@UR P w K mg base a T
 refine T.F_f.ok YR (fun vs H Q E h=>?_) (fun cdv A outer s H vs Q E hr h=>?_)
 .obtain⟨_,_,_,rfl,_⟩:=h;rfl
 obtain⟨p,B,f,rfl,⟨hf,hI,g⟩,q⟩:=h
 refine⟨_,(Aj (AM (Et ["path","cut","way"] [none,none,none] (by rfl) (CV (AJ G_n (hr.mono (by lia)) (by rfl) T.m_n T.F_n.kp T.b_n .nil AF (A0 (pw 0) A3))) WO (fun _ _ _ _ _ _=>⟨(show PG _ _ (NM K 3 _) from(Dg rfl (AN (Ax (i:=0) Ni rfl (.inl rfl)) (AN (Ax (i:=1) Ni rfl (.inl rfl)) (AN (Ax (i:=2) Ni rfl (.inl rfl)) CB))))),(RA (O7 (pw 1))),(pw 0)⟩)))),?_⟩
 have dep7:Cy f<=7:=GQ f B 0 6 hI fun b hb=>by have:=g.len b hb;lia
 have cnt:=IT f B 0 6 hI fun b hb=>by have:=g.len b hb;lia
 have sl:=Im f [] 0
 have gl:=g.n6
 refine⟨p,f,rfl,hf,dep7,by lia,fun l ys H1 e1 hn hl ay=>?_⟩
 have yl:=ay.1
 refine⟨l,rfl,⟨_,A4.of hl⟩,?_⟩
 refine SG (xs:=ys) (fun i zs H'=>H'=H1/\Av (DF H1) zs ((((Fo.swF f [] 0).take i).filter (·.2.1)).map (·.1))) ⟨rfl,.nil⟩ (Bu (by lia)) (fun i zs H' hi pp=>⟨by rw[pp.1];exact A4.of hl,by rw[pp.2.1,Au];exact CL (S5 _ _) (by rw[AY];lia)⟩) (fun i x zs H' hx pp=>?_) (fun zs H' pp r hr=>?_)
 .obtain⟨rfl,az⟩:=pp
  refine Ak fun _ zA=>?_
  obtain⟨sw,hsw,t,pt,rfl,ht,hpt⟩:=ay.get' hx
  refine zA ?_
  refine⟨t,_,rfl,A5.of ht,rfl,rfl,Pg (ρ:=[]) _ _ _,?_⟩
  refine⟨_,rfl,?_⟩
  rw[DI hsw,S3,BA]
  cases c:sw.2.1 with
  |
   true=>
   refine BY ⟨rfl,?_⟩
   rw[List.filter_cons_of_pos (p:=fun s:Fo.Sw Str=>s.2.1) c]
   exact az.snoc ⟨pt,rfl,hpt⟩
  |
   false=>
   refine BZ ⟨rfl,?_⟩
   rw[List.filter_cons_of_neg (p:=fun s:Fo.Sw Str=>s.2.1) (by rw[c];decide),List.filter_nil,IY,IX]
   exact az
 obtain⟨rfl,az⟩:=pp
 rw[Du (by lia)]at az
 refine q r _ _ (e1.trans (Ac hr _)) A7 (az.mono fun _ _ zz=>?_)
 obtain⟨t,h1,h2⟩:=zz
 exact⟨t,h1,Ac hr _ _ _ h2⟩
theorem Uy (T:Tx K mg a):AS P w K mg base B9 6 a.f_x a.d_x ["deed","pair"] (VF a.c_Deed (G9 a)):=by
 have G_u :=@au P w K mg base a T
 have G_i :=@ZU P w K mg base a T
 refine T.F_x.ok Kq (fun vs H Q E h=>?_) (fun cdv A outer s H vs Q E hr h=>?_)
 .obtain⟨_,_,_,_,_,_,_,rfl,_⟩:=h;rfl
 obtain⟨x,pp,D,u,w',e,d,rfl,hx,lw,hpp,he,q⟩:=h
 refine⟨_,(A8 (Ah (i:=2) Kq.nd rfl (.inl rfl) (AJ G_u (hr.mono (by lia)) (by rfl) T.m_u T.F_u.kp T.b_u .nil AF (A0 (pw 0) (A0 A1 A3))))
  (A8 (Ah (i:=3) Kq.nd rfl (.inl rfl) (Ab (Aq AL) A1 (Bf BI (by rfl) T.z_len BJ (A0 (GK (pw 0) rfl) A3))))
  (A8 (TJ (fun pn xe Ek hP hR=>(A8 (Ah (i:=4) Kq.nd rfl (.inl rfl) (QZ G_i (hr.mono (by lia)) (by rfl) T.m_i T.F_i.kp T.b_i .nil hP (A0 (pw 3) (A0 (pw 2) (A0 A1 (A0 (Ab (Aq AL) A1 (A6 (show D4 _ (DT K) from Ae) (pw 1) A1 (fun _ _=>rfl))) A3))))))
  (Aj (Ah (i:=5) Kq.nd rfl (.inl rfl) (QZ G_i (hr.mono (by lia)) (by rfl) T.m_i T.F_i.kp T.b_i .nil hP (A0 (pw 3) (A0 (pw 2) (A0 (Ab (Aq AL) A1 (A6 (show D4 _ (DT K) from Ae) (pw 1) A1 (fun _ _=>rfl))) (A0 A1 A3)))))))))
  (Uq (by rfl) T.mc_NoValues T.xi_NoValues.xc (fun ea=>(Aj (AM (Bs A3))))
  Ur))
  (Aj (AM (Bs (A0 (Ab (Aq Ci) (A6 Ae (pw 1) A1 (fun _ _=>rfl)) (A6 Ae (pw 4) A1 (fun _ _=>rfl))) (A0 (Ab (Aq AL) (A6 Ae (pw 1) A1 (fun _ _=>rfl)) (A6 Ae (pw 5) A1 (fun _ _=>rfl))) A3)))))))),?_⟩
 refine Ak fun _ zA=>?_
 obtain⟨p0,dx,nm,lo,hi,ps,pt,ob,ls,hs,rfl,h0,h1,h2,h3,h4,h5,h6,h7,h8⟩:=hx
 refine zA ?_
 have l3:=lw.l3
 have hnm:H nm=some (.tup ((D.loops.map (·.nm)).map V.str)):=by rw[KB];exact h1
 have zl:(D.loops.map (·.nm)).length=D.loops.length:=Au _
 have sl:Mc H lo (D.loops.map (·.nm)).length (fun i=>(F7 D i).1) (fun i=>(F7 D i).2):=⟨ls,h2,by rw[zl];exact h3.1,fun i x hx=>by
  obtain⟨t,ht,r,rfl,hr⟩:=h3.get' hx
  exact⟨r,rfl,by show H r=some (.tup [.str (F7 D i).1,.int (F7 D i).2]);rw[(Lh ht).2.1];exact hr⟩⟩
 have sh:Mc H hi (D.loops.map (·.nm)).length (fun i=>(Fg D i).1) (fun i=>(Fg D i).2):=⟨hs,h4,by rw[zl];exact h5.1,fun i x hx=>by
  obtain⟨t,ht,r,rfl,hr⟩:=h5.get' hx
  exact⟨r,rfl,by show H r=some (.tup [.str (Fg D i).1,.int (Fg D i).2]);rw[(Lh ht).2.2];exact hr⟩⟩
 refine⟨p0,dx,nm,lo,hi,_,_,_,_,1,D.loops.map (·.nm),fun i=>(F7 D i).1,fun i=>(Fg D i).1,fun i=>(F7 D i).2,fun i=>(Fg D i).2,fun i=>(u i:Int),fun i=>(w' i:Int),rfl,h0,hnm,sl,sh,by lia,fun i hi=>lw.lo i (by lia),fun i hi=>lw.hi i (by lia),fun bl ys H1 e1 hbl tri=>?_⟩
 rw[zl]at tri
 have bs:=WB _ tri
 dsimp only[Am]
 refine⟨p0,_,dx,_,_,rfl,e1 _ _ h0,T.cl_Deed,T.n_Deed_names,rfl,nm,_,rfl,.inr (A5.of (e1 _ _ hnm)),?_⟩
 dsimp only[Am,Ei]
 rw[show((1:Int)+((((D.loops.map (·.nm)).map V.str).length:Nat):Int))=((1+D.loops.length:Nat):Int) by rw[Au,zl];lia]
 have hB:Ew H1 bl (DS D u w'):=⟨ys,hbl,bs⟩
 have wf:WF (1+D.loops.length) (DS D u w'):=QM lw.lt
 have bl6:(DS D u w').length<=60:=by rw[QA];lia
 have ey:(1:Int)+(e:Int)=((1+e:Nat):Int):=by lia
 refine EY (fun σ' H'=>Aa H1 H'/\∃(t1 t2:Addr) (c1 c2:Int) (v1 v2 v3 v4:V),σ'=[some (.ref p0),some (.ref pp),some (.ref bl),some (.int ((1+D.loops.length:Nat):Int)),some (.ref t1),some (.ref t2)]/\H' t1=some (.tup [.int c1,v1,v2])/\H' t2=some (.tup [.int c2,v3,v4])/\(∀g,Holds g (DS D u w')->g 0-g (1+e)<=c1)/\(∃g,Holds g (DS D u w')/\g 0-g (1+e)=c1)/\(∀g,Holds g (DS D u w')->g (1+e)-g 0<=c2)/\(∃g,Holds g (DS D u w')/\g (1+e)-g 0=c2)) (fun σ' H' hh=>?_) (fun _ nx=>?_)
 .obtain⟨e2,t1,t2,c1,c2,v1,v2,v3,v4,rfl,ht1,ht2,m1,m2,m3,m4⟩:=hh
  have hp2:=(e1.trans e2) _ _ hpp
  refine⟨pp,_,1,_,rfl,rfl,A5.of hp2,rfl,t1,_,0,_,rfl,rfl,A5.of ht1,rfl,pp,_,1,_,rfl,rfl,A5.of hp2,rfl,t2,_,0,_,rfl,rfl,A5.of ht2,rfl,An rfl,fun r hr=>?_⟩
  refine q r _ [d-c1,d+c2] (e1.trans (e2.trans (Ac hr _))) A7 (.inr ⟨d-c1,d+c2,rfl,fun f hf=>?_,?_,?_⟩)
  .have:=m1 f hf;have:=m3 f hf;lia
  .obtain⟨g,h1,h2⟩:=m2;exact⟨g,h1,by lia⟩
  .obtain⟨g,h1,h2⟩:=m4;exact⟨g,h1,by lia⟩
 have exn:(∀f,¬Holds f (DS D u w'))->∀(r:Addr) (H':Hp),Aa H1 H'->H' r=none->Q (.ref r) (upd H' r (.lst [])):=fun no r H' e2 hr=>q r _ [] (e1.trans (e2.trans (Ac hr _))) A7 (.inl ⟨rfl,no⟩)
 by_cases hf:∃f,Holds f (DS D u w')
 .obtain⟨f,hf⟩:=hf
  refine Ak fun _ zB=>?_
  obtain⟨c1,R1,vs1,mr1,u1,a1⟩:=Pi lw.lt (x:=0) (y:=1+e) (by lia) (by lia) (.inl rfl) hf
  obtain⟨c2,R2,vs2,mr2,u2,a2⟩:=Pi lw.lt (x:=1+e) (y:=0) (by lia) (by lia) (.inr rfl) hf
  refine zB ?_
  refine⟨pp,_,0,_,rfl,rfl,A5.of (e1 _ _ hpp),rfl,1+D.loops.length,bl,_,0,1+e,by show[_,_,_,V.int (1+(e:Int))]=_;rw[ey];rfl,hB,wf,by lia,bl6,by lia,by lia,fun f2 hf2 v H2 e2 hm=>?_,fun R u0 eR hR=>(hR.none hf).elim⟩
  unfold HQ at hm
  rw[mr1]at hm
  refine Ak fun _ zC=>?_
  obtain⟨t1,l1,l2,rfl,ht1,_⟩:=hm
  refine zC ?_
  dsimp only[Am]
  refine⟨pp,_,0,_,rfl,rfl,A5.of ((e1.trans e2) _ _ hpp),rfl,1+D.loops.length,bl,_,1+e,0,by show[_,_,V.int (1+(e:Int)),_]=_;rw[ey];rfl,⟨ys,e2 _ _ hbl,bs.over e2⟩,wf,by lia,bl6,by lia,by lia,fun f2 hf2 v H3 e3 hm=>?_,fun R u0 eR hR=>(hR.none hf).elim⟩
  unfold HQ at hm
  rw[mr2]at hm
  refine Ak fun _ zD=>?_
  obtain⟨t2,l3,l4,rfl,ht2,_⟩:=hm
  refine zD ?_
  exact nx _ _ ⟨e2.trans e3,t1,t2,c1,c2,_,_,_,_,rfl,e3 _ _ ht1,ht2,u1,a1,u2,a2⟩
 .have no:∀f,¬Holds f (DS D u w'):=fun f h=>hf ⟨f,h⟩
  refine⟨pp,_,0,_,rfl,rfl,A5.of (e1 _ _ hpp),rfl,1+D.loops.length,bl,_,0,1+e,by show[_,_,_,V.int (1+(e:Int))]=_;rw[ey];rfl,hB,wf,by lia,bl6,by lia,by lia,fun f2 hf2=>absurd hf2 (no f2),fun R u0 eR hR xx dx r H2 e2 hxx hdx hr2=>?_⟩
  obtain⟨N,ct⟩:=T.ct_NoValues
  refine⟨xx,_,some dx,rfl,hxx,N,_,true,ct,by rw[WD];exact Bw (.inl rfl),BY ?_⟩
  exact⟨An rfl,fun r hr=>exn no r _ e2 hr⟩
theorem Zk (T:Tx K mg a):AS P w K mg base B9 10 a.f_w a.d_w ["program","plan","path"] (VW a.c_Program a.c_Deed (G9 a)):=by
 have G_d :=@NT P w K mg base a T 7
 have G_x :=@Uy P w K mg base a T
 refine T.F_w.ok Hc (fun vs H Q E h=>?_) (fun cdv A outer s H vs Q E hr h=>?_)
 .obtain⟨_,_,_,_,_,_,_,_,_,_,rfl,_⟩:=h;rfl
 obtain⟨v,p,pa,n,Ds,B,f,u,w',sw,rfl,hP,hG,pd,hsw,hpa,q⟩:=h
 refine⟨_,(A8 (Ah (i:=3) Hc.nd rfl (.inl rfl) (Bf BI (by rfl) T.z_len BJ (A0 (pw 2) A3)))
  (A8 (Ah (i:=4) Hc.nd rfl (.inl rfl) (Bs A3))
  (A8 (C8 PassesOwn.never rfl (CV (AJ G_d (hr.mono (by lia)) (by rfl) T.m_d T.F_d.kp T.b_d .nil AF (A0 (pw 1) (A0 (Bb A3) (A0 (Bb A3) A3))))) (Dg rfl (AN (Ax (i:=5) Hc.nd rfl (.inl rfl)) (AN (Ax (i:=6) Hc.nd rfl (.inl rfl)) (AN (Ax (i:=7) Hc.nd rfl (.inl rfl)) (AN (Ax (i:=8) Hc.nd rfl (.inl rfl)) CB)))))
  (Aj (Bp (AU (JK (FE hr)) (DV JI (pw 7) Ee (DM (pw 3))) (pw 2) (AK _))
  (Aj (Cr (Cw CA Oy OA Lz (pw 4) (A0 (AJ G_x (hr.mono (by lia)) (by rfl) T.m_x T.F_x.kp T.b_x .nil AF (A0 (A6 AO (GK (pw 0) rfl) (pw 5) (fun _ _=>rfl)) (A0 (A6 Ae (pw 6) (Ab (Aq Ci) (pw 3) A1) (fun _ _=>rfl)) A3))) A3))))
  BB)))
  (A8 (Bp (AU (JK (FE hr)) (pw 4) (Bs A3) (AK _))
  (Aj (AM (Bb (A0 A1 (A0 A1 A3)))))
  BB)
  (Aj (AM (Bb (A0 (Bf (Zl rfl) (by rfl) T.z_min GO (A0 (pw 4) A3)) (A0 (Bf (Ud rfl) (by rfl) T.z_max Ym (A0 (pw 4) A3)) A3))))))))),?_⟩
 refine Ak fun _ zA=>?_
 obtain⟨hf,hI,g⟩:=id hG
 obtain⟨x,dx,dl,rfl,hx,dxs,hdl,adx⟩:=hP
 refine zA ?_
 have dep7:Cy f<=7:=GQ f B 0 6 hI fun b hb=>by have:=g.len b hb;lia
 have dl6:(Fo.deedsF f [] 0).length<=6:=by rw[Fo.deeds_len [] 0 hI];exact g.n6
 refine⟨pa,_,rfl,.inr (A5.of hpa),?_⟩
 rw[Au]
 dsimp only[Am]
 refine⟨An rfl,fun ti hti=>?_⟩
 have s1:=Ac hti (.lst [])
 have hti1:(upd H ti (.lst [])) ti=some (.lst []):=A7
 dsimp only[Am]
 generalize upd H ti (.lst [])=H1 at s1 hti1
 refine⟨An rfl,fun t1 ht1=>⟨An rfl,fun t2 ht2=>?_⟩⟩
 have s2:=(Ac ht1 (.tup [])).trans (Ac ht2 (.tup []))
 have s12:=s1.trans s2
 refine⟨p,t1,t2,f,[],[],rfl,hf.over s12,Ac ht2 _ _ _ A7,A7,dep7,by decide,by decide,by lia,fun l ys H3 e3 hl ay=>?_⟩
 have e13:=s2.trans e3
 have e03:=s1.trans e13
 have yl:=ay.1
 have hti3:=e13 _ _ hti1
 have nlt:l≠ti:=fun z=>by
  rw[z,hti3]at hl
  cases hl
  rw[G4]at yl
  have:=Ox yl.symm
  have hb:=Fo.deeds_len [] 0 hI
  rw[this]at hb
  have:B=[]:=Ox hb.symm
  rw[this]at hI
  cases f with
  |nil=>cases hsw
  |leaf _ _ _=>obtain⟨_,_,z,_⟩:=hI;cases z
  |node _ _ _ _=>obtain⟨_,_,_,z,_⟩:=hI;cases z
 refine⟨l,rfl,⟨_,A4.of hl⟩,?_⟩
 refine FJ (xs:=ys) (fun i σ' H'=>∃(L:List Int) (o5 o6 o7 o8:Option V),σ'=[some (.ref x),some (.ref p),some (.ref pa),some (.int (sw.1.length:Int)),some (.ref ti),o5,o6,o7,o8]/\(∀b o,b≠ti->H3 b=some o->H' b=some o)/\H' ti=some (.lst (L.map V.int))/\FB Ds u w' sw.1 ((Fo.deedsF f [] 0).take i) L) ⟨[],_,_,_,_,rfl,fun _ _ _ h=>h,hti3,.nil⟩ (fun i σ' H' _ pp=>by obtain⟨_,_,_,_,_,_,k,_⟩:=pp;exact A4.of (k _ _ nlt hl)) (fun i y σ' H' hy pp=>?_) (fun σ' H' pp=>?_)
 rotate_left
 .obtain⟨L,o5,o6,o7,o8,rfl,k,hL,tms⟩:=pp
  rw[Du (by lia)]at tms
  have eH:Aa H H':=fun b o hb=>k _ _ (AQ hb hti) (e03 _ _ hb)
  have Ll:=tms.len
  refine⟨An rfl,fun z hz=>?_⟩
  have s4:=Ac hz (.lst [])
  refine⟨.lst (L.map fun i=>Tr.v (.int i)),.lst [],.lst (A4.of (s4 _ _ hL)) (M0 L),.lst (A4.of A7) .nil,⟨_,rfl⟩,⟨_,rfl⟩,by rw[Cf];cases L<;>rfl,by rw[Ct,NC];decide,_,rfl,?_⟩
  cases L with
  |
   nil=>
   refine B8 (v:=true) rfl (BY ?_)
   exact⟨An rfl,fun r hr=>q (.ref r) _ (0,0) (eH.trans (s4.trans (Ac hr _))) ⟨r,rfl,A7⟩ ⟨[],tms,.inl ⟨rfl,rfl⟩⟩⟩
  |
   cons a0 L'=>
   refine B8 (v:=false) rfl (BZ ?_)
   have hL4:=s4 _ _ hL
   refine⟨ti,_,rfl,A4.of hL4,by rw[BH];lia,fun M hM hmin=>?_⟩
   refine⟨ti,_,rfl,A4.of hL4,by rw[BH];lia,fun N hN hmax=>⟨An rfl,fun r hr=>?_⟩⟩
   exact q (.ref r) _ (M,N) (eH.trans (s4.trans (Ac hr _))) ⟨r,rfl,A7⟩ ⟨_,tms,.inr ⟨hM,hmin,hN,hmax⟩⟩
 refine Ak fun _ zB=>?_
 obtain⟨L,o5,o6,o7,o8,rfl,k,hL,tms⟩:=pp
 have tk:TK H3 H':=fun b o hb=>k _ _ (E9 hb hti3 (by intro z;cases z)) hb
 obtain⟨en,hen,t,pl,pt,cu,rfl,ht,hpl,hpt⟩:=(ay.mono fun _ _ z=>z.tk tk).get' hy
 refine zB ?_
 have il:i<(Fo.deedsF f [] 0).length:=(Ay.mp hen).1
 have eH:Aa H H':=fun b o hb=>k _ _ (AQ hb hti) (e03 _ _ hb)
 have Ll:=tms.len
 rw[AY]at Ll
 refine⟨t,_,rfl,A5.of ht,rfl,rfl,?_⟩
 refine⟨_,rfl,pt,_,rfl,hpt,fun sl H4 e4 hsl=>?_⟩
 have cy:BS (en.path.map V.int) none (some (sw.1.length:Int))=(en.path.take sw.1.length).map V.int:=by rw[LB,List.map_take]
 rw[cy]at hsl
 have hpa4:=(eH.trans e4) _ _ hpa
 refine⟨.tup ((en.path.take sw.1.length).map fun i=>Tr.v (.int i)),.tup (sw.1.map fun i=>Tr.v (.int i)),.tup (A5.of hsl) (M0 _),.tup (A5.of hpa4) (M0 _),⟨_,rfl⟩,⟨_,rfl⟩,by rw[Cf];exact KR _ _,by rw[Ct,NC];decide,_,rfl,?_⟩
 have hL4:=e4 _ _ hL
 by_cases c:en.path.take sw.1.length=sw.1
 rotate_left
 .refine B8 (v:=false) (by rw[BW];exact Ru c) (BZ ?_)
  refine⟨L,_,_,_,_,rfl,fun b o hb h=>e4 _ _ (k b o hb h),hL4,?_⟩
  rw[DI hen]
  exact .skip tms c
 refine B8 (v:=true) (by rw[c,BW];exact Nj _) (BY ?_)
 refine Ak fun _ zC=>?_
 have long:=Fo.sw_longer f [] 0 en sw (AH hen) hsw c
 obtain⟨r0,rs0,swp,_⟩:=Fo.sw_pre f [] 0 sw hsw
 refine zC ?_
 have sp:0<sw.1.length:=by rw[swp];simp
 have hb:B[i]?=some (B[i]'(by rw[←Fo.deeds_len [] 0 hI];exact il)):=As _
 generalize B[i]'(by rw[←Fo.deeds_len [] 0 hI];exact il)=b at hb
 refine Ak fun _ zD=>?_
 obtain⟨en2,hen2,ek,epl⟩:=Hr hI hb
 refine zD ?_
 rw[hen]at hen2
 cases hen2
 refine Ak fun _ zE=>?_
 obtain⟨r1,rs1,e1p,dwn⟩:=Fo.deeds_down f B 0 [] 0 i en b hI (fun _ _ _=>Bj _) g.ok (fun _ _=>Bj _) hen hb
 refine zE ?_
 have dlen:=LM dwn
 rw[KA]at dlen
 refine Ak fun _ zF=>?_
 have plen:en.path.length=b.ways.length+1:=by rw[e1p,GD,BH,Au,←dlen];rfl
 have bm:=AH hb
 have pll:=g.pll b bm
 obtain⟨kd,D,ekd,hD,hpr⟩:=pd.dd b bm
 obtain⟨xd,hxd,dat⟩:=adx.get hD
 obtain⟨pxs,hpxs,apx⟩:=hpl
 refine zF ?_
 rw[epl]at apx
 have pxl:=apx.1
 have hpe:b.pl[sw.1.length-1]?=some (b.pl[sw.1.length-1]'(by lia)):=As (by lia)
 generalize b.pl[sw.1.length-1]'(by lia)=pe at hpe
 refine Ak fun _ zG=>?_
 obtain⟨px,hpx,tp,rfl,htp⟩:=apx.get hpe
 obtain⟨pe0,pe1⟩:=hpr pe (AH hpe)
 obtain⟨pe1',pe2⟩:=pe
 obtain⟨e,rfl⟩:∃e:Nat,pe1'=(e:Int):=⟨pe1'.toNat,by have:0<=pe1':=pe0;lia⟩
 refine zG ?_
 have elt:e<D.loops.length:=by have:(e:Int)<(D.loops.length:Int):=pe1;lia
 have eH4:=eH.trans e4
 have at1:B5 pxs ((sw.1.length:Int)-1)=some (.ref tp):=by
  rw[show(sw.1.length:Int)-1=((sw.1.length-1:Nat):Int) by lia]
  exact Br hpx
 have at0:B5 dxs en.k=some xd:=by rw[ek,ekd];exact Br hxd
 refine⟨.inl ⟨rfl,_,A4.of hL4⟩,x,_,dx,_,_,rfl,eH4 _ _ hx,T.cl_Program,T.n_Program_deeds,rfl,dl,_,_,_,rfl,rfl,A4.of (eH4 _ _ hdl),at0,pl,_,_,_,rfl,rfl,A5.of (e4 _ _ hpxs),at1,?_⟩
 refine⟨xd,tp,D,u kd,w' kd,e,pe2,rfl,DA.over eH4 dat,pd.lw kd D hD,e4 _ _ htp,elt,fun r5 H5 M e5 hr5 ent=>?_⟩
 have hL5:=e5 _ _ hL4
 have Ml:=ent.len
 refine⟨ti,r5,_,_,rfl,rfl,hL5,hr5,Bu (by rw[Au,Au];lia),?_⟩
 refine⟨L++M,_,_,_,_,rfl,fun b o hb h=>by rw[Ai hb];exact e5 _ _ (e4 _ _ (k b o hb h)),by rw[A7,BA],?_⟩
 rw[DI hen]
 exact .add tms c (by rw[ek,ekd]) hD (by rw[epl];exact hpe) ent
theorem Wf (T:Tx K mg a):AS P w K mg base B9 12 a.f_v a.d_v ["program","plan"] (SN a.c_Program a.c_Deed (G9 a)):=by
 have G_f :=@P3 P w K mg base a T
 have G_w :=@Zk P w K mg base a T
 refine T.F_v.ok aA (fun vs H Q E h=>?_) (fun cdv A outer s H vs Q E hr h=>?_)
 .obtain⟨_,_,_,_,_,_,_,_,rfl,_⟩:=h;rfl
 obtain⟨v,p,n,Ds,B,f,u,w',rfl,hP,hG,pd,q⟩:=h
 refine⟨_,(Aj (AM (Et ["path","plan","program"] [none,some 1,some 0] (by rfl) (CV (AJ G_f (hr.mono (by lia)) (by rfl) T.m_f T.F_f.kp T.b_f .nil AF (A0 (pw 1) A3))) Vv (fun _ _ _ _ _ _=>⟨(Ax (i:=0) SX rfl (.inl rfl)),EE,(AJ G_w (hr.mono (by lia)) (by rfl) T.m_w T.F_w.kp T.b_w .nil AF (A0 (pw 2) (A0 (pw 1) (A0 (pw 0) A3))))⟩)))),?_⟩
 refine⟨p,B,f,rfl,hG,fun l ys H1 e1 hl ay=>?_⟩
 have yl:=ay.1
 have c36:(B1 f).length<=1000:=by
  unfold B1
  rw[Au]
  have h1:=S5 (fun s:Fo.Sw Str=>s.2.1) (Fo.swF f [] 0)
  have h2:=Im f [] 0
  have h3:=IT f B 0 6 hG.2.1 fun b hb=>by have:=hG.2.2.len b hb;lia
  have h4:=hG.2.2.n6
  lia
 have wkP:∀{HX:Hp},Aa H HX->Kc a.c_Program a.c_Deed (G9 a) HX v n Ds:=fun{HX} e=>by
  obtain⟨x,dx,dl,rfl,hx,dxs,hdl,adx⟩:=hP
  exact⟨x,dx,dl,rfl,e _ _ hx,dxs,e _ _ hdl,adx.mono fun _ _ z=>DA.over e z⟩
 refine⟨l,rfl,⟨_,A4.of hl⟩,?_⟩
 refine FM (xs:=ys) (fun i zs H'=>Aa H1 H'/\∃E:List (Int×Int),Av (GX H') zs E/\E.length=i/\∀(j:Nat) (P:List Int) (pr:Int×Int),(B1 f)[j]?=some P->E[j]?=some pr->LU Ds u w' f P pr) ⟨Aa.refl _,[],.nil,rfl,fun j P pr _ h=>by cases h⟩ (Bu (by lia)) (fun i zs H' hi pp=>⟨A4.of (pp.1 _ _ hl),by obtain⟨_,E,az,El,_⟩:=pp;rw[az.1,El];exact Af _⟩) (fun i x zs H' hx pp=>?_) (fun zs H' pp r hr=>?_)
 .obtain⟨e2,E,az,El,hE⟩:=pp
  refine Ak fun _ zA=>?_
  obtain⟨Pp,hPp,t,rfl,ht⟩:=ay.get' hx
  obtain⟨sw,hsw,rfl⟩:=Co.mp (AH hPp)
  refine zA ?_
  have hsw:=(MH.mp hsw).1
  have e12:=e1.trans e2
  refine⟨v,p,t,n,Ds,B,f,u,w',sw,rfl,wkP e12,hG.over e12,pd,hsw,e2 _ _ ht,fun y H3 pr e3 hy hpr=>?_⟩
  refine⟨e2.trans e3,E++[pr],(az.mono fun _ _ z=>z.over e3).snoc hy,by rw[AB,El];rfl,fun j P pr2 hj hp=>?_⟩
  rcases Da j E.length with z|z
  .rw[BR z]at hp
   exact hE j P pr2 hj hp
  .have l:=(Ay.mp hp).1
   rw[AB,B4]at l
   have:j=E.length:=by lia
   subst this
   rw[Bz (Af _),Cn]at hp
   cases hp
   rw[El,hPp]at hj
   cases hj
   exact hpr
 refine Ak fun _ zB=>?_
 obtain⟨e2,E,az,El,hE⟩:=pp
 refine zB ?_
 have s3:=Ac hr (.lst zs)
 exact q r zs _ E (e1.trans (e2.trans s3)) A7 (az.mono fun _ _ z=>z.over s3) (by lia) hE
theorem VJ (T:Tx K mg a):AS P w K mg base B9 12 a.f_y a.d_y ["plan","found","widths"] Vr:=by
 have G_f :=@P3 P w K mg base a T
 refine T.F_y.ok UF (fun vs H Q E h=>?_) (fun cdv A outer s H vs Q E hr h=>?_)
 .obtain⟨_,_,_,_,_,_,_,_,rfl,_⟩:=h;rfl
 obtain⟨p,l,m,B,f,ys,E',W,rfl,hG,hl,ay,El,hm,Wl,q⟩:=h
 refine⟨_,(Aj (AM (Do (Zq rfl (W4 hr)) (by rfl) T.z_dict SL (A0 (Et ["path","pair","width"] [none,none,none] (by rfl) (XT (by rfl) T.z_zip (A0 (AJ G_f (hr.mono (by lia)) (by rfl) T.m_f T.F_f.kp T.b_f .nil AF (A0 (pw 0) A3)) (A0 (pw 1) (A0 (pw 2) A3)))) Vc (fun _ _ _ _ _ _=>⟨(show PG _ _ (NM K 3 _) from(Dg rfl (AN (Ax (i:=0) MY rfl (.inl rfl)) (AN (Ax (i:=1) MY rfl (.inl rfl)) (AN (Ax (i:=2) MY rfl (.inl rfl)) CB))))),EE,(Bb (A0 (pw 0) (A0 (Bb (A0 (A6 (show D4 _ (DT K) from Ae) (pw 1) A1 (fun _ _=>rfl)) (A0 (pw 2) A3))) A3)))⟩)) A3)))),?_⟩
 refine⟨p,B,f,rfl,hG,fun c xs H1 e1 hc ax=>?_⟩
 have xl:=ax.1
 have yl:=ay.1
 have c36:(B1 f).length<=1000:=by
  unfold B1
  rw[Au]
  have h1:=S5 (fun s:Fo.Sw Str=>s.2.1) (Fo.swF f [] 0)
  have h2:=Im f [] 0
  have h3:=IT f B 0 6 hG.2.1 fun b hb=>by have:=hG.2.2.len b hb;lia
  have h4:=hG.2.2.n6
  lia
 refine⟨c,l,m,rfl,⟨_,A4.of hc⟩,⟨_,A4.of (e1 _ _ hl)⟩,⟨_,A4.of (e1 _ _ hm)⟩,?_⟩
 have ay1:=ay.mono fun _ _ z=>z.over e1
 refine SQ (xs:=xs) (ys:=ys) (ws:=W.map V.int) (by lia) (by rw[Au];lia) (fun i zs H'=>Aa H1 H'/\∃L:List (List AC×V),Av (OZ H') zs L/\L.length=i/\∀(j:Nat) (q:List AC×V),L[j]?=some q->∃(P:List Int) (pr:Int×Int) (wd:Int) (t:Addr),(B1 f)[j]?=some P/\E'[j]?=some pr/\W[j]?=some wd/\q=(pK P,.ref t)/\H' t=some (.tup [.int pr.1,.int wd])) ⟨Aa.refl _,[],.nil,rfl,fun j q h=>by cases h⟩ (Bu (by lia)) (fun i zs H' hi pp=>⟨A4.of (pp.1 _ _ hc),A4.of (pp.1 _ _ (e1 _ _ hl)),A4.of (pp.1 _ _ (e1 _ _ hm)),by obtain⟨_,L,az,Ll,_⟩:=pp;rw[az.1,Ll];exact Af _⟩) (fun i x y v Tt zs H' hx hy hv pp hT=>?_) (fun zs H' pp r hr=>?_)
 .obtain⟨e2,L,az,Ll,hL⟩:=pp
  refine Ak fun _ zA=>?_
  obtain⟨Pp,hPp,t,rfl,ht⟩:=ax.get' hx
  obtain⟨pr,hpr,u,rfl,hu⟩:=ay1.get' hy
  obtain⟨wd,hwd,rfl⟩:∃wd,W[i]?=some wd/\v=V.int wd:=by
   rw[Bq]at hv
   cases c:W[i]? with
   |none=>rw[c]at hv;cases hv
   |some n=>rw[c]at hv;cases hv;exact⟨n,rfl,rfl⟩
  refine zA ?_
  have sT:=Ac hT (.tup [V.ref t,V.ref u,V.int wd])
  refine⟨Tt,_,rfl,A5.of A7,rfl,rfl,Pg (ρ:=[]) _ _ _,?_⟩
  refine⟨u,_,0,_,rfl,rfl,A5.of (sT _ _ (e2 _ _ hu)),rfl,An rfl,fun t1 ht1=>⟨An rfl,fun t2 ht2=>?_⟩⟩
  have s1:=Ac ht1 (.tup [V.int pr.1,V.int wd])
  have s2:=Ac ht2 (.tup [V.ref t,V.ref t1])
  have e3:=sT.trans (s1.trans s2)
  refine⟨e2.trans e3,L++[(pK Pp,.ref t1)],(az.mono fun _ _ ⟨t,b,h1,h2,h3⟩=>⟨t,b,h1,e3 _ _ h2,e3 _ _ h3⟩).snoc ⟨t2,t,rfl,A7,by rw[Rm];exact e3 _ _ (e2 _ _ ht)⟩,by rw[AB,Ll];rfl,fun j q hj=>?_⟩
  rcases Da j L.length with z|z
  .rw[BR z]at hj
   refine Ak fun _ zB=>?_
   obtain⟨P,pr,wd,t,h1,h2,h3,h4,h5⟩:=hL j q hj
   refine zB ?_
   exact⟨P,pr,wd,t,h1,h2,h3,h4,e3 _ _ h5⟩
  .have l:=(Ay.mp hj).1
   rw[AB,B4]at l
   have:j=L.length:=by lia
   subst this
   rw[Bz (Af _),Cn]at hj
   cases hj
   exact⟨Pp,pr,wd,t1,by rw[Ll];exact hPp,by rw[Ll];exact hpr,by rw[Ll];exact hwd,rfl,s2 _ _ A7⟩
 refine Ak fun _ zC=>?_
 obtain⟨e2,L,az,Ll,hL⟩:=pp
 refine zC ?_
 have s3:=Ac hr (.lst zs)
 refine⟨r,zs,L,rfl,A7,az.mono fun _ _ ⟨t,b,h1,h2,h3⟩=>⟨t,b,h1,s3 _ _ h2,s3 _ _ h3⟩,fun d hd=>?_⟩
 have s4:=Ac hd (.dT (EZ [] L))
 have keys:(L.map fun x=>x.1)=(B1 f).map pK:=by
  refine Ot fun j=>?_
  rw[Bq,Bq]
  cases c:L[j]? with
  |
   none=>
   have:(B1 f)[j]?=none:=RS (by have:=IW.mp c;lia)
   rw[this];rfl
  |
   some q=>
   obtain⟨P,pr,wd,t,h1,h2,h3,rfl,h5⟩:=hL j q c
   rw[h1];rfl
 have nd:(L.map fun x=>x.1).Nodup:=by
  rw[keys]
  unfold List.Nodup
  rw[Os]
  exact(Vt f).imp fun{x y} hxy z=>hxy (Qm z)
 refine q d _ (e1.trans (e2.trans (s3.trans s4))) ⟨_,.inl A7,fun P hP=>?_,fun i P pr wd h1 h2 h3=>?_⟩
 .rw[Nw L [] _ nd,Al (by rw[keys];intro z;obtain⟨R,hR,e⟩:=Co.mp z;exact hP (Qm e▸hR))]
  rfl
 .have hi:i<L.length:=by have:=(Ay.mp h1).1;lia
  refine Ak fun _ zD=>?_
  obtain⟨P2,pr2,wd2,t,g1,g2,g3,g4,g5⟩:=hL i _ (As hi)
  refine zD ?_
  rw[h1]at g1
  cases g1
  rw[h2]at g2
  cases g2
  rw[h3]at g3
  cases g3
  refine⟨t,?_,s4 _ _ (s3 _ _ g5)⟩
  rw[Nw L [] _ nd,Ap (by rw[keys];exact Co.mpr ⟨P,AH h1,rfl⟩)]
  exact YG nd (by rw[As hi,g4])
theorem Xe (T:Tx K mg a):AS P w K mg base B9 1 a.f_k a.d_k ["values","pair","ruler"] ZN:=by
 refine T.F_k.ok Rx (fun vs H Q E h=>?_) (fun cdv A outer s H vs Q E hr h=>?_)
 .obtain⟨_,_,_,_,_,_,_,rfl,_⟩:=h;rfl
 obtain⟨v,p,W,e,d,ru,o,rfl,hv,hp,he,hru,wd,q⟩:=h
 refine⟨_,(A8 (Ah (i:=3) Rx.nd rfl (.inl rfl) (Ab (Aq AL) (A6 Ae (pw 0) (A6 Ae (pw 1) A1 (fun _ _=>rfl)) (fun _ _=>rfl)) (A6 Ae (pw 1) A1 (fun _ _=>rfl))))
  (A8 (Bp (AU Kj (pw 2) E2 (AK _))
  (Aj (AM (pw 3)))
  BB)
  (Aj (AM (Ab (oJ UK) (Ab (Aq Ci) (pw 3) (A6 Ae (pw 2) A1 (fun _ _=>rfl))) (A6 Ae (pw 2) A1 (fun _ _=>rfl))))))),?_⟩
 have at1:B5 (W.map V.int) (e:Int)=some (.int (W.getD e 0)):=by
  have:=Ho (ns:=W) (k:=(e:Int)) (G6 _) (by lia)
  rwa [Ky]at this
 refine⟨p,_,0,_,rfl,rfl,A5.of hp,rfl,v,_,_,_,rfl,rfl,A5.of hv,at1,p,_,1,_,rfl,rfl,A5.of hp,rfl,?_⟩
 dsimp only[Am]
 cases o with
 |
  none=>
  cases hru
  exact⟨rfl,_,rfl,B8 (v:=true) (Bw rfl) (BY (q))⟩
 |
  some lw=>
  refine Ak fun _ zA=>?_
  obtain⟨l,wd0⟩:=lw
  obtain⟨t,rfl,ht⟩:=hru
  obtain⟨w0,w1⟩:=wd l wd0 rfl
  refine zA ?_
  refine⟨rfl,_,rfl,B8 (v:=false) (Bk (fun z=>by cases z)) (BZ ?_)⟩
  exact⟨t,_,0,_,rfl,rfl,A5.of ht,rfl,t,_,1,_,rfl,rfl,A5.of ht,rfl,⟨w0,w1⟩,q⟩
theorem TR (T:Tx K mg a):AS P w K mg base B9 1 a.f_A a.d_A ["way","less"] Z8:=by
 refine T.F_A.ok Yx (fun vs H Q E h=>?_) (fun cdv A outer s H vs Q E hr h=>?_)
 .obtain⟨_,_,rfl,_⟩:=h;rfl
 obtain⟨wy,b,rfl,q⟩:=h
 refine⟨_,(A8 (Bp (AU C3 (pw 0) C6 (AK _))
  (Aj (AM A1))
  BB)
  (Aj (AM (P6 (AU C3 (pw 1) (Em C3 (pw 0) C6 (AK _)) (AK _)) (Mf Lv A1) A1)))),?_⟩
 refine⟨rfl,_,rfl,?_⟩
 unfold Es at q
 by_cases c:wy="any"
 .refine B8 (v:=true) (Bw (congrArg V.str c)) (BY ?_)
  rw[Ap c]at q
  exact q
 refine B8 (v:=false) (Bk fun z=>c (V.str.inj z)) (BZ ?_)
 rw[Al c]at q
 have ev:decide (V.str wy=V.str "up")=decide (wy="up"):=by
  by_cases d:wy="up"
  .rw[Bw d,Bw (congrArg V.str d)]
  .rw[Bk d,Bk fun z=>d (V.str.inj z)]
 refine⟨rfl,rfl,_,rfl,?_⟩
 rw[ev]
 by_cases d:b=decide (wy="up")
 .refine B8 (v:=true) (Bw (congrArg V.bl d)) (BY ⟨_,rfl,?_⟩)
  rw[Ap d]at q
  exact q
 .refine B8 (v:=false) (Bk fun z=>d (V.bl.inj z)) (BZ ?_)
  rw[Al d]at q
  exact q
theorem WE (T:Tx K mg a):AS P w K mg base B9 13 a.f_z a.d_z ["program","plan","widths","one","other"] (ZY a.c_Program a.c_Deed (G9 a)):=by
 have G_y :=@VJ P w K mg base a T
 have G_v :=@Wf P w K mg base a T
 have G_o :=@U4 P w K mg base a T
 have G_k :=@Xe P w K mg base a T
 have G_A :=@TR P w K mg base a T
 have G_c :=@OH P w K mg base a T
 refine T.F_z.ok FX (fun vs H Q E h=>?_) (fun cdv A outer s H vs Q E hr h=>?_)
 .obtain⟨_,_,_,_,_,_,_,_,_,_,_,_,_,_,_,_,_,_,_,_,rfl,_⟩:=h;rfl
 obtain⟨v,x,y,p,wl,n,Ds,B,f,u,w',W,i,j,k,b,c,en,TT,U,rfl,hP,hG,pd,hwl,Wl,Wb,hB,hC,⟨t1,d1,rfl,ht1,hd1⟩,⟨t2,d2,rfl,ht2,hd2⟩,pb,pc,hen,hm,q⟩:=h
 refine⟨_,(A8 (Ah (i:=5) FX.nd rfl (.inl rfl) (AJ G_y (hr.mono (by lia)) (by rfl) T.m_y T.F_y.kp T.b_y .nil AF (A0 (pw 1) (A0 (AJ G_v (hr.mono (by lia)) (by rfl) T.m_v T.F_v.kp T.b_v .nil AF (A0 (pw 0) (A0 (pw 1) A3))) (A0 (pw 2) A3)))))
  (A8 (C8 PassesOwn.never rfl (CV (AJ G_o (hr.mono (by lia)) (by rfl) T.m_o T.F_o.kp T.b_o .nil AF (A0 (pw 1) (A0 (A6 Ae (pw 3) A1 (fun _ _=>rfl)) (A0 (A6 Ae (pw 4) A1 (fun _ _=>rfl)) A3))))) (Dg rfl (AN (Ax (i:=6) FX.nd rfl (.inl rfl)) (AN (Ax (i:=7) FX.nd rfl (.inl rfl)) (AN (Ax (i:=8) FX.nd rfl (.inl rfl)) (AN (Ax (i:=9) FX.nd rfl (.inl rfl)) (AN (Ax (i:=10) FX.nd rfl (.inl rfl)) CB))))))
  (A8 (Ah (i:=11) FX.nd rfl (.inl rfl) (AJ G_k (hr.mono (by lia)) (by rfl) T.m_k T.F_k.kp T.b_k .nil AF (A0 (A6 Ae (pw 3) A1 (fun _ _=>rfl)) (A0 (pw 9) (A0 (Q9 (ID hr) (pw 5) (pw 6) ⟨rfl,rfl,rfl,rfl⟩) A3)))))
  (A8 (Ah (i:=12) FX.nd rfl (.inl rfl) (AJ G_k (hr.mono (by lia)) (by rfl) T.m_k T.F_k.kp T.b_k .nil AF (A0 (A6 Ae (pw 4) A1 (fun _ _=>rfl)) (A0 (pw 10) (A0 (Q9 (ID hr) (pw 5) (pw 6) ⟨rfl,rfl,rfl,rfl⟩) A3)))))
  (Aj (Bp (AU IP (pw 11) (pw 12) (AK _))
  (Aj (AM (AJ G_A (hr.mono (by lia)) (by rfl) T.m_A T.F_A.kp T.b_A .nil AF (A0 (pw 8) (A0 (Em (Aq F4) (pw 11) (pw 12) (AK _)) A3)))))
  BB)))))
  (Aj (AM (P6 (AU (Yi (Nat.lt_of_succ_lt (ID hr))) (A6 Ae (AJ G_c (hr.mono (by lia)) (by rfl) T.m_c T.F_c.kp T.b_c .nil AF (A0 (pw 1) (A0 (A6 Ae (pw 3) A1 (fun _ _=>rfl)) A3))) A1 (fun _ _=>rfl)) (A6 Ae (AJ G_c (hr.mono (by lia)) (by rfl) T.m_c T.F_c.kp T.b_c .nil AF (A0 (pw 1) (A0 (A6 Ae (pw 4) A1 (fun _ _=>rfl)) A3))) A1 (fun _ _=>rfl)) (AK _)) (Mf Lv A1) A1))))),?_⟩
 refine Ak fun _ zA=>?_
 have hI:=hG.2.1
 have g:=hG.2.2
 have dep7:Cy f<=7:=GQ f _ 0 6 hI fun b hb=>by have:=g.len b hb;lia
 have dl:(Fo.deedsF f [] 0).length<=1000:=by rw[Fo.deeds_len [] 0 hI];have:=g.n6;lia
 obtain⟨ek,epl⟩:en.k=b.k/\en.pl=b.pl:=by
  obtain⟨en',h1,h2,h3⟩:=Hr hI hB
  rw[hen]at h1
  cases h1
  exact⟨h2,h3⟩
 obtain⟨en2,hen2,ek2,epl2⟩:=Hr hI hC
 refine zA ?_
 refine⟨v,p,n,Ds,B,f,u,w',rfl,hP,hG,pd,fun l ls H1 E' e1 hl al El hE=>?_⟩
 refine⟨p,l,wl,B,f,ls,E',W,rfl,hG.over e1,hl,al,El,e1 _ _ hwl,Wl,fun ru H2 e2 hru=>?_⟩
 have e02:=e1.trans e2
 dsimp only[Am]
 refine⟨t1,_,0,_,rfl,rfl,A5.of (e02 _ _ ht1),rfl,t2,_,0,_,rfl,rfl,A5.of (e02 _ _ ht2),rfl,p,B,f,i,j,k,b,c,en,rfl,hG.over e02,hB,hC,hen,hm,fun r ys H3 e3 hn hr3 ay sl=>?_⟩
 refine Ak fun _ zB=>?_
 obtain⟨sl1,sl2⟩:=sl
 have e03:=e02.trans e3
 obtain⟨kvs,hkv,kno,kyes⟩:=hru.over e3
 refine zB ?_
 have ht13:=e03 _ _ ht1
 have ht23:=e03 _ _ ht2
 have yl:=ay.1
 rw[Rq]at yl
 have bm:=AH hB
 have cm:=AH hC
 have pll:=g.pll b bm
 have plc:=g.pll c cm
 have rul:∀e,e<k->∃(v:V),(∃o,FI H3 ru (.ref o) (some v)/\False)\/True:=fun e he=>⟨.non,.inr True.intro⟩
 have look:∀(P:List Int) (pt:Addr),H3 pt=some (.tup (P.map V.int))->∃o:Option V,FI H3 ru (.ref pt) o/\Qv H3 (o.getD .non) (FQ (B1 f) E' W P)/\∀l w,FQ (B1 f) E' W P=some (l,w)->0<w/\w<18446744073709551616:=fun P pt hpt=>by
  have dg:FI H3 ru (.ref pt) (Ca kvs (pK P)):=.inr ⟨kvs,pK P,pt,hkv,rfl,by rw[Rm];exact hpt,rfl⟩
  unfold FQ
  by_cases cP:P∈B1 f
  .rw[Ap cP]
   have il:=bI cP
   have iP:(B1 f)[(B1 f).idxOf P]?=some P:=by rw[As il,List.getElem_idxOf]
   have iE:E'[(B1 f).idxOf P]?=some (E'.getD ((B1 f).idxOf P) (0,0)):=by rw[Bv,As (by lia)];rfl
   have iW:W[(B1 f).idxOf P]?=some (W.getD ((B1 f).idxOf P) 0):=by rw[Bv,As (by lia)];rfl
   obtain⟨t,h1,h2⟩:=kyes _ P _ _ iP iE iW
   rw[h1]at dg
   exact⟨_,dg,⟨t,rfl,h2⟩,fun l w h=>by cases h;exact Wb _ (AH iW)⟩
  .rw[Al cP]
   rw[kno P cP]at dg
   exact⟨_,dg,rfl,fun l w h=>by cases h⟩
 have lens:((List.range k).map (Df (B1 f) E' W b c en.path TT U)).length=k:=by rw[Au,Dx]
 have lget:∀e,e<k->((List.range k).map (Df (B1 f) E' W b c en.path TT U))[e]?=some (Df (B1 f) E' W b c en.path TT U e):=fun e he=>by rw[Bq,DP he];rfl
 refine⟨r,rfl,⟨_,A4.of hr3⟩,?_⟩
 refine FJ (xs:=ys) (fun e σ' H'=>H'=H3/\(∀m<e,(Df (B1 f) E' W b c en.path TT U m).2.1=(Df (B1 f) E' W b c en.path TT U m).2.2)/\∃o6 o7 o8 o9 o10 o11 o12,σ'=[some v,some (.ref p),some (.ref wl),some (.ref t1),some (.ref t2),some (.ref ru),o6,o7,o8,o9,o10,o11,o12]) ⟨rfl,(fun m hm=>absurd hm (J9 _)),_,_,_,_,_,_,_,rfl⟩ (fun e σ' H' _ pp=>by rw[pp.1];exact A4.of hr3) (fun e x σ' H' hx pp=>?_) (fun σ' H' pp=>?_)
 .obtain⟨rfl,same,o6,o7,o8,o9,o10,o11,o12,rfl⟩:=pp
  refine Ak fun _ zC=>?_
  have hek:e<k:=by rw[←yl];exact(Ay.mp hx).1
  obtain⟨rb,hrb,t,pt,ta,tb,rfl,ht,hta,htb,hpt⟩:=ay.get' hx
  refine zC ?_
  rw[YT hek]at hrb
  cases hrb
  refine Ak fun _ zD=>?_
  obtain⟨oo,dg,ra,rw0⟩:=look _ pt hpt
  refine zD ?_
  have hpe:b.pl[e]?=some (b.pl.getD e (0,0)):=by rw[Bv,As (by lia)];rfl
  have hqe:c.pl[e]?=some (c.pl.getD e (0,0)):=by rw[Bv,As (by lia)];rfl
  have p1:=pb _ (AH hpe)
  have p2:=pc _ (AH hqe)
  have hta:H' ta=some (.tup [.int (((b.pl.getD e (0,0)).1.toNat:Nat):Int),.int (b.pl.getD e (0,0)).2]):=by rw[hta,show(((b.pl.getD e (0,0)).1.toNat:Nat):Int)=(b.pl.getD e (0,0)).1 by lia]
  have htb:H' tb=some (.tup [.int (((c.pl.getD e (0,0)).1.toNat:Nat):Int),.int (c.pl.getD e (0,0)).2]):=by rw[htb,show(((c.pl.getD e (0,0)).1.toNat:Nat):Int)=(c.pl.getD e (0,0)).1 by lia]
  refine⟨t,_,rfl,A5.of ht,rfl,rfl,?_⟩
  refine⟨t1,_,1,_,rfl,rfl,A5.of ht13,rfl,ru,rfl,.inr ⟨_,hkv⟩,oo,dg,d1,ta,TT,_,_,_,_,rfl,e03 _ _ hd1,hta,by lia,ra,rw0,?_⟩
  dsimp only[Am]
  refine⟨t2,_,1,_,rfl,rfl,A5.of ht23,rfl,ru,rfl,.inr ⟨_,hkv⟩,oo,dg,d2,tb,U,_,_,_,_,rfl,e03 _ _ hd2,htb,by lia,ra,rw0,?_⟩
  dsimp only[Am]
  refine⟨rfl,_,rfl,?_⟩
  by_cases hd:(Df (B1 f) E' W b c en.path TT U e).2.1=(Df (B1 f) E' W b c en.path TT U e).2.2
  .refine B8 (Iv (congrArg V.int hd)) (BZ ?_)
   refine⟨rfl,fun m hm=>?_,_,_,_,_,_,_,_,rfl⟩
   rcases Da m e with z|z
   .exact same m z
   .have:m=e:=by lia
    rw[this];exact hd
  .refine B8 (K6 (fun z=>hd (V.int.inj z))) (BY ?_)
   refine⟨_,_,rfl,?_⟩
   have:=q _ E' e03 El hE
   rw[M5 (e:=e) (fun m hm w x y hl=>by rw[lget m (by lia)]at hl;have s:=same m hm;cases hl;exact s)]at this
   have dr:((List.range k).map (Df (B1 f) E' W b c en.path TT U)).drop e=Df (B1 f) E' W b c en.path TT U e::((List.range k).map (Df (B1 f) E' W b c en.path TT U)).drop (e+1):=by
    have h1:e<((List.range k).map (Df (B1 f) E' W b c en.path TT U)).length:=by rw[lens];exact hek
    rw[GG h1]
    have h2:=lget e hek
    rw[As h1]at h2
    rw[Ck h2]
   rw[dr]at this
   have st:∀(t:Str×Int×Int) (l:List (Str×Int×Int)) (bb:Bool),t.2.1≠t.2.2->De (t::l) bb=Es t.1 (decide (t.2.1<t.2.2)):=fun t l bb h=>Al h
   rw[st _ _ _ hd]at this
   exact this
 .obtain⟨rfl,same,o6,o7,o8,o9,o10,o11,o12,rfl⟩:=pp
  rw[yl]at same
  refine ixT ht13 rfl ⟨p,_,f,i,en,rfl,(hG.over e03).1,dep7,dl,hen,ek,Lf hI g.nd hB,fun r1 pt1 pl1 H4 e4 hr4 hpt4 hpl4=>?_⟩
  refine⟨r1,_,0,_,rfl,rfl,A5.of hr4,rfl,?_⟩
  refine ixT (e4 _ _ ht23) rfl ⟨p,_,f,j,en2,rfl,((hG.over e03).over e4).1,dep7,dl,hen2,ek2,Lf hI g.nd hC,fun r2 pt2 pl2 H5 e5 hr5 hpt5 hpl5=>?_⟩
  refine⟨r2,_,0,_,rfl,rfl,A5.of hr5,rfl,?_⟩
  refine⟨pt1,pt2,en.path,en2.path,rfl,rfl,A5.of (e5 _ _ hpt4),A5.of hpt5,_,rfl,?_⟩
  have:=q _ E' (e03.trans (e4.trans e5)) El hE
  rw[M5 (e:=k) (fun m hm w x y hl=>by rw[lget m hm]at hl;have s:=same m hm;cases hl;exact s),S2 (by rw[lens];exact Af _)]at this
  rw[aW hI hen hen2 hm]
  by_cases cc:i<j
  .rw[Bw cc]at this ⊢;exact BY ⟨_,rfl,this⟩
  .rw[Bk cc]at this ⊢;exact BZ this
theorem IL (T:Tx K mg a):AS P w K mg base B9 1 a.f_a a.d_a ["_law_script","_law_k"] (Ui K):=by
 refine T.F_a.ok Ku (fun vs H Q E h=>?_) (fun cdv A outer s H vs Q E hr h=>?_)
 .obtain⟨_,_,_,rfl,_⟩:=h;rfl
 obtain⟨p,ns,k,rfl,hS,h0,h1,q⟩:=h
 refine⟨_,(A8 (Ah (i:=2) Ku.nd rfl (.inl rfl) (Ab (Aq AL) (Ab (oJ Cp) A1 (pw 1)) A1))
  (A8 (Bp (AU (Aq F4) (pw 1) (Bf BI (by rfl) T.z_len BJ (A0 (pw 0) A3)) (AK _))
  (Aj (Ah (i:=2) Ku.nd rfl (.inl rfl) (Ab (Aq AL) (pw 2) (A6 AO (pw 0) (pw 1) (fun _ _=>rfl)))))
  (Aj (Bp (AU (Aq FZ) (Bf BI (by rfl) T.z_len BJ (A0 (pw 0) A3)) A1 (AK _))
  (Aj (Ah (i:=2) Ku.nd rfl (.inl rfl) (Ab (Aq AL) (Ab (oJ Cp) A1 (pw 2)) (A6 AO (pw 0) (Ab (oJ C5) (Ab (oJ Cp) (pw 1) A1) (Bf BI (by rfl) T.z_len BJ (A0 (pw 0) A3))) (fun _ _=>rfl)))))
  BB)))
  (A8 (Ah (i:=2) Ku.nd rfl (.inl rfl) (Ab (oJ C5) (Ab (oJ Cp) (pw 2) A1) A1))
  (Aj (AM (Ab (oJ C5) (Ab (oJ Cp) (pw 2) (pw 2)) A1)))))),?_⟩
 have hl:(ns.map V.int).length=ns.length:=Au _
 have p64:(2:Int) ^ 64=18446744073709551616:=by decide
 refine⟨.inl ⟨by decide,by decide⟩,?_⟩
 dsimp only[Am,Nn,Ei]
 refine EY (fun σ' H'=>H'=H/\∃n:Int,σ'=[some (.ref p),some (.int k),some (.int n)]) (fun σ' H' m=>?_) (fun _ nx=>?_)
 .obtain⟨rfl,n,rfl⟩:=m
  have b0:=Dr (n*48271) (show(2147483647:Int)≠0 by decide)
  have b1:=Dt (n*48271) (show(0:Int)<2147483647 by decide)
  refine⟨.inr ⟨by decide,by decide⟩,(by show(0:Int)<2147483647;decide),?_⟩
  exact⟨.inl ⟨by lia,by lia⟩,(by show(0:Int)<2147483629;decide),q _ (Dr _ (by decide)) (Dt _ (by decide))⟩
 refine⟨p,_,rfl,.inl hS,_,rfl,?_⟩
 refine BV (fun c=>?_) (fun c=>?_)
 .have c':=dT c
  rw[hl]at c'
  exact⟨p,_,_,_,rfl,rfl,hS,Ho h0 c',nx _ _ ⟨rfl,_,rfl⟩⟩
 refine⟨p,_,rfl,.inl hS,_,rfl,?_⟩
 refine BV (fun c2=>?_) (fun c2=>nx _ _ ⟨rfl,_,rfl⟩)
 have c2:=dT c2
 have m0:=Dr (k*7) (show((ns.map V.int).length:Int)≠0 by lia)
 have m1:=Dt (k*7) c2
 exact⟨.inl ⟨by decide,by decide⟩,.inr ⟨by decide,by decide⟩,p,_,rfl,.inl hS,c2,p,_,_,_,rfl,rfl,hS,Ho m0 (by rw[hl]at m1 ⊢;exact m1),nx _ _ ⟨rfl,_,rfl⟩⟩
theorem L5 (T:Tx K mg a):AS P w K mg base B9 1 a.f_b a.d_b ["_law_cell","_law_sizes"] T5:=by
 refine T.F_b.ok Mz (fun vs H Q E h=>?_) (fun cdv A outer s H vs Q E hr h=>?_)
 .obtain⟨_,_,_,rfl,_⟩:=h;rfl
 obtain⟨c,l,ms,rfl,hl,c0,ml,mb,q⟩:=h
 refine⟨_,(A8 (Ah (i:=2) Mz.nd rfl (.inl rfl) (Bs A3))
  (A8 (C8 PassesOwn.never rfl (CV (pw 1)) (Ax (i:=3) Mz.nd rfl (.inl rfl))
  (A8 (Cr (Cw CA Dy Dz D9 (pw 2) (A0 (Ab (oJ C5) (pw 0) (pw 3)) A3)))
  (Aj (Ah (i:=0) Mz.nd rfl (.inl rfl) (Ab (oJ Gc) (pw 0) (pw 3))))))
  (Aj (AM (pw 2))))),?_⟩
 refine⟨An rfl,fun r hr'=>?_⟩
 have s1:=Ac hr' (.lst [])
 refine⟨l,rfl,⟨_,A4.of (s1 _ _ hl)⟩,?_⟩
 refine FJ (xs:=ms.map V.int) (fun i σ' H'=>Aa H H'/\∃(x:Int) (ds:List Int) (o3:Option V),σ'=[some (.int x),some (.ref l),some (.ref r),o3]/\0<=x/\H' r=some (.lst (ds.map V.int))/\ds.length=i/\∀(j:Nat) (d m:Int),ds[j]?=some d->ms[j]?=some m->0<=d/\d<m) ⟨s1,c,[],_,rfl,c0,A7,rfl,fun j d m hd=>by simp at hd⟩ (fun i σ' H' _ p=>A4.of (p.1 _ _ hl)) (fun i x σ' H' hx p=>?_) (fun σ' H' p=>?_)
 .obtain⟨e,x0,ds,o3,rfl,x0n,hr2,dl,db⟩:=p
  rw[Bq]at hx
  cases hm:ms[i]? with
  |none=>rw[hm]at hx;cases hx
  |
   some m=>
   rw[hm]at hx
   cases hx
   obtain⟨m0,m1⟩:=mb m (AH hm)
   have hi:=(Ay.mp hm).1
   refine⟨.inl ⟨rfl,_,A4.of hr2⟩,m0,r,_,_,rfl,rfl,hr2,CT (by rw[Au];lia),?_⟩
   refine⟨⟨m0,m1⟩,?_⟩
   refine⟨fun b o eb=>by rw[Ai (AQ eb hr')];exact e _ _ eb,x0/m,ds++[x0%m],_,rfl,Int.ediv_nonneg x0n (Int.le_of_lt m0),by rw[A7,BA];rfl,by rw[AB,dl];rfl,fun j d m' hd hm'=>?_⟩
   by_cases cj:j<ds.length
   .rw[BR cj]at hd
    exact db j d m' hd hm'
   .have ej:j=ds.length:=by
     have:=(Ay.mp hd).1
     rw[AB,B4]at this
     lia
    subst ej
    rw[Bz (Af _),Cn]at hd
    cases hd
    rw[dl,hm]at hm'
    cases hm'
    exact⟨Dr _ (by lia),Dt _ m0⟩
 .obtain⟨e,x0,ds,o3,rfl,x0n,hr2,dl,db⟩:=p
  rw[Au]at dl
  exact q r _ ds e hr2 dl db
theorem Sz (T:Tx K mg a):AS P w K mg base B9 1 a.f_B a.d_B ["_law_cell"] VN:=by
 refine T.F_B.ok Wp (fun vs H Q E h=>?_) (fun cdv A outer s H vs Q E hr h=>?_)
 .obtain⟨_,rfl,_⟩:=h;rfl
 obtain⟨m,rfl,m0,q⟩:=h
 refine⟨_,(@Aj _ _ _ (@AM _ _ _ _ (@A6 _ _ _ _ _ _ _ AO (@IE _ _ _ _ (@Ar _ _ _ _ _ A1 (@Ar _ _ _ _ _ A1 (@Ar _ _ _ _ _ A1 (@Ar _ _ _ _ _ A1 (@Ar _ _ _ _ _ A1 (@Ar _ _ _ _ _ A1 (@Ar _ _ _ _ _ A1 (@Ar _ _ _ _ _ (@Ab _ _ _ _ _ _ _ _ (Aq AL) A1 (@Ab _ _ _ _ _ _ _ _ (oJ C5) (@Ab _ _ _ _ _ _ _ _ (oJ Gc) (pw 0) A1) A1)) Cj FN) BM) BM) BM) BM) BM) BM) BM)) (@Ab _ _ _ _ _ _ _ _ (oJ C5) (pw 0) A1) (fun _ _=>rfl)))),?_⟩
 refine⟨⟨by decide,by decide⟩,(by show(0:Int)<3;decide),An rfl,fun l hl=>?_⟩
 refine Ak fun _ zA=>?_
 have k0:=Dr (m/8) (show(3:Int)≠0 by decide)
 have k1:=Dt (m/8) (show(0:Int)<3 by decide)
 obtain⟨z,hz,ez⟩:=RF (L:=[1,2,3,2,3,1,2,4+m/8%3]) (i:=m%8) 8 rfl (Dr _ (by decide)) (Dt _ (by decide))
 refine zA ?_
 simp only[AZ,Dv,or_false]at hz
 obtain⟨n,rfl⟩:∃n:Nat,z=(n:Int):=⟨z.toNat,by lia⟩
 refine⟨(by show(0:Int)<8;decide),ixL A7 ez (q n _ (Ac hl _) (by lia) (by lia))⟩
theorem WR (T:Tx K mg a):AS P w K mg base B9 2 a.f_C a.d_C ["_law_cell","_law_loops"] Wc:=by
 have G_b :=@L5 P w K mg base a T
 refine T.F_C.ok Cu (fun vs H Q E h=>?_) (fun cdv A outer s H vs Q E hr h=>?_)
 .obtain⟨_,_,_,rfl,_⟩:=h;rfl
 obtain⟨cell,ll,L,rfl,c0,hL,okL,l2,q⟩:=h
 refine⟨_,(A8 (ES (AJ G_b (hr.mono (by lia)) (by rfl) T.m_b T.F_b.kp T.b_b .nil AF (A0 (pw 0) (A0 (IE (Ar A1 (Ar A1 (Ar A1 (Ar A1 (Ar A1 (Ar A1 (Ar A1 Cj BM) BM) BM) BM) BM) BM) BM)) A3))) (LI rfl (AN (Ax (i:=2) Cu.nd rfl (.inl rfl)) (AN (Ax (i:=3) Cu.nd rfl (.inl rfl)) (AN (Ax (i:=4) Cu.nd rfl (.inl rfl)) (AN (Ax (i:=5) Cu.nd rfl (.inl rfl)) (AN (Ax (i:=6) Cu.nd rfl (.inl rfl)) (AN (Ax (i:=7) Cu.nd rfl (.inl rfl)) (AN (Ax (i:=8) Cu.nd rfl (.inl rfl)) CB)))))))))
  (A8 (Ah (i:=9) Cu.nd rfl (.inl rfl) C6)
  (A8 (Ah (i:=10) Cu.nd rfl (.inl rfl) (Ab Rc (A6 RD (pw 9) (pw 7) (fun _ _=>rfl)) (Ab YQ (A6 RD (pw 9) (Ab (oJ C5) (pw 8) A1) (fun _ _=>rfl)) (Ab (oJ Gc) (pw 8) A1))))
  (A8 (Gn PassesOwn.never (AU Xd (pw 10) (Et ["_law_loop_here"] [none] (by rfl) (CV (pw 1)) UQ (fun _ _ _ _ _ _=>⟨(Ax (i:=0) Yt rfl (.inl rfl)),EE,(A6 (show D4 _ (DT K) from Ae) (pw 0) A1 (fun _ _=>rfl))⟩)) (by with_unfolding_all rfl))
  (Aj (Ah (i:=10) Cu.nd rfl (.inl rfl) (Ab Rc (pw 10) C6))))
  (A8 (Ah (i:=11) Cu.nd rfl (.inl rfl) (Ab (Aq Ci) (pw 3) A1))
  (A8 (Bp (AU (JK (FE hr)) (pw 1) (Bs A3) (AK _))
  (A8 (Ah (i:=12) Cu.nd rfl (.inl rfl) (Ab (Aq Ci) (Ab (Aq AL) (pw 11) (A6 AO (IE (Ar A1 (Ar A1 (Ar A1 Cj BM) BM) BM)) (pw 4) (fun _ _=>rfl))) (Ab (oJ Cp) A1 (Do Gb (by rfl) T.z_int G8 (A0 (Em C3 (pw 5) A1 (AK _)) A3)))))
  (Aj (AM (CO (Ar (pw 10) (Ar (Bb (A0 C6 (A0 (pw 11) A3))) (Ar (Bb (A0 C6 (A0 (pw 12) A3))) (Ar (pw 11) (Ar (pw 12) Cj Cb) Cb) Ez) Ez) Cb)))))
  BB)
  (A8 (ES (A6 AO (pw 1) (Ab (oJ C5) (pw 6) (Bf BI (by rfl) T.z_len BJ (A0 (pw 1) A3))) (fun _ _=>rfl)) (Dg rfl (AN (Ax (i:=13) Cu.nd rfl (.inl rfl)) (AN (Ax (i:=14) Cu.nd rfl (.inl rfl)) (AN (Ax (i:=12) Cu.nd rfl (.inl rfl)) (AN (Ax (i:=15) Cu.nd rfl (.inl rfl)) (AN (Ax (i:=16) Cu.nd rfl (.inl rfl)) CB)))))))
  (A8 (Bp (AU C3 (pw 2) A1 (AK _))
  (A8 (Ah (i:=12) Cu.nd rfl (.inl rfl) (Ab (Aq Ci) (Ab (Aq AL) (pw 11) (Ab (oJ C5) (pw 4) A1)) (Ab (oJ Cp) A1 (Do Gb (by rfl) T.z_int G8 (A0 (Em C3 (pw 5) A1 (AK _)) A3)))))
  (Aj (AM (CO (Ar (pw 10) (Ar (Bb (A0 C6 (A0 (pw 11) A3))) (Ar (Bb (A0 C6 (A0 (pw 12) A3))) (Ar (pw 11) (Ar (pw 12) Cj Cb) Cb) Ez) Ez) Cb)))))
  BB)
  (A8 (Bp (AU C3 (pw 2) A1 (AK _))
  (A8 (Ah (i:=8) Cu.nd rfl (.inl rfl) (Ab (Aq Ci) (Do Gb (by rfl) T.z_int G8 (A0 (Z6 (Em (Aq FZ) (pw 4) A1 (AK _)) (Sy (Em (Aq F4) (Ab (Aq Ci) (pw 16) (pw 15)) A1 (AK _)))) A3)) (Ab (oJ Cp) A1 (Do Gb (by rfl) T.z_int G8 (A0 (Em C3 (pw 5) A1 (AK _)) A3)))))
  (Aj (AM (CO (Ar (pw 10) (Ar (Bb (A0 (pw 13) (A0 (pw 11) A3))) (Ar (Bb (A0 (pw 13) (A0 (Ab (Aq AL) (pw 11) (pw 8)) A3))) (Ar (Ab (Aq AL) (pw 15) (pw 11)) (Ar (Ab (Aq AL) (Ab (Aq AL) (pw 16) (pw 11)) (pw 8)) Cj FN) FN) Ez) Ez) Cb)))))
  BB)
  (A8 (Bp (AU C3 (pw 2) A1 (AK _))
  (A8 (Ah (i:=12) Cu.nd rfl (.inl rfl) (Ab (Aq Ci) (Ab (Aq AL) (pw 16) (pw 11)) (Do Gb (by rfl) T.z_int G8 (A0 (Em C3 (Ab (oJ C5) (pw 5) A1) A1 (AK _)) A3))))
  (Aj (AM (CO (Ar (pw 10) (Ar (Bb (A0 (pw 13) (A0 (pw 11) A3))) (Ar (Bb (A0 C6 (A0 (pw 12) A3))) (Ar (Ab (Aq AL) (pw 15) (pw 11)) (Ar (pw 12) Cj Cb) FN) Ez) Ez) Cb)))))
  BB)
  (A8 (Bp (AU C3 (pw 2) A1 (AK _))
  (Aj (AM (CO (Ar (pw 10) (Ar (Bb (A0 C6 (A0 (Ab (Aq AL) (pw 15) (pw 11)) A3))) (Ar (Bb (A0 (pw 13) (A0 (pw 11) A3))) (Ar (Ab (Aq AL) (pw 15) (pw 11)) (Ar (Ab (Aq AL) (pw 16) (pw 11)) Cj FN) FN) Ez) Ez) Cb))))
  BB)
  (A8 (Ah (i:=17) Cu.nd rfl (.inl rfl) (A6 AO (pw 1) (Ab (oJ C5) (Ab (Aq AL) (pw 6) A1) (Bf BI (by rfl) T.z_len BJ (A0 (pw 1) A3))) (fun _ _=>rfl)))
  (A8 (Ah (i:=12) Cu.nd rfl (.inl rfl) (Ab (Aq AL) (Ab (Aq AL) (Ab (Aq AL) (pw 15) (pw 11)) A1) (pw 4)))
  (Aj (AM (CO (Ar (pw 10) (Ar (Bb (A0 (pw 13) (A0 (pw 11) A3))) (Ar (Bb (A0 (A6 Ae (pw 17) A1 (fun _ _=>rfl)) (A0 (Ab (Aq Ci) (pw 12) (A6 Ae (pw 17) A1 (fun _ _=>rfl))) A3))) (Ar (Ab (Aq AL) (pw 15) (pw 11)) (Ar (pw 12) Cj Cb) FN) Ez) Ez) Cb))))))))))))))))),?_⟩
 refine⟨An rfl,fun d1 hd1=>?_⟩
 have s1:=Ac hd1 (.lst [V.int 5,V.int 5,V.int 3,V.int 12,V.int 3,V.int 26,V.int 40])
 refine⟨cell,d1,[5,5,3,12,3,26,40],rfl,A7,c0,by decide,by decide,fun r1 H1 ds e1 hr1 dl db=>?_⟩
 refine Ak fun _ zA=>?_
 obtain⟨x0,x1,x2,x3,x4,x5,x6,rfl⟩:=XF dl
 refine zA ?_
 have b0:=db 0 x0 5 rfl rfl
 have b1:=db 1 x1 5 rfl rfl
 have b2:=db 2 x2 3 rfl rfl
 have b3:=db 3 x3 12 rfl rfl
 have b4:=db 4 x4 3 rfl rfl
 have b5:=db 5 x5 26 rfl rfl
 have b6:=db 6 x6 40 rfl rfl
 clear db dl
 refine⟨r1,_,rfl,hr1,rfl,rfl,?_⟩
 dsimp only[Am]
 have eH1:=s1.trans e1
 clear s1 e1 hr1 hd1
 have at5:B5 (F6 FS) x5=some (IJ x5):=by
  have:=QJ x5
  rwa [show x5%26=x5 by lia]at this
 refine⟨FS,_,_,rfl,rfl,ON,at5,(by show(0:Int)<26;decide),FS,_,_,rfl,rfl,ON,QJ x6,⟨by decide,by decide⟩,_,_,rfl,rfl,by lia,by lia,by rw[NO];decide,_,_,rfl,rfl,Bu (by rw[NO,Q0];lia),?_⟩
 have z0l:((⟨#[IJ x5]⟩:Str)++Txt.mul ⟨#[IJ x6]⟩ (x6/26)).length<=2:=by rw[Oe,NO,Q0];lia
 generalize (⟨#[IJ x5]⟩:Str)++Txt.mul ⟨#[IJ x6]⟩ (x6/26)=z0 at z0l
 refine Ak fun _ zB=>?_
 obtain⟨xs,hll0,ax0⟩:=hL
 refine zB ?_
 have xl:=ax0.1
 have eq1:("q":Str).length=1:=by decide +kernel
 dsimp only[Am]
 refine E8 (fun σ' H'=>Aa H H'/\∃nm:Str,σ'=[some (.int cell),some (.ref ll),some (.int x0),some (.int x1),some (.int x2),some (.int x3),some (.int x4),some (.int x5),some (.int x6),some (.str FS),some (.str nm),none,none,none,none,none,none,none]/\nm.length<=10) (fun σ' H2 pp=>?_) (fun nx=>?_)
 rotate_left
 .refine Gf L.length (fun i σ' H'=>Aa H H'/\σ'=[some (.int cell),some (.ref ll),some (.int x0),some (.int x1),some (.int x2),some (.int x3),some (.int x4),some (.int x5),some (.int x6),some (.str FS),some (.str (F9 z0 i)),none,none,none,none,none,none,none]/\∀j<i,F9 z0 j∈L.map (·.nm)) ⟨eH1,rfl,fun j hj=>absurd hj (J9 _)⟩ (fun i σ' H' hi pp=>?_) (MT.test (ME.op (MR.isIn _ _) (ME.vr _) (ME.comp fun σ H R R' h z=>Ga (fun v ⟨a,r,s,k⟩=>⟨a,r,s,h _ _ k⟩) z)))
  refine Ak fun _ zC=>?_
  obtain⟨e,rfl,hj⟩:=pp
  refine zC ?_
  have gl:=Mh z0 i
  refine⟨ll,rfl,⟨_,A4.of (e _ _ hll0)⟩,?_⟩
  refine FM (xs:=xs) (fun k ys H2=>H2=H'/\ys=((L.take k).map (·.nm)).map V.str) ⟨rfl,rfl⟩ (Bu (by lia)) (fun k ys H2 hk pp=>⟨by rw[pp.1];exact A4.of (e _ _ hll0),by rw[pp.2,Au,Au,AY];lia⟩) (fun k x ys H2 hx pp=>?_) (fun ys H2 pp p hp=>?_)
  .obtain⟨rfl,rfl⟩:=pp
   refine Ak fun _ zD=>?_
   obtain⟨qq,hq,t,ta,tb,rfl,ht,_,_⟩:=ax0.get' hx
   refine zD ?_
   refine⟨t,_,0,_,rfl,rfl,A5.of (e _ _ ht),rfl,rfl,?_⟩
   rw[DI hq,BA,BA]
   rfl
  obtain⟨rfl,rfl⟩:=pp
  rw[Du (by lia)]
  have s2:=Ac hp (.lst ((L.map (·.nm)).map V.str))
  refine⟨p,_,rfl,.inl (A4.of A7),rfl,?_,_,rfl,?_⟩
  .rw[RN]
   intro y hy
   refine Ak fun _ zE=>?_
   obtain⟨n,_,rfl⟩:=Co.mp hy
   refine zE ?_
   rfl
  refine BV (fun c=>?_) (fun c=>?_)
  .have c:F9 z0 i∈L.map (·.nm):=(ZR _ _).mp c
   have hj':∀j<i+1,F9 z0 j∈L.map (·.nm):=fun j hj2=>by
    rcases Da j i with z|z
    .exact hj j z
    .rw[show j=i by lia];exact c
   have few:=V7 hj'
   rw[Au]at few
   exact⟨by lia,_,_,rfl,rfl,Bu (by rw[gl,eq1];lia),e.trans s2,rfl,hj'⟩
  .exact nx _ _ ⟨e.trans s2,F9 z0 i,rfl,by lia⟩
 refine Ak fun _ zF=>?_
 obtain⟨e,nm,rfl,nl⟩:=pp
 refine zF ?_
 refine Me (fun _ h=>h) ?_
 have e0l:("":Str).length<=10:=by decide +kernel
 have i01:∀b:Bool,(if b then(1:Int) else 0)=0\/(if b then(1:Int) else 0)=1:=fun b=>by cases b<;>decide
 refine⟨An rfl,fun z hz=>?_⟩
 have s3:=Ac hz (.lst [])
 have e3:=e.trans s3
 have hll3:=e3 _ _ hll0
 have ax3:=ax0.mono fun _ _ y=>y.over e3
 have dq:=QE L
 refine⟨.lst (L.map qT),.lst [],O5 hll3 ax3,.lst (A4.of A7) .nil,⟨_,rfl⟩,⟨_,rfl⟩,by rw[Cf];exact Oj L [],by rw[Ct];lia,_,rfl,?_⟩
 generalize upd H2 z (.lst [])=H3 at s3 e3 hll3 ax3
 cases L with
 |
  nil=>
  refine B8 (v:=true) rfl (BY ?_)
  refine Ak fun _ zG=>?_
  obtain⟨y,hy,ey⟩:=RF (L:=[1,2,0]) (i:=x2) 3 rfl b2.1 b2.2
  refine zG ?_
  have hy:y=1\/y=2\/y=0:=by simpa using hy
  refine⟨An rfl,fun l hl=>⟨l,_,_,_,rfl,rfl,A4.of A7,ey,rfl,.inr ⟨_,rfl,.inl ⟨by decide,by decide⟩,?_⟩⟩⟩
  have s4:=Ac hl (.lst [V.int 1,V.int 2,V.int 0])
  have e4:=e3.trans s4
  dsimp only[Am]
  have k1:=i01 (decide (V.int x3=V.int 5))
  generalize (if decide (V.int x3=V.int 5)=true then(1:Int) else 0)=u at k1
  refine⟨An rfl,fun ta hta=>⟨An rfl,fun tb htb=>⟨An rfl,fun r hr=>?_⟩⟩⟩
  have m:=D0.made (nm:=nm) (f:=x1-2) (l:=x1-2+y-3*u) hta htb hr
  exact q r _ _ (e4.trans m.1) m.2 ⟨HL (PC (u:=3*u) b1 (by rcases hy with rfl|rfl|rfl<;>decide) (by rcases k1 with rfl|rfl<;>decide)) nl e0l e0l,.inl rfl,.inl rfl,by show -(5+20*(0:Int))<=x1-2/\x1-2<=5+20*(0:Int);lia,by show -(5+20*(0:Int))<=x1-2+y-3*u/\x1-2+y-3*u<=5+20*(0:Int);lia⟩
 |
  cons q0 L'=>
  refine B8 (v:=false) rfl (BZ ?_)
  generalize hLL:q0::L'=L at *
  have Lp:0<L.length:=by rw[←hLL];exact Nat.succ_pos _
  clear hLL
  refine Ak fun _ zH=>?_
  have pick:∀x:Int,∃(io:Nat) (qo:Lq) (t ta tb:Addr),L[io]?=some qo/\B5 xs (x%(xs.length:Int))=some (.ref t)/\H3 t=some (.tup [.str qo.nm,.ref ta,.ref tb,.int qo.fi,.int qo.la])/\io<L.length:=fun x=>by
   have m0:=Dr x (show(xs.length:Int)≠0 by lia)
   have m1:=Dt x (show(0:Int)<(xs.length:Int) by lia)
   obtain⟨io,hio⟩:∃io:Nat,x%(xs.length:Int)=(io:Int):=⟨(x%(xs.length:Int)).toNat,by lia⟩
   have hil:io<L.length:=by lia
   have hq:L[io]?=some L[io]:=As hil
   obtain⟨y,hy,t,ta,tb,rfl,ht,_,_⟩:=ax3.get hq
   exact⟨io,L[io],t,ta,tb,hq,by rw[hio];exact Br hy,ht,hil⟩
  obtain⟨io,qo,t,ta,tb,hqo,ato,ht,hio⟩:=pick x4
  refine zH ?_
  have ok:=okL io qo hqo
  have mqo:=AH hqo
  have okf:=ok.f
  have oka:=ok.a
  have okn:=ok.n
  have pos:(0:Int)<(xs.length:Int):=by lia
  refine⟨ll,_,rfl,.inl (A4.of hll3),pos,ixL hll3 ato ⟨t,_,rfl,A5.of ht,rfl,rfl,?_⟩⟩
  dsimp only[Am]
  have k1:=i01 (decide (V.int x3=V.int 5))
  refine⟨rfl,_,rfl,BV (fun _=>?_) (fun _=>?_)⟩
  .refine⟨(by show(0:Int)<2;decide),rfl,.inr ⟨_,rfl,.inl ⟨by decide,by decide⟩,?_⟩⟩
   dsimp only[Am]
   generalize (if decide (V.int x3=V.int 5)=true then(1:Int) else 0)=u at k1
   have m2:0<=x2%2/\x2%2<2:=⟨by lia,by lia⟩
   generalize x2%2=y at m2
   refine⟨An rfl,fun ta hta=>⟨An rfl,fun tb htb=>⟨An rfl,fun r hr=>?_⟩⟩⟩
   have m:=D0.made (nm:=nm) (f:=x1-2) (l:=x1-2+y-2*u) hta htb hr
   exact q r _ _ (e3.trans m.1) m.2 ⟨HL (PC (u:=2*u) b1 ⟨m2.1,Int.le_of_lt m2.2⟩ (by rcases k1 with rfl|rfl<;>decide)) nl e0l e0l,.inl rfl,.inl rfl,by show -(5+20*(L.length:Int))<=x1-2/\x1-2<=5+20*(L.length:Int);lia,by show -(5+20*(L.length:Int))<=x1-2+y-2*u/\x1-2+y-2*u<=5+20*(L.length:Int);lia⟩
  refine⟨rfl,_,rfl,BV (fun _=>?_) (fun _=>?_)⟩
  .refine E8 (fun σ' H'=>H'=H3/\∃u:Int,(-2<=u/\u<=1)/\σ'=[some (.int cell),some (.ref ll),some (.int x0),some (.int x1),some (.int x2),some (.int x3),some (.int x4),some (.int x5),some (.int u),some (.str FS),some (.str nm),some (.int (x1-2)),some (.ref tb),some (.str qo.nm),some (.ref ta),some (.int qo.fi),some (.int qo.la),none]) (fun σ' H' pp=>?_) (fun nx2=>?_)
   rotate_left
   .generalize hu:(if decide (V.int x3=V.int 5)=true then(1:Int) else 0)=u at k1
    refine⟨_,rfl,BV (fun _=>?_) (fun c=>?_)⟩
    .have k2:=i01 (decide (qo.la-qo.fi<3))
     refine .inr ⟨_,rfl,rfl,.inr ⟨_,rfl,.inl ⟨by decide,by decide⟩,nx2 _ _ ⟨rfl,_,⟨?_,?_⟩,rfl⟩⟩⟩
     .show -2<=(if decide (qo.la-qo.fi<3)=true then(1:Int) else 0)-2*(if decide (V.int x3=V.int 5)=true then(1:Int) else 0)
      rw[hu]
      lia
     .show(if decide (qo.la-qo.fi<3)=true then(1:Int) else 0)-2*(if decide (V.int x3=V.int 5)=true then(1:Int) else 0)<=1
      rw[hu]
      lia
    .have k2:((if false=true then(1:Int) else 0))=0:=rfl
     refine .inr ⟨_,rfl,rfl,.inr ⟨_,rfl,.inl ⟨by decide,by decide⟩,nx2 _ _ ⟨rfl,_,⟨?_,?_⟩,rfl⟩⟩⟩
     .show -2<=(if false=true then(1:Int) else 0)-2*(if decide (V.int x3=V.int 5)=true then(1:Int) else 0)
      rw[hu]
      lia
     .show(if false=true then(1:Int) else 0)-2*(if decide (V.int x3=V.int 5)=true then(1:Int) else 0)<=1
      rw[hu]
      lia
   refine Ak fun _ zI=>?_
   obtain⟨rfl,u,hu,rfl⟩:=pp
   refine zI ?_
   refine⟨An rfl,fun a1 ha1=>⟨An rfl,fun a2 ha2=>⟨An rfl,fun r hr=>?_⟩⟩⟩
   have m:=D0.made (nm:=nm) (f:=qo.fi+(x1-2)) (l:=qo.la+(x1-2)+u) ha1 ha2 hr
   exact q r _ _ (e3.trans m.1) m.2 ⟨HL (Up b1 hu hio l2 okf oka) nl okn okn,.inr ⟨qo,mqo,rfl⟩,.inr ⟨qo,mqo,rfl⟩,by show -(5+20*(L.length:Int))<=x1-2/\x1-2<=5+20*(L.length:Int);lia,by show -(5+20*(L.length:Int))<=x1-2+u/\x1-2+u<=5+20*(L.length:Int);lia⟩
  refine⟨rfl,_,rfl,BV (fun _=>?_) (fun _=>?_)⟩
  .have k2:=i01 (decide (V.int (x3%3)=V.int 1))
   refine⟨(by show(0:Int)<3;decide),rfl,.inr ⟨_,rfl,?_⟩⟩
   dsimp only[Am]
   generalize (if decide (V.int (x3%3)=V.int 1)=true then(1:Int) else 0)=u at k2
   refine⟨An rfl,fun a1 ha1=>⟨An rfl,fun a2 ha2=>⟨An rfl,fun r hr=>?_⟩⟩⟩
   have m:=D0.made (nm:=nm) (f:=qo.fi+(x1-2)) (l:=qo.la+(x1-2)-u) ha1 ha2 hr
   exact q r _ _ (e3.trans m.1) m.2 ⟨HL (Wh b1 k2 hio l2 okf oka) nl okn e0l,.inr ⟨qo,mqo,rfl⟩,.inl rfl,by show -(5+20*(L.length:Int))<=x1-2/\x1-2<=5+20*(L.length:Int);lia,by show -(5+20*(L.length:Int))<=qo.la+(x1-2)-u/\qo.la+(x1-2)-u<=5+20*(L.length:Int);lia⟩
  refine⟨rfl,_,rfl,BV (fun _=>?_) (fun _=>?_)⟩
  .refine⟨An rfl,fun a1 ha1=>⟨An rfl,fun a2 ha2=>⟨An rfl,fun r hr=>?_⟩⟩⟩
   have m:=D0.made (nm:=nm) (f:=qo.fi+(x1-2)) (l:=qo.la+(x1-2)) ha1 ha2 hr
   exact q r _ _ (e3.trans m.1) m.2 ⟨HL (Wu b1 hio l2 okf oka) nl e0l okn,.inl rfl,.inr ⟨qo,mqo,rfl⟩,by show -(5+20*(L.length:Int))<=qo.fi+(x1-2)/\qo.fi+(x1-2)<=5+20*(L.length:Int);lia,by show -(5+20*(L.length:Int))<=x1-2/\x1-2<=5+20*(L.length:Int);lia⟩
  refine Ak fun _ zJ=>?_
  obtain⟨i2,q2,t2,ta2,tb2,hq2,at2,ht2,hi2⟩:=pick (x4+1)
  refine zJ ?_
  have ok2:=okL i2 q2 hq2
  have mq2:=AH hq2
  have oka2:=ok2.a
  refine⟨ll,_,rfl,.inl (A4.of hll3),pos,ixL hll3 at2 ?_⟩
  dsimp only[Am]
  refine Me (fun _ h=>h) ?_
  refine⟨An rfl,fun a1 ha1=>?_⟩
  have n1:=Ac ha1 (.tup [V.str qo.nm,V.int (x1-2)])
  refine⟨t2,_,0,_,rfl,rfl,A5.of (n1 _ _ ht2),rfl,t2,_,4,_,rfl,rfl,A5.of (n1 _ _ ht2),rfl,An rfl,fun a2 ha2=>⟨An rfl,fun r hr=>?_⟩⟩
  have m:=D0.made (nm:=nm) (f:=qo.fi+(x1-2)) (l:=qo.fi+(x1-2)+1+x2) ha1 ha2 hr
  exact q r _ _ (e3.trans m.1) m.2 ⟨HL (WU b1 b2 hio hi2 l2 okf oka2) nl okn ok2.n,.inr ⟨qo,mqo,rfl⟩,.inr ⟨q2,mq2,rfl⟩,by show -(5+20*(L.length:Int))<=x1-2/\x1-2<=5+20*(L.length:Int);lia,by show -(5+20*(L.length:Int))<=qo.fi+(x1-2)+1+x2-q2.la/\qo.fi+(x1-2)+1+x2-q2.la<=5+20*(L.length:Int);lia⟩
theorem UM (T:Tx K mg a):AS P w K mg base B9 3 a.f_D a.d_D ["_law_script","_law_first","_law_count_here"] (UW K):=by
 have G_a :=@IL P w K mg base a T
 have G_b :=@L5 P w K mg base a T
 have G_C :=@WR P w K mg base a T
 refine T.F_D.ok CZ (fun vs H Q E h=>?_) (fun cdv A outer s H vs Q E hr h=>?_)
 .obtain⟨_,_,_,_,rfl,_⟩:=h;rfl
 obtain⟨p,ns,fi,n,rfl,hp,f0,f1,n6,q⟩:=h
 refine⟨_,(A8 (Ah (i:=3) CZ.nd rfl (.inl rfl) (Bs A3))
  (A8 (C8 PassesOwn.never rfl (F2 (by rfl) T.z_range (A0 (pw 2) A3)) (Ax (i:=4) CZ.nd rfl (.inl rfl))
  (A8 (ES (AJ G_b (hr.mono (by lia)) (by rfl) T.m_b T.F_b.kp T.b_b .nil AF (A0 (AJ G_a (hr.mono (by lia)) (by rfl) T.m_a T.F_a.kp T.b_a .nil AF (A0 (pw 0) (A0 (Ab (Aq AL) (pw 1) (Ab (oJ Cp) A1 (pw 4))) A3))) (A0 (Bs (A0 A1 (A0 A1 A3))) A3))) (LI rfl (AN (Ax (i:=5) CZ.nd rfl (.inl rfl)) (AN (Ax (i:=6) CZ.nd rfl (.inl rfl)) CB))))
  (A8 (Ah (i:=5) CZ.nd rfl (.inl rfl) (Bf (Jy rfl) (by rfl) T.z_min GO (A0 (A6 AO (IE (Ar A1 (Ar A1 (Ar A1 (Ar A1 (Ar A1 (Ar A1 (Ar A1 Cj BM) BM) BM) BM) BM) BM) BM)) (pw 5) (fun _ _=>rfl)) (A0 (Ab (Aq Ci) A1 (Do Gb (by rfl) T.z_int G8 (A0 (Em (Aq FZ) (pw 2) A1 (AK _)) A3))) A3))))
  (A8 (Ah (i:=7) CZ.nd rfl (.inl rfl) (Bs A3))
  (A8 (Ah (i:=8) CZ.nd rfl (.inl rfl) (Bb (A0 A1 A3)))
  (A8 (Ah (i:=9) CZ.nd rfl (.inl rfl) (Bs A3))
  (A8 (Bp (AU C3 (pw 4) A1 (AK _))
  (Aj (Ah (i:=6) CZ.nd rfl (.inl rfl) A1))
  (A8 (Ah (i:=9) CZ.nd rfl (.inl rfl) (A6 Ae (A6 AO (pw 3) (Ab (Aq Ci) (pw 4) A1) (fun _ _=>rfl)) A1 (fun _ _=>rfl)))
  (A8 (Ah (i:=6) CZ.nd rfl (.inl rfl) (Bf (Yr rfl) (by rfl) T.z_min GO (A0 (pw 6) (A0 (Bf BI (by rfl) T.z_len BJ (A0 (pw 9) A3)) (A0 (pw 5) A3)))))
  (A8 (Ah (i:=7) CZ.nd rfl (.inl rfl) (DV FF (pw 9) Ee (DM (pw 6))))
  (Aj (Ah (i:=8) CZ.nd rfl (.inl rfl) (Ab Gu (DV JI (A6 Ae (A6 AO (pw 3) (Ab (Aq Ci) (pw 4) A1) (fun _ _=>rfl)) A1 (fun _ _=>rfl)) Ee (DM (pw 6))) (Bb (A0 (Ab (Aq AL) (A6 Ae (A6 Ae (A6 AO (pw 3) (Ab (Aq Ci) (pw 4) A1) (fun _ _=>rfl)) A1 (fun _ _=>rfl)) (pw 6) (fun _ _=>rfl)) A1) A3)))))))))
  (A8 (Gn PassesOwn.never (AU (Aq F4) (Bf BI (by rfl) T.z_len BJ (A0 (pw 7) A3)) (pw 5) (AK _))
  (A8 (Ah (i:=10) CZ.nd rfl (.inl rfl) (AJ G_a (hr.mono (by lia)) (by rfl) T.m_a T.F_a.kp T.b_a .nil AF (A0 (pw 0) (A0 (Ab (Aq AL) (Ab (Aq AL) (Ab (Aq AL) (pw 1) (Ab (oJ Cp) A1 (pw 4))) A1) (Bf BI (by rfl) T.z_len BJ (A0 (pw 7) A3))) A3))))
  (A8 (Bp ((NU (AU (JK (FE hr)) (DV FF (pw 9) Ee (DM (Bf BI (by rfl) T.z_len BJ (A0 (pw 7) A3)))) (pw 7) (AK _)) (NU (AU (Aq FZ) (Bf BI (by rfl) T.z_len BJ (A0 (pw 9) A3)) (Bf BI (by rfl) T.z_len BJ (A0 (pw 7) A3)) (AK _)) (Pn (AU C3 (Ab (oJ C5) (Ab (oJ Gc) (pw 10) A1) A1) A1 (AK _)))))).pt
  (Aj (Ah (i:=7) CZ.nd rfl (.inl rfl) (Ab GP (pw 7) (Bs (A0 (A6 AO (pw 9) (Bf BI (by rfl) T.z_len BJ (A0 (pw 7) A3)) (fun _ _=>rfl)) A3)))))
  (Aj (Ah (i:=7) CZ.nd rfl (.inl rfl) (Ab GP (pw 7) (Bs (A0 (AJ G_C (hr.mono (by lia)) (by rfl) T.m_C T.F_C.kp T.b_C .nil AF (A0 (pw 10) (A0 (pw 7) A3))) A3))))))
  (Aj (Ah (i:=8) CZ.nd rfl (.inl rfl) (Ab Gu (pw 8) (Bb (A0 A1 A3))))))))
  (Aj (Cr (Cw CA Dy Dz D9 (pw 3) (A0 (CO (Ar (pw 7) (Ar (pw 8) (Ar (pw 6) Cj Cb) Cb) Cb)) A3))))))))))))
  (Aj (AM (pw 3))))),?_⟩
 have ne_of_none':∀{HH:Hp} {x y:Addr} {o:HO},HH x=none->HH y=some o->x≠y:=fun h1 h2 z=>by rw[z,h2]at h1;cases h1
 refine⟨An rfl,fun fo hfo=>?_⟩
 have e1:=Ac hfo (.lst [])
 have hfo1:(upd H fo (.lst [])) fo=some (.lst []):=A7
 dsimp only[Am]
 generalize upd H fo (.lst [])=H1 at e1 hfo1
 refine⟨(n:Int),rfl,by lia,by lia,?_⟩
 rw[show((n:Nat):Int).toNat=n by lia]
 refine Fe (lo:=0) (n:=n) (fun i σ' H'=>∃(xs:List V) (Ds:List Dq) (o4 o5 o6 o7 o8 o9 o10:Option V),σ'=[some (.ref p),some (.int fi),some (.int (n:Int)),some (.ref fo),o4,o5,o6,o7,o8,o9,o10]/\Aa H H'/\H' fo=some (.lst xs)/\Av (GR (av H' [fo])) xs Ds/\Ds.length=i/\Fp Ds) ⟨[],[],_,_,_,_,_,_,_,rfl,e1,hfo1,.nil,rfl,Fp.nil⟩ (fun i σ' H' hi pp=>?_) (fun σ' H' pp=>?_)
 rotate_left
 .obtain⟨xs,Ds,o4,o5,o6,o7,o8,o9,o10,rfl,e,hx,ax,dl,rq⟩:=pp
  exact q fo xs _ Ds e hx (ax.mono fun _ _ z=>z.over Gi) dl rq
 refine Ak fun _ zA=>?_
 obtain⟨xs,Ds,o4,o5,o6,o7,o8,o9,o10,rfl,e,hx,ax,dl,rq⟩:=pp
 refine zA ?_
 have xsl:=ax.1
 rw[GH]
 dsimp only[Am]
 refine⟨.inl ⟨by decide,by decide⟩,p,ns,_,rfl,e.seq hp,by lia,by lia,fun m m0 _=>⟨An rfl,fun d1 hd1=>?_⟩⟩
 have s2:=Ac hd1 (.lst [V.int 7,V.int 4])
 refine⟨m,d1,[7,4],rfl,A7,m0,by decide,by decide,fun r1 H2 ds e2 hr1 dsl db=>?_⟩
 refine Ak fun _ zB=>?_
 have e2:=s2.trans e2
 obtain⟨x0,x1,rfl⟩:=NS dsl
 refine zB ?_
 have b0:=db 0 x0 7 rfl rfl
 have b1:=db 1 x1 4 rfl rfl
 clear db dsl
 refine⟨r1,_,rfl,hr1,rfl,rfl,?_⟩
 dsimp only[Am]
 refine Ak fun _ zC=>?_
 obtain⟨v7,at7,v70,v71⟩:=UI b0.1 b0.2
 refine zC ?_
 have i01:∀b:Bool,(if b then(1:Int) else 0)=0\/(if b then(1:Int) else 0)=1:=fun b=>by cases b<;>decide
 refine⟨An rfl,fun l7 hl7=>⟨l7,_,_,_,rfl,rfl,A4.of A7,at7,.inr ⟨_,rfl,_,_,rfl,?_⟩⟩⟩
 have s3:=Ac hl7 (.lst [V.int 2,V.int 1,V.int 3,V.int 2,V.int 0,V.int 1,V.int 2])
 have e3:=e2.trans s3
 generalize upd H2 l7 (.lst [V.int 2,V.int 1,V.int 3,V.int 2,V.int 0,V.int 1,V.int 2])=H3 at s3 e3
 refine Ak fun _ zD=>?_
 have k2:=i01 (decide ((n:Int)>3))
 obtain⟨dp,edp,dp3⟩:∃dp:Nat,(if 3-(if decide ((n:Int)>3)=true then(1:Int) else 0)<v7 then 3-(if decide ((n:Int)>3)=true then(1:Int) else 0) else v7)=(dp:Int)/\dp<=3:=by
  generalize (if decide ((n:Int)>3)=true then(1:Int) else 0)=u at k2
  split
  .exact⟨(3-u).toNat,by lia,by lia⟩
  .exact⟨v7.toNat,by lia,by lia⟩
 refine zD ?_
 rw[edp]
 dsimp only[Am]
 refine⟨An rfl,fun lo0 hlo0=>?_⟩
 have s4:=Ac hlo0 (.lst [])
 have hlo4:(upd H3 lo0 (.lst [])) lo0=some (.lst []):=A7
 have nlo0:=ne_of_none' hlo0 (e3 _ _ hx)
 dsimp only[Am]
 generalize upd H3 lo0 (.lst [])=H4 at s4 hlo4
 refine⟨An rfl,fun pt0 hpt0=>?_⟩
 have s5:=Ac hpt0 (.tup [V.int 0])
 have hpt5:(upd H4 pt0 (.tup [V.int 0])) pt0=some (.tup [V.int 0]):=A7
 have hlo5:=s5 _ _ hlo4
 dsimp only[Am]
 generalize upd H4 pt0 (.tup [V.int 0])=H5 at s5 hpt5 hlo5
 refine⟨An rfl,fun ol0 hol0=>?_⟩
 have s6:=Ac hol0 (.lst [])
 have hol6:(upd H5 ol0 (.lst [])) ol0=some (.lst []):=A7
 have hpt6:=s6 _ _ hpt5
 have hlo6:=s6 _ _ hlo5
 have e6:=e3.trans (s4.trans (s5.trans s6))
 dsimp only[Am]
 generalize upd H5 ol0 (.lst [])=H6 at s6 hol6 hpt6 hlo6 e6
 have hx6:=e6 _ _ hx
 have ax6:=ax.mono fun y v z=>z.over (EF (S:=[fo]) e6)
 have eH6:=e.trans e6
 clear ax s2 s3 s4 s5 s6 hlo5 hlo4 hpt5 e3 e2 at7 k2
 refine E8 (fun σ' H'=>∃(lo pt ol:Addr) (L old:List Lq) (pa:List Int) (sh:Nat),σ'=[some (.ref p),some (.int fi),some (.int (n:Int)),some (.ref fo),some (.int (i:Int)),some (.int (dp:Int)),some (.int (sh:Int)),some (.ref lo),some (.ref pt),some (.ref ol),o10]/\Aa H6 H'/\E3 H' lo L/\E3 H' ol old/\H' pt=some (.tup (pa.map V.int))/\CF L/\CF old/\old.length<=3/\L.length=sh/\sh<=dp/\pa.length=sh+1/\lo≠fo/\(i=0->sh=0)/\∀c,Ds.getLast?=some c->sh<=c.L.length/\c.L.take sh=L/\∃v,c.path[sh]?=some v/\pa=c.path.take sh++[v+1]) (fun σ' HB pp=>?_) (fun nx=>?_)
 rotate_left
 .refine⟨rfl,_,rfl,BV (fun c=>?_) (fun c=>?_)⟩
  .have c:i=0:=by
    have:=HJ c
    injection this with z
    lia
   refine nx _ _ ⟨lo0,pt0,ol0,[],[],[0],0,rfl,Aa.refl _,⟨[],hlo6,.nil⟩,⟨[],hol6,.nil⟩,hpt6,CF.nil,CF.nil,Bj _,rfl,Bj _,rfl,nlo0,fun _=>rfl,fun c hc=>?_⟩
   have:Ds=[]:=Ox (by lia)
   rw[this]at hc
   cases hc
  .have c:i≠0:=fun z=>dF c (congrArg V.int (by rw[z];rfl))
   obtain⟨i',rfl⟩:∃j,i=j+1:=⟨i-1,by lia⟩
   have hDi:Ds[i']?=some Ds[i']:=As (by lia)
   have hlast:Ds.getLast?=some Ds[i']:=by rw[MP,show Ds.length-1=i' by lia];exact hDi
   have okc:=rq.row.ok _ (AH hDi)
   have okc7:=rq.in7 _ (AH hDi)
   generalize Ds[i']=cc at hDi hlast okc okc7
   refine Ak fun _ zE=>?_
   obtain⟨xp,hxp,dq⟩:=ax6.get hDi
   obtain⟨t,ol,pt,rfl,ht,⟨lx,hol,alx⟩,hpt⟩:=dq.over Gi
   refine zE ?_
   have aj:B5 xs (((i'+1:Nat):Int)-1)=some (.ref t):=by
    rw[show(((i'+1:Nat):Int)-1)=(i':Int) by lia]
    exact Br hxp
   have lxl:=alx.1
   have ccl:=okc.ll
   refine⟨fo,_,_,_,rfl,rfl,A4.of hx6,aj,t,_,0,_,rfl,rfl,A5.of ht,rfl,?_⟩
   dsimp only[Am]
   refine⟨ol,_,rfl,.inl (A4.of hol),_,_,_,rfl,?_⟩
   refine Ak fun _ zF=>?_
   obtain⟨sh,esh,sh1,sh2⟩:∃sh:Nat,(if(lx.length:Int)<x1 then(if(dp:Int)<(lx.length:Int) then(dp:Int) else(lx.length:Int)) else(if(dp:Int)<x1 then(dp:Int) else x1))=(sh:Int)/\sh<=lx.length/\sh<=dp:=by
    split
    .split
     .exact⟨dp,rfl,by lia,by lia⟩
     .exact⟨lx.length,rfl,by lia,by lia⟩
    .split
     .exact⟨dp,rfl,by lia,by lia⟩
     .exact⟨x1.toNat,by lia,by lia,by lia⟩
   refine zF ?_
   rw[esh]
   dsimp only[Am]
   refine⟨_,rfl,ol,_,rfl,A4.of hol,fun sl hsl=>?_⟩
   have cy:BS lx none (some (sh:Int))=lx.take sh:=LB _ _
   rw[cy]
   have s7:=Ac hsl (.lst (lx.take sh))
   have hsl7:(upd H6 sl (.lst (lx.take sh))) sl=some (.lst (lx.take sh)):=A7
   have nsl:=ne_of_none' hsl hx6
   dsimp only[Am]
   generalize upd H6 sl (.lst (lx.take sh))=H7 at s7 hsl7
   have hlt:sh<cc.path.length:=by have:=okc.pl;lia
   have hcv:cc.path[sh]?=some cc.path[sh]:=As hlt
   generalize cc.path[sh]=cv at hcv
   refine⟨fo,_,_,_,rfl,rfl,A4.of (s7 _ _ hx6),aj,t,_,1,_,rfl,rfl,A5.of (s7 _ _ ht),rfl,_,rfl,pt,_,rfl,s7 _ _ hpt,fun p2 H8 e8 hp2=>?_⟩
   have e78:=s7.trans e8
   have cp:BS (cc.path.map V.int) none (some (sh:Int))=(cc.path.take sh).map V.int:=by rw[LB,List.map_take]
   rw[cp]at hp2
   refine⟨fo,_,_,_,rfl,rfl,A4.of (e78 _ _ hx6),aj,t,_,1,_,rfl,rfl,A5.of (e78 _ _ ht),rfl,pt,_,(sh:Int),.int cv,rfl,rfl,A5.of (e78 _ _ hpt),Br (by rw[Bq,hcv];rfl),An rfl,fun u hu=>?_⟩
   have s9:=Ac hu (.tup [V.int (cv+1)])
   have tl:(cc.path.take sh).length<=3:=by rw[AY];lia
   refine⟨p2,u,_,_,rfl,rfl,s9 _ _ hp2,A7,Bu (by rw[Au,B4];lia),fun p3 H10 e10 hp3=>?_⟩
   have e7A:=e8.trans (s9.trans e10)
   have e6A:=s7.trans e7A
   have tlen:(cc.L.take sh).length=sh:=by rw[AY];lia
   refine nx _ _ ⟨sl,p3,ol,cc.L.take sh,cc.L,cc.path.take sh++[cv+1],sh,rfl,e6A,⟨_,e7A _ _ hsl7,(alx.take sh).mono fun _ _ z=>z.over e6A⟩,⟨_,e6A _ _ hol,alx.mono fun _ _ z=>z.over e6A⟩,by rw[BA];exact hp3,okc7.take sh,okc7,ccl,tlen,sh2,by rw[AB,B4,AY];lia,nsl,fun z=>absurd z (Nat.succ_ne_zero _),fun c hc=>?_⟩
   rw[hlast]at hc
   cases hc
   exact⟨by lia,rfl,cv,hcv,rfl⟩
 refine Ak fun _ zG=>?_
 obtain⟨lo1,pt1,ol,L1,old,pa1,sh,rfl,eB,hL1,hold,hpt1,okL1,oko,old3,L1l,shd,pa1l,nlo1,sh0,last⟩:=pp
 have hfoB:=eB _ _ hx6
 have axB:=ax6.mono fun y v z=>z.over (EF (S:=[fo]) eB)
 have eHB:=eH6.trans eB
 obtain⟨ox,hox,aox⟩:=hold
 refine zG ?_
 have oxl:=aox.1
 refine E8 (fun σ' H'=>∃(lo pt:Addr) (L:List Lq) (pa:List Int) (o10:Option V),σ'=[some (.ref p),some (.int fi),some (.int (n:Int)),some (.ref fo),some (.int (i:Int)),some (.int (dp:Int)),some (.int (sh:Int)),some (.ref lo),some (.ref pt),some (.ref ol),o10]/\Aa HB H'/\E3 H' lo L/\H' pt=some (.tup (pa.map V.int))/\CF L/\L.length=dp/\pa.length=dp+1/\lo≠fo/\L.take sh=L1/\pa.take (sh+1)=pa1) (fun σ' HC pp=>?_) (fun nx=>?_)
 rotate_left
 .refine Gf (dp-sh) (fun j σ' H'=>∃(lo pt:Addr) (L:List Lq) (pa:List Int) (o10:Option V),σ'=[some (.ref p),some (.int fi),some (.int (n:Int)),some (.ref fo),some (.int (i:Int)),some (.int (dp:Int)),some (.int (sh:Int)),some (.ref lo),some (.ref pt),some (.ref ol),o10]/\Aa HB H'/\E3 H' lo L/\H' pt=some (.tup (pa.map V.int))/\CF L/\L.length=sh+j/\pa.length=L.length+1/\lo≠fo/\L.take sh=L1/\pa.take (sh+1)=pa1) ⟨lo1,pt1,L1,pa1,_,rfl,Aa.refl _,hL1,hpt1,okL1,L1l,by lia,nlo1,Du (by lia),Du (by lia)⟩ (fun j σ' HG hj pp=>?_) (MT.test (ME.op (MR.j0 _) (ME.cb MB.len (MA.cons (ME.vr _) MA.nil)) (ME.vr _)))
  refine Ak fun _ zH=>?_
  obtain⟨lo,pt,L,pa,o10,rfl,eG,⟨lx,hlo0,alx⟩,hpt,okL,Ll,pal,nlo,Lt,pat⟩:=pp
  refine zH ?_
  have loL:=alx.1
  have hoxG:=eG _ _ hox
  have aoxG:=aox.mono fun _ _ z=>z.over eG
  refine⟨lo,_,rfl,.inl (A4.of hlo0),_,rfl,BV (fun c=>?_) (fun c=>?_)⟩
  rotate_left
  .have c:=dF c
   exact nx _ _ ⟨lo,pt,L,pa,_,rfl,eG,⟨lx,hlo0,alx⟩,hpt,okL,by lia,by lia,nlo,Lt,pat⟩
  have c:=dT c
  refine⟨by lia,?_⟩
  refine⟨.inl ⟨by decide,by decide⟩,lo,_,rfl,.inl (A4.of hlo0),p,ns,_,rfl,(eHB.trans eG).seq hp,by lia,by lia,fun m2 m20 _=>?_⟩
  dsimp only[Am]
  refine E8 (fun σ' H'=>∃(kl:Addr) (qn:Lq),σ'=[some (.ref p),some (.int fi),some (.int (n:Int)),some (.ref fo),some (.int (i:Int)),some (.int (dp:Int)),some (.int (sh:Int)),some (.ref kl),some (.ref pt),some (.ref ol),some (.int m2)]/\Aa HG H'/\E3 H' kl (L++[qn])/\qn.Ok7 L/\kl≠fo) (fun σ' HX pp=>?_) (fun nx2=>?_)
  .obtain⟨kl,qn,rfl,eX,hkl,okq,nkl⟩:=pp
   refine⟨An rfl,fun u hu=>?_⟩
   have sU:=Ac hu (.tup [V.int 0])
   refine⟨pt,u,_,_,rfl,rfl,(eX.trans sU) _ _ hpt,A7,Bu (by rw[Au,B4];lia),fun p3 HY eY hp3=>?_⟩
   have eXY:=sU.trans eY
   exact⟨kl,p3,L++[qn],pa++[0],_,rfl,eG.trans (eX.trans eXY),hkl.over eXY,by rw[BA];exact hp3,okL.snoc okq,by rw[AB,B4];lia,by rw[AB,AB,B4,B4];lia,nkl,by rw[KG (by lia)];exact Lt,by rw[KG (by lia)];exact pat⟩
  refine Wx (fun H''=>Aa HG H'') (fun H'' eS=>?_) (fun go=>?_)
  .refine⟨m2,lo,L,rfl,m20,⟨lx,eS _ _ hlo0,alx.mono fun _ _ z=>z.over eS⟩,okL.ok,by lia,fun r HX qn eX hqn okq=>⟨An rfl,fun u hu=>?_⟩⟩
   have sU:=Ac hu (.lst [V.ref r])
   have eE:=(eS).trans (eX.trans sU)
   have huU:(upd HX u (.lst [V.ref r])) u=some (.lst [V.ref r]):=A7
   have hqU:=hqn.over sU
   generalize upd HX u (.lst [V.ref r])=HY at eE huU hqU
   refine⟨lo,u,_,_,rfl,rfl,eE _ _ hlo0,huU,Bu (by rw[loL,B4];lia),fun kl hkl=>?_⟩
   have sK:=Ac hkl (.lst (lx++[V.ref r]))
   refine nx2 _ _ ⟨kl,qn,rfl,eE.trans sK,⟨_,A7,((alx.mono fun _ _ z=>z.over (eE.trans sK))).snoc (hqU.over sK)⟩,okq,ne_of_none' hkl ((eG.trans eE) _ _ hfoB)⟩
  refine⟨lo,_,rfl,.inl (A4.of hlo0),_,rfl,ol,_,rfl,A4.of hoxG,fun sl hsl=>?_⟩
  have cy:BS ox none (some (lx.length:Int))=ox.take L.length:=by rw[LB,loL]
  rw[cy]
  have sS:=Ac hsl (.lst (ox.take L.length))
  have hslS:(upd HG sl (.lst (ox.take L.length))) sl=some (.lst (ox.take L.length)):=A7
  generalize upd HG sl (.lst (ox.take L.length))=HS at sS hslS
  have dq1:=QE (old.take L.length)
  refine⟨_,_,O5 hslS ((aoxG.take L.length).mono fun _ _ z=>z.over sS),O5 (sS _ _ hlo0) (alx.mono fun _ _ z=>z.over sS),⟨_,rfl⟩,⟨_,rfl⟩,by rw[Cf];exact Oj _ _,by rw[Ct];lia,_,rfl,BV (fun cT=>?_) (fun _=>?_)⟩
  rotate_left
  .exact go _ sS
  refine⟨ol,_,rfl,.inl (A4.of (sS _ _ hoxG)),lo,_,rfl,.inl (A4.of (sS _ _ hlo0)),_,rfl,BV (fun c2=>?_) (fun _=>?_)⟩
  rotate_left
  .exact go _ sS
  have c2:=dT c2
  refine⟨⟨by decide,by decide⟩,(by show(0:Int)<3;decide),rfl,_,rfl,BV (fun _=>?_) (fun _=>?_)⟩
  rotate_left
  .exact go _ sS
  have hoq:old[L.length]?=some old[L.length]:=As (by lia)
  have okq:=oko _ _ hoq
  have eoL:old.take L.length=L:=Pl cT
  rw[eoL]at okq
  generalize old[L.length]=qo at hoq okq
  refine Ak fun _ zI=>?_
  obtain⟨xo,hxo,hqo⟩:=aoxG.get hoq
  refine zI ?_
  refine⟨lo,_,rfl,.inl (A4.of (sS _ _ hlo0)),ixL (sS _ _ hoxG) (by rw[loL];exact Br hxo) ⟨An rfl,fun u hu=>?_⟩⟩
  have sU:=Ac hu (.lst [xo])
  have eE:=sS.trans sU
  have huU:(upd HS u (.lst [xo])) u=some (.lst [xo]):=A7
  generalize upd HS u (.lst [xo])=HY at eE huU
  refine⟨lo,u,_,_,rfl,rfl,eE _ _ hlo0,huU,Bu (by rw[loL,B4];lia),fun kl hkl=>?_⟩
  have sK:=Ac hkl (.lst (lx++[xo]))
  exact nx2 _ _ ⟨kl,qo,rfl,eE.trans sK,⟨_,A7,((alx.mono fun _ _ z=>z.over (eE.trans sK))).snoc (hqo.over (eE.trans sK))⟩,okq,ne_of_none' hkl ((eG.trans eE) _ _ hfoB)⟩
 refine Ak fun _ zJ=>?_
 obtain⟨lo,pt,L,pa,o10',rfl,eC,hL,hpt,okL,Ll,pal,nlo,Lt,pat⟩:=pp
 refine zJ ?_
 have hfoC:=eC _ _ hfoB
 refine⟨.inl ⟨rfl,_,A4.of hfoC⟩,An rfl,fun t ht=>?_⟩
 have sT:=Ac ht (.tup [V.ref lo,V.ref pt,V.int (sh:Int)])
 have htT:(upd HC t (.tup [V.ref lo,V.ref pt,V.int (sh:Int)])) t=some (.tup [V.ref lo,V.ref pt,V.int (sh:Int)]):=A7
 have hfoT:=sT _ _ hfoC
 generalize upd HC t (.tup [V.ref lo,V.ref pt,V.int (sh:Int)])=HT at sT htT hfoT
 refine⟨fo,_,_,rfl,rfl,hfoT,CT (by lia),?_⟩
 have eT:=eC.trans sT
 refine⟨xs++[.ref t],Ds++[⟨L,pa,sh⟩],_,_,_,_,_,_,_,rfl,fun a o ha=>by rw[Ai (AQ ha hfo)];exact eT _ _ (eHB _ _ ha),A7,?_,by rw[AB,dl];rfl,rq.snoc ⟨okL.ok,by show L.length<=3;lia,by show pa.length=L.length+1;lia,by show sh<=L.length;lia⟩ okL (fun z=>sh0 (by rw[z]at dl;exact dl.symm)) (fun c hc=>?_)⟩
 .rw[MG (by simp)]
  exact(axB.mono fun y v z=>z.over (EF (S:=[fo]) eT)).snoc ⟨t,lo,pt,rfl,GU hfoT _ _ htT,(hL.over sT).av hfoT nlo,GU hfoT _ _ (sT _ _ hpt)⟩
 .obtain⟨l1,l2,v,l3,l4⟩:=last c hc
  obtain⟨n1,n2⟩:=WV l3 (pat.trans l4)
  exact⟨⟨l1,by rw[l2];exact Lt.symm,n1,n2⟩,aC l3 (pat.trans l4)⟩
theorem Vz (T:Tx K mg a):AS P w K mg base B9 1 a.f_l a.d_l ["_law_spot","_law_scale","_law_base"] Xv:=by
 refine T.F_l.ok aN (fun vs H Q E h=>?_) (fun cdv A outer s H vs Q E hr h=>?_)
 .obtain⟨_,_,_,_,rfl,_⟩:=h;rfl
 obtain⟨x,sc,b,⟨z,n⟩,rfl,⟨c0,c1⟩,⟨t,rfl,ht⟩,q⟩:=h
 refine⟨_,(A8 (Bp (AU C3 (A6 Ae (pw 0) A1 (fun _ _=>rfl)) C6 (AK _))
  (Aj (AM (Bb (A0 C6 (A0 (Ab (Aq AL) (Ab (oJ Cp) (pw 1) (A6 Ae (pw 0) A1 (fun _ _=>rfl))) (pw 2)) A3)))))
  BB)
  (Aj (AM (Bb (A0 (A6 Ae (pw 0) A1 (fun _ _=>rfl)) (A0 (Ab (oJ Cp) (pw 1) (A6 Ae (pw 0) A1 (fun _ _=>rfl))) A3)))))),?_⟩
 refine⟨t,_,0,_,rfl,rfl,A5.of ht,rfl,rfl,_,rfl,BV (fun c=>?_) (fun c=>?_)⟩
 .have c:z="":=by have:=HJ c;injection this
  refine⟨t,_,1,_,rfl,rfl,A5.of ht,rfl,.inl ⟨by lia,by lia⟩,An rfl,fun r hr=>?_⟩
  refine q _ _ (Ac hr _) ⟨r,rfl,?_⟩
  unfold G1
  rw[Ap c,A7]
 .have c:¬z="":=fun e=>dF c (congrArg V.str e)
  refine⟨t,_,0,_,rfl,rfl,A5.of ht,rfl,t,_,1,_,rfl,rfl,A5.of ht,rfl,.inl ⟨by lia,by lia⟩,An rfl,fun r hr=>?_⟩
  refine q _ _ (Ac hr _) ⟨r,rfl,?_⟩
  unfold G1
  rw[Al c,A7]
theorem W6 (T:Tx K mg a):AS P w K mg base B9 3 a.f_E a.d_E ["_law_deeds_here","_law_scale","_law_base"] (br a.c_Deed (G9 a)):=by
 have G_R :=@TX P w K mg base a T
 have G_Q :=@X4 P w K mg base a T
 have G_l :=@Vz P w K mg base a T
 refine T.F_E.ok Gk (fun vs H Q E h=>?_) (fun cdv A outer s H vs Q E hr h=>?_)
 .obtain⟨_,_,_,_,_,rfl,_⟩:=h;rfl
 obtain⟨l,sc,b,xs0,Ds,rfl,hsc,hl,aD,n6,D3,q⟩:=h
 refine⟨_,(A8 (Ah (i:=3) Gk.nd rfl (.inl rfl) (Bs A3))
  (A8 (C8 PassesOwn.never rfl (CV (pw 0)) (Dg rfl (AN (Ax (i:=4) Gk.nd rfl (.inl rfl)) (AN (Ax (i:=5) Gk.nd rfl (.inl rfl)) (AN (Ax (i:=6) Gk.nd rfl (.inl rfl)) CB))))
  (A8 (Ah (i:=7) Gk.nd rfl (.inl rfl) (Do IA (by rfl) T.z_tuple IH (A0 (Et ["_law_loop_here"] [none] (by rfl) (CV (pw 4)) Zf (fun _ _ _ _ _ _=>⟨(Ax (i:=0) WY rfl (.inl rfl)),EE,(A6 (show D4 _ (DT K) from Ae) (pw 0) A1 (fun _ _=>rfl))⟩)) A3)))
  (A8 (Ah (i:=8) Gk.nd rfl (.inl rfl) (Do IA (by rfl) T.z_tuple IH (A0 (Et ["_law_loop_here","_law_base","_law_scale"] [none,some 2,some 1] (by rfl) (CV (pw 4)) XR (fun _ _ _ _ _ _=>⟨(Ax (i:=0) ak rfl (.inl rfl)),EE,(AJ G_l (hr.mono (by lia)) (by rfl) T.m_l T.F_l.kp T.b_l .nil AF (A0 (A6 (show D4 _ (DT K) from Ae) (pw 0) A1 (fun _ _=>rfl)) (A0 (pw 2) (A0 (pw 1) A3))))⟩)) A3)))
  (A8 (Ah (i:=9) Gk.nd rfl (.inl rfl) (Do IA (by rfl) T.z_tuple IH (A0 (Et ["_law_loop_here","_law_base","_law_scale"] [none,some 2,some 1] (by rfl) (CV (pw 4)) Um (fun _ _ _ _ _ _=>⟨(Ax (i:=0) Wg rfl (.inl rfl)),EE,(AJ G_l (hr.mono (by lia)) (by rfl) T.m_l T.F_l.kp T.b_l .nil AF (A0 (A6 (show D4 _ (DT K) from Ae) (pw 0) A1 (fun _ _=>rfl)) (A0 (pw 2) (A0 (pw 1) A3))))⟩)) A3)))
  (Aj (Cr (Cw CA Dy Dz D9 (pw 3) (A0 (Ng T.mk_Deed G_R (hr.mono (by lia)) (by rfl) T.mc_Deed T.b_R .nil AF (A0 (pw 7) (A0 (pw 8) (A0 (pw 9) (A0 C6 (A0 (Bb (A0 (Bb (A0 C6 (A0 A1 A3))) A3)) (A0 (Ng T.mk_Number G_Q (hr.mono (by lia)) (by rfl) T.mc_Number T.b_Q .nil AF (A0 A1 A3)) (A0 (pw 5) A3)))))))) A3))))))))
  (Aj (AM (pw 3))))),?_⟩
 have xl0:=aD.1
 refine⟨An rfl,fun fo hfo=>?_⟩
 have e1:=Ac hfo (.lst [])
 have hfo1:(upd H fo (.lst [])) fo=some (.lst []):=A7
 dsimp only[Am]
 generalize upd H fo (.lst [])=H1 at e1 hfo1
 refine⟨l,rfl,⟨_,A4.of (e1 _ _ hl)⟩,?_⟩
 refine FJ (xs:=xs0) (fun i σ' H'=>∃(ys:List V) (o4 o5 o6 o7 o8 o9:Option V),σ'=[some (.ref l),some (.int sc),some (.int b),some (.ref fo),o4,o5,o6,o7,o8,o9]/\Aa H H'/\H' fo=some (.lst ys)/\Av (DA a.c_Deed (G9 a) H') ys ((Ds.take i).map (DL sc b))) ⟨[],_,_,_,_,_,_,rfl,e1,hfo1,.nil⟩ (fun i σ' H' _ pp=>by obtain⟨_,_,_,_,_,_,_,_,e,_⟩:=pp;exact A4.of (e _ _ hl)) (fun i x σ' H' hx pp=>?_) (fun σ' H' pp=>?_)
 rotate_left
 .obtain⟨ys,o4,o5,o6,o7,o8,o9,rfl,e,hy,ay⟩:=pp
  rw[Du (by lia)]at ay
  exact q fo ys _ e hy ay
 refine Ak fun _ zA=>?_
 obtain⟨ys,o4,o5,o6,o7,o8,o9,rfl,e,hy,ay⟩:=pp
 obtain⟨D,hD,t,o,pt,rfl,ht,⟨vs,hvs,av0⟩,hpt⟩:=aD.get' hx
 refine zA ?_
 have d3:=D3 D (AH hD)
 have vl:=av0.1
 have yl:=ay.1
 rw[Au,AY]at yl
 refine⟨t,_,rfl,A5.of (e _ _ ht),rfl,rfl,?_⟩
 dsimp only[Am]
 have av1:=av0.mono fun _ _ z=>z.over e
 have hvs1:=e _ _ hvs
 have hpt1:=e _ _ hpt
 refine⟨o,rfl,⟨_,A4.of hvs1⟩,?_⟩
 refine FM (xs:=vs) (fun i ys H2=>H2=H'/\ys=(D.L.take i).map fun t=>V.str t.nm) ⟨rfl,rfl⟩ (Bu (by lia)) (fun i ys H2 hi pp=>⟨by rw[pp.1];exact A4.of hvs1,by rw[pp.2,Au,AY];lia⟩) (fun i x ys H2 hc pp=>?_) (fun ys1 H2 pp r1 hr1=>?_)
 .obtain⟨rfl,rfl⟩:=pp
  refine Ak fun _ zB=>?_
  obtain⟨t,ht,q0,xa,xb,rfl,hq0,_,_⟩:=av1.get' hc
  refine zB ?_
  refine⟨q0,_,0,_,rfl,rfl,A5.of hq0,rfl,rfl,?_⟩
  rw[DI ht,BA]
  rfl
 obtain⟨rfl,rfl⟩:=pp
 rw[Du (by lia)]
 refine⟨r1,_,rfl,.inl ⟨A4.of A7,fun t1 ht1=>?_⟩⟩
 have s1:=(Ac hr1 (.lst (D.L.map fun t=>V.str t.nm))).trans (Ac ht1 (.tup (D.L.map fun t=>V.str t.nm)))
 have f1:(upd (upd H2 r1 (HO.lst (D.L.map fun t=>V.str t.nm))) t1 (HO.tup (D.L.map fun t=>V.str t.nm))) t1=some (.tup (D.L.map fun t=>V.str t.nm)):=A7
 dsimp only[Am]
 generalize upd (upd H2 r1 (HO.lst (D.L.map fun t=>V.str t.nm))) t1 (HO.tup (D.L.map fun t=>V.str t.nm))=H3 at s1 f1
 refine⟨o,rfl,⟨_,A4.of (s1 _ _ hvs1)⟩,?_⟩
 refine FM (xs:=vs) (fun i ys H4=>Aa H3 H4/\Av (fun v t=>Dh H4 v (Hf.lo t)) ys ((D.L.take i).map (Jv sc b))) ⟨Aa.refl _,.nil⟩ (Bu (by lia)) (fun i ys H4 hi pp=>⟨A4.of (pp.1 _ _ (s1 _ _ hvs1)),by rw[pp.2.1,Au,AY];lia⟩) (fun i x ys H4 hc pp=>?_) (fun ys2 H4 pp r2 hr2=>?_)
 .obtain⟨e4,ay4⟩:=pp
  refine Ak fun _ zC=>?_
  obtain⟨t,ht,q0,xa,xb,rfl,hq0,ha,hb⟩:=av1.get' hc
  refine zC ?_
  have e24:=s1.trans e4
  refine⟨q0,_,1,_,rfl,rfl,A5.of (e24 _ _ hq0),rfl,.ref xa,sc,b,t.lo,rfl,hsc,⟨xa,rfl,e24 _ _ ha⟩,fun r H5 e5 hr5=>⟨e4.trans e5,?_⟩⟩
  rw[DI ht,BA]
  exact(ay4.mono fun _ _ z=>Dh.tk (Aa.tk e5) z).snoc hr5
 obtain⟨e4,ay2⟩:=pp
 rw[Du (by lia)]at ay2
 refine⟨r2,_,rfl,.inl ⟨A4.of A7,fun t2 ht2=>?_⟩⟩
 have s2:=(Ac hr2 (.lst ys2)).trans (Ac ht2 (.tup ys2))
 have f2:(upd (upd H4 r2 (HO.lst ys2)) t2 (HO.tup ys2)) t2=some (.tup ys2):=A7
 have ay2:=ay2.mono fun _ _ z=>Dh.tk (Aa.tk s2) z
 have e25:=s1.trans (e4.trans s2)
 have f1:=(e4.trans s2) _ _ f1
 dsimp only[Am]
 generalize upd (upd H4 r2 (HO.lst ys2)) t2 (HO.tup ys2)=H5 at s2 f2 ay2 e25 f1
 refine⟨o,rfl,⟨_,A4.of (e25 _ _ hvs1)⟩,?_⟩
 refine FM (xs:=vs) (fun i ys H6=>Aa H5 H6/\Av (fun v t=>Dh H6 v (Hf.hi t)) ys ((D.L.take i).map (Jv sc b))) ⟨Aa.refl _,.nil⟩ (Bu (by lia)) (fun i ys H6 hi pp=>⟨A4.of (pp.1 _ _ (e25 _ _ hvs1)),by rw[pp.2.1,Au,AY];lia⟩) (fun i x ys H6 hc pp=>?_) (fun ys3 H6 pp r3 hr3=>?_)
 .obtain⟨e6,ay6⟩:=pp
  refine Ak fun _ zD=>?_
  obtain⟨t,ht,q0,xa,xb,rfl,hq0,ha,hb⟩:=av1.get' hc
  refine zD ?_
  have e26:=e25.trans e6
  refine⟨q0,_,2,_,rfl,rfl,A5.of (e26 _ _ hq0),rfl,.ref xb,sc,b,t.hi,rfl,hsc,⟨xb,rfl,e26 _ _ hb⟩,fun r H7 e7 hr7=>⟨e6.trans e7,?_⟩⟩
  rw[DI ht,BA]
  exact(ay6.mono fun _ _ z=>Dh.tk (Aa.tk e7) z).snoc hr7
 obtain⟨e6,ay3⟩:=pp
 rw[Du (by lia)]at ay3
 refine⟨r3,_,rfl,.inl ⟨A4.of A7,fun t3 ht3=>?_⟩⟩
 have s3:=(Ac hr3 (.lst ys3)).trans (Ac ht3 (.tup ys3))
 have f3:(upd (upd H6 r3 (HO.lst ys3)) t3 (HO.tup ys3)) t3=some (.tup ys3):=A7
 have e57:=e6.trans s3
 have ay2:=ay2.mono fun _ _ z=>Dh.tk (Aa.tk e57) z
 have ay3:=ay3.mono fun _ _ z=>Dh.tk (Aa.tk s3) z
 have e27:=e25.trans e57
 have f1:=e57 _ _ f1
 have f2:=e57 _ _ f2
 dsimp only[Am]
 generalize upd (upd H6 r3 (HO.lst ys3)) t3 (HO.tup ys3)=H7 at s3 f3 ay2 ay3 e27 f1 f2
 have hy7:=e27 _ _ hy
 refine⟨.inl ⟨rfl,_,A4.of hy7⟩,An rfl,fun u1 hu1=>⟨An rfl,fun u2 hu2=>?_⟩⟩
 have v1:=Ac hu1 (.tup [V.str "",V.int 0])
 have v2:=Ac hu2 (.tup [V.ref u1])
 have g1:(upd (upd H7 u1 (.tup [V.str "",V.int 0])) u2 (.tup [V.ref u1])) u1=some (.tup [V.str "",V.int 0]):=v2 _ _ A7
 have g2:(upd (upd H7 u1 (.tup [V.str "",V.int 0])) u2 (.tup [V.ref u1])) u2=some (.tup [V.ref u1]):=A7
 have e79:=v1.trans v2
 generalize upd (upd H7 u1 (.tup [V.str "",V.int 0])) u2 (.tup [V.ref u1])=H9 at e79 g1 g2
 intro n dn hn hdn hne
 refine⟨n,dn,_,rfl,A7,fun HA kA hnA=>⟨rfl,?_⟩⟩
 obtain⟨dxA,hnA⟩:=hnA
 have e9A:=Nz hn hdn kA
 have e7A:=e79.trans e9A
 intro d dd hd hdd hne2
 refine⟨d,dd,_,_,_,_,_,_,_,rfl,A7,fun HB kB hdB=>⟨rfl,?_⟩⟩
 obtain⟨dxB,hdB⟩:=hdB
 have eAB:=Nz hd hdd kB
 have e7B:=e7A.trans eAB
 have e2B:=e27.trans e7B
 have hyB:=e7B _ _ hy7
 refine⟨fo,_,_,rfl,rfl,hyB,CT (by lia),?_⟩
 have nlB:NL HB (upd HB fo (.lst (ys++[V.ref d]))):=NL.upd hyB
 refine⟨ys++[.ref d],_,_,_,_,_,_,rfl,fun a o ha=>by rw[Ai (AQ ha hfo)];exact e2B _ _ (e _ _ ha),A7,?_⟩
 rw[DI hD,BA]
 refine((ay.mono fun _ _ z=>DA.over e2B z).snoc (a:=DL sc b D) ?_).mono fun _ _ z=>DA.nl nlB z
 have e9B:=e9A.trans eAB
 refine⟨d,dxB,t1,t2,t3,u2,pt,_,ys2,ys3,rfl,hdB,?_,e7B _ _ f2,ay2.mono fun _ _ z=>Dh.tk (Aa.tk e7B) z,e7B _ _ f3,ay3.mono fun _ _ z=>Dh.tk (Aa.tk e7B) z,?_,⟨n,dxA,rfl,eAB _ _ hnA⟩,e2B _ _ hpt1⟩
 .have:=e7B _ _ f1
  rw[this]
  show _=some (HO.tup ((D.L.map (Jv sc b)).map _))
  rw[KB]
  rfl
 .exact⟨_,e9B _ _ g2,Av.one ⟨u1,rfl,e9B _ _ g1⟩⟩
theorem YN (T:Tx K mg a):AS P w K mg base B9 1 a.f_F a.d_F ["_law_loops"] W7:=by
 refine T.F_F.ok EA (fun vs H Q E h=>?_) (fun cdv A outer s H vs Q E hr h=>?_)
 .obtain⟨_,_,rfl,_⟩:=h;rfl
 obtain⟨ll,L,rfl,⟨xs,hll,ax⟩,okL,L3,q⟩:=h
 refine⟨_,(A8 (Ah (i:=1) EA.nd rfl (.inl rfl) (Bs (A0 (Bb A3) A3)))
  (A8 (C8 PassesOwn.never rfl (CV (pw 0)) (Ax (i:=2) EA.nd rfl (.inl rfl))
  (A8 (Ah (i:=3) EA.nd rfl (.inl rfl) (Bs A3))
  (A8 (C8 PassesOwn.never rfl (CV (pw 1)) (Ax (i:=4) EA.nd rfl (.inl rfl))
  (A8 (Ah (i:=5) EA.nd rfl (.inl rfl) (Zr C6 A1))
  (A8 (C8 PassesOwn.never rfl (Y9 (by rfl) T.z_zip (A0 (pw 0) (A0 (pw 4) A3))) (Dg rfl (AN (Ax (i:=6) EA.nd rfl (.inl rfl)) (AN (Ax (i:=7) EA.nd rfl (.inl rfl)) CB)))
  (Aj (WI (ID hr) (pw 5) (A6 Ae (pw 6) A1 (fun _ _=>rfl)) (pw 7) rfl)))
  (A8 (Ah (i:=8) EA.nd rfl (.inl rfl) (Ab (Aq AL) (Qp (ID hr) (pw 5) (A6 Ae (A6 Ae (pw 2) A1 (fun _ _=>rfl)) A1 (fun _ _=>rfl)) (fun _ _=>rfl)) (A6 Ae (A6 Ae (pw 2) A1 (fun _ _=>rfl)) A1 (fun _ _=>rfl))))
  (A8 (Ah (i:=9) EA.nd rfl (.inl rfl) (Ab (Aq AL) (Qp (ID hr) (pw 5) (A6 Ae (A6 Ae (pw 2) A1 (fun _ _=>rfl)) A1 (fun _ _=>rfl)) (fun _ _=>rfl)) (A6 Ae (A6 Ae (pw 2) A1 (fun _ _=>rfl)) A1 (fun _ _=>rfl))))
  (Aj (C8 PassesOwn.never rfl (aS (by rfl) T.z_range (A0 (pw 8) (A0 (Ab (Aq AL) (pw 9) A1) A3))) (Ax (i:=7) EA.nd rfl (.inl rfl))
  (Aj (Cr (Cw CA Dy Dz D9 (pw 3) (A0 (Ab Gu (pw 4) (Bb (A0 (pw 7) A3))) A3)))))))))))
  (Aj (Ah (i:=1) EA.nd rfl (.inl rfl) (pw 3))))))
  (Aj (AM (pw 1))))),?_⟩
 have xl:=ax.1
 refine⟨An rfl,fun t0 ht0=>⟨An rfl,fun r0 hr0=>?_⟩⟩
 have e0:=(Ac ht0 (.tup [])).trans (Ac hr0 (.lst [V.ref t0]))
 have hr00:(upd (upd H t0 (.tup [])) r0 (.lst [V.ref t0])) r0=some (.lst [V.ref t0]):=A7
 have ht00:(upd (upd H t0 (.tup [])) r0 (.lst [V.ref t0])) t0=some (.tup []):=Ac hr0 _ _ _ A7
 have hr0n:H r0=none:=(Ac ht0 (.tup [])).free hr0
 dsimp only[Am]
 generalize upd (upd H t0 (.tup [])) r0 (.lst [V.ref t0])=H0 at e0 hr00 ht00
 refine⟨ll,rfl,⟨_,A4.of (e0 _ _ hll)⟩,?_⟩
 refine FJ (xs:=xs) (fun i σ' H'=>∃(r:Addr) (ys:List V) (R:List (List Int)) (o2 o3 o4 o5 o6 o7 o8 o9:Option V),σ'=[some (.ref ll),some (.ref r),o2,o3,o4,o5,o6,o7,o8,o9]/\Aa H H'/\H r=none/\H' r=some (.lst ys)/\Av (DF H') ys R/\(∀v∈R,v.length=i/\G0 (vb i) v)/\R.length<=cn i) ⟨r0,[.ref t0],[[]],_,_,_,_,_,_,_,_,rfl,e0,hr0n,hr00,Av.one ⟨t0,rfl,ht00⟩,fun v hv=>?_,Af _⟩ (fun i σ' H' _ pp=>by obtain⟨_,_,_,_,_,_,_,_,_,_,_,_,e,_⟩:=pp;exact A4.of (e _ _ hll)) (fun i x σ' H' hx pp=>?_) (fun σ' H' pp=>?_)
 .rw[BL.mp hv]
  exact⟨rfl,fun n hn=>nomatch hn⟩
 rotate_left
 .obtain⟨r,ys,R,_,_,_,_,_,_,_,_,rfl,e,hrn,hr1,ay,hR,cR⟩:=pp
  rw[xl]at hR cR
  exact q r ys _ R e hrn hr1 ay (fun v hv=>(hR v hv).1) (CL cR (Qt L3))
 refine Ak fun _ zA=>?_
 obtain⟨r,ys,R,o2,o3,o4,o5,o6,o7,o8,o9,rfl,e,hrn,hr1,ay,hR,cR⟩:=pp
 obtain⟨qq,hq,t,ta,tb,rfl,ht,hta,htb⟩:=ax.get' hx
 refine zA ?_
 have ok7:=okL i qq hq
 have il:i<L.length:=(Ay.mp hq).1
 have tl:(L.take i).length=i:=by rw[AY];lia
 have yl:=ay.1
 have lb:=ok7.lb
 have hb:=ok7.hb
 rw[tl]at lb hb
 have vbs:vb (i+1)=vb i+(5+20*(i:Int)):=rfl
 have vbp:=Qk i
 have cns:cn (i+1)=cn i*(2*(vb (i+1)).toNat+1):=rfl
 have cnl:=Qt (j:=i+1) (by lia)
 obtain⟨m1,hm1⟩:∃m1:Nat,vb (i+1)=(m1:Int):=⟨(vb (i+1)).toNat,by lia⟩
 have wd:(2*(vb (i+1)).toNat+1)=2*m1+1:=by rw[hm1];rfl
 rw[wd]at cns
 have rw1:R.length*(2*m1+1)<=cn (i+1):=by rw[cns];exact S6 _ cR
 refine⟨An rfl,fun g hg=>?_⟩
 have s1:=Ac hg (.lst [])
 have hg1:(upd H' g (.lst [])) g=some (.lst []):=A7
 dsimp only[Am]
 generalize upd H' g (.lst [])=H1 at s1 hg1
 refine⟨r,rfl,⟨_,A4.of (s1 _ _ hr1)⟩,?_⟩
 refine FJ (xs:=ys) (fun j σ' H2=>∃(zs:List V) (G:List (List Int)) (o4 o5 o6 o7 o8 o9:Option V),σ'=[some (.ref ll),some (.ref r),some (.ref t),some (.ref g),o4,o5,o6,o7,o8,o9]/\Aa H' H2/\H2 g=some (.lst zs)/\Av (DF H2) zs G/\(∀v∈G,v.length=i+1/\G0 (vb (i+1)) v)/\G.length<=j*(2*m1+1)) ⟨[],[],_,_,_,_,_,_,rfl,s1,hg1,.nil,(fun v hv=>by cases hv),Bj _⟩ (fun j σ' H2 _ pp=>by obtain⟨_,_,_,_,_,_,_,_,_,e2,_⟩:=pp;exact A4.of (e2 _ _ hr1)) (fun j x σ' H2 hx2 pp=>?_) (fun σ' H2 pp=>?_)
 rotate_left
 .obtain⟨zs,G,o4,o5,o6,o7,o8,o9,rfl,e2,hg2,az,hG,cG⟩:=pp
  rw[yl]at cG
  exact⟨g,zs,G,_,_,_,_,_,_,_,_,rfl,e.trans e2,e.free hg,hg2,az,hG,CL cG rw1⟩
 refine Ak fun _ zB=>?_
 obtain⟨zs,G,o4,o5,o6,o7,o8,o9,rfl,e2,hg2,az,hG,cG⟩:=pp
 obtain⟨v,hv,tv,rfl,htv⟩:=(ay.mono fun _ _ z=>(let ⟨t,a,b⟩:=z;⟨t,a,e2 _ _ b⟩:DF H2 _ _)).get' hx2
 obtain⟨vl,vB⟩:=hR v (AH hv)
 refine zB ?_
 have jl:j<R.length:=(Ay.mp hv).1
 have jw:j*(2*m1+1)+(2*m1+1)<=cn (i+1):=by
  refine CL ?_ rw1
  rw[←J3]
  exact S6 _ jl
 refine fun d hd=>⟨.inr "",rfl,A7,?_⟩
 dsimp only[Am]
 have s3:Aa H2 (upd (upd H2 d (.dK [])) d (.dK [(.inr "",.int 0)])):=fun b o hb'=>by rw[Ai (AQ hb' hd),Ai (AQ hb' hd)];exact hb'
 have hd3:(upd (upd H2 d (.dK [])) d (.dK [(.inr "",.int 0)])) d=some (.dK [(.inr "",.int 0)]):=A7
 generalize upd (upd H2 d (.dK [])) d (.dK [(.inr "",.int 0)])=H3 at s3 hd3
 have eH2:=e.trans e2
 refine⟨ll,tv,rfl,⟨_,A4.of (s3 _ _ (eH2 _ _ hll))⟩,⟨_,A5.of (s3 _ _ htv)⟩,?_⟩
 refine Ua (xs:=xs) (ys:=v.map V.int) (by rw[Au];lia) (fun m σ' H4=>∃(kvs:List (AC×V)) (o6 o7:Option V),σ'=[some (.ref ll),some (.ref r),some (.ref t),some (.ref g),some (.ref tv),some (.ref d),o6,o7,o8,o9]/\Aa H2 H4/\H4 d=some (.dK kvs)/\Lk (vb i) ((L.take m).map (·.nm)) kvs) ⟨_,_,_,rfl,s3,hd3,⟨fun z hz=>?_,Af _⟩⟩ (fun m σ' H4 _ pp=>by obtain⟨_,_,_,_,e4,_⟩:=pp;exact⟨A4.of (e4 _ _ (eH2 _ _ hll)),A5.of (e4 _ _ htv)⟩) (fun m x y Tt σ' H4 hx4 hy4 pp hT=>?_) (fun σ' H4 pp=>?_)
 .rcases hz with rfl|hz
  .exact⟨0,rfl,by lia,by lia⟩
  .simp at hz
 .obtain⟨kvs,o6,o7,rfl,e4,hd4,wo⟩:=pp
  refine Ak fun _ zC=>?_
  obtain⟨qm,hqm,tm,tma,tmb,rfl,htm,_,_⟩:=ax.get' hx4
  have hv4:∃n,v[m]?=some n/\y=V.int n:=by
   rw[Bq]at hy4
   cases c:v[m]? with
   |none=>rw[c]at hy4;cases hy4
   |some n=>rw[c]at hy4;cases hy4;exact⟨n,rfl,rfl⟩
  obtain⟨n,hn,rfl⟩:=hv4
  refine zC ?_
  have nb:=vB n (AH hn)
  have sT:=Ac hT (.tup [V.ref tm,V.int n])
  have ml:m<L.length:=(Ay.mp hqm).1
  have w2:=wo.2
  rw[Au,AY]at w2
  refine⟨Tt,_,rfl,A5.of A7,rfl,rfl,?_⟩
  refine⟨tm,_,0,_,rfl,rfl,A5.of ((eH2.trans (e4.trans sT)) _ _ htm),rfl,d,_,rfl,Kb.k (k:=.inr qm.nm) (sT _ _ hd4) (CT (by lia)),?_⟩
  refine⟨_,_,_,rfl,fun b o hb'=>?_,A7,?_⟩
  .rw[Ai (AQ hb' hd)]
   exact sT _ _ (e4 _ _ hb')
  .rw[DI hqm,BA]
   exact wo.put nb.1 nb.2
 refine Ak fun _ zD=>?_
 obtain⟨kvs,o6,o7,rfl,e4,hd4,wo⟩:=pp
 refine zD ?_
 rw[Au,vl]at wo
 refine Ak fun _ zE=>?_
 have eH4:=eH2.trans e4
 have look:∀z:Str,(z=""\/∃y∈L.take i,z=y.nm)->∃n,FI H4 d (.str z) (some (.int n))/\-(vb i)<=n/\n<=vb i:=fun z hz=>by
  obtain⟨n,h1,h2⟩:=wo.1 z (by
   rcases hz with hz|⟨y,hy,hz⟩
   .exact .inl hz
   .exact .inr (by rw[hz];exact Co.mpr ⟨y,hy,rfl⟩))
  exact⟨n,.inl ⟨kvs,.inr z,.inl hd4,rfl,h1.symm⟩,h2⟩
 obtain⟨n1,g1,b1⟩:=look _ ok7.l1
 obtain⟨n2,g2,b2⟩:=look _ ok7.h1
 refine zE ?_
 have ht4:=eH4 _ _ ht
 have hta4:=eH4 _ _ hta
 have htb4:=eH4 _ _ htb
 refine⟨t,_,1,_,rfl,rfl,A5.of ht4,rfl,ta,_,0,_,rfl,rfl,A5.of hta4,rfl,d,_,rfl,g1,t,_,1,_,rfl,rfl,A5.of ht4,rfl,ta,_,1,_,rfl,rfl,A5.of hta4,rfl,?_⟩
 dsimp only[Am,Ei]
 refine⟨t,_,2,_,rfl,rfl,A5.of ht4,rfl,tb,_,0,_,rfl,rfl,A5.of htb4,rfl,d,_,rfl,g2,t,_,2,_,rfl,rfl,A5.of ht4,rfl,tb,_,1,_,rfl,rfl,A5.of htb4,rfl,?_⟩
 dsimp only[Am,Ei]
 have lo1 : -(m1:Int)<=n1+qq.lo.2/\n1+qq.lo.2<=m1:=by lia
 have hi1 : -(m1:Int)<=n2+qq.hi.2/\n2+qq.hi.2<=m1:=by lia
 generalize n1+qq.lo.2=low at lo1
 generalize n2+qq.hi.2=high at hi1
 have m1l:m1<=75:=by
  have:vb (i+1)<=75:=by
   have i3:i<3:=by lia
   clear zA zB zD zE
   rcases(by lia:i=0\/i=1\/i=2) with h|h|h<;>rw[h]<;>decide
  lia
 refine⟨_,_,rfl,⟨by lia,by lia,by lia,by lia⟩,?_⟩
 have az4:=az.mono fun _ _ z=>(let ⟨t,a,b⟩:=z;⟨t,a,e4 _ _ b⟩:DF H4 _ _)
 have zl:=az.1
 refine Fe (lo:=low) (n:=(high+1-low).toNat) (fun m σ' H5=>∃(zs2:List V) (G2:List (List Int)) (o6 o7:Option V),σ'=[some (.ref ll),some (.ref r),some (.ref t),some (.ref g),some (.ref tv),some (.ref d),o6,o7,some (.int low),some (.int high)]/\(∀a o,a≠g->H4 a=some o->H5 a=some o)/\H5 g=some (.lst zs2)/\Av (DF H5) zs2 G2/\(∀v∈G2,v.length=i+1/\G0 (vb (i+1)) v)/\G2.length=G.length+m) ⟨zs,G,_,_,rfl,fun _ _ _ h=>h,e4 _ _ hg2,az4,hG,rfl⟩ (fun m σ' H5 hm pp=>?_) (fun σ' H5 pp=>?_)
 .obtain⟨zs2,G2,o6,o7,rfl,k5,hg5,az5,hG5,c5⟩:=pp
  have ngv:tv≠g:=fun z=>by rw[z,hg2]at htv;cases htv
  have zl2:=az5.1
  refine⟨.inl ⟨rfl,_,A4.of hg5⟩,An rfl,fun u hu=>?_⟩
  have sU:=Ac hu (.tup [V.int (low+(m:Int))])
  refine⟨tv,u,_,_,rfl,rfl,sU _ _ (k5 _ _ ngv (e4 _ _ htv)),A7,Bu (by rw[Au,B4];lia),fun w HW eW hw=>?_⟩
  have sW:=sU.trans eW
  have hgW:=sW _ _ hg5
  refine⟨g,_,_,rfl,rfl,hgW,CT (by lia),?_⟩
  have tkW:TK HW (upd HW g (.lst (zs2++[V.ref w]))):=TK.upd hgW
  refine⟨zs2++[.ref w],G2++[v++[low+(m:Int)]],_,_,rfl,fun a o ha h=>by rw[Ai ha];exact sW _ _ (k5 a o ha h),A7,?_,fun x hx=>?_,by rw[AB,B4];lia⟩
  .refine(az5.mono fun _ _ z=>(let ⟨t,a,b⟩:=z;⟨t,a,tkW _ _ (sW _ _ b)⟩:DF _ _ _)).snoc ⟨w,rfl,?_⟩
   rw[BA]
   exact tkW _ _ hw
  .rcases BX.mp hx with z|z
   .exact hG5 x z
   .rw[BL.mp z]
    refine⟨by rw[AB,B4,vl],(vB.mono (by lia)).snoc (by lia) (by lia)⟩
 .obtain⟨zs2,G2,o6,o7,rfl,k5,hg5,az5,hG5,c5⟩:=pp
  refine⟨zs2,G2,_,_,_,_,_,_,rfl,fun a o ha=>k5 _ _ (AQ ha hg) (e4 _ _ (e2 _ _ ha)),hg5,az5,hG5,?_⟩
  rw[c5,J3]
  lia
theorem YA (T:Tx K mg a):AS P w K mg base B9 2 a.f_G a.d_G ["_law_script","_law_first","_law_depth","_law_old"] (Z2 K):=by
 have G_a :=@IL P w K mg base a T
 refine T.F_G.ok LY (fun vs H Q E h=>?_) (fun cdv A outer s H vs Q E hr h=>?_)
 .obtain⟨_,_,_,_,_,_,rfl,_⟩:=h;rfl
 obtain⟨sc,old,ns,first,n,ws0,rfl,hsc,f0,f1,n3,⟨xs0,hold,hws0⟩,pn0,q⟩:=h
 refine⟨_,(A8 (Ah (i:=4) LY.nd rfl (.inl rfl) (DV FF (pw 3) Ee (DM (pw 2))))
  (A8 (Gn PassesOwn.never (AU (Aq F4) (Bf BI (by rfl) T.z_len BJ (A0 (pw 4) A3)) (pw 2) (AK _))
  (A8 (Ah (i:=5) LY.nd rfl (.inl rfl) (A6 AO (IE (Ar C6 (Ar C6 (Ar C6 Cj BM) BM) BM)) (Ab (oJ C5) (AJ G_a (hr.mono (by lia)) (by rfl) T.m_a T.F_a.kp T.b_a .nil AF (A0 (pw 0) (A0 (Ab (Aq AL) (pw 1) (Bf BI (by rfl) T.z_len BJ (A0 (pw 4) A3))) A3))) A1) (fun _ _=>rfl)))
  (Aj (Ah (i:=4) LY.nd rfl (.inl rfl) (Ab GP (pw 4) (Bs (A0 (Bb (A0 Gg (A0 (pw 5) A3))) A3)))))))
  (Aj (AM (pw 4))))),?_⟩
 have xl:=hws0.1
 refine⟨_,rfl,old,_,rfl,A4.of hold,fun sl hsl=>?_⟩
 have cy:BS xs0 none (some (n:Int))=xs0.take n:=Hj _ (G6 _)
 rw[cy]
 have s1:=Ac hsl (.lst (xs0.take n))
 have hs1:(upd H sl (.lst (xs0.take n))) sl=some (.lst (xs0.take n)):=A7
 have ay1:=(hws0.mono fun y v z=>z.over s1).take n
 dsimp only[Am]
 generalize upd H sl (.lst (xs0.take n))=H1 at s1 hs1 ay1
 refine E8 (fun σ' H'=>∃(r:Addr) (xs:List V) (ws:List CS) (o5:Option V),σ'=[some (.ref sc),some (.int first),some (.int (n:Int)),some (.ref old),some (.ref r),o5]/\Aa H H'/\H r=none/\H' r=some (.lst xs)/\Av (FA H') xs ws/\ws.length=n/\(∀x∈ws,x.1=false)/\(∀m,m<=ws0.length->m<=n->ws.take m=ws0.take m)) (fun σ' H' pp=>?_) (fun nx=>?_)
 .obtain⟨r,xs,ws,o5,rfl,e,hrn,h1,h2,h3,h4,h5⟩:=pp
  exact q r _ ws e hrn ⟨xs,h1,h2⟩ h3 h4 h5
 refine Gf 4 (fun j σ' H'=>∃(r:Addr) (xs:List V) (ws:List CS) (o5:Option V),σ'=[some (.ref sc),some (.int first),some (.int (n:Int)),some (.ref old),some (.ref r),o5]/\Aa H H'/\H r=none/\H' r=some (.lst xs)/\Av (FA H') xs ws/\j<=ws.length/\ws.length<=n/\(∀x∈ws,x.1=false)/\(∀m,m<=ws0.length->m<=n->m<=ws.length/\ws.take m=ws0.take m)) ⟨sl,_,_,_,rfl,s1,hsl,hs1,ay1,Bj _,by rw[AY];lia,fun x hx=>pn0 x (J8 hx),fun m h1 h2=>⟨by rw[AY];lia,by rw[Hx,G5 h2]⟩⟩ (fun j σ' H' hj pp=>?_) (MT.test (ME.op (MR.j0 _) (ME.cb MB.len (MA.cons (ME.vr _) MA.nil)) (ME.vr _)))
 refine Ak fun _ zA=>?_
 obtain⟨r,xs,ws,o5,rfl,e,hrn,h1,h2,h3,h3',h4,h5⟩:=pp
 refine zA ?_
 have xl1:=h2.1
 refine⟨r,_,rfl,.inl (A4.of h1),_,rfl,BV (fun c=>?_) (fun c=>?_)⟩
 rotate_left
 .have c:=dF c
  exact nx _ _ ⟨r,xs,ws,_,rfl,e,hrn,h1,h2,by lia,h4,fun m g1 g2=>(h5 m g1 g2).2⟩
 have c:=dT c
 refine⟨by lia,An rfl,fun l hl=>?_⟩
 have s2:=Ac hl (.lst [V.str "up",V.str "down",V.str "any"])
 have hl2:(upd H' l (.lst [V.str "up",V.str "down",V.str "any"])) l=some (.lst wys):=A7
 have h12:=s2 _ _ h1
 have e2:=e.trans s2
 refine⟨r,_,rfl,.inl (A4.of h12),sc,ns,first+(xs.length:Int),rfl,e2.seq hsc,by lia,by lia,fun m m0 _=>?_⟩
 obtain⟨wy,hat⟩:=UH (i:=m%3) (Dr _ (by decide)) (Dt _ (by decide))
 refine⟨(by show(0:Int)<3;decide),ixL hl2 hat ?_⟩
 dsimp only[Am]
 have ay2:=h2.mono fun y v z=>z.over s2
 generalize upd H' l (.lst [V.str "up",V.str "down",V.str "any"])=H2 at s2 hl2 h12 e2 ay2
 refine⟨An rfl,fun t ht=>⟨An rfl,fun l1 hl1=>?_⟩⟩
 have s3:=Ac ht (.tup [V.bl false,V.str wy])
 have s4:=Ac hl1 (.lst [V.ref t])
 have s34:=s3.trans s4
 refine⟨r,l1,_,_,rfl,rfl,s34 _ _ h12,A7,Bu (by rw[B4];lia),fun r2 hr2=>?_⟩
 have s5:=Ac hr2 (.lst (xs++[V.ref t]))
 have s35:=s34.trans s5
 have htt:=(s4.trans s5) _ _ (show(upd H2 t (.tup [V.bl false,V.str wy])) t=some (.tup [V.bl false,V.str wy]) from A7)
 refine⟨r2,xs++[.ref t],ws++[(false,wy)],_,rfl,e2.trans s35,(e2.trans s34).free hr2,A7,(ay2.mono fun y v z=>z.over s35).snoc ⟨t,rfl,htt⟩,by rw[AB,B4];lia,by rw[AB,B4];lia,fun x hx=>?_,fun m g1 g2=>?_⟩
 .rcases BX.mp hx with z|z
  .exact h4 x z
  .rw[BL.mp z]
 .obtain⟨g3,g4⟩:=h5 m g1 g2
  exact⟨by rw[AB];lia,by rw[KG g3,g4]⟩
theorem WZ (T:Tx K mg a):AS P w K mg base B9 2 a.f_H a.d_H ["_law_script","_law_first","_law_loops"] (V1 K):=by
 have G_a :=@IL P w K mg base a T
 refine T.F_H.ok GV (fun vs H Q E h=>?_) (fun cdv A outer s H vs Q E hr h=>?_)
 .obtain⟨_,_,_,_,_,rfl,_⟩:=h;rfl
 obtain⟨sc,lo,ns,L,first,rfl,hsc,f0,f1,hlo,L3,q⟩:=h
 refine⟨_,(A8 (Ah (i:=3) GV.nd rfl (.inl rfl) (Bs A3))
  (A8 (C8 PassesOwn.never rfl (Jz (by rfl) T.z_enumerate (A0 (pw 2) A3)) (Dg rfl (AN (Ax (i:=4) GV.nd rfl (.inl rfl)) (AN (Ax (i:=5) GV.nd rfl (.inl rfl)) CB)))
  (A8 (Ah (i:=6) GV.nd rfl (.inl rfl) (AJ G_a (hr.mono (by lia)) (by rfl) T.m_a T.F_a.kp T.b_a .nil AF (A0 (pw 0) (A0 (Ab (Aq AL) (pw 1) (pw 4)) A3))))
  (A8 (Ah (i:=7) GV.nd rfl (.inl rfl) (Ab (Aq Ci) (Ab (oJ C5) (Ab (oJ Gc) (pw 6) A1) A1) A1))
  (A8 (Bp (AU C3 (Ab (oJ C5) (Ab (oJ Gc) (pw 6) A1) A1) A1 (AK _))
  (Aj (Ah (i:=7) GV.nd rfl (.inl rfl) (Ab (Aq Ci) (Ab (oJ C5) (Ab (oJ Cp) (pw 6) A1) (Ab (Aq AL) (Ab (oJ Cp) A1 (Ab (oJ IG) A1 A1)) A1)) (Ab (oJ IG) A1 A1))))
  BB)
  (Aj (Cr (Cw CA Dy Dz D9 (pw 3) (A0 (Bb (A0 (pw 5) (A0 (pw 7) A3))) A3))))))))
  (Aj (AM (Do IA (by rfl) T.z_tuple IH (A0 (pw 3) A3)))))),?_⟩
 refine⟨An rfl,fun pl hpl=>?_⟩
 have e1:=Ac hpl (.lst [])
 have hpl1:(upd H pl (.lst [])) pl=some (.lst []):=A7
 dsimp only[Am]
 generalize upd H pl (.lst [])=H1 at e1 hpl1
 refine⟨lo,rfl,⟨_,A4.of (e1 _ _ hlo)⟩,?_⟩
 refine Ju (xs:=L.map V.int) (fun i σ' H'=>∃(ys:List V) (ps:List (Int×Int)) (o4 o5 o6 o7:Option V),σ'=[some (.ref sc),some (.int first),some (.ref lo),some (.ref pl),o4,o5,o6,o7]/\Aa H H'/\H' pl=some (.lst ys)/\Av (Gr H') ys ps/\ps.map (·.1)=L.take i) ⟨[],[],_,_,_,_,rfl,e1,hpl1,.nil,rfl⟩ (fun i σ' H' _ pp=>by obtain⟨_,_,_,_,_,_,_,e,_⟩:=pp;exact A4.of (e _ _ hlo)) (fun i x Tt σ' H' hx pp hT=>?_) (fun σ' H' pp=>?_)
 rotate_left
 .obtain⟨ys,ps,o4,o5,o6,o7,rfl,e,hy,ay,pm⟩:=pp
  rw[Au,KC]at pm
  refine⟨pl,_,rfl,.inl ⟨A4.of hy,fun r hr'=>?_⟩⟩
  have s3:=Ac hr' (.tup ys)
  exact q r _ ps (e.trans s3) (e.free hr') ⟨ys,A7,ay.mono fun y v z=>z.over s3⟩ pm
 refine Ak fun _ zA=>?_
 obtain⟨ys,ps,o4,o5,o6,o7,rfl,e,hy,ay,pm⟩:=pp
 refine zA ?_
 have hi:i<L.length:=by have:=(Ay.mp hx).1;rwa [Au]at this
 have Li:L[i]?=some L[i]:=As hi
 rw[Bq,Li]at hx
 cases hx
 generalize L[i]=v at Li
 have yl:=ay.1
 have pl2:=congrArg List.length pm
 rw[Au,AY]at pl2
 have sT:=Ac hT (.tup [V.int (i:Int),V.int v])
 have e2:=e.trans sT
 have hy2:=sT _ _ hy
 have ay2:=ay.mono fun y v z=>z.over sT
 refine⟨Tt,_,rfl,A5.of A7,rfl,rfl,?_⟩
 generalize upd H' Tt (.tup [V.int (i:Int),V.int v])=H2 at e2 hy2 ay2
 dsimp only[Am]
 refine⟨sc,ns,first+(i:Int),rfl,e2.seq hsc,by lia,by lia,fun m m0 m1=>?_⟩
 dsimp only[Am]
 refine⟨⟨by decide,by decide⟩,(by show(0:Int)<5;decide),?_⟩
 dsimp only[Am,Ei,Nn]
 refine E8 (fun σ' H'=>∃sh:Int,H'=H2/\σ'=[some (.ref sc),some (.int first),some (.ref lo),some (.ref pl),some (.int (i:Int)),some (.int v),some (.int m),some (.int sh)]) (fun σ' H' pp=>?_) (fun nx=>?_)
 rotate_left
 .refine⟨⟨by decide,by decide⟩,(by show(0:Int)<3;decide),rfl,_,rfl,BV (fun _=>?_) (fun _=>nx _ _ ⟨_,rfl,rfl⟩)⟩
  exact⟨.inr ⟨by decide,by decide⟩,⟨by decide,by decide,by decide⟩,.inl ⟨by decide,by decide⟩,(by show(0:Int)<2*10 ^ (18:Int).toNat+1;decide),⟨by decide,by decide,by decide⟩,nx _ _ ⟨_,rfl,rfl⟩⟩
 refine Ak fun _ zB=>?_
 obtain⟨sh,rfl,rfl⟩:=pp
 refine zB ?_
 refine⟨.inl ⟨rfl,_,A4.of hy2⟩,An rfl,fun t ht=>?_⟩
 have s3:=Ac ht (.tup [V.int v,V.int sh])
 have hy3:=s3 _ _ hy2
 have nt:t≠pl:=fun z=>by rw[z,hy2]at ht;cases ht
 refine⟨pl,_,_,rfl,rfl,hy3,CT (by lia),?_⟩
 have tk:=TK.upd (o:=.lst (ys++[V.ref t])) hy3
 refine⟨ys++[.ref t],ps++[(v,sh)],_,_,_,_,rfl,fun a o ha=>by rw[Ai (AQ ha hpl)];exact s3 _ _ (e2 _ _ ha),A7,(ay2.mono fun y v z=>(z.over s3).tk tk).snoc ⟨t,rfl,by rw[Ai nt];exact A7⟩,by rw[BA,pm,DI Li];rfl⟩
theorem W5 (T:Tx K mg a):AS P w K mg base B9 3 a.f_I a.d_I ["_law_script","_law_first","_law_depths"] (XQ K):=by
 have G_a :=@IL P w K mg base a T
 have G_b :=@L5 P w K mg base a T
 have G_G :=@YA P w K mg base a T
 have G_H :=@WZ P w K mg base a T
 refine T.F_I.ok E6 (fun vs H Q E h=>?_) (fun cdv A outer s H vs Q E hr h=>?_)
 .obtain⟨_,_,_,_,_,rfl,_⟩:=h;rfl
 obtain⟨sc,dl,ns,D,first,rfl,hsc,f0,f1,hdl,hD,Dpos,D6,q⟩:=h
 refine⟨_,(A8 (Ah (i:=3) E6.nd rfl (.inl rfl) (Ab (oJ C5) (AJ G_a (hr.mono (by lia)) (by rfl) T.m_a T.F_a.kp T.b_a .nil AF (A0 (pw 0) (A0 (pw 1) A3))) A1))
  (A8 (Ah (i:=4) E6.nd rfl (.inl rfl) (Bs A3))
  (A8 (C8 PassesOwn.never rfl (F2 (by rfl) T.z_range (A0 (Bf BI (by rfl) T.z_len BJ (A0 (pw 2) A3)) A3)) (Ax (i:=5) E6.nd rfl (.inl rfl))
  (A8 (Ah (i:=6) E6.nd rfl (.inr rfl) (Ab (oJ C5) (Ab (Aq AL) (pw 5) (pw 3)) (Bf BI (by rfl) T.z_len BJ (A0 (pw 2) A3))))
  (A8 (Ah (i:=7) E6.nd rfl (.inl rfl) (Ab (Aq AL) (Ab (Aq AL) (pw 1) A1) (Ab (oJ Cp) A1 (pw 5))))
  (A8 (ES (AJ G_b (hr.mono (by lia)) (by rfl) T.m_b T.F_b.kp T.b_b .nil AF (A0 (AJ G_a (hr.mono (by lia)) (by rfl) T.m_a T.F_a.kp T.b_a .nil AF (A0 (pw 0) (A0 (Ab (Aq Ci) (pw 7) A1) A3))) (A0 (IE (Ar A1 (Ar A1 (Ar A1 Cj BM) BM) BM)) A3))) (LI rfl (AN (Ax (i:=8) E6.nd rfl (.inl rfl)) (AN (Ax (i:=9) E6.nd rfl (.inr rfl)) (AN (Ax (i:=10) E6.nd rfl (.inl rfl)) CB)))))
  (A8 (PX (i:=11) ["_law_e","_law_depths","_law_k","_law_turn"] [none,some 2,some 6,some 9] E6.nd rfl (.inl rfl) (by rfl) (F2 (by rfl) T.z_range (A0 (A6 AO (pw 2) (pw 6) (fun _ _=>rfl)) A3)) TC (fun _ _ _ _ _ _=>⟨(Ax (i:=0) af rfl (.inl rfl)),EE,(Ab (oJ C5) (Ab (Aq AL) (pw 0) (pw 3)) (A6 (show D4 _ (IK K) from AO) (pw 1) (pw 2) (fun _ _=>rfl)))⟩))
  (A8 (Bp (AU C3 (pw 10) A1 (AK _))
  (Aj (Cr (Xs CA PySem.F.slot_list_reverse PySem.F.type_list_reverse VR (pw 11))))
  BB)
  (A8 (Ah (i:=12) E6.nd rfl (.inl rfl) (Bs A3))
  (A8 (Bp (AU (Aq FZ) (pw 5) A1 (AK _))
  (Aj (Ah (i:=12) E6.nd rfl (.inl rfl) (DV FF (A6 Ae (A6 AO (pw 4) (Ab (Aq Ci) (pw 5) A1) (fun _ _=>rfl)) A1 (fun _ _=>rfl)) Ee (DM (pw 8)))))
  BB)
  (A8 (Ah (i:=13) E6.nd rfl (.inl rfl) (AJ G_G (hr.mono (by lia)) (by rfl) T.m_G T.F_G.kp T.b_G .nil AF (A0 (pw 0) (A0 (pw 7) (A0 (A6 AO (pw 2) (pw 6) (fun _ _=>rfl)) (A0 (pw 12) A3))))))
  (Aj (Cr (Cw CA Dy Dz D9 (pw 4) (A0 (CO (Ar (pw 6) (Ar (Bf (Jy rfl) (by rfl) T.z_min GO (A0 (Bf BI (by rfl) T.z_len BJ (A0 (pw 12) A3)) (A0 (A6 AO (pw 2) (pw 6) (fun _ _=>rfl)) A3))) (Ar (pw 13) (Ar (AJ G_H (hr.mono (by lia)) (by rfl) T.m_H T.F_H.kp T.b_H .nil AF (A0 (pw 0) (A0 (pw 7) (A0 (pw 11) A3)))) Cj K3) Cb) K3) Cb)) A3)))))))))))))
  (Aj (AM (pw 4)))))),?_⟩
 have Dml:((D.map V.int).length:Int)=(D.length:Int):=by rw[Au]
 refine⟨sc,ns,first,rfl,hsc,f0,by lia,fun m _ _=>⟨(by show(0:Int)<6;decide),?_⟩⟩
 have b0:=Dr m (show(6:Int)≠0 by decide)
 have b1:=Dt m (show(0:Int)<6 by decide)
 dsimp only[Am]
 generalize m%6=x0 at b0 b1
 refine⟨An rfl,fun lv hlv=>?_⟩
 have s6:=Ac hlv (.lst [])
 have hlv6:(upd H lv (.lst [])) lv=some (.lst []):=A7
 dsimp only[Am]
 generalize upd H lv (.lst [])=H6 at s6 hlv6
 refine⟨dl,_,rfl,.inl (A4.of (s6 _ _ hdl)),_,rfl,by lia,by lia,?_⟩
 rw[show((D.map V.int).length:Int).toNat=D.length by lia]
 have Rl:=Wj x0 D.length D.length
 have nd:=WK (m:=D.length) b0 b1 D6
 refine Fe (lo:=0) (n:=D.length) (fun i σ' H'=>∃(xs:List V) (B:List Ag) (o5 o6 o7 o8 o9 o10 o11 o12 o13:Option V),σ'=[some (.ref sc),some (.int first),some (.ref dl),some (.int x0),some (.ref lv),o5,o6,o7,o8,o9,o10,o11,o12,o13]/\Aa H H'/\H' lv=some (.lst xs)/\Av (HR (av H' [lv])) xs B/\Fm B D (FY x0 D.length D.length) i) ⟨[],[],_,_,_,_,_,_,_,_,_,rfl,s6,hlv6,.nil,Fm.nil _ _⟩ (fun i σ' H' hi pp=>?_) (fun σ' H' pp=>?_)
 rotate_left
 .obtain⟨xs,B,o5,o6,o7,o8,o9,o10,o11,o12,o13,rfl,e,hl,ay,st⟩:=pp
  have st':Fm B D (FY x0 D.length D.length) (FY x0 D.length D.length).length:=by rw[Rl];exact st
  obtain⟨g1,g2⟩:=st'.fin (by lia) nd
  exact q lv _ B e ⟨xs,hl,ay.mono fun y v z=>z.over Gi⟩ g1 (by lia)
 refine Ak fun _ zA=>?_
 obtain⟨xs,B,o5,o6,o7,o8,o9,o10,o11,o12,o13,rfl,e,hl,ay,st⟩:=pp
 refine zA ?_
 have Bl:=st.st.len (by lia)
 have xsl:=ay.1
 have Ri:(FY x0 D.length D.length)[i]?=some (((i:Int)+x0)%(D.length:Int)):=by
  unfold FY
  rw[Bq,DP hi]
  rfl
 have k0:=Dr ((i:Int)+x0) (show(D.length:Int)≠0 by lia)
 have k1:=Dt ((i:Int)+x0) (show(0:Int)<(D.length:Int) by lia)
 rw[GH]
 dsimp only[Am]
 refine⟨dl,_,rfl,.inl (A4.of (e _ _ hdl)),(by show(0:Int)<((D.map V.int).length:Int);lia),?_⟩
 dsimp only[Am]
 rw[Dml]
 generalize ((i:Int)+x0)%(D.length:Int)=k at Ri k0 k1
 obtain⟨kk,rfl⟩:∃n:Nat,k=(n:Int):=⟨k.toNat,by lia⟩
 have hkl:kk<D.length:=by lia
 have Dk:D[kk]?=some D[kk]:=As hkl
 have Db:=hD _ (AH Dk)
 have atD:B5 (D.map V.int) (kk:Int)=some (.int D[kk]):=Br (by rw[Bq,Dk];rfl)
 generalize D[kk]=dk at Dk Db atD
 obtain⟨dn,rfl⟩:∃n:Nat,dk=(n:Int):=⟨dk.toNat,by lia⟩
 refine⟨.inl ⟨by decide,by decide⟩,?_⟩
 dsimp only[Am,Ei]
 obtain⟨cell,hcell⟩:∃c:Int,c=first+2+4*(i:Int):=⟨_,rfl⟩
 rw[←hcell]
 refine⟨sc,ns,cell-1,rfl,e.seq hsc,by lia,by lia,fun m' m0' _=>⟨An rfl,fun d2 hd2=>?_⟩⟩
 have s8:=Ac hd2 (.lst [V.int 5,V.int 3,V.int 2])
 refine⟨m',d2,[5,3,2],rfl,A7,m0',by decide,by decide,fun r2 H8 ds e8 hr2 dsl db=>?_⟩
 refine Ak fun _ zB=>?_
 have s78:=s8.trans e8
 have e8:=e.trans s78
 have hl8:=s78 _ _ hl
 have ay8:=ay.mono fun y v z=>z.over (EF (S:=[lv]) s78)
 obtain⟨y0,y1,y2,rfl⟩:=PJ dsl
 refine zB ?_
 have c0':=db 0 y0 5 rfl rfl
 refine⟨r2,_,rfl,hr2,rfl,rfl,?_⟩
 dsimp only[Am]
 have hdl8:=e8 _ _ hdl
 refine ixL hdl8 atD ⟨_,rfl,by lia,by lia,?_⟩
 rw[show((dn:Int)).toNat=dn by lia]
 refine PQ (lo:=0) (n:=dn) (fun i ys H'=>H'=H8/\∃L:List Int,ys=L.map V.int/\L.length=i/\∀z∈L,0<=z/\z<(dn:Int)) ⟨rfl,[],rfl,rfl,fun z hz=>by cases hz⟩ (Bu (by lia)) (fun i ys H' hi p=>by obtain⟨_,L,rfl,h,_⟩:=p;rw[Au];lia) (fun i2 ys H' hi pp=>?_) (fun ys H9 pp lo hlo=>?_)
 .obtain⟨rfl,L,rfl,Ll,Lb⟩:=pp
  refine⟨dl,_,_,_,rfl,rfl,A4.of hdl8,atD,(by show(0:Int)<(dn:Int);lia),rfl,L++[(0+(i2:Int)+y1)%(dn:Int)],by rw[BA];rfl,by rw[AB,Ll];rfl,fun z hz=>?_⟩
  rcases BX.mp hz with hz|hz
  .exact Lb z hz
  .rw[BL.mp hz]
   exact⟨Dr _ (by lia),Dt _ (by lia)⟩
 refine Ak fun _ zC=>?_
 obtain⟨rfl,L0,rfl,L0l,L0b⟩:=pp
 refine zC ?_
 have s9:=Ac hlo (.lst (L0.map V.int))
 have hlo9:(upd H9 lo (.lst (L0.map V.int))) lo=some (.lst (L0.map V.int)):=A7
 dsimp only[Am]
 generalize upd H9 lo (.lst (L0.map V.int))=HA at s9 hlo9
 refine E8 (fun σ' H'=>σ'=[some (.ref sc),some (.int first),some (.ref dl),some (.int x0),some (.ref lv),some (.int (i:Int)),some (.int (kk:Int)),some (.int cell),some (.int y0),some (.int y1),some (.int y2),some (.ref lo),o12,o13]/\Aa H9 H'/\∃L:List Int,H' lo=some (.lst (L.map V.int))/\L.length=dn/\∀z∈L,0<=z/\z<(dn:Int)) (fun σ' HB pp=>?_) (fun nx=>?_)
 rotate_left
 .refine⟨rfl,_,rfl,?_⟩
  refine BV (fun c=>?_) (fun c=>nx _ _ ⟨rfl,s9,L0,hlo9,L0l,L0b⟩)
  refine⟨.inl ⟨rfl,_,A4.of hlo9⟩,lo,_,rfl,rfl,hlo9,?_⟩
  exact nx _ _ ⟨rfl,fun a o ha=>by rw[Ai (AQ ha hlo)];exact s9 _ _ ha,L0.reverse,by rw[List.map_reverse];exact A7,by rw[List.length_reverse];exact L0l,fun z hz=>L0b z (List.mem_reverse.mp hz)⟩
 refine Ak fun _ zD=>?_
 obtain⟨rfl,eB,L,hloB,Ll,Lb⟩:=pp
 refine zD ?_
 have e9:=e8.trans eB
 have hl9:=eB _ _ hl8
 have ay9:=ay8.mono fun y v z=>z.over (EF (S:=[lv]) eB)
 clear ay8 ay
 refine⟨An rfl,fun ol hol=>?_⟩
 have sC:=Ac hol (.lst [])
 have holC:(upd HB ol (.lst [])) ol=some (.lst []):=A7
 dsimp only[Am]
 generalize upd HB ol (.lst [])=HC at sC holC
 refine E8 (fun σ' H'=>∃(o:Addr) (ws0:List CS),σ'=[some (.ref sc),some (.int first),some (.ref dl),some (.int x0),some (.ref lv),some (.int (i:Int)),some (.int (kk:Int)),some (.int cell),some (.int y0),some (.int y1),some (.int y2),some (.ref lo),some (.ref o),o13]/\Aa HC H'/\ED H' o ws0/\(∀x∈ws0,x.1=false)/\(B=[]->ws0=[])/\(∀c,B.getLast?=some c->∃j,ws0=c.ways.take j)) (fun σ' HD pp=>?_) (fun nx=>?_)
 rotate_left
 .refine⟨_,rfl,?_⟩
  refine BV (fun c=>?_) (fun c=>nx _ _ ⟨ol,[],rfl,Aa.refl _,⟨[],holC,.nil⟩,(fun x hx=>by cases hx),fun _=>rfl,fun c _=>⟨0,rfl⟩⟩)
  have c:=dT c
  obtain⟨p,rfl⟩:∃p,i=p+1:=⟨i-1,by lia⟩
  have hBp:B[p]?=some B[p]:=As (by lia)
  have hlast:B.getLast?=some B[p]:=by rw[MP,show B.length-1=p by lia];exact hBp
  generalize B[p]=c0 at hBp hlast
  refine Ak fun _ zE=>?_
  obtain⟨xp,hxp,lf⟩:=ay9.get hBp
  obtain⟨t,w0,p0,rfl,ht,⟨wx,hw,haw⟩,_⟩:=(lf.over Gi).over sC
  refine zE ?_
  have aj:B5 xs (((p+1:Nat):Int)-1)=some (.ref t):=by
   rw[show(((p+1:Nat):Int)-1)=(p:Int) by lia]
   exact Br hxp
  refine⟨lv,_,_,_,rfl,rfl,A4.of (sC _ _ hl9),aj,t,_,2,_,rfl,rfl,A5.of ht,rfl,_,rfl,w0,_,rfl,A4.of hw,fun sl hsl=>?_⟩
  have s1:=Ac hsl (.lst (BS wx none (some y0)))
  have cy:BS wx none (some y0)=wx.take y0.toNat:=Hj _ c0'.1
  have pc:=st.pn c0 (AH hBp)
  refine nx _ _ ⟨sl,c0.ways.take y0.toNat,rfl,s1,⟨_,A7,?_⟩,fun x hx=>pc x (J8 hx),fun z=>?_,fun c hc=>?_⟩
  .have hh:=(haw.mono fun y v z=>z.over s1).take y0.toNat
   rw[←cy]at hh
   exact hh
  .rw[z]at hBp;simp at hBp
  .rw[hlast]at hc
   cases hc
   exact⟨_,rfl⟩
 refine Ak fun _ zF=>?_
 obtain⟨o,ws0,rfl,eD,hws0,pn0,nil0,last0⟩:=pp
 have eBD:=sC.trans eD
 have eD':=e9.trans eBD
 have hlD:=eBD _ _ hl9
 have hloD:=eBD _ _ hloB
 have ayD:=ay9.mono fun y v z=>z.over (EF (S:=[lv]) eBD)
 obtain⟨wo,hwo,awo⟩:=id hws0
 refine zF ?_
 have wol:=awo.1
 refine⟨dl,_,_,_,rfl,rfl,A4.of (eD' _ _ hdl),atD,sc,o,ns,cell,dn,ws0,rfl,eD'.seq hsc,by lia,by lia,by lia,hws0,pn0,fun w HE ws eE hwn hwE wsl pnw tkw=>?_⟩
 dsimp only[Am]
 have nw:w≠lv:=fun z=>by rw[z,hlD]at hwn;cases hwn
 have hlE:=eE _ _ hlD
 have eHE:=eD'.trans eE
 have mn:(if((dn:Nat):Int)<((wo.length:Nat):Int) then((dn:Nat):Int) else((wo.length:Nat):Int))=((min ws0.length dn:Nat):Int):=by split<;>lia
 refine⟨.inl ⟨rfl,_,A4.of hlE⟩,o,_,rfl,.inl (A4.of (eE _ _ hwo)),ixL (eHE _ _ hdl) atD ⟨_,_,rfl,?_⟩⟩
 rw[mn]
 refine⟨sc,lo,ns,L,cell,rfl,eHE.seq hsc,by lia,by lia,eE _ _ hloD,by lia,fun pr HF ps eF hpn hps psm=>⟨An rfl,fun t ht=>?_⟩⟩
 have sG:=Ac ht (.tup [V.int (kk:Int),V.int ((min ws0.length dn:Nat):Int),V.ref w,V.ref pr])
 have htG:(upd HF t (.tup [V.int (kk:Int),V.int ((min ws0.length dn:Nat):Int),V.ref w,V.ref pr])) t=some (.tup [V.int (kk:Int),V.int ((min ws0.length dn:Nat):Int),V.ref w,V.ref pr]):=A7
 have hlG:=sG _ _ (eF _ _ hlE)
 have ntl:t≠lv:=fun z=>by rw[z,eF _ _ hlE]at ht;cases ht
 have eFG:=eF.trans sG
 generalize upd HF t (.tup [V.int (kk:Int),V.int ((min ws0.length dn:Nat):Int),V.ref w,V.ref pr])=HG at sG htG hlG eFG
 have psl:ps.length=ws.length:=by have:=congrArg List.length psm;rw[Au]at this;lia
 refine⟨lv,_,_,rfl,rfl,hlG,CT (by lia),?_⟩
 refine⟨xs++[.ref t],B++[⟨(kk:Int),min ws0.length dn,ws,ps⟩],_,_,_,_,_,_,_,_,_,rfl,fun a o ha=>by rw[Ai (AQ ha hlv)];exact(eE.trans eFG) _ _ (eD' _ _ ha),A7,?_,?_⟩
 .rw[MG (by simp)]
  refine(ayD.mono fun y v z=>z.over (EF (S:=[lv]) (eE.trans eFG))).snoc ⟨t,w,pr,rfl,by rw[HM (by rw[BL];exact ntl)];exact htG,(hwE.over eFG).av hlG nw,(hps.over sG).tk (GU hlG)⟩
 .refine st.snoc Ri (show min ws0.length dn<=ws.length by lia) (fun z=>?_) (fun c hc=>?_) psl pnw ⟨kk,rfl,?_,fun p hp=>?_⟩ (show ws.length<=3 by lia)
  .have:=nil0 z
   show min ws0.length dn=0
   rw[this]
   exact Nat.zero_min _
  .obtain⟨j,rfl⟩:=last0 c hc
   have h3:=tkw (min (c.ways.take j).length dn) (by lia) (by lia)
   refine⟨by show min (c.ways.take j).length dn<=_;rw[AY];lia,?_⟩
   show ws.take (min (c.ways.take j).length dn)=c.ways.take (min (c.ways.take j).length dn)
   rw[h3,Hx,AY]
   congr 1
   lia
  .show D[kk]?=some (ws.length:Int)
   rw[wsl];exact Dk
  .have:p.1∈L:=by rw[←psm];exact Co.mpr ⟨p,hp,rfl⟩
   show 0<=p.1/\p.1<(ws.length:Int)
   rw[wsl];exact Lb _ this
theorem Pt (T:Tx K mg a):∀n:Nat,AS P w K mg base B9 (n+2) a.f_g a.d_g ["_law_leaves_here","_law_level"] (OP n)
 |
  0=>by
  have no:∀vs H Q E,¬OP 0 vs H Q E:=fun vs H Q E h=>by
   obtain⟨l,d,m,B,_,_,_,hm,_⟩:=h
   lia
  exact⟨fun vs H Q E h=>absurd h (no vs H Q E),fun A outer s H args us vs Q E _ _ _ _ h=>absurd h (no vs H Q E)⟩
 |
  n+1=>by
  have G_g:=Pt T n
  refine T.F_g.ok GZ (fun vs H Q E h=>?_) (fun cdv A outer s H vs Q E hr h=>?_)
  .obtain⟨_,_,_,_,rfl,_⟩:=h;rfl
  obtain⟨l,d,mm,B,rfl,⟨xs0,hl,hB⟩,hF,hmn,hd,q⟩:=h
  refine⟨_,(A8 (Ah (i:=2) GZ.nd rfl (.inl rfl) (Bs A3))
  (A8 (Ah (i:=3) GZ.nd rfl (.inl rfl) A1)
  (A8 (Gn PassesOwn.never (AU (Aq F4) (pw 3) (Bf BI (by rfl) T.z_len BJ (A0 (pw 0) A3)) (AK _))
  (A8 (Ah (i:=4) GZ.nd rfl (.inl rfl) (Ab (Aq AL) (pw 3) A1))
  (A8 (Bp (AU C3 (Bf BI (by rfl) T.z_len BJ (A0 (A6 Ae (A6 AO (pw 0) (pw 3) (fun _ _=>rfl)) A1 (fun _ _=>rfl)) A3)) (pw 1) (AK _))
  (Aj (Cr (Cw CA Dy Dz D9 (pw 2) (A0 (CO (Ar C6 (Ar (A6 Ae (A6 AO (pw 0) (pw 3) (fun _ _=>rfl)) A1 (fun _ _=>rfl)) (Ar (A6 Ae (A6 AO (pw 0) (pw 3) (fun _ _=>rfl)) A1 (fun _ _=>rfl)) Cj DG) DG) BM)) A3))))
  (A8 (Gn PassesOwn.never ((NU (AU (Aq F4) (pw 4) (Bf BI (by rfl) T.z_len BJ (A0 (pw 0) A3)) (AK _)) (Pn (AU (Aq FZ) (A6 Ae (A6 AO (pw 0) (pw 4) (fun _ _=>rfl)) A1 (fun _ _=>rfl)) (pw 1) (AK _))))).pt
  (Aj (Ah (i:=4) GZ.nd rfl (.inl rfl) (Ab (Aq AL) (pw 4) A1))))
  (A8 (Ah (i:=5) GZ.nd rfl (.inl rfl) (A6 AO (A6 Ae (A6 AO (pw 0) (pw 3) (fun _ _=>rfl)) A1 (fun _ _=>rfl)) (pw 1) (fun _ _=>rfl)))
  (Aj (Cr (Cw CA Dy Dz D9 (pw 2) (A0 (CO (Ar C6 (Ar (A6 Ae (pw 5) A1 (fun _ _=>rfl)) (Ar (A6 Ae (pw 5) A1 (fun _ _=>rfl)) (Ar (AJ G_g (hr.mono (by lia)) (by rfl) T.m_g T.F_g.kp T.b_g .nil AF (A0 (DV FF (pw 0) (DM (pw 3)) (DM (pw 4))) (A0 (Ab (Aq AL) (pw 1) A1) A3))) Cj K3) DG) DG) BM)) A3)))))))
  (Aj (Ah (i:=3) GZ.nd rfl (.inl rfl) (pw 4))))))
  (Aj (AM (Do IA (by rfl) T.z_tuple IH (A0 (pw 2) A3))))))),?_⟩
  have xl:=hB.1
  have Bl:=hF.len
  refine⟨An rfl,fun it hit=>?_⟩
  have e1:=Ac hit (.lst [])
  have hit1:(upd H it (.lst [])) it=some (.lst []):=A7
  dsimp only[Am]
  generalize upd H it (.lst [])=H1 at e1 hit1
  show GM (Mb _ _) (O2 _) _ _ _
  refine EY (fun σ' H'=>∃(xs:List V) (f:B3) (o3 o4 o5:Option V),σ'=[some (.ref l),some (.int (d:Int)),some (.ref it),o3,o4,o5]/\Aa H H'/\H' it=some (.lst xs)/\By H' xs f/\Fo.Is f B d/\xs.length<=1000) (fun σ' H' pp=>?_) (fun _ nx=>?_)
  .obtain⟨xs,f,o3,o4,o5,rfl,e,hx,hf,hI,xl⟩:=pp
   refine⟨it,_,rfl,.inl ⟨A4.of hx,fun t ht=>?_⟩⟩
   have s1:=Ac ht (.tup xs)
   exact q t _ f (e.trans s1) ⟨xs,A7,By.over s1 hf⟩ hI
  refine Gf (B.length+1) (fun j σ' H'=>∃(at':Nat) (xs:List V) (f:B3) (o4 o5:Option V),σ'=[some (.ref l),some (.int (d:Int)),some (.ref it),some (.int (at':Int)),o4,o5]/\Aa H H'/\H' it=some (.lst xs)/\By H' xs f/\Fo.Is f (B.take at') d/\at'<=B.length/\j<=at'/\xs.length<=at'/\(0<at'->∀c,B[at']?=some c->c.sh=d)) ⟨0,[],.nil,none,none,rfl,e1,hit1,rfl,rfl,Bj _,Af _,Af _,fun z=>absurd z (F3 _)⟩ (fun j σ' H' hj pp=>?_) (MT.test (ME.op (MR.j0 _) (ME.vr _) (ME.cb MB.len (MA.cons (ME.vr _) MA.nil))))
  refine Ak fun _ zA=>?_
  obtain⟨at',xs,f,o4,o5,rfl,e,hx,hf,hI,hat,hja,xsl,hhd⟩:=pp
  refine zA ?_
  have hl':=e _ _ hl
  refine⟨l,_,rfl,.inl (A4.of hl'),_,rfl,?_⟩
  refine BV (fun c=>?_) (fun c=>?_)
  rotate_left
  .have c:=dF c
   have:at'=B.length:=by lia
   subst this
   rw[KC]at hI
   exact nx _ _ ⟨xs,f,_,_,_,rfl,e,hx,hf,hI,by lia⟩
  have c:=dT c
  have hlt:at'<B.length:=by rw[xl]at c;exact Int.ofNat_lt.mp c
  refine⟨by lia,?_⟩
  have Ba:B[at']?=some B[at']:=As hlt
  generalize hb:B[at']=b at Ba
  refine Ak fun _ zB=>?_
  obtain⟨x0,hx0,hbo⟩:=hB.get Ba
  obtain⟨t,w0,p0,rfl,ht,⟨wx,hw,haw⟩,⟨px,hp,hap⟩⟩:=hbo.over e
  refine zB ?_
  have at0:B5 xs0 (at':Int)=some (.ref t):=Br hx0
  have wxl:=haw.1
  have memb:b∈B:=AH Ba
  refine Me (fun _ h=>h) ?_
  refine EY (fun σ' H'=>∃(m:Nat) (xs:List V) (f:B3) (o5:Option V),σ'=[some (.ref l),some (.int (d:Int)),some (.ref it),some (.int (at':Int)),some (.int (m:Int)),o5]/\Aa H H'/\H' it=some (.lst xs)/\By H' xs f/\Fo.Is f (B.take m) d/\at'<m/\m<=B.length/\xs.length<=m/\(∀c,B[m]?=some c->c.sh=d)) (fun σ' H2 pp=>?_) (fun _ nx2=>?_)
  .obtain⟨m,xs2,f2,o5',rfl,e2,hx2,hf2,hI2,hm1,hm2,xl2,hh2⟩:=pp
   exact⟨m,xs2,f2,_,_,rfl,e2,hx2,hf2,hI2,hm2,by lia,xl2,fun _=>hh2⟩
  refine⟨l,_,_,_,rfl,rfl,A4.of hl',at0,t,_,2,_,rfl,rfl,A5.of ht,rfl,w0,_,rfl,.inl (A4.of hw),rfl,_,rfl,?_⟩
  rw[wxl]
  by_cases cd:b.ways.length=d
  .refine B8 (v:=true) (Bw (congrArg (fun n:Nat=>V.int (n:Int)) cd)) (BY ?_)
   refine⟨.inl ⟨rfl,_,A4.of hx⟩,l,_,_,_,rfl,rfl,A4.of hl',at0,t,_,0,_,rfl,rfl,A5.of ht,rfl,l,_,_,_,rfl,rfl,A4.of hl',at0,t,_,3,_,rfl,rfl,A5.of ht,rfl,An rfl,fun r hr=>?_⟩
   have s1:=Ac hr (.tup [V.str "deed",V.int b.k,V.ref p0])
   have hr1:(upd H' r (.tup [V.str "deed",V.int b.k,V.ref p0])) r=some (.tup [V.str "deed",V.int b.k,V.ref p0]):=A7
   have hpt1:=s1 _ _ hp
   generalize upd H' r (.tup [V.str "deed",V.int b.k,V.ref p0])=H2 at s1 hr1 hpt1
   have hx2:=s1 _ _ hx
   refine⟨it,_,_,rfl,rfl,hx2,CT (by lia),?_⟩
   have tk:TK H2 (upd H2 it (.lst (xs++[V.ref r]))):=TK.upd hx2
   refine nx2 _ _ ⟨at'+1,xs++[.ref r],Fo.app f (.leaf b.k b.pl .nil),_,rfl,fun a o ha=>by rw[Ai (AQ ha hit)];exact s1 _ _ (e _ _ ha),A7,?_,?_,Gz _,hlt,by rw[AB,B4];lia,fun c hc=>?_⟩
   .exact By.tk tk (By.app (By.over s1 hf) ⟨r,p0,[],rfl,hr1,⟨px,hpt1,hap.mono fun x v z=>z.over s1⟩,rfl⟩)
   .rw[DI Ba]
    refine OW hI (Fo.Is.leaf1 cd) (fun z c hc=>?_)
    cases hc
    exact hhd (by rcases S1 at' with z0|z0;exact absurd (by rw[z0];rfl) z;exact z0) b Ba
   .have h1:=(hF.ok.ln at' b c Ba hc).1
    have h2:=hF.sh at' c hc
    lia
  .refine B8 (v:=false) (Bk fun z=>cd (aB z)) (BZ ?_)
   have hlo:=hF.lo b memb
   have hhi:=hF.hi b memb
   obtain⟨mn,rfl⟩:∃k,mm=k+1:=⟨mm-1,by lia⟩
   refine EY (fun σ' H2=>H2=H'/\∃(m:Nat),σ'=[some (.ref l),some (.int (d:Int)),some (.ref it),some (.int (at':Int)),some (.int (m:Int)),o5]/\at'<m/\m<=B.length/\(∀i c,at'<i->i<m->B[i]?=some c->d<c.sh)/\(∀c,B[m]?=some c->c.sh<=d)) (fun σ' H2 pp=>?_) (fun _ nx3=>?_)
   rotate_left
   .refine Gf B.length (fun j σ' H2=>H2=H'/\∃(m:Nat),σ'=[some (.ref l),some (.int (d:Int)),some (.ref it),some (.int (at':Int)),some (.int (m:Int)),o5]/\m=at'+1+j/\m<=B.length/\(∀i c,at'<i->i<m->B[i]?=some c->d<c.sh)) ⟨rfl,at'+1,rfl,rfl,hlt,fun i c h1 h2=>absurd h2 (Nat.not_lt.mpr h1)⟩ (fun j σ' H2 hj pp=>?_) (MT.and (MT.test (ME.op (MR.j0 _) (ME.vr _) (ME.cb MB.len (MA.cons (ME.vr _) MA.nil)))) (MT.test (ME.op (MR.j0 _) (ME.op (MR.ixT _) (ME.op (MR.ixL _) (ME.vr _) (ME.vr _)) (ME.c _)) (ME.vr _))))
    refine Ak fun _ zC=>?_
    obtain⟨rfl,m,rfl,hm,hmB,hG⟩:=pp
    refine zC ?_
    refine⟨l,_,rfl,.inl (A4.of hl'),_,rfl,?_⟩
    refine BV (fun c=>?_) (fun c=>nx3 _ _ ⟨rfl,m,rfl,by lia,hmB,hG,fun c' hc'=>?_⟩)
    .have c:=dT c
     refine Ak fun _ zD=>?_
     have hmlt:m<B.length:=by rw[xl]at c;exact Int.ofNat_lt.mp c
     have Bm:B[m]?=some B[m]:=As hmlt
     obtain⟨x1,hx1,hbo1⟩:=hB.get Bm
     obtain⟨t1,w1,p1,rfl,ht1,_,_⟩:=hbo1.over e
     refine zD ?_
     refine⟨l,_,_,_,rfl,rfl,A4.of hl',Br hx1,t1,_,1,_,rfl,rfl,A5.of ht1,rfl,_,rfl,?_⟩
     refine BV (fun c=>?_) (fun c=>nx3 _ _ ⟨rfl,m,rfl,by lia,hmB,hG,fun c' hc'=>?_⟩)
     .have c:=dT c
      refine⟨by lia,rfl,m+1,rfl,by lia,hmlt,fun i c' h1 h2 h3=>?_⟩
      by_cases z:i=m
      .subst z
       rw[Bm]at h3
       cases h3
       lia
      .exact hG i c' h1 (by lia) h3
     .have c:=dF c
      rw[Bm]at hc'
      cases hc'
      lia
    .have c:=dF c
     have:=(Ay.mp hc').1
     lia
   refine Ak fun _ zE=>?_
   obtain⟨rfl,m,rfl,hm1,hm2,hG,hend⟩:=pp
   have hwd:d<b.ways.length:=Nat.lt_of_le_of_ne hlo (Ne.symm cd)
   have Wd:b.ways[d]?=some b.ways[d]:=As hwd
   obtain⟨xw,hxw,tw,rfl,htw⟩:=haw.get Wd
   refine zE ?_
   refine⟨l,_,_,_,rfl,rfl,A4.of hl',at0,t,_,2,_,rfl,rfl,A5.of ht,rfl,w0,_,_,_,rfl,rfl,A4.of hw,Br hxw,?_⟩
   refine⟨.inl ⟨rfl,_,A4.of hx⟩,tw,_,0,_,rfl,rfl,A5.of htw,rfl,tw,_,1,_,rfl,rfl,A5.of htw,rfl,?_⟩
   have cy:BS xs0 (some (at':Int)) (some (m:Int))=(xs0.drop at').take (m-at'):=by
    have:BS xs0 (some (at':Int)) (some (m:Int))=(xs0.drop (at':Int).toNat).take ((m:Int).toNat-(at':Int).toNat):=Y7 xs0 (G6 _) (G6 _) (by rw[xl];exact Int.ofNat_le.mpr hm2) (Int.ofNat_le.mpr (Fu hm1))
    rw[this,Ky,Ky]
   refine⟨_,rfl,_,rfl,l,_,rfl,A4.of hl',fun sl hsl=>?_⟩
   have s1:=Ac hsl (.lst (BS xs0 (some (at':Int)) (some (m:Int))))
   have hsl1:(upd H2 sl (.lst (BS xs0 (some (at':Int)) (some (m:Int))))) sl=some (.lst ((xs0.drop at').take (m-at'))):=by rw[←cy];exact A7
   generalize upd H2 sl (.lst (BS xs0 (some (at':Int)) (some (m:Int))))=H3 at s1 hsl1
   refine⟨sl,d+1,mn,(B.drop at').take (m-at'),rfl,⟨_,hsl1,((hB.mono fun x v z=>z.over (e.trans s1)).drop at').take (m-at')⟩,hF.group Ba cd hm1 hG,by lia,by lia,fun r H4 f' e4 hf' hI'=>⟨An rfl,fun r2 hr2=>?_⟩⟩
   have s5:=Ac hr2 (.tup [V.str "sweep",V.bl (b.ways[d]).1,V.str (b.ways[d]).2,V.ref r])
   have hr5:(upd H4 r2 (.tup [V.str "sweep",V.bl (b.ways[d]).1,V.str (b.ways[d]).2,V.ref r])) r2=some (.tup [V.str "sweep",V.bl (b.ways[d]).1,V.str (b.ways[d]).2,V.ref r]):=A7
   have e5:=(s1.trans e4).trans s5
   have hf5:=hf'.over s5
   generalize upd H4 r2 (.tup [V.str "sweep",V.bl (b.ways[d]).1,V.str (b.ways[d]).2,V.ref r])=H5 at e5 hr5 hf5
   have hx5:=e5 _ _ hx
   refine⟨it,_,_,rfl,rfl,hx5,CT (by lia),?_⟩
   refine Ak fun _ zF=>?_
   have tk:TK H5 (upd H5 it (.lst (xs++[V.ref r2]))):=TK.upd hx5
   obtain⟨zs,hz1,hz2⟩:=hf5
   refine zF ?_
   refine nx2 _ _ ⟨m,xs++[.ref r2],Fo.app f (.node (b.ways[d]).1 (b.ways[d]).2 f' .nil),_,rfl,fun a o ha=>by rw[Ai (AQ ha hit)];exact e5 _ _ (e _ _ ha),A7,?_,?_,hm1,hm2,by rw[AB,B4];lia,fun c hc=>?_⟩
   .exact By.tk tk (By.app (By.over e5 hf) ⟨r2,r,zs,[],rfl,hr5,hz1,hz2,rfl⟩)
   .rw[←Ti B (Fu hm1)]
    have sl1:(B.drop at').take (m-at')=b::(B.drop (at'+1)).take (m-at'-1):=by
     rw[GG hlt,hb]
     obtain⟨k,hk⟩:∃k,m-at'=k+1:=⟨m-at'-1,by lia⟩
     rw[hk]
     rfl
    rw[sl1]at hI' ⊢
    refine OW hI (Fo.Is.node1 Wd (fun c hc=>?_) hI') (fun z c hc=>?_)
    .obtain⟨i,hi⟩:=Ov.mp hc
     have l2:=(Ay.mp hi).1
     rw[AY]at l2
     rw[DO (by lia),J7]at hi
     exact hG (at'+1+i) c (by lia) (by lia) hi
    .cases hc
     exact hhd (by rcases S1 at' with z0|z0;exact absurd (by rw[z0];rfl) z;exact z0) b Ba
   .have h1:=hend c hc
    have h2:=hF.sh (m-1) c (by rw[show m-1+1=m by lia];exact hc)
    lia
theorem YW (T:Tx K mg a):AS P w K mg base B9 1 a.f_J a.d_J ["_law_leaves_here"] XH:=by
 refine T.F_J.ok IV (fun vs H Q E h=>?_) (fun cdv A outer s H vs Q E hr h=>?_)
 .obtain⟨_,_,rfl,_⟩:=h;rfl
 obtain⟨l,B,rfl,⟨xs,hl,ax⟩,ok,q⟩:=h
 refine⟨_,(A8 (Ah (i:=1) IV.nd rfl (.inl rfl) (Bs A3))
  (A8 (C8 PassesOwn.never rfl (Jz (by rfl) T.z_enumerate (A0 (pw 0) A3)) (Dg rfl (AN (Ax (i:=2) IV.nd rfl (.inr rfl)) (AN (Ax (i:=3) IV.nd rfl (.inl rfl)) CB)))
  (A8 (PX (i:=4) ["_law_e","_law_n"] [none,some 2] IV.nd rfl (.inl rfl) (by rfl) (F2 (by rfl) T.z_range (A0 (Bf BI (by rfl) T.z_len BJ (A0 (A6 Ae (pw 3) A1 (fun _ _=>rfl)) A3)) A3)) U6 (fun _ _ _ _ _ _=>⟨(Ax (i:=0) aI rfl (.inl rfl)),EE,(Bb (A0 (pw 1) (A0 (pw 0) A3)))⟩))
  (A8 (Bp (AU (Aq FZ) (A6 Ae (pw 3) A1 (fun _ _=>rfl)) A1 (AK _))
  (Aj (Ah (i:=4) IV.nd rfl (.inl rfl) (Ab GP (DV FF (A6 AO (pw 1) (Ab (Aq Ci) (pw 2) A1) (fun _ _=>rfl)) Ee (DM (A6 Ae (pw 3) A1 (fun _ _=>rfl)))) (DV FF (pw 4) (DM (A6 Ae (pw 3) A1 (fun _ _=>rfl))) Ee))))
  BB)
  (Aj (Cr (Cw CA Dy Dz D9 (pw 1) (A0 (pw 4) A3)))))))
  (Aj (AM (pw 1))))),?_⟩
 have xl:=ax.1
 have B6:=ok.len
 refine⟨An rfl,fun fo hfo=>?_⟩
 have e1:=Ac hfo (.lst [])
 have hfo1:(upd H fo (.lst [])) fo=some (.lst []):=A7
 dsimp only[Am]
 generalize upd H fo (.lst [])=H1 at e1 hfo1
 refine⟨l,rfl,⟨_,A4.of (e1 _ _ hl)⟩,?_⟩
 refine Ju (xs:=xs) (fun i σ' H'=>∃(ys:List V) (R:List (List (Nat×Nat))) (o2 o3 o4:Option V),σ'=[some (.ref l),some (.ref fo),o2,o3,o4]/\Aa H H'/\H' fo=some (.lst ys)/\Av (FD (av H' [fo])) ys R/\DH B i R) ⟨[],[],_,_,_,rfl,e1,hfo1,.nil,.nil⟩ (fun i σ' H' _ pp=>by obtain⟨_,_,_,_,_,_,e,_⟩:=pp;exact A4.of (e _ _ hl)) (fun i x Tt σ' H' hx pp hT=>?_) (fun σ' H' pp=>?_)
 rotate_left
 .obtain⟨ys,R,o2,o3,o4,rfl,e,hy,ay,ks⟩:=pp
  rw[xl]at ks
  exact q fo _ R e ⟨ys,hy,ay.mono fun _ _ z=>z.over Gi⟩ ks
 refine Ak fun _ zA=>?_
 obtain⟨ys,R,o2,o3,o4,rfl,e,hy,ay,ks⟩:=pp
 obtain⟨b,hb,t,w0,p0,rfl,ht,⟨wx,hw,aw⟩,_⟩:=ax.get' hx
 refine zA ?_
 have bm:=AH hb
 have b6:=ok.way b bm
 have bs:=ok.ok.sh b bm
 have wl:=aw.1
 have il:=(Ay.mp hb).1
 have Rl:=ks.len
 have yl:=ay.1
 have sT:=Ac hT (.tup [V.int (i:Int),V.ref t])
 have e2:=e.trans sT
 have hy2:=sT _ _ hy
 have ay2:=ay.mono fun y v z=>z.over (EF (S:=[fo]) sT)
 refine⟨Tt,_,rfl,A5.of A7,rfl,rfl,?_⟩
 generalize upd H' Tt (.tup [V.int (i:Int),V.ref t])=H2 at e2 hy2 ay2
 dsimp only[Am]
 have ht2:=e2 _ _ ht
 have hw2:=e2 _ _ hw
 refine ixT ht2 rfl ⟨w0,_,rfl,.inl (A4.of hw2),_,rfl,by lia,by lia,?_⟩
 rw[show((wx.length:Int)).toNat=b.ways.length by lia]
 refine PQ (lo:=0) (n:=b.ways.length) (fun j zs H3=>Aa H2 H3/\Av (Di H3) zs ((List.range j).map fun e=>(i,e))) ⟨Aa.refl _,.nil⟩ (Bu (by lia)) (fun j zs H3 hj pp=>by rw[pp.2.1,Au,Dx];exact Af _) (fun j zs H3 hj pp=>?_) (fun zs H3 pp kr hkr=>?_)
 .obtain⟨e3,az⟩:=pp
  refine⟨An rfl,fun r hr'=>?_⟩
  have s4:=Ac hr' (.tup [V.int (i:Int),V.int (0+(j:Int))])
  refine⟨e3.trans s4,?_⟩
  rw[Hv,BA]
  refine(az.mono fun _ _ z=>z.over s4).snoc ⟨r,rfl,?_⟩
  rw[A7,GH]
 obtain⟨e3,az⟩:=pp
 have s4:=Ac hkr (.lst zs)
 have hk4:(upd H3 kr (.lst zs)) kr=some (.lst zs):=A7
 have e24:=e3.trans s4
 have az4:=az.mono fun _ _ z=>z.over s4
 have nk:kr≠fo:=fun z=>by rw[z,e3 _ _ hy2]at hkr;cases hkr
 have hy4:=e24 _ _ hy2
 have ay4:=ay2.mono fun y v z=>z.over (EF (S:=[fo]) e24)
 dsimp only[Am]
 generalize upd H3 kr (.lst zs)=H4 at hk4 e24 az4 hy4 ay4
 have zl:=az4.1
 rw[Au,Dx]at zl
 refine EY (fun σ' H'=>∃(r:Addr) (zs:List V),σ'=[some (.ref l),some (.ref fo),some (.int (i:Int)),some (.ref t),some (.ref r)]/\Aa H4 H'/\r≠fo/\H' r=some (.lst zs)/\Av (Di H') zs (if b.sh=0 then(List.range b.ways.length).map fun e=>(i,e) else FU i (R.getD (i-1) []) b)) (fun σ' H5 pp=>?_) (fun _ nx=>?_)
 .obtain⟨r,zs,rfl,e5,nr,hr5,az5⟩:=pp
  have hy5:=e5 _ _ hy4
  refine⟨.inl ⟨rfl,_,A4.of hy5⟩,fo,_,_,rfl,rfl,hy5,CT (by lia),?_⟩
  refine⟨ys++[.ref r],_,_,_,_,rfl,fun a o ha=>by rw[Ai (AQ ha hfo)];exact e5 _ _ (e24 _ _ (e2 _ _ ha)),A7,?_,ks.next ok.ok ok.fst hb⟩
  rw[MG (by simp)]
  refine(ay4.mono fun y v z=>z.over (EF (S:=[fo]) e5)).snoc (FD.av (H:=H5) ⟨r,zs,rfl,hr5,az5⟩ hy5 ?_)
  intro z
  injection z with z
  exact nr z
 .have ht4:=e24 _ _ ht2
  refine⟨t,_,1,_,rfl,rfl,A5.of ht4,rfl,_,rfl,BV (fun c=>?_) (fun c=>?_)⟩
  rotate_left
  .have c:=dF c
   have c0:b.sh=0:=by lia
   exact nx _ _ ⟨kr,zs,rfl,Aa.refl _,nk,hk4,by rw[Ap c0];exact az4⟩
  have c:=dT c
  have c0:¬b.sh=0:=by lia
  obtain⟨p,rfl⟩:∃p,i=p+1:=by
   cases i with
   |zero=>exact absurd (ok.fst b (by rw[KD];exact hb)) c0
   |succ p=>exact⟨p,rfl⟩
  have hRp:R[p]?=some (R[p]'(by lia)):=As (by lia)
  have hRd:R.getD (p+1-1) []=R[p]'(by lia):=Dm hRp
  generalize R[p]'(by lia)=row at hRp hRd
  refine Ak fun _ zB=>?_
  obtain⟨xp,hxp,ra,rx,rfl,hra,arx⟩:=ay4.get hRp
  refine zB ?_
  have hra:=Gi _ _ hra
  have arx:=arx.mono fun _ _ z=>z.over Gi
  have rl:=arx.1
  have aj:B5 ys (((p+1:Nat):Int)-1)=some (.ref ra):=by
   rw[show(((p+1:Nat):Int)-1)=(p:Int) by lia]
   exact Br hxp
  have rowl:row.length<=6:=by
   obtain⟨row',g1,g2,_⟩:=ks.at (Gz p) (As (show p<B.length by lia))
   rw[hRp]at g1
   cases g1
   rw[g2]
   exact ok.way _ (Hu _)
  refine⟨fo,_,_,_,rfl,rfl,A4.of hy4,aj,t,_,1,_,rfl,rfl,A5.of ht4,rfl,_,rfl,ra,_,rfl,A4.of hra,fun s1 hs1=>?_⟩
  have cy:BS rx none (some (b.sh:Int))=rx.take b.sh:=Hj _ (G6 _)
  rw[cy]
  have q1:=Ac hs1 (.lst (rx.take b.sh))
  refine⟨t,_,1,_,rfl,rfl,A5.of (q1 _ _ ht4),rfl,_,rfl,kr,_,rfl,A4.of (q1 _ _ hk4),fun s2 hs2=>?_⟩
  have cy2:BS zs (some (b.sh:Int)) none=zs.drop b.sh:=Nv _ (G6 _)
  rw[cy2]
  have q2:=Ac hs2 (.lst (zs.drop b.sh))
  refine⟨s1,s2,_,_,rfl,rfl,q2 _ _ A7,A7,Bu (by rw[AY,Fx];lia),fun r2 hr2=>?_⟩
  have q3:=Ac hr2 (.lst (rx.take b.sh++zs.drop b.sh))
  have q13:=(q1.trans q2).trans q3
  refine nx _ _ ⟨r2,_,rfl,q13,fun z=>?_,A7,?_⟩
  .rw[z,(q1.trans q2) _ _ hy4]at hr2;cases hr2
  .rw[Al c0,hRd]
   unfold FU
   exact((arx.take b.sh).mono fun _ _ z=>z.over q13).app (Av.drop (az4.mono fun _ _ z=>z.over q13) b.sh)
theorem Uk (T:Tx K mg a):AS P w K mg base B9 1 a.f_K a.d_K ["_law_leaves_here","_law_keys_here","_law_key"] VT:=by
 refine T.F_K.ok Ey (fun vs H Q E h=>?_) (fun cdv A outer s H vs Q E hr h=>?_)
 .obtain⟨_,_,_,_,_,_,_,rfl,_⟩:=h;rfl
 obtain⟨l,kl,ky,B,R,m,e0,rfl,⟨xs,hl,ax⟩,ok,⟨rs,hkl,ar⟩,ks,⟨ky',eky,hky⟩,q⟩:=h
 injection eky with eky
 subst eky
 refine⟨_,(A8 (Ah (i:=3) Ey.nd rfl (.inl rfl) (Bs A3))
  (A8 (C8 PassesOwn.never rfl (YL (by rfl) T.z_zip (A0 (pw 0) (A0 (pw 1) A3))) (Dg rfl (AN (Ax (i:=4) Ey.nd rfl (.inl rfl)) (AN (Ax (i:=5) Ey.nd rfl (.inl rfl)) CB)))
  (A8 (ES (pw 4) (Dg rfl (AN (Ax (i:=6) Ey.nd rfl (.inl rfl)) (AN (Ax (i:=7) Ey.nd rfl (.inl rfl)) (AN (Ax (i:=8) Ey.nd rfl (.inl rfl)) (AN (Ax (i:=9) Ey.nd rfl (.inl rfl)) CB))))))
  (A8 (Ah (i:=10) Ey.nd rfl (.inl rfl) (A6 Ae (pw 2) A1 (fun _ _=>rfl)))
  (A8 (Bp (AU (show BC _ _ (Lw K false) from T6 (FE hr)) (pw 2) (pw 5) (by with_unfolding_all rfl))
  (A8 (Ah (i:=8) Ey.nd rfl (.inl rfl) (Ab GP (Ab GP (DV FF (pw 8) Ee (DM (pw 10))) (Bs (A0 (Bb (A0 Gg (A0 (A6 Ae (A6 AO (pw 8) (pw 10) (fun _ _=>rfl)) A1 (fun _ _=>rfl)) A3))) A3))) (DV FF (pw 8) (DM (pw 10)) Ee)))
  (A8 (Ah (i:=9) Ey.nd rfl (.inl rfl) (Ab Gu (Ab Gu (DV JI (pw 9) Ee (DM (pw 10))) (Bb (A0 (A6 Ae (pw 9) (pw 10) (fun _ _=>rfl)) A3))) (DV JI (pw 9) (DM (pw 10)) Ee)))
  (Aj (Bp (AU (Aq FZ) (pw 7) (pw 10) (AK _))
  (Aj (Ah (i:=7) Ey.nd rfl (.inl rfl) (Ab (Aq AL) (pw 7) A1)))
  BB))))
  BB)
  (Aj (Cr (Cw CA Dy Dz D9 (pw 3) (A0 (CO (Ar (pw 6) (Ar (pw 7) (Ar (pw 8) (Ar (pw 9) Cj Cb) Cb) Cb) Cb)) A3))))))))
  (Aj (AM (pw 3))))),?_⟩
 have xl:=ax.1
 have rsl:=ar.1
 have B6:=ok.len
 have Rl:=ks.len
 refine⟨An rfl,fun fo hfo=>?_⟩
 have e1:=Ac hfo (.lst [])
 have hfo1:(upd H fo (.lst [])) fo=some (.lst []):=A7
 dsimp only[Am]
 generalize upd H fo (.lst [])=H1 at e1 hfo1
 refine⟨l,kl,rfl,⟨_,A4.of (e1 _ _ hl)⟩,⟨_,A4.of (e1 _ _ hkl)⟩,?_⟩
 refine WL (xs:=xs) (ys:=rs) (by lia) (fun i σ' H'=>∃(ys:List V) (W:List Ag) (o4 o5 o6 o7 o8 o9 o10:Option V),σ'=[some (.ref l),some (.ref kl),some (.ref ky),some (.ref fo),o4,o5,o6,o7,o8,o9,o10]/\Aa H H'/\H' fo=some (.lst ys)/\Av (HR (av H' [fo])) ys W/\FL B W m e0 i) ⟨[],[],_,_,_,_,_,_,_,rfl,e1,hfo1,.nil,FL.nil _ _ _⟩ (fun i σ' H' _ pp=>by obtain⟨_,_,_,_,_,_,_,_,_,_,e,_⟩:=pp;exact⟨A4.of (e _ _ hl),A4.of (e _ _ hkl)⟩) (fun i x y Tt σ' H' hx hy pp hT=>?_) (fun σ' H' pp=>?_)
 rotate_left
 .obtain⟨ys,W,o4,o5,o6,o7,o8,o9,o10,rfl,e,hy,ay,wn⟩:=pp
  rw[xl]at wn
  exact q fo _ W e ⟨ys,hy,ay.mono fun _ _ z=>z.over Gi⟩ wn.fin
 refine Ak fun _ zA=>?_
 obtain⟨ys,W,o4,o5,o6,o7,o8,o9,o10,rfl,e,hys,ay,wn⟩:=pp
 obtain⟨b,hb,t,w0,p0,rfl,ht,⟨wx,hw,aw⟩,⟨px,hp,ap⟩⟩:=ax.get' hx
 obtain⟨row,hrow,ra,rx,rfl,hra,arx⟩:=ar.get' hy
 refine zA ?_
 have bm:=AH hb
 have il:=(Ay.mp hb).1
 have b6:=ok.way b bm
 have bp:=ok.pll b bm
 have wl:=aw.1
 have pl:=ap.1
 have yl:=ay.1
 have Wl:=wn.len
 have con:=ks.con (m:=m) (e:=e0) il hb hrow
 have sT:=Ac hT (.tup [V.ref t,V.ref ra])
 have e2:=e.trans sT
 have hy2:=sT _ _ hys
 have ay2:=ay.mono fun y v z=>z.over (EF (S:=[fo]) sT)
 refine⟨Tt,_,rfl,A5.of A7,rfl,rfl,?_⟩
 generalize upd H' Tt (.tup [V.ref t,V.ref ra])=H2 at e2 hy2 ay2
 dsimp only[Am]
 have nf:∀{z:Addr} {o:HO},H z=some o->z≠fo:=fun{z o} h=>AQ h hfo
 refine⟨t,_,rfl,A5.of (e2 _ _ ht),rfl,rfl,?_⟩
 dsimp only[Am]
 refine ixT (e2 _ _ hky) rfl ?_
 dsimp only[Am]
 refine E8 (fun σ' H'=>∃(w1 p1:Addr) (x:Ag),σ'=[some (.ref l),some (.ref kl),some (.ref ky),some (.ref fo),some (.ref t),some (.ref ra),some (.int b.k),some (.int (x.sh:Int)),some (.ref w1),some (.ref p1),some (.int (e0:Int))]/\Aa H2 H'/\w1≠fo/\ED H' w1 x.ways/\E7 H' p1 x.pl/\x.k=b.k/\((AR B i e0 m/\x=wr b e0)\/(¬AR B i e0 m/\x=b))) (fun σ' H5 pp=>?_) (fun nx=>?_)
 .obtain⟨w1,p1,x,rfl,e5,nw,hw5,hp5,xk,hx5⟩:=pp
  have hy5:=e5 _ _ hy2
  refine⟨.inl ⟨rfl,_,A4.of hy5⟩,An rfl,fun t1 ht1=>?_⟩
  have s6:=Ac ht1 (.tup [V.int b.k,V.int (x.sh:Int),V.ref w1,V.ref p1])
  have ht6:(upd H5 t1 (.tup [V.int b.k,V.int (x.sh:Int),V.ref w1,V.ref p1])) t1=some (.tup [V.int b.k,V.int (x.sh:Int),V.ref w1,V.ref p1]):=A7
  have nt:t1≠fo:=fun z=>by rw[z,hy5]at ht1;cases ht1
  have hy6:=s6 _ _ hy5
  generalize upd H5 t1 (.tup [V.int b.k,V.int (x.sh:Int),V.ref w1,V.ref p1])=H6 at s6 ht6 hy6
  refine⟨fo,_,_,rfl,rfl,hy6,CT (by lia),?_⟩
  refine⟨ys++[.ref t1],W++[x],_,_,_,_,_,_,_,rfl,fun a o ha=>by rw[Ai (AQ ha hfo)];exact s6 _ _ (e5 _ _ (e2 _ _ ha)),A7,?_,wn.snoc hb hx5⟩
  rw[MG (by simp)]
  refine(ay2.mono fun y v z=>z.over (EF (S:=[fo]) (e5.trans s6))).snoc ⟨t1,w1,p1,rfl,by rw[HM (by rw[BL];exact nt),xk];exact ht6,(hw5.over s6).av hy6 nw,(hp5.over s6).tk (GU hy6)⟩
 .refine⟨ra,rx,EG (m,e0),row.map EG,⟨ky,rfl,A5.of (e2 _ _ hky)⟩,rfl,A4.of (e2 _ _ hra),Av.pas (arx.mono fun _ _ z=>z.over e2),_,rfl,BV (fun c=>?_) (fun c=>?_)⟩
  rotate_left
  .have c:¬AR B i e0 m:=fun z=>c (Bw (QN.mpr (con.mpr z)))
   exact nx _ _ ⟨w0,p0,b,rfl,Aa.refl _,nf hw,⟨wx,e2 _ _ hw,aw.mono fun _ _ z=>z.over e2⟩,⟨px,e2 _ _ hp,ap.mono fun _ _ z=>z.over e2⟩,rfl,.inr ⟨c,rfl⟩⟩
  refine Ak fun _ zB=>?_
  have c:AR B i e0 m:=con.mp (QN.mp (HJ c))
  obtain⟨b',hb',he⟩:=c.lt
  refine zB ?_
  rw[hb]at hb'
  cases hb'
  have hw2:=e2 _ _ hw
  have hp2:=e2 _ _ hp
  have aw2:=aw.mono fun _ _ z=>z.over e2
  have ap2:=ap.mono fun _ _ z=>z.over e2
  have hwe:b.ways[e0]?=some b.ways[e0]:=As he
  have gwe:b.ways.getD e0 (false,"")=b.ways[e0]:=Dm hwe
  generalize b.ways[e0]=wy at hwe gwe
  have hpe:b.pl[e0]?=some (b.pl[e0]'(by lia)):=As (by lia)
  have gpe:b.pl.getD e0 (0,0)=b.pl[e0]'(by lia):=Dm hpe
  generalize b.pl[e0]'(by lia)=pe at hpe gpe
  refine Ak fun _ zC=>?_
  obtain⟨xw,hxw,tw,rfl,htw⟩:=aw2.get hwe
  obtain⟨xp,hxp,tp,rfl,htp⟩:=ap2.get hpe
  refine zC ?_
  have cw:BS wx none (some (e0:Int))=wx.take e0:=Hj _ (G6 _)
  have cw2:BS wx (some (e0:Int)) none=wx.drop e0:=Nv _ (G6 _)
  have cp:BS px none (some (e0:Int))=px.take e0:=Hj _ (G6 _)
  have cp2:BS px (some (e0:Int)) none=px.drop e0:=Nv _ (G6 _)
  refine⟨_,rfl,w0,_,rfl,A4.of hw2,fun s1 hs1=>?_⟩
  rw[cw]
  have q1:=Ac hs1 (.lst (wx.take e0))
  refine⟨w0,_,_,_,rfl,rfl,A4.of (q1 _ _ hw2),Br hxw,tw,_,1,_,rfl,rfl,A5.of (q1 _ _ htw),rfl,An rfl,fun t2 ht2=>⟨An rfl,fun l2 hl2=>?_⟩⟩
  have q2:=Ac ht2 (.tup [V.bl true,V.str wy.2])
  have q3:=Ac hl2 (.lst [V.ref t2])
  refine⟨s1,l2,_,_,rfl,rfl,(q2.trans q3) _ _ A7,A7,Bu (by rw[AY,B4];lia),fun s3 hs3=>?_⟩
  have q4:=Ac hs3 (.lst (wx.take e0++[V.ref t2]))
  have q14:=((q1.trans q2).trans q3).trans q4
  refine⟨_,rfl,w0,_,rfl,A4.of (q14 _ _ hw2),fun s5 hs5=>?_⟩
  rw[cw2]
  have q5:=Ac hs5 (.lst (wx.drop e0))
  refine⟨s3,s5,_,_,rfl,rfl,q5 _ _ A7,A7,Bu (by rw[AB,AY,B4,Fx];lia),fun w1 hw1=>?_⟩
  have q6:=Ac hw1 (.lst (wx.take e0++[V.ref t2]++wx.drop e0))
  have q16:=(q14.trans q5).trans q6
  have ht6:=((q3.trans q4).trans (q5.trans q6)) t2 (.tup [V.bl true,V.str wy.2]) A7
  have nw:w1≠fo:=fun z=>by rw[z,(q14.trans q5) _ _ hy2]at hw1;cases hw1
  have hW:ED _ w1 (wr b e0).ways:=⟨_,(A7:(upd _ w1 (.lst (wx.take e0++[V.ref t2]++wx.drop e0))) w1=_),by
   show Av _ _ (b.ways.take e0++[(true,(b.ways.getD e0 (false,"")).2)]++b.ways.drop e0)
   rw[gwe]
   exact(((aw2.take e0).mono fun _ _ z=>z.over q16).snoc ⟨t2,rfl,ht6⟩).app (Av.drop (aw2.mono fun _ _ z=>z.over q16) e0)⟩
  dsimp only[Am]
  generalize upd (upd (upd (upd (upd (upd H2 s1 (.lst (wx.take e0))) t2 (.tup [V.bl true,V.str wy.2])) l2 (.lst [V.ref t2])) s3 (.lst (wx.take e0++[V.ref t2]))) s5 (.lst (wx.drop e0))) w1 (.lst (wx.take e0++[V.ref t2]++wx.drop e0))=H6 at q16 hW
  clear q1 q2 q3 q4 q14 q5 q6 ht6 hs1 ht2 hl2 hs3 hs5 hw1
  refine⟨_,rfl,p0,_,rfl,q16 _ _ hp2,fun a1 HA eA hA=>?_⟩
  rw[cp]at hA
  refine ixT (eA _ _ (q16 _ _ hp2)) (Br hxp) ⟨An rfl,fun a2 ha2=>?_⟩
  have r2:=Ac ha2 (.tup [V.ref tp])
  refine⟨a1,a2,_,_,rfl,rfl,r2 _ _ hA,A7,Bu (by rw[AY,B4];lia),fun a3 HB eB hB=>?_⟩
  have eB:=(eA.trans r2).trans eB
  refine⟨_,rfl,p0,_,rfl,eB _ _ (q16 _ _ hp2),fun a4 HC eC hC=>?_⟩
  rw[cp2]at hC
  refine⟨a3,a4,_,_,rfl,rfl,eC _ _ hB,hC,Bu (by rw[AB,AY,B4,Fx];lia),fun p1 HD eD hD=>?_⟩
  have eD:=(eB.trans eC).trans eD
  have q1D:=q16.trans eD
  have hP:E7 HD p1 (wr b e0).pl:=⟨_,hD,by
   show Av _ _ (b.pl.take e0++[b.pl.getD e0 (0,0)]++b.pl.drop e0)
   rw[gpe]
   exact(((ap2.take e0).mono fun _ _ z=>z.over q1D).snoc ⟨tp,rfl,q1D _ _ htp⟩).app (Av.drop (ap2.mono fun _ _ z=>z.over q1D) e0)⟩
  dsimp only[Am]
  refine⟨_,rfl,BV (fun c2=>?_) (fun c2=>?_)⟩
  .have c2:=dT c2
   have es:(wr b e0).sh=b.sh+1:=by rw[JD,Ap (by lia)]
   refine nx _ _ ⟨w1,p1,wr b e0,?_,q1D,nw,hW.over eD,hP,rfl,.inl ⟨c,rfl⟩⟩
   rw[es]
   rfl
  .have c2:=dF c2
   have es:(wr b e0).sh=b.sh:=by rw[JD,Al (by lia)]
   refine nx _ _ ⟨w1,p1,wr b e0,?_,q1D,nw,hW.over eD,hP,rfl,.inl ⟨c,rfl⟩⟩
   rw[es]
   rfl
theorem bu (T:Tx K mg a):AS P w K mg base B9 1 a.f_L a.d_L ["_law_one","_law_other","_law_leaves_here","_law_keys_here"] aK:=by
 refine T.F_L.ok HZ (fun vs H Q E h=>?_) (fun cdv A outer s H vs Q E hr h=>?_)
 .obtain⟨_,_,_,_,_,_,_,_,_,_,_,_,rfl,_⟩:=h;rfl
 obtain⟨x,y,l,kl,B,D,R,T1,U,k,b,d,rfl,⟨t1,d1,rfl,ht1,hd1⟩,⟨t2,d2,rfl,ht2,hd2⟩,⟨xs,hl,ax⟩,l8,⟨rs,hkl,ar⟩,ks,hb,hd,lT,lU,hm,q⟩:=h
 refine⟨_,(A8 (Ah (i:=4) HZ.nd rfl (.inl rfl) (A6 AO (pw 2) (A6 Ae (pw 0) A1 (fun _ _=>rfl)) (fun _ _=>rfl)))
  (A8 (Ah (i:=5) HZ.nd rfl (.inl rfl) (A6 AO (pw 2) (A6 Ae (pw 1) A1 (fun _ _=>rfl)) (fun _ _=>rfl)))
  (A8 (C8 PassesOwn.never rfl (F2 (by rfl) T.z_range (A0 (Bf (Jy rfl) (by rfl) T.z_min GO (A0 (Bf BI (by rfl) T.z_len BJ (A0 (A6 Ae (pw 4) A1 (fun _ _=>rfl)) A3)) (A0 (Bf BI (by rfl) T.z_len BJ (A0 (A6 Ae (pw 5) A1 (fun _ _=>rfl)) A3)) A3))) A3)) (Ax (i:=6) HZ.nd rfl (.inl rfl))
  (A8 (Bp (AU (Tj (FE hr)) (A6 AO (A6 AO (pw 3) (A6 Ae (pw 0) A1 (fun _ _=>rfl)) (fun _ _=>rfl)) (pw 6) (fun _ _=>rfl)) (A6 AO (A6 AO (pw 3) (A6 Ae (pw 1) A1 (fun _ _=>rfl)) (fun _ _=>rfl)) (pw 6) (fun _ _=>rfl)) (AK _))
  (Aj Xh)
  BB)
  (A8 (Ah (i:=7) HZ.nd rfl (.inl rfl) (Ab (Aq AL) (A6 Ae (A6 Ae (pw 0) A1 (fun _ _=>rfl)) (A6 Ae (A6 Ae (A6 Ae (pw 4) A1 (fun _ _=>rfl)) (pw 6) (fun _ _=>rfl)) A1 (fun _ _=>rfl)) (fun _ _=>rfl)) (A6 Ae (A6 Ae (A6 Ae (pw 4) A1 (fun _ _=>rfl)) (pw 6) (fun _ _=>rfl)) A1 (fun _ _=>rfl))))
  (A8 (Ah (i:=8) HZ.nd rfl (.inl rfl) (Ab (Aq AL) (A6 Ae (A6 Ae (pw 1) A1 (fun _ _=>rfl)) (A6 Ae (A6 Ae (A6 Ae (pw 5) A1 (fun _ _=>rfl)) (pw 6) (fun _ _=>rfl)) A1 (fun _ _=>rfl)) (fun _ _=>rfl)) (A6 Ae (A6 Ae (A6 Ae (pw 5) A1 (fun _ _=>rfl)) (pw 6) (fun _ _=>rfl)) A1 (fun _ _=>rfl))))
  (Aj (Bp (AU IP (pw 7) (pw 8) (AK _))
  (A8 (Bp (AU C3 (A6 Ae (A6 AO (A6 Ae (pw 4) A1 (fun _ _=>rfl)) (pw 6) (fun _ _=>rfl)) A1 (fun _ _=>rfl)) C6 (AK _))
  (Aj (AM A1))
  BB)
  (Aj (AM (Ab (Aq Ci) A1 (Ab (oJ Cp) A1 (Do Gb (by rfl) T.z_int G8 (A0 (Em C3 (Em (Aq F4) (pw 7) (pw 8) (AK _)) (Em C3 (A6 Ae (A6 AO (A6 Ae (pw 4) A1 (fun _ _=>rfl)) (pw 6) (fun _ _=>rfl)) A1 (fun _ _=>rfl)) C6 (AK _)) (AK _)) A3)))))))
  BB))))))
  (Aj (AM (Ab (Aq Ci) A1 (Ab (oJ Cp) A1 (Do Gb (by rfl) T.z_int G8 (A0 (Em (Aq F4) (A6 Ae (pw 0) A1 (fun _ _=>rfl)) (A6 Ae (pw 1) A1 (fun _ _=>rfl)) (AK _)) A3))))))))),?_⟩
 refine Ak fun _ zA=>?_
 have bm:=AH hb
 have dm:=AH hd
 have ib:=(Ay.mp hb).1
 have id':=(Ay.mp hd).1
 obtain⟨kb,kd⟩:=Qe l8.lv.ok hb hd hm
 have b3:=l8.w3 b bm
 have d3:=l8.w3 d dm
 have bpl:=l8.lv.pll b bm
 have dpl:=l8.lv.pll d dm
 obtain⟨xb,hxb,tb,wb,pb,rfl,htb,⟨wx,hwb,awb⟩,⟨px,hpb,apb⟩⟩:=ax.get hb
 obtain⟨xd,hxd,td,wd,pd,rfl,htd,⟨wy,hwd,awd⟩,⟨py,hpd,apd⟩⟩:=ax.get hd
 obtain⟨rowb,hrb,rbl,rbk⟩:=ks.at ib hb
 obtain⟨rowd,hrd,rdl,rdk⟩:=ks.at id' hd
 obtain⟨yb,hyb,rb,rbx,rfl,hrbx,arb⟩:=ar.get hrb
 obtain⟨yd,hyd,rd,rdx,rfl,hrdx,ard⟩:=ar.get hrd
 refine zA ?_
 have wl:=awb.1
 have wl2:=awd.1
 have q0:=q H (Aa.refl _)
 clear q
 refine⟨t1,_,0,_,rfl,rfl,A5.of ht1,rfl,l,_,_,_,rfl,rfl,A4.of hl,Br hxb,?_⟩
 dsimp only[Am]
 refine⟨t2,_,0,_,rfl,rfl,A5.of ht2,rfl,l,_,_,_,rfl,rfl,A4.of hl,Br hxd,?_⟩
 dsimp only[Am]
 have fin:∀o6 o7 o8:Option V,(∀e<k,CH T1.2 (b.pl.getD e (0,0))=CH U.2 (d.pl.getD e (0,0)))->De ((List.range k).map (CG b d T1.2 U.2)) (decide (T1.1<U.1))=if decide (T1.1<U.1)=true then -1 else 1:=fun _ _ _ h=>by
  rw[M5 (e:=k) (fun i hi w x y hl=>?_),S2 (by rw[Au,Dx];exact Af _)]
  .rfl
  .rw[Bq,DP hi]at hl
   injection hl with hl
   unfold CG at hl
   injection hl with _ hl
   injection hl with h1 h2
   rw[←h1,←h2]
   exact h i hi
 refine E8 (fun σ' H'=>H'=H/\∃o6 o7 o8:Option V,σ'=[some (.ref t1),some (.ref t2),some (.ref l),some (.ref kl),some (.ref tb),some (.ref td),o6,o7,o8]/\∀e<k,CH T1.2 (b.pl.getD e (0,0))=CH U.2 (d.pl.getD e (0,0))) (fun σ' H' pp=>?_) (fun nx=>?_)
 .obtain⟨rfl,o6,o7,o8,rfl,he⟩:=pp
  rw[fin o6 o7 o8 he]at q0
  refine⟨t1,_,0,_,rfl,rfl,A5.of ht1,rfl,t2,_,0,_,rfl,rfl,A5.of ht2,rfl,.inr ⟨_,rfl,.inl ⟨by decide,by decide⟩,?_⟩⟩
  have:(1:Int)-2*(if decide ((T1.1:Int)<(U.1:Int))=true then 1 else 0)=if decide (T1.1<U.1)=true then -1 else 1:=by
   by_cases c:T1.1<U.1
   .rw[Bw c,Bw (by lia)];rfl
   .rw[Bk c,Bk (by lia)];rfl
  rw[←this]at q0
  exact q0
 .have mn:(if((wy.length:Nat):Int)<((wx.length:Nat):Int) then((wy.length:Nat):Int) else((wx.length:Nat):Int))=((min b.ways.length d.ways.length:Nat):Int):=by split<;>lia
  refine⟨tb,_,2,_,rfl,rfl,A5.of htb,rfl,wb,_,rfl,.inl (A4.of hwb),td,_,2,_,rfl,rfl,A5.of htd,rfl,wd,_,rfl,.inl (A4.of hwd),_,_,rfl,?_⟩
  rw[mn]
  refine⟨_,rfl,by lia,by lia,?_⟩
  rw[Ky]
  refine Fe (lo:=0) (n:=min b.ways.length d.ways.length) (fun i σ' H2=>H2=H/\i<=k/\(∀e<i,CH T1.2 (b.pl.getD e (0,0))=CH U.2 (d.pl.getD e (0,0)))/\∃o6 o7 o8:Option V,σ'=[some (.ref t1),some (.ref t2),some (.ref l),some (.ref kl),some (.ref tb),some (.ref td),o6,o7,o8]) ⟨rfl,Bj _,fun e he=>absurd he (J9 _),_,_,_,rfl⟩ (fun i σ' H' hik pp=>?_) (fun σ' H' pp=>?_)
  rotate_left
  .obtain⟨rfl,hi,he,o6,o7,o8,rfl⟩:=pp
   exact nx _ _ ⟨rfl,_,_,_,rfl,fun e h=>he e (by lia)⟩
  refine Ak fun _ zB=>?_
  obtain⟨rfl,hi,he,o6,o7,o8,rfl⟩:=pp
  refine zB ?_
  rw[GH]
  refine Ak fun _ zC=>?_
  obtain⟨m1,hm1,K1⟩:=rbk i (by lia)
  obtain⟨m2,hm2,K2⟩:=rdk i (by lia)
  obtain⟨xk1,hxk1,tk1,rfl,htk1⟩:=arb.get hm1
  obtain⟨xk2,hxk2,tk2,rfl,htk2⟩:=ard.get hm2
  refine zC ?_
  have same:=AR.many l8.lv.ok K1 K2 hm
  refine⟨t1,_,0,_,rfl,rfl,A5.of ht1,rfl,kl,_,_,_,rfl,rfl,A4.of hkl,Br hyb,rb,_,_,_,rfl,rfl,A4.of hrbx,Br hxk1,t2,_,0,_,rfl,rfl,A5.of ht2,rfl,kl,_,_,_,rfl,rfl,A4.of hkl,Br hyd,rd,_,_,_,rfl,rfl,A4.of hrdx,Br hxk2,?_⟩
  have tr:∀{t:Addr} {a c:Nat},H' t=some (.tup [.int (a:Int),.int (c:Int)])->BE K H' (.ref t) (.tup (([(a:Int),(c:Int)]:List Int).map fun i=>Tr.v (.int i))):=fun{t a c} h=>.tup (A5.of h) (Ij [(a:Int),(c:Int)])
  refine⟨_,_,tr htk1,tr htk2,⟨_,rfl⟩,⟨_,rfl⟩,?_,by show Ct (.tup [.v _,.v _])<=60;simp[Ct,CK],?_⟩
  .rw[Cf];exact KR _ _
  rw[PY]
  refine⟨_,rfl,BV (fun c=>?_) (fun c=>?_)⟩
  .have c:¬(m1=m2):=fun z=>by
    have c:(!decide ([(m1:Int),(i:Int)]=[(m2:Int),(i:Int)]))=true:=c
    rw[z,Bw rfl]at c
    cases c
   have:¬i<k:=fun z=>c (same.mpr z)
   exact nx _ _ ⟨rfl,_,_,_,rfl,fun e h=>he e (by lia)⟩
  have c:m1=m2:=by
   have c:¬(!decide ([(m1:Int),(i:Int)]=[(m2:Int),(i:Int)]))=true:=c
   by_cases z:[(m1:Int),(i:Int)]=[(m2:Int),(i:Int)]
   .injection z with z _;lia
   .rw[Bk z]at c;exact absurd rfl c
  have ik:i<k:=same.mp c
  have hpi:b.pl[i]?=some (b.pl[i]'(by lia)):=As (by lia)
  have gpi:b.pl.getD i (0,0)=b.pl[i]'(by lia):=Dm hpi
  generalize b.pl[i]'(by lia)=pp1 at hpi gpi
  have hqi:d.pl[i]?=some (d.pl[i]'(by lia)):=As (by lia)
  have gqi:d.pl.getD i (0,0)=d.pl[i]'(by lia):=Dm hqi
  generalize d.pl[i]'(by lia)=qq1 at hqi gqi
  have hwi:b.ways[i]?=some (b.ways[i]'(by lia)):=As (by lia)
  have gwi:b.ways.getD i (false,"")=b.ways[i]'(by lia):=Dm hwi
  generalize b.ways[i]'(by lia)=ww1 at hwi gwi
  refine Ak fun _ zD=>?_
  obtain⟨xp1,hxp1,tp1,rfl,htp1⟩:=apb.get hpi
  obtain⟨xq1,hxq1,tq1,rfl,htq1⟩:=apd.get hqi
  obtain⟨xw1,hxw1,tw1,rfl,htw1⟩:=awb.get hwi
  obtain⟨_,_,_,lb1⟩:=l8.lf b bm
  obtain⟨_,_,_,ld1⟩:=l8.lf d dm
  refine zD ?_
  have pb1:=lb1 pp1 (AH hpi)
  have pd1:=ld1 qq1 (AH hqi)
  have at1:B5 (T1.2.map V.int) pp1.1=some (.int (T1.2.getD pp1.1.toNat 0)):=Ho (ns:=T1.2) pb1.1 (by lia)
  have at2:B5 (U.2.map V.int) qq1.1=some (.int (U.2.getD qq1.1.toNat 0)):=Ho (ns:=U.2) pd1.1 (by lia)
  dsimp only[Am]
  refine⟨t1,_,1,_,rfl,rfl,A5.of ht1,rfl,tb,_,3,_,rfl,rfl,A5.of htb,rfl,pb,_,_,_,rfl,rfl,A5.of hpb,Br hxp1,tp1,_,0,_,rfl,rfl,A5.of htp1,rfl,d1,_,_,_,rfl,rfl,A5.of hd1,at1,tb,_,3,_,rfl,rfl,A5.of htb,rfl,pb,_,_,_,rfl,rfl,A5.of hpb,Br hxp1,tp1,_,1,_,rfl,rfl,A5.of htp1,rfl,?_⟩
  dsimp only[Am,Ei]
  refine⟨t2,_,1,_,rfl,rfl,A5.of ht2,rfl,td,_,3,_,rfl,rfl,A5.of htd,rfl,pd,_,_,_,rfl,rfl,A5.of hpd,Br hxq1,tq1,_,0,_,rfl,rfl,A5.of htq1,rfl,d2,_,_,_,rfl,rfl,A5.of hd2,at2,td,_,3,_,rfl,rfl,A5.of htd,rfl,pd,_,_,_,rfl,rfl,A5.of hpd,Br hxq1,tq1,_,1,_,rfl,rfl,A5.of htq1,rfl,?_⟩
  dsimp only[Am,Ei]
  have el:CH T1.2 (b.pl.getD i (0,0))=T1.2.getD pp1.1.toNat 0+pp1.2:=by rw[gpi];rfl
  have er:CH U.2 (d.pl.getD i (0,0))=U.2.getD qq1.1.toNat 0+qq1.2:=by rw[gqi];rfl
  generalize T1.2.getD pp1.1.toNat 0+pp1.2=lt at el
  generalize U.2.getD qq1.1.toNat 0+qq1.2=rt at er
  refine⟨rfl,_,rfl,?_⟩
  by_cases c3:lt=rt
  .refine B8 (v:=false) (Iv (congrArg V.int c3)) (BZ ?_)
   refine⟨rfl,by lia,fun e h=>?_,_,_,_,rfl⟩
   rcases Da e i with z|z
   .exact he e z
   .have:e=i:=by lia
    subst this
    rw[el,er,c3]
  .refine B8 (v:=true) (K6 fun z=>c3 (V.int.inj z)) (BY ?_)
   have val:De ((List.range k).map (CG b d T1.2 U.2)) (decide (T1.1<U.1))=Es ww1.2 (decide (lt<rt)):=by
    rw[M5 (e:=i) (fun j hj w x y hl=>?_)]
    .have hg:((List.range k).map (CG b d T1.2 U.2))[i]?=some (ww1.2,lt,rt):=by
      rw[Bq,DP ik]
      show some (CG b d T1.2 U.2 i)=_
      unfold CG
      rw[gwi,el,er]
     have hlen:i<((List.range k).map (CG b d T1.2 U.2)).length:=by rw[Au,Dx];exact ik
     rw[GG hlen]
     have hge:((List.range k).map (CG b d T1.2 U.2))[i]=(ww1.2,lt,rt):=by
      rw[As hlen]at hg
      exact Ck hg
     rw[hge]
     show(if lt=rt then _ else Es ww1.2 (decide (lt<rt)))=_
     rw[Al c3]
    .rw[Bq,DP (by lia)]at hl
     injection hl with hl
     unfold CG at hl
     injection hl with _ hl
     injection hl with h1 h2
     rw[←h1,←h2]
     exact he j hj
   rw[val]at q0
   unfold Es at q0
   refine⟨tb,_,2,_,rfl,rfl,A5.of htb,rfl,wb,_,_,_,rfl,rfl,A4.of hwb,Br hxw1,tw1,_,1,_,rfl,rfl,A5.of htw1,rfl,rfl,_,rfl,?_⟩
   by_cases c4:ww1.2="any"
   .refine B8 (v:=true) (Bw (congrArg V.str c4)) (BY ?_)
    rw[Ap c4]at q0
    exact q0
   refine B8 (v:=false) (Bk fun z=>c4 (V.str.inj z)) (BZ ?_)
   rw[Al c4]at q0
   have ev:decide (V.str ww1.2=V.str "up")=decide (ww1.2="up"):=by
    by_cases d:ww1.2="up"
    .rw[Bw d,Bw (congrArg V.str d)]
    .rw[Bk d,Bk fun z=>d (V.str.inj z)]
   refine⟨tb,_,2,_,rfl,rfl,A5.of htb,rfl,wb,_,_,_,rfl,rfl,A4.of hwb,Br hxw1,tw1,_,1,_,rfl,rfl,A5.of htw1,rfl,rfl,rfl,.inr ⟨_,rfl,.inl ⟨by decide,by decide⟩,?_⟩⟩
   rw[ev]
   have:(1:Int)-2*(if decide (V.bl (decide (lt<rt))=V.bl (decide (ww1.2="up")))=true then 1 else 0)=if decide (lt<rt)=decide (ww1.2="up") then -1 else 1:=by
    by_cases d:decide (lt<rt)=decide (ww1.2="up")
    .rw[Ap d,Bw (congrArg V.bl d)];rfl
    .rw[Al d,Bk fun z=>d (V.bl.inj z)];rfl
   rw[←this]at q0
   exact q0
theorem SK (T:Tx K mg a):AS P w K mg base B9 2 a.f_M a.d_M ["_law_script","_law_first"] (Z7 K):=by
 have G_a :=@IL P w K mg base a T
 refine T.F_M.ok Kp (fun vs H Q E h=>?_) (fun cdv A outer s H vs Q E hr h=>?_)
 .obtain⟨_,_,_,rfl,_⟩:=h;rfl
 obtain⟨p,ns,f,rfl,hp,f0,f1,q⟩:=h
 refine⟨_,(A8 (Ah (i:=2) Kp.nd rfl (.inl rfl) (Ab (Aq AL) A1 (Ab (oJ C5) (AJ G_a (hr.mono (by lia)) (by rfl) T.m_a T.F_a.kp T.b_a .nil AF (A0 (pw 0) (A0 (pw 1) A3))) A1)))
  (A8 (Bp (AU C3 (Ab (oJ C5) (Ab (oJ Gc) (AJ G_a (hr.mono (by lia)) (by rfl) T.m_a T.F_a.kp T.b_a .nil AF (A0 (pw 0) (A0 (pw 1) A3))) A1) A1) A1 (AK _))
  (Aj (Ah (i:=2) Kp.nd rfl (.inl rfl) (Ab (Aq AL) A1 (Ab (oJ C5) (Ab (oJ Cp) (AJ G_a (hr.mono (by lia)) (by rfl) T.m_a T.F_a.kp T.b_a .nil AF (A0 (pw 0) (A0 (pw 1) A3))) A1) (Ab (oJ IG) A1 A1)))))
  BB)
  (A8 (Ah (i:=3) Kp.nd rfl (.inl rfl) A1)
  (A8 (Bp (AU C3 (Ab (oJ C5) (AJ G_a (hr.mono (by lia)) (by rfl) T.m_a T.F_a.kp T.b_a .nil AF (A0 (pw 0) (A0 (Ab (Aq AL) (pw 1) A1) A3))) A1) A1 (AK _))
  (Aj (Ah (i:=3) Kp.nd rfl (.inl rfl) (Ab (Aq Ci) (Ab (oJ C5) (Ab (oJ Cp) (AJ G_a (hr.mono (by lia)) (by rfl) T.m_a T.F_a.kp T.b_a .nil AF (A0 (pw 0) (A0 (Ab (Aq AL) (pw 1) A1) A3))) A1) (Ab (Aq AL) (Ab (oJ Cp) A1 (Ab (oJ IG) A1 A1)) A1)) (Ab (oJ IG) A1 A1))))
  BB)
  (Aj (AM (Bb (A0 (pw 2) (A0 (pw 3) A3))))))))),?_⟩
 have e16:(10 ^ (16:Int).toNat:Int)=10000000000000000:=by decide
 have e17:(10 ^ (17:Int).toNat:Int)=100000000000000000:=by decide
 refine⟨p,ns,f,rfl,hp,f0,by lia,fun m m0 _=>⟨(by show(0:Int)<3;decide),?_⟩⟩
 have a0:=Dr m (show(3:Int)≠0 by decide)
 have a1:=Dt m (show(0:Int)<3 by decide)
 dsimp only[Am,Ei]
 refine EY (fun σ' H'=>∃c:Int,H'=H/\σ'=[some (.ref p),some (.int f),some (.int c),none]/\Sc c) (fun σ' H' pp=>?_) (fun _ nx=>?_)
 rotate_left
 .refine⟨p,ns,f,rfl,hp,f0,by lia,fun m2 m20 _=>⟨⟨by decide,by decide⟩,(by show(0:Int)<3;decide),rfl,_,rfl,BV (fun _=>?_) (fun _=>nx _ _ ⟨_,rfl,rfl,by unfold Sc;lia⟩)⟩⟩
  refine⟨p,ns,f,rfl,hp,f0,by lia,fun m3 m30 _=>⟨.inr ⟨by decide,by decide⟩,⟨by decide,by decide,by decide⟩,(by show(0:Int)<10 ^ (16:Int).toNat;decide),?_⟩⟩
  have b0:=Dr (m3*998244353) (show(10 ^ (16:Int).toNat:Int)≠0 by decide)
  have b1:=Dt (m3*998244353) (show(0:Int)<10 ^ (16:Int).toNat by decide)
  exact nx _ _ ⟨1+m3*998244353%10 ^ (16:Int).toNat,rfl,rfl,by unfold Sc;lia⟩
 refine Ak fun _ zA=>?_
 obtain⟨c,rfl,rfl,hc⟩:=pp
 refine zA ?_
 refine Vn ?_
 refine EY (fun σ' H2=>∃b:Int,H2=H'/\σ'=[some (.ref p),some (.int f),some (.int c),some (.int b)]) (fun σ' H2 pp=>?_) (fun _ nx=>?_)
 rotate_left
 .refine⟨p,ns,f+1,rfl,hp,by lia,by lia,fun m2 m20 _=>⟨(by show(0:Int)<2;decide),rfl,_,rfl,BV (fun _=>?_) (fun _=>nx _ _ ⟨0,rfl,rfl⟩)⟩⟩
  refine⟨p,ns,f+1,rfl,hp,by lia,by lia,fun m3 m30 _=>⟨.inr ⟨by decide,by decide⟩,⟨by decide,by decide,by decide⟩,.inl ⟨by decide,by decide⟩,(by show(0:Int)<2*10 ^ (17:Int).toNat+1;decide),⟨by decide,by decide,by decide⟩,nx _ _ ⟨_,rfl,rfl⟩⟩⟩
 refine Ak fun _ zB=>?_
 obtain⟨b,rfl,rfl⟩:=pp
 refine zB ?_
 refine⟨An rfl,fun r hr'=>?_⟩
 exact q r _ c b (Ac hr' _) A7 hc
theorem ZF (T:Tx K mg a):AS P w K mg base B9 2 a.f_N a.d_N ["_law_deeds_here","_law_leaves_here","_law_frame_here"] aU:=by
 have G_F :=@YN P w K mg base a T
 refine T.F_N.ok JA (fun vs H Q E h=>?_) (fun cdv A outer s H vs Q E hr h=>?_)
 .obtain⟨_,_,_,_,_,_,_,_,_,rfl,_⟩:=h;rfl
 obtain⟨dl,l,fr,xs,Ds,B,D,scl,bs,rfl,hdl,axd,rq,⟨lx,hl,al⟩,l8,rfl,hfr,hsc,q⟩:=h
 refine⟨_,(A8 (Ah (i:=3) JA.nd rfl (.inl rfl) (Bs A3))
  (A8 (C8 PassesOwn.never rfl (Jz (by rfl) T.z_enumerate (A0 (pw 1) A3)) (Dg rfl (AN (Ax (i:=4) JA.nd rfl (.inl rfl)) (AN (Ax (i:=5) JA.nd rfl (.inl rfl)) CB)))
  (Aj (C8 PassesOwn.never rfl (CV (AJ G_F (hr.mono (by lia)) (by rfl) T.m_F T.F_F.kp T.b_F .nil AF (A0 (A6 Ae (A6 AO (pw 0) (A6 Ae (pw 5) A1 (fun _ _=>rfl)) (fun _ _=>rfl)) A1 (fun _ _=>rfl)) A3))) (Ax (i:=6) JA.nd rfl (.inl rfl))
  (Aj (Cr (Cw CA Dy Dz D9 (pw 3) (A0 (Bb (A0 (pw 4) (A0 (Do IA (by rfl) T.z_tuple IH (A0 (Et ["_law_one","_law_frame_here"] [none,some 2] (by rfl) (Zu (pw 6)) V4 (fun _ _ _ _ _ _=>⟨(Ax (i:=0) Vf rfl (.inl rfl)),EE,(Ab (Aq AL) (Ab (oJ Cp) (A6 (show D4 _ (DT K) from Ae) (pw 1) A1 (fun _ _=>rfl)) (pw 0)) (A6 (show D4 _ (DT K) from Ae) (pw 1) A1 (fun _ _=>rfl)))⟩)) A3)) A3))) A3)))))))
  (Aj (AM (pw 3))))),?_⟩
 have ll:=al.1
 have B6:=l8.lv.len
 refine⟨An rfl,fun fo hfo=>?_⟩
 have e1:=Ac hfo (.lst [])
 have hfo1:(upd H fo (.lst [])) fo=some (.lst []):=A7
 dsimp only[Am]
 generalize upd H fo (.lst [])=H1 at e1 hfo1
 refine⟨l,rfl,⟨_,A4.of (e1 _ _ hl)⟩,?_⟩
 refine Ju (xs:=lx) (fun i σ' H'=>∃(ts:List V) (Ts:List F5) (o4 o5 o6:Option V),σ'=[some (.ref dl),some (.ref l),some (.ref fr),some (.ref fo),o4,o5,o6]/\Aa H H'/\H' fo=some (.lst ts)/\Av (Ex H') ts Ts/\(∀T∈Ts,LG B T)/\Ts.length<=i*101321) ⟨[],[],_,_,_,rfl,e1,hfo1,.nil,(fun T hT=>by cases hT),Bj _⟩ (fun i σ' H' _ pp=>by obtain⟨_,_,_,_,_,_,e,_⟩:=pp;exact A4.of (e _ _ hl)) (fun i y Tt σ' H' hy pp hT=>?_) (fun σ' H' pp=>?_)
 rotate_left
 .obtain⟨ts,Ts,o4,o5,o6,rfl,e,h1,h2,h3,h4⟩:=pp
  exact q fo ts Ts _ e h1 h2 h3 (by lia)
 refine Ak fun _ zA=>?_
 obtain⟨ts,Ts,o4,o5,o6,rfl,e,hts,ats,hTs,cT⟩:=pp
 have il:i<lx.length:=(Ay.mp hy).1
 obtain⟨b,hb,t,w0,p0,rfl,ht,_,_⟩:=al.get' hy
 have bm:=AH hb
 obtain⟨k,bk,hk,_⟩:=l8.lf b bm
 obtain⟨Dd,hDd,eD⟩:∃Dd,Ds[k]?=some Dd/\Dd.L.length=b.ways.length:=by
  rw[Bq]at hk
  cases c:Ds[k]? with
  |none=>rw[c]at hk;cases hk
  |
   some Dd=>
   rw[c]at hk
   have hk:(Dd.L.length:Int)=(b.ways.length:Int):=Ck hk
   exact⟨Dd,rfl,by lia⟩
 have okd:=rq.row.ok Dd (AH hDd)
 have ok7:=rq.in7 Dd (AH hDd)
 obtain⟨xk,hxk,tk,o,pt,rfl,htk,⟨vx,hvx,avx⟩,_⟩:=axd.get hDd
 refine zA ?_
 have sT:=Ac hT (.tup [V.int (i:Int),V.ref t])
 have e2:=e.trans sT
 refine⟨Tt,_,rfl,A5.of A7,rfl,rfl,?_⟩
 have hts2:=sT _ _ hts
 have ats2:=ats.mono fun _ _ z=>z.over sT
 generalize upd H' Tt (.tup [V.int (i:Int),V.ref t])=H2 at sT e2 hts2 ats2
 dsimp only[Am]
 rw[bk]at ht
 refine⟨t,_,0,_,rfl,rfl,A5.of (e2 _ _ ht),rfl,dl,_,_,_,rfl,rfl,A4.of (e2 _ _ hdl),Br hxk,tk,_,0,_,rfl,rfl,A5.of (e2 _ _ htk),rfl,o,Dd.L,rfl,⟨vx,e2 _ _ hvx,avx.mono fun _ _ z=>z.over e2⟩,ok7,okd.ll,fun rl ys H9 R e9 hrn hrl ay hR cR=>?_⟩
 have yl:=ay.1
 have e29:=e2.trans e9
 refine⟨rl,rfl,⟨_,A4.of hrl⟩,?_⟩
 obtain⟨M,hM⟩:∃M,M=i*101321:=⟨_,rfl⟩
 rw[←hM]at cT
 refine FJ (xs:=ys) (fun j σ' H3=>∃(ts:List V) (Ts:List F5) (o6:Option V),σ'=[some (.ref dl),some (.ref l),some (.ref fr),some (.ref fo),some (.int (i:Int)),some (.ref t),o6]/\H3 rl=some (.lst ys)/\Av (DF H3) ys R/\Aa H H3/\H3 fo=some (.lst ts)/\Av (Ex H3) ts Ts/\(∀T∈Ts,LG B T)/\Ts.length<=M+j) ⟨ts,Ts,_,rfl,hrl,ay,e29,e9 _ _ hts2,ats2.mono fun _ _ z=>z.over e9,hTs,cT⟩ (fun j σ' H3 _ pp=>by obtain⟨_,_,_,_,h,_⟩:=pp;exact A4.of h) (fun j y σ' H3 hy2 pp=>?_) (fun σ' H3 pp=>?_)
 rotate_left
 .obtain⟨ts,Ts,o6,rfl,_,_,e3,h1,h2,h3,h4⟩:=pp
  exact⟨ts,Ts,_,_,_,rfl,e3,h1,h2,h3,by rw[J3,←hM];lia⟩
 refine Ak fun _ zB=>?_
 obtain⟨ts,Ts,o6,rfl,hrl3,ay3,e3,hts3,ats3,hTs3,cT3⟩:=pp
 have tl:=ats3.1
 have jl:=(Ay.mp hy2).1
 obtain⟨v,hv,tv,rfl,htv⟩:=ay3.get' hy2
 refine zB ?_
 have vl:=hR v (AH hv)
 have dll:=okd.ll
 have nrl:rl≠fo:=fun z=>by rw[z,hts2]at hrn;cases hrn
 dsimp only[Am]
 refine⟨.inl ⟨rfl,_,A4.of hts3⟩,tv,rfl,⟨_,A5.of htv⟩,?_⟩
 refine Vi (xs:=v.map V.int) (fun k us H4=>H4=H3/\us=((v.take k).map fun n=>scl*n+bs).map V.int) ⟨rfl,rfl⟩ (Bu (by rw[Au];lia)) (fun k us H4 hk pp=>⟨by rw[pp.1];exact A5.of htv,by rw[pp.2,Au,Au,AY];lia⟩) (fun k u us H4 hu pp=>?_) (fun us H4 pp l1 hl1=>?_)
 .obtain⟨rfl,rfl⟩:=pp
  rw[Bq]at hu
  cases c:v[k]? with
  |none=>rw[c]at hu;cases hu
  |
   some n0=>
   rw[c]at hu
   cases hu
   refine⟨fr,_,0,_,rfl,rfl,A5.of (e3 _ _ hfr),rfl,.inl ⟨by have:=hsc.1;lia,by have:=hsc.2;lia⟩,fr,_,1,_,rfl,rfl,A5.of (e3 _ _ hfr),rfl,rfl,?_⟩
   rw[DI c,BA,BA]
   rfl
 obtain⟨rfl,rfl⟩:=pp
 rw[Au,KC]
 have sl:=Ac hl1 (.lst ((v.map fun n=>scl*n+bs).map V.int))
 refine⟨l1,_,rfl,.inl ⟨A4.of A7,fun tt htt=>⟨An rfl,fun r hr'=>?_⟩⟩⟩
 have st:=Ac htt (.tup ((v.map fun n=>scl*n+bs).map V.int))
 have sr:=Ac hr' (.tup [V.int (i:Int),V.ref tt])
 have s4:=sl.trans (st.trans sr)
 have hr4:(upd (upd (upd H4 l1 (.lst ((v.map fun n=>scl*n+bs).map V.int))) tt (.tup ((v.map fun n=>scl*n+bs).map V.int))) r (.tup [V.int (i:Int),V.ref tt])) r=some (.tup [V.int (i:Int),V.ref tt]):=A7
 have htt4:(upd (upd (upd H4 l1 (.lst ((v.map fun n=>scl*n+bs).map V.int))) tt (.tup ((v.map fun n=>scl*n+bs).map V.int))) r (.tup [V.int (i:Int),V.ref tt])) tt=some (.tup ((v.map fun n=>scl*n+bs).map V.int)):=sr _ _ A7
 generalize upd (upd (upd H4 l1 (.lst ((v.map fun n=>scl*n+bs).map V.int))) tt (.tup ((v.map fun n=>scl*n+bs).map V.int))) r (.tup [V.int (i:Int),V.ref tt])=H5 at s4 hr4 htt4
 have hts5:=s4 _ _ hts3
 have M6:M<=5*101321:=by rw[hM];exact S6 _ (by lia)
 refine⟨fo,_,_,rfl,rfl,hts5,CT (by lia),?_⟩
 have tk5:=TK.upd (o:=.lst (ts++[V.ref r])) hts5
 refine⟨ts++[.ref r],Ts++[((i,v.map fun n=>scl*n+bs):F5)],_,rfl,by rw[Ai nrl];exact s4 _ _ hrl3,ay3.mono fun _ _ z=>(z.over s4).tk tk5,fun c o hc=>?_,A7,?_,fun T hT=>?_,?_⟩
 .rw[Ai (AQ hc hfo)]
  exact s4 _ _ (e3 _ _ hc)
 .exact(ats3.mono fun _ _ z=>(z.over s4).tk tk5).snoc ⟨r,tt,rfl,tk5 _ _ hr4,tk5 _ _ htt4⟩
 .rcases BX.mp hT with z|z
  .exact hTs3 T z
  .rw[BL.mp z]
   exact⟨b,hb,by show(v.map _).length=_;rw[Au,vl,eD]⟩
 .rw[AB,B4]
  lia
theorem ok_law (T:Tx K mg a):AS P w K mg base B9 15 a.f_O a.d_O ["_law_script"] (NG K):=by
 have G_a :=@IL P w K mg base a T
 have G_b :=@L5 P w K mg base a T
 have G_B :=@Sz P w K mg base a T
 have G_D :=@UM P w K mg base a T
 have G_I :=@W5 P w K mg base a T
 have G_J :=@YW P w K mg base a T
 have G_M :=@SK P w K mg base a T
 have G_E :=@W6 P w K mg base a T
 have G_S :=@TB P w K mg base a T
 have G_K :=@Uk P w K mg base a T
 have G_g :=@Pt P w K mg base a T 7
 have G_N :=@ZF P w K mg base a T
 have G_L :=@bu P w K mg base a T
 have G_z :=@WE P w K mg base a T
 refine T.F_O.ok CJ (fun vs H Q E h=>?_) (fun cdv A outer s H vs Q E hr h=>?_)
 .obtain⟨_,_,rfl,_⟩:=h;rfl
 obtain⟨p,ns,rfl,hp,h63,_,q⟩:=h
 refine⟨_,(A8 (Ah (i:=1) CJ.nd rfl (.inl rfl) (AJ G_D (hr.mono (by lia)) (by rfl) T.m_D T.F_D.kp T.b_D .nil AF (A0 (pw 0) (A0 A1 (A0 (AJ G_B (hr.mono (by lia)) (by rfl) T.m_B T.F_B.kp T.b_B .nil AF (A0 (AJ G_a (hr.mono (by lia)) (by rfl) T.m_a T.F_a.kp T.b_a .nil AF (A0 (pw 0) (A0 A1 A3))) A3)) A3)))))
  (A8 (Ah (i:=2) CJ.nd rfl (.inl rfl) (AJ G_I (hr.mono (by lia)) (by rfl) T.m_I T.F_I.kp T.b_I .nil AF (A0 (pw 0) (A0 (Ab (Aq AL) A1 (Ab (oJ Cp) A1 (Bf BI (by rfl) T.z_len BJ (A0 (pw 1) A3)))) (A0 (Et ["_law_deed"] [none] (by rfl) (CV (pw 1)) Sm (fun _ _ _ _ _ _=>⟨(Ax (i:=0) Zo rfl (.inl rfl)),EE,(Bf (show DX _ _ (Vp K) from BI) (by rfl) T.z_len BJ (A0 (A6 (show D4 _ (DT K) from Ae) (pw 0) A1 (fun _ _=>rfl)) A3))⟩)) A3)))))
  (A8 (Ah (i:=3) CJ.nd rfl (.inl rfl) (AJ G_J (hr.mono (by lia)) (by rfl) T.m_J T.F_J.kp T.b_J .nil AF (A0 (pw 2) A3)))
  (A8 (Ah (i:=4) CJ.nd rfl (.inl rfl) (AJ G_M (hr.mono (by lia)) (by rfl) T.m_M T.F_M.kp T.b_M .nil AF (A0 (pw 0) (A0 A1 A3))))
  (A8 (Ah (i:=5) CJ.nd rfl (.inl rfl) (Ng T.mk_Program G_S (hr.mono (by lia)) (by rfl) T.mc_Program T.b_S .nil AF (A0 A1 (A0 (AJ G_E (hr.mono (by lia)) (by rfl) T.m_E T.F_E.kp T.b_E .nil AF (A0 (pw 1) (A0 (A6 Ae (pw 4) A1 (fun _ _=>rfl)) (A0 (A6 Ae (pw 4) A1 (fun _ _=>rfl)) A3)))) A3))))
  (A8 (Ah (i:=6) CJ.nd rfl (.inr rfl) (Bs A3))
  (A8 (C8 PassesOwn.never rfl (CV (pw 3)) (Ax (i:=7) CJ.nd rfl (.inl rfl))
  (Aj (Cr (Cw CA Oy OA Lz (pw 6) (A0 (Et ["_law_key","_law_some"] [none,some 6] (by rfl) (CV (pw 7)) WC (fun _ _ _ _ _ _=>⟨(Ax (i:=0) Vk rfl (.inl rfl)),(RA (AU (show BC _ _ (Lw K true) from b8 (FE hr)) (pw 0) (pw 1) (by with_unfolding_all rfl))),(pw 0)⟩)) A3)))))
  (A8 (Bp (AU (JK (FE hr)) (pw 6) (Bs A3) (AK _))
  (Aj (AM Gg))
  BB)
  (A8 (Ah (i:=8) CJ.nd rfl (.inl rfl) (A6 AO (pw 6) (Ab (oJ C5) (AJ G_a (hr.mono (by lia)) (by rfl) T.m_a T.F_a.kp T.b_a .nil AF (A0 (pw 0) (A0 A1 A3))) (Bf BI (by rfl) T.z_len BJ (A0 (pw 6) A3))) (fun _ _=>rfl)))
  (A8 (Ah (i:=9) CJ.nd rfl (.inl rfl) (AJ G_g (hr.mono (by lia)) (by rfl) T.m_g T.F_g.kp T.b_g .nil AF (A0 (AJ G_K (hr.mono (by lia)) (by rfl) T.m_K T.F_K.kp T.b_K .nil AF (A0 (pw 2) (A0 (pw 3) (A0 (pw 8) A3)))) (A0 A1 A3))))
  (A8 (Ah (i:=10) CJ.nd rfl (.inl rfl) (Ab (Aq AL) A1 (Ab (oJ C5) (Ab (oJ Gc) (AJ G_a (hr.mono (by lia)) (by rfl) T.m_a T.F_a.kp T.b_a .nil AF (A0 (pw 0) (A0 A1 A3))) A1) A1)))
  (A8 (Bp (AU C3 (Ab (oJ C5) (AJ G_a (hr.mono (by lia)) (by rfl) T.m_a T.F_a.kp T.b_a .nil AF (A0 (pw 0) (A0 A1 A3))) A1) A1 (AK _))
  (Aj (Ah (i:=10) CJ.nd rfl (.inl rfl) (Ab (Aq AL) A1 (Ab (oJ C5) (Ab (oJ Cp) (AJ G_a (hr.mono (by lia)) (by rfl) T.m_a T.F_a.kp T.b_a .nil AF (A0 (pw 0) (A0 A1 A3))) A1) (Ab (oJ Cp) A1 (Ab (oJ IG) A1 A1))))))
  BB)
  (A8 (Ah (i:=11) CJ.nd rfl (.inl rfl) (AJ G_N (hr.mono (by lia)) (by rfl) T.m_N T.F_N.kp T.b_N .nil AF (A0 (pw 1) (A0 (pw 2) (A0 (pw 4) A3)))))
  (A8 (C8 PassesOwn.never rfl (F2 (by rfl) T.z_range (A0 (Bf (Jy rfl) (by rfl) T.z_min GO (A0 A1 (A0 (Ab (Aq Ci) (Bf BI (by rfl) T.z_len BJ (A0 (pw 11) A3)) A1) A3))) A3)) (Ax (i:=12) CJ.nd rfl (.inl rfl))
  (A8 (ES (AJ G_b (hr.mono (by lia)) (by rfl) T.m_b T.F_b.kp T.b_b .nil AF (A0 (AJ G_a (hr.mono (by lia)) (by rfl) T.m_a T.F_a.kp T.b_a .nil AF (A0 (pw 0) (A0 (Ab (Aq AL) A1 (pw 12)) A3))) (A0 (Bs (A0 (Bf BI (by rfl) T.z_len BJ (A0 (pw 11) A3)) (A0 (Ab (Aq Ci) (Bf BI (by rfl) T.z_len BJ (A0 (pw 11) A3)) A1) A3))) A3))) (LI rfl (AN (Ax (i:=13) CJ.nd rfl (.inl rfl)) (AN (Ax (i:=14) CJ.nd rfl (.inl rfl)) CB))))
  (A8 (Ah (i:=15) CJ.nd rfl (.inl rfl) (A6 AO (pw 11) (pw 13) (fun _ _=>rfl)))
  (A8 (Ah (i:=16) CJ.nd rfl (.inl rfl) (A6 AO (pw 11) (Ab (oJ C5) (Ab (Aq AL) (Ab (Aq AL) (pw 13) A1) (pw 14)) (Bf BI (by rfl) T.z_len BJ (A0 (pw 11) A3))) (fun _ _=>rfl)))
  (A8 (Ah (i:=17) CJ.nd rfl (.inl rfl) (Bb (A0 (A6 Ae (A6 AO (pw 2) (A6 Ae (pw 15) A1 (fun _ _=>rfl)) (fun _ _=>rfl)) A1 (fun _ _=>rfl)) (A0 (A6 Ae (pw 15) A1 (fun _ _=>rfl)) A3))))
  (A8 (Ah (i:=18) CJ.nd rfl (.inl rfl) (AJ G_z (hr.mono (by lia)) (by rfl) T.m_z T.F_z.kp T.b_z .nil AF (A0 (pw 5) (A0 (pw 9) (A0 (Bs (A0 (pw 10) A3)) (A0 (pw 17) (A0 (Bb (A0 (A6 Ae (A6 AO (pw 2) (A6 Ae (pw 16) A1 (fun _ _=>rfl)) (fun _ _=>rfl)) A1 (fun _ _=>rfl)) (A0 (A6 Ae (pw 16) A1 (fun _ _=>rfl)) A3))) A3)))))))
  (Aj (Bp ((QK (O7 (Bf Uj (by rfl) T.z_isinstance Yq (A0 (pw 18) (A0 (W1 (v:=.ty "bool") (by rfl) T.z_bool WS rfl) A3)))) (Q3 (AU IP (pw 18) (AJ G_L (hr.mono (by lia)) (by rfl) T.m_L T.F_L.kp T.b_L .nil AF (A0 (pw 15) (A0 (pw 16) (A0 (pw 2) (A0 (pw 3) A3))))) (AK _))))).pt
  (Aj (AM Gg))
  BB))))))))
  (Aj (AM Gg)))))))))))))))),?_⟩
 refine⟨p,ns,0,rfl,hp,by decide,by decide,fun m m0 _=>⟨m,rfl,m0,fun n H0 eH0 n1 n6=>?_⟩⟩
 refine⟨p,ns,10,n,rfl,eH0.seq hp,by decide,by decide,n6,fun dl xs H1 Ds e1 hdl axd Dsl rq=>?_⟩
 have e1:=eH0.trans e1
 have xl:=axd.1
 dsimp only[Am]
 refine⟨dl,_,rfl,.inl (A4.of hdl),.inl ⟨by decide,by decide⟩,dl,rfl,⟨_,A4.of hdl⟩,?_⟩
 refine FM (xs:=xs) (fun i ys H2=>H2=H1/\ys=((Ds.take i).map fun D=>(D.L.length:Int)).map V.int) ⟨rfl,rfl⟩ (Bu (by lia)) (fun i ys H2 hi pp=>⟨by rw[pp.1];exact A4.of hdl,by rw[pp.2,Au,Au,AY];lia⟩) (fun i x ys H2 hc pp=>?_) (fun ys H2 pp de hde=>?_)
 .obtain⟨rfl,rfl⟩:=pp
  refine Ak fun _ zA=>?_
  obtain⟨D,hD,t,o,pt,rfl,ht,⟨vs,hvs,av0⟩,hpt⟩:=axd.get' hc
  refine zA ?_
  refine ixT ht rfl ⟨o,_,rfl,.inl (A4.of hvs),rfl,?_⟩
  rw[DI hD,BA,BA,av0.1]
  rfl
 obtain⟨rfl,rfl⟩:=pp
 rw[Du (show Ds.length<=xs.length by lia)]at *
 have s2:=Ac hde (.lst ((Ds.map fun D=>(D.L.length:Int)).map V.int))
 refine⟨p,de,ns,Ds.map fun D=>(D.L.length:Int),_,rfl,(e1.trans s2).seq hp,by lia,by lia,A7,fun d hd=>?_,by rw[Au];lia,by rw[Au];lia,fun lv H3 B e3 hB l8 Bl=>?_⟩
 .obtain⟨D,hD,rfl⟩:=Co.mp hd
  have:=(rq.row.ok D hD).ll
  lia
 rw[Au]at Bl
 dsimp only[Am]
 have e13:=s2.trans e3
 have e03:=e1.trans e13
 generalize upd H2 de (.lst ((Ds.map fun D=>(D.L.length:Int)).map V.int))=H2' at s2 e3
 refine⟨lv,B,rfl,hB,l8.lv,fun kl H4 R e4 hR ks=>?_⟩
 dsimp only[Am]
 refine⟨p,ns,1,rfl,(e03.trans e4).seq hp,by decide,by decide,fun fr H5 scl bs e5 hfr hsc=>?_⟩
 dsimp only[Am]
 have e15:=(e13.trans e4).trans e5
 have e05:=e1.trans e15
 have axd5:=axd.mono fun _ _ z=>z.over e15
 refine⟨fr,_,0,_,rfl,rfl,A5.of hfr,rfl,fr,_,1,_,rfl,rfl,A5.of hfr,rfl,dl,scl,bs,xs,Ds,rfl,hsc,e15 _ _ hdl,axd5,by lia,fun D hD=>(rq.row.ok D hD).ll,fun tl ws H6 e6 htl aw=>?_⟩
 intro x dx hx hdx hxd
 have ntx:tl≠x:=AQ htl hx
 have ntd:tl≠dx:=AQ htl hdx
 refine⟨x,dx,_,tl,ws,rfl,A7,A4.of (by rw[Ai ntx,Ai ntd];exact htl),fun d5 H7 hd5 k7 hd7 hx7=>⟨rfl,?_⟩⟩
 obtain⟨dx7,hx7⟩:=hx7
 have e7:=Nz hx hdx k7
 have aw7:=aw.mono fun y R z=>DA.over e7 z
 dsimp only[Am]
 have hP:∀HX,Aa H7 HX->Kc a.c_Program a.c_Deed (G9 a) HX (.ref x) 97 (Ds.map (DL scl bs)):=fun HX e=>⟨x,dx7,d5,rfl,e _ _ hx7,ws,e _ _ hd7,aw7.mono fun _ _ z=>DA.over e z⟩
 have e57:=e6.trans e7
 have e07:=e05.trans e57
 have hB7:=hB.over (e4.trans (e5.trans e57))
 have hR7:=hR.over (e5.trans e57)
 have hfr7:=e57 _ _ hfr
 have hdl7:=e57 _ _ (e15 _ _ hdl)
 have axd7:=axd5.mono fun _ _ z=>z.over e57
 refine⟨An rfl,fun so hso=>?_⟩
 have s8:=Ac hso (.lst [])
 have hso8:(upd H7 so (.lst [])) so=some (.lst []):=A7
 dsimp only[Am]
 generalize upd H7 so (.lst [])=H8 at s8 hso8
 refine Ak fun _ zB=>?_
 obtain⟨rs,hkl,ars⟩:=hR7
 refine zB ?_
 have rsl:=ars.1
 have Rl:=ks.len
 have B6:=l8.lv.len
 refine E8 (fun σ' H'=>∃(ts:List V) (S:List (Nat×Nat)) (o7:Option V),σ'=[some (.ref p),some (.ref dl),some (.ref lv),some (.ref kl),some (.ref fr),some (.ref x),some (.ref so),o7,none,none,none,none,none,none,none,none,none,none,none]/\Aa H7 H'/\H' so=some (.lst ts)/\Av (Di H') ts S/\(∀k∈S,∃(j:Nat) (row:List (Nat×Nat)),R[j]?=some row/\k∈row)/\S.length<=1000) (fun σ' H' pp=>?_) (fun nx=>?_)
 rotate_left
 .refine⟨kl,rfl,⟨_,A4.of (s8 _ _ hkl)⟩,?_⟩
  refine FJ (xs:=rs) (fun i σ' H'=>∃(ts:List V) (S:List (Nat×Nat)) (o7:Option V),σ'=[some (.ref p),some (.ref dl),some (.ref lv),some (.ref kl),some (.ref fr),some (.ref x),some (.ref so),o7,none,none,none,none,none,none,none,none,none,none,none]/\Aa H7 H'/\H' so=some (.lst ts)/\Av (Di H') ts S/\(∀k∈S,∃(j:Nat) (row:List (Nat×Nat)),R[j]?=some row/\k∈row)/\S.length<=i*10) ⟨[],[],_,rfl,s8,hso8,.nil,(fun k hk=>by cases hk),Bj _⟩ (fun i σ' H' _ pp=>by obtain⟨_,_,_,_,e,_⟩:=pp;exact A4.of (e _ _ hkl)) (fun i y σ' H' hy pp=>?_) (fun σ' H' pp=>?_)
  rotate_left
  .obtain⟨ts,S,o7,rfl,e,h1,h2,h3,h4⟩:=pp
   exact nx _ _ ⟨ts,S,_,rfl,e,h1,h2,h3,by lia⟩
  refine Ak fun _ zC=>?_
  obtain⟨ts,S,o7,rfl,e,hts,ats,hS,cS⟩:=pp
  have tl1:=ats.1
  have il:i<rs.length:=(Ay.mp hy).1
  obtain⟨row,hrow,rr,rx,rfl,hrr,arx⟩:=ars.get' hy
  refine zC ?_
  have rxl:=arx.1
  have row6:row.length<=3:=by
   have hb:B[i]?=some (B[i]'(by lia)):=As (by lia)
   obtain⟨row',g1,g2,_⟩:=ks.at (show i<B.length by lia) hb
   rw[hrow]at g1
   cases g1
   rw[g2]
   exact l8.w3 _ (Hu _)
  dsimp only[Am]
  refine⟨.inl ⟨rfl,_,A4.of hts⟩,rr,rfl,⟨_,A4.of (e _ _ hrr)⟩,?_⟩
  refine FM (xs:=rx) (fun j zs H2=>H2=H'/\∃Z:List (Nat×Nat),Av (Di H') zs Z/\(∀k∈Z,k∈row)/\Z.length<=j) ⟨rfl,[],.nil,(fun k hk=>by cases hk),Bj _⟩ (Bu (by lia)) (fun j zs H2 hj pp=>⟨by rw[pp.1];exact A4.of (e _ _ hrr),by obtain⟨_,Z,h1,_,h3⟩:=pp;rw[h1.1];exact h3⟩) (fun j y zs H2 hy2 pp=>?_) (fun zs H2 pp rz hrz=>?_)
  .obtain⟨rfl,Z,az,hZ,cZ⟩:=pp
   refine Ak fun _ zD=>?_
   obtain⟨k,hk,ky⟩:=arx.get' hy2
   refine zD ?_
   have ky:=ky.over e
   refine⟨so,ts,EG k,S.map EG,ky.pa,rfl,A4.of hts,Av.pas ats,_,rfl,BV (fun c=>?_) (fun c=>⟨rfl,Z,az,hZ,by lia⟩)⟩
   refine⟨rfl,Z++[k],az.snoc ky,fun k' hk'=>?_,by rw[AB,B4];lia⟩
   rcases BX.mp hk' with z|z
   .exact hZ k' z
   .rw[BL.mp z];exact AH hk
  refine Ak fun _ zE=>?_
  obtain⟨rfl,Z,az,hZ,cZ⟩:=pp
  refine zE ?_
  have zl:=az.1
  have sz:=Ac hrz (.lst zs)
  have hts2:=sz _ _ hts
  refine⟨so,rz,_,_,rfl,rfl,hts2,A7,Bu (by lia),?_⟩
  have tk:=TK.upd (o:=.lst (ts++zs)) hts2
  refine⟨ts++zs,S++Z,_,rfl,fun c o hc=>?_,A7,?_,fun k hk=>?_,?_⟩
  .rw[Ai (AQ hc hso)]
   exact(e.trans sz) _ _ hc
  .exact(ats.mono fun _ _ z=>(z.over sz).tk tk).app (az.mono fun _ _ z=>(z.over sz).tk tk)
  .rcases BX.mp hk with z|z
   .exact hS k z
   .exact⟨i,row,hrow,hZ k z⟩
  .rw[AB,J3]
   lia
 refine Ak fun _ zF=>?_
 obtain⟨ts,S,o7,rfl,e8,hts,ats,hS,cS⟩:=pp
 refine zF ?_
 clear hso8 s8 hso
 have tsl:=ats.1
 have e08:=e07.trans e8
 refine⟨An rfl,fun z hz=>?_⟩
 have sz:=Ac hz (.lst [])
 refine⟨.lst (S.map L6),.lst [],.lst (A4.of (sz _ _ hts)) (OV (ats.mono fun _ _ z=>z.over sz)),.lst (A4.of A7) .nil,⟨_,rfl⟩,⟨_,rfl⟩,by rw[Cf];cases S<;>rfl,by rw[Ct];have:=RB S;lia,_,rfl,?_⟩
 cases S with
 |nil=>exact B8 (v:=true) (by rw[IY,BW,BN];rfl) (BY (q _))
 |cons k0 S0=>
 refine B8 (v:=false) (by rw[Bx,BW,LS (by simp)];rfl) (BZ ?_)
 have e9:=e8.trans sz
 have e09:=e07.trans e9
 have hts9:=sz _ _ hts
 have ats9:=ats.mono fun _ _ z=>z.over sz
 generalize upd H' z (.lst [])=H9 at sz e9 e09 hts9 ats9
 have tpos:(0:Int)<(ts.length:Int):=by rw[tsl,BH];lia
 refine⟨p,ns,3,rfl,e09.seq hp,by decide,by decide,fun m1 m10 _=>?_⟩
 have i0:=Dr m1 (show(ts.length:Int)≠0 by lia)
 have i1:=Dt m1 tpos
 obtain⟨ik,eik⟩:∃ik:Nat,m1%(ts.length:Int)=(ik:Int):=⟨(m1%(ts.length:Int)).toNat,by lia⟩
 have hkk:(k0::S0)[ik]?=some ((k0::S0)[ik]'(by lia)):=As (by lia)
 generalize (k0::S0)[ik]'(by lia)=key at hkk
 refine Ak fun _ zG=>?_
 obtain⟨xk,hxk,tk,rfl,htk⟩:=ats9.get hkk
 obtain⟨jk,row,hrow,hkr⟩:=hS key (AH hkk)
 obtain⟨km,ke⟩:=key
 refine zG ?_
 have jl:jk<B.length:=by have:=(Ay.mp hrow).1;lia
 have hbk:B[jk]?=some (B[jk]'jl):=As _
 have kat:=((ks.con jl hbk hrow).mp hkr).self
 refine⟨so,_,rfl,.inl (A4.of hts9),tpos,ixL hts9 (by rw[eik];exact Br hxk) ?_⟩
 dsimp only[Am]
 have hB9:=hB7.over e9
 have hR9:Gs H9 kl R:=Gs.over ⟨rs,hkl,ars⟩ e9
 refine⟨lv,kl,tk,B,R,km,ke,rfl,hB9,l8.lv,hR9,ks,⟨tk,rfl,htk⟩,fun wl HA W eA hW wd=>?_⟩
 obtain⟨lvW,gbW⟩:=Z9 wd l8
 refine⟨wl,0,6,W,rfl,hW,lvW.from,by decide,by decide,fun pt HB f eB hf hI=>?_⟩
 dsimp only[Am]
 have one:=wd.one l8.pn kat lvW hI
 have eAB:=eA.trans eB
 have e7B:=e9.trans eAB
 have e0B:=e07.trans e7B
 refine⟨p,ns,4,rfl,e0B.seq hp,by decide,by decide,fun m2 m20 _=>⟨⟨by decide,by decide⟩,(by show(0:Int)<5;decide),?_⟩⟩
 have w0:=Dr (m2/3) (show(5:Int)≠0 by decide)
 have w1:=Dt (m2/3) (show(0:Int)<5 by decide)
 dsimp only[Am,Ei,Nn]
 refine E8 (fun σ' H'=>∃wd0:Int,H'=HB/\σ'=[some (.ref p),some (.ref dl),some (.ref lv),some (.ref kl),some (.ref fr),some (.ref x),some (.ref so),o7,some (.ref tk),some (.ref pt),some (.int wd0),none,none,none,none,none,none,none,none]/\0<wd0/\wd0<18446744073709551616) (fun σ' H' pp=>?_) (fun nx=>?_)
 rotate_left
 .refine⟨p,ns,4,rfl,e0B.seq hp,by decide,by decide,fun m3 m30 _=>⟨(by show(0:Int)<3;decide),rfl,_,rfl,BV (fun _=>?_) (fun _=>nx _ _ ⟨_,rfl,rfl,by lia,by lia⟩)⟩⟩
  have ee:(10 ^ (18:Int).toNat:Int)=1000000000000000000:=by decide
  refine⟨p,ns,4,rfl,e0B.seq hp,by decide,by decide,fun m4 m40 _=>⟨.inr ⟨by decide,by decide⟩,⟨by decide,by decide,by decide⟩,.inl ⟨by decide,by decide⟩,(by show(0:Int)<2*10 ^ (18:Int).toNat;decide),?_⟩⟩
  have v0:=Dr (m4*2000000011) (show(2*10 ^ (18:Int).toNat:Int)≠0 by decide)
  have v1:=Dt (m4*2000000011) (show(0:Int)<2*10 ^ (18:Int).toNat by decide)
  exact nx _ _ ⟨1+m4*2000000011%(2*10 ^ (18:Int).toNat),rfl,rfl,by lia,by lia⟩
 refine Ak fun _ zH=>?_
 obtain⟨wdt,rfl,rfl,wp,wb⟩:=pp
 refine zH ?_
 have hBB:=hB9.over eAB
 have hRB:=hR9.over eAB
 refine⟨dl,lv,fr,xs,Ds,B,_,scl,bs,rfl,e7B _ _ hdl7,axd7.mono fun _ _ z=>z.over e7B,rq,hBB,l8,rfl,e7B _ _ hfr7,hsc,fun en tv Ts HC eC hen aTs hTs cTs=>?_⟩
 dsimp only[Am]
 have tvl:=aTs.1
 have e7C:=e7B.trans eC
 have e0C:=e07.trans e7C
 have hBC:=hBB.over eC
 have hRC:=hRB.over eC
 have hfC:=hf.over eC
 have mn:(if((tv.length:Int)-1)<5 then((tv.length:Int)-1) else 5)<=5:=by split<;>lia
 have mn2 : -1<=(if((tv.length:Int)-1)<5 then((tv.length:Int)-1) else 5):=by split<;>lia
 have mn3:(if((tv.length:Int)-1)<5 then((tv.length:Int)-1) else 5)<=(tv.length:Int)-1:=by split<;>lia
 refine⟨en,_,rfl,.inl (A4.of hen),_,_,rfl,?_⟩
 generalize (if((tv.length:Int)-1)<5 then((tv.length:Int)-1) else 5)=rn at mn mn2 mn3
 refine⟨_,rfl,by lia,by lia,?_⟩
 refine Ak fun _ zI=>?_
 obtain⟨u,w',hlw⟩:=SA (sc:=scl) (b:=bs) rq
 refine zI ?_
 have hPD:=Vm wd l8 hlw
 refine Fe (fun i σ' H2=>∃o12 o13 o14 o15 o16 o17 o18:Option V,σ'=[some (.ref p),some (.ref dl),some (.ref lv),some (.ref kl),some (.ref fr),some (.ref x),some (.ref so),o7,some (.ref tk),some (.ref pt),some (.int wdt),some (.ref en),o12,o13,o14,o15,o16,o17,o18]/\Aa HC H2) ⟨_,_,_,_,_,_,_,rfl,Aa.refl _⟩ (fun i σ' H2 hi pp=>?_) (fun σ' H2 pp=>q _)
 refine Ak fun _ zJ=>?_
 obtain⟨o12,o13,o14,o15,o16,o17,o18,rfl,e2⟩:=pp
 refine zJ ?_
 have len2:2<=tv.length:=by lia
 have i5:(i:Int)<5:=by lia
 refine⟨p,ns,_,rfl,(e0C.trans e2).seq hp,by lia,by lia,fun m4 m40 _=>?_⟩
 refine⟨en,_,rfl,.inl (A4.of (e2 _ _ hen)),en,_,rfl,.inl (A4.of (e2 _ _ hen)),An rfl,fun l1 hl1=>?_⟩
 have s3:=Ac hl1 (.lst [V.int (tv.length:Int),V.int ((tv.length:Int)-1)])
 refine⟨m4,l1,[(tv.length:Int),(tv.length:Int)-1],rfl,A7,m40,by show 2<=100;decide,fun m hm=>?_,fun r1 H3 ds e3 hr1 dsl db=>?_⟩
 .rcases AZ.mp hm with rfl|hm
  .lia
  .rw[BL.mp hm];lia
 refine Ak fun _ zK=>?_
 obtain⟨x0,x1,rfl⟩:=NS dsl
 refine zK ?_
 have d0:=db 0 x0 _ rfl rfl
 have d1:=db 1 x1 _ rfl rfl
 clear db dsl
 refine⟨r1,_,rfl,hr1,rfl,rfl,?_⟩
 dsimp only[Am]
 refine Ak fun _ zL=>?_
 have e23:=e2.trans (s3.trans e3)
 have hen3:=e23 _ _ hen
 have aTs3:=aTs.mono fun _ _ z=>z.over e23
 have pick:∀z:Int,0<=z->z<(tv.length:Int)->∃(y:V) (T1:F5),B5 tv z=some y/\Ex H3 y T1/\LG B T1:=fun z z0 z1=>by
  obtain⟨k,rfl⟩:∃k:Nat,z=(k:Int):=⟨z.toNat,by lia⟩
  have hk:tv[k]?=some (tv[k]'(by lia)):=As (by lia)
  obtain⟨T1,hT1,ta⟩:=aTs3.get' hk
  exact⟨_,T1,Br hk,ta,hTs T1 (AH hT1)⟩
 obtain⟨y1,T1,at1,ta1,b1,hb1,lb1⟩:=pick x0 d0.1 d0.2
 refine zL ?_
 refine ixL hen3 at1 ?_
 dsimp only[Am]
 refine Ak fun _ zM=>?_
 have pos:(0:Int)<(tv.length:Int):=by lia
 obtain⟨y2,T2,at2,ta2,b2,hb2,lb2⟩:=pick ((x0+1+x1)%(tv.length:Int)) (Dr _ (by lia)) (Dt _ pos)
 refine zM ?_
 refine⟨en,_,rfl,.inl (A4.of hen3),pos,ixL hen3 at2 ?_⟩
 dsimp only[Am]
 obtain⟨sM,hm⟩:=U0 (B:=B) (i:=T1.1) (j:=T2.1) (Ay.mp hb1).1 (Ay.mp hb2).1
 have hm':=(wd.many l8.lv.ok (Ay.mp hb1).1 (Ay.mp hb2).1 hm).1
 have l1W:T1.1<W.length:=by rw[wd.len];exact(Ay.mp hb1).1
 have l2W:T2.1<W.length:=by rw[wd.len];exact(Ay.mp hb2).1
 have hw1:W[T1.1]?=some W[T1.1]:=As l1W
 have hw2:W[T2.1]?=some W[T2.1]:=As l2W
 generalize W[T1.1]=z1 at hw1
 generalize W[T2.1]=z2 at hw2
 refine Ak fun _ zN=>?_
 obtain⟨zk1,zp1⟩:=wd.pl68 l8 hw1 hb1
 obtain⟨zk2,zp2⟩:=wd.pl68 l8 hw2 hb2
 obtain⟨en1,hen1,_,_⟩:=Hr hI hw1
 obtain⟨t1,v1,rfl,ht1,hv1⟩:=id ta1
 obtain⟨t2,v2,rfl,ht2,hv2⟩:=id ta2
 have hB3:=hBC.over e23
 obtain⟨lx,hlv,alv⟩:=id hB3
 obtain⟨xb1,hxb1,tb1,_,_,rfl,htb1,_,_⟩:=alv.get hb1
 obtain⟨xb2,hxb2,tb2,_,_,rfl,htb2,_,_⟩:=alv.get hb2
 refine zN ?_
 refine⟨t1,_,0,_,rfl,rfl,A5.of ht1,rfl,lv,_,_,_,rfl,rfl,A4.of hlv,Br hxb1,tb1,_,0,_,rfl,rfl,A5.of htb1,rfl,t1,_,1,_,rfl,rfl,A5.of ht1,rfl,An rfl,fun u1 hu1=>?_⟩
 have s4:=Ac hu1 (.tup [V.int b1.k,V.ref v1])
 have hu14:(upd H3 u1 (.tup [V.int b1.k,V.ref v1])) u1=some (.tup [V.int b1.k,V.ref v1]):=A7
 dsimp only[Am]
 generalize upd H3 u1 (.tup [V.int b1.k,V.ref v1])=H4' at s4 hu14
 refine⟨An rfl,fun wl1 hwl1=>?_⟩
 have s5:=Ac hwl1 (.lst [V.int wdt])
 have s45:=s4.trans s5
 refine⟨t2,_,0,_,rfl,rfl,A5.of (s45 _ _ ht2),rfl,lv,_,_,_,rfl,rfl,A4.of (s45 _ _ hlv),Br hxb2,tb2,_,0,_,rfl,rfl,A5.of (s45 _ _ htb2),rfl,t2,_,1,_,rfl,rfl,A5.of (s45 _ _ ht2),rfl,An rfl,fun u2 hu2=>?_⟩
 have s6:=Ac hu2 (.tup [V.int b2.k,V.ref v2])
 have s46:=s45.trans s6
 have eX:=(e7C.trans e23).trans s46
 refine⟨.ref x,.ref u1,.ref u2,pt,wl1,97,_,W,f,u,w',[wdt],T1.1,T2.1,EU B km ke T1.1 sM,z1,z2,en1,T1.2,T2.2,rfl,hP _ eX,⟨hfC.over (e23.trans s46),hI,gbW⟩,hPD,s6 _ _ A7,by rw[one];rfl,fun m hm=>by rw[BL.mp hm];exact⟨wp,wb⟩,hw1,hw2,⟨u1,v1,rfl,by rw[zk1];exact(s5.trans s6) _ _ hu14,s46 _ _ hv1⟩,⟨u2,v2,rfl,by rw[zk2];exact A7,s46 _ _ hv2⟩,fun p hp'=>by rw[lb1];exact zp1 p hp',fun p hp'=>by rw[lb2];exact zp2 p hp',hen1,hm',fun H6' E' e6' El _=>?_⟩
 rw[wd.ord l8.lv.ok l8.pn l8.lv.pll hI one wp hb1 hb2 hw1 hw2 hen1 hm]
 dsimp only[Am]
 refine⟨_,_,_,_,_,rfl,rfl,.int _,rfl,_,rfl,BZ ?_⟩
 have s4X:=s46.trans e6'
 refine⟨.ref t1,.ref t2,lv,kl,B,_,R,T1,T2,sM,b1,b2,rfl,ta1.over s4X,ta2.over s4X,hB3.over s4X,l8,(hRC.over e23).over s4X,ks,hb1,hb2,lb1,lb2,hm,fun H7' e7'=>?_⟩
 refine⟨rfl,_,rfl,B8 (Iv rfl) (BZ ?_)⟩
 exact⟨_,_,_,_,_,_,_,rfl,e23.trans (s4X.trans e7')⟩
end
theorem Iw {us:List Value}(h:us.length=1):∃x0,us=[x0]:=by
 rcases us with _|⟨x0,us⟩
 .cases h
 rcases us with _|⟨y,us⟩
 .exact⟨x0,rfl⟩
 .simp only[BH]at h;lia
theorem DR {us:List Value}(h:us.length=2):∃x0 x1,us=[x0,x1]:=by
 rcases us with _|⟨x0,us⟩
 .cases h
 rcases us with _|⟨x1,us⟩
 .cases h
 rcases us with _|⟨y,us⟩
 .exact⟨x0,x1,rfl⟩
 .simp only[BH]at h;lia
theorem D5 {us:List Value}(h:us.length=3):∃x0 x1 x2,us=[x0,x1,x2]:=by
 rcases us with _|⟨x0,us⟩
 .cases h
 rcases us with _|⟨x1,us⟩
 .cases h
 rcases us with _|⟨x2,us⟩
 .cases h
 rcases us with _|⟨y,us⟩
 .exact⟨x0,x1,x2,rfl⟩
 .simp only[BH]at h;lia
theorem Km {us:List Value}(h:us.length=4):∃x0 x1 x2 x3,us=[x0,x1,x2,x3]:=by
 rcases us with _|⟨x0,us⟩
 .cases h
 rcases us with _|⟨x1,us⟩
 .cases h
 rcases us with _|⟨x2,us⟩
 .cases h
 rcases us with _|⟨x3,us⟩
 .cases h
 rcases us with _|⟨y,us⟩
 .exact⟨x0,x1,x2,x3,rfl⟩
 .simp only[BH]at h;lia
theorem U1 {us:List Value}(h:us.length=5):∃x0 x1 x2 x3 x4,us=[x0,x1,x2,x3,x4]:=by
 rcases us with _|⟨x0,us⟩
 .cases h
 rcases us with _|⟨x1,us⟩
 .cases h
 rcases us with _|⟨x2,us⟩
 .cases h
 rcases us with _|⟨x3,us⟩
 .cases h
 rcases us with _|⟨x4,us⟩
 .cases h
 rcases us with _|⟨y,us⟩
 .exact⟨x0,x1,x2,x3,x4,rfl⟩
 .simp only[BH]at h;lia
theorem Ta {us:List Value}(h:us.length=8):∃x0 x1 x2 x3 x4 x5 x6 x7,us=[x0,x1,x2,x3,x4,x5,x6,x7]:=by
 rcases us with _|⟨x0,us⟩
 .cases h
 rcases us with _|⟨x1,us⟩
 .cases h
 rcases us with _|⟨x2,us⟩
 .cases h
 rcases us with _|⟨x3,us⟩
 .cases h
 rcases us with _|⟨x4,us⟩
 .cases h
 rcases us with _|⟨x5,us⟩
 .cases h
 rcases us with _|⟨x6,us⟩
 .cases h
 rcases us with _|⟨x7,us⟩
 .cases h
 rcases us with _|⟨y,us⟩
 .exact⟨x0,x1,x2,x3,x4,x5,x6,x7,rfl⟩
 .simp only[BH]at h;lia
theorem aV:Bg "__init__" "NoValues.__init__" LF ["self","ring"]:=fun _ _ _ _ _ _ _ h=>by obtain⟨_,_,rfl⟩:=DR h;rfl
theorem Yf:Bg "__init__" "Number.__init__" LA ["self","n"]:=fun _ _ _ _ _ _ _ h=>by obtain⟨_,_,rfl⟩:=DR h;rfl
theorem Ww:Bg "__init__" "Deed.__init__" KW ["self","names","lows","highs","table","spots","term","path"]:=fun _ _ _ _ _ _ _ h=>by obtain⟨_,_,_,_,_,_,_,_,rfl⟩:=Ta h;rfl
theorem VE:Bg "__init__" "Program.__init__" L8 ["self","size","deeds"]:=fun _ _ _ _ _ _ _ h=>by obtain⟨_,_,_,rfl⟩:=D5 h;rfl
theorem SW:Bg "alike_numbers" "alike_numbers" LX ["path","other","most"]:=fun _ _ _ _ _ _ _ h=>by obtain⟨_,_,_,rfl⟩:=D5 h;rfl
theorem Vh:Bg "deeds_within" "deeds_within" LQ ["items","path","cuts"]:=fun _ _ _ _ _ _ _ h=>by obtain⟨_,_,_,rfl⟩:=D5 h;rfl
theorem Y2:Bg "sweeps_of" "sweeps_of" Lu ["plan"]:=fun _ _ _ _ _ _ _ h=>by obtain⟨_,rfl⟩:=Iw h;rfl
theorem UA:Bg "sweeps_within" "sweeps_within" LL ["items","path"]:=fun _ _ _ _ _ _ _ h=>by obtain⟨_,_,rfl⟩:=DR h;rfl
theorem aL:Bg "stand" "stand" Mm ["plan","k"]:=fun _ _ _ _ _ _ _ h=>by obtain⟨_,_,rfl⟩:=DR h;rfl
theorem V2:Bg "round_both" "round_both" Mx ["plan","k","l"]:=fun _ _ _ _ _ _ _ h=>by obtain⟨_,_,_,rfl⟩:=D5 h;rfl
theorem VD:Bg "settled" "settled" Kn ["count","bonds"]:=fun _ _ _ _ _ _ _ h=>by obtain⟨_,_,rfl⟩:=DR h;rfl
theorem UT:Bg "lowered_in_a_round" "lowered_in_a_round" Mv ["bonds","values","lowered_by"]:=fun _ _ _ _ _ _ _ h=>by obtain⟨_,_,_,rfl⟩:=D5 h;rfl
theorem Xm:Bg "ring_behind" "ring_behind" LR ["count","bonds","lowered_by","lowered"]:=fun _ _ _ _ _ _ _ h=>by obtain⟨_,_,_,_,rfl⟩:=Km h;rfl
theorem VX:Bg "most" "most" K7 ["count","bonds","x","y"]:=fun _ _ _ _ _ _ _ h=>by obtain⟨_,_,_,_,rfl⟩:=Km h;rfl
theorem W8:Bg "shortest_chain" "shortest_chain" Mt ["count","bonds","x","y"]:=fun _ _ _ _ _ _ _ h=>by obtain⟨_,_,_,_,rfl⟩:=Km h;rfl
theorem Vd:Bg "chains_to" "chains_to" LK ["count","bonds","y"]:=fun _ _ _ _ _ _ _ h=>by obtain⟨_,_,_,rfl⟩:=D5 h;rfl
theorem WX:Bg "shortened_in_a_round" "shortened_in_a_round" L4 ["bonds","lengths","reached_by"]:=fun _ _ _ _ _ _ _ h=>by obtain⟨_,_,_,rfl⟩:=D5 h;rfl
theorem ag:Bg "loop_bonds" "loop_bonds" KS ["deed","first"]:=fun _ _ _ _ _ _ _ h=>by obtain⟨_,_,rfl⟩:=DR h;rfl
theorem Vb:Bg "unknown_of" "unknown_of" Ls ["spot","names","first"]:=fun _ _ _ _ _ _ _ h=>by obtain⟨_,_,_,rfl⟩:=D5 h;rfl
theorem Vj:Bg "ends" "ends" JQ ["program","plan"]:=fun _ _ _ _ _ _ _ h=>by obtain⟨_,_,rfl⟩:=DR h;rfl
theorem VV:Bg "cut_paths" "cut_paths" JF ["plan"]:=fun _ _ _ _ _ _ _ h=>by obtain⟨_,rfl⟩:=Iw h;rfl
theorem YH:Bg "ends_at" "ends_at" La ["program","plan","path"]:=fun _ _ _ _ _ _ _ h=>by obtain⟨_,_,_,rfl⟩:=D5 h;rfl
theorem SC:Bg "end_times" "end_times" LO ["deed","pair"]:=fun _ _ _ _ _ _ _ h=>by obtain⟨_,_,rfl⟩:=DR h;rfl
theorem bg:Bg "rulers" "rulers" Ke ["plan","found","widths"]:=fun _ _ _ _ _ _ _ h=>by obtain⟨_,_,_,rfl⟩:=D5 h;rfl
theorem V0:Bg "number_shown" "number_shown" LV ["values","pair","ruler"]:=fun _ _ _ _ _ _ _ h=>by obtain⟨_,_,_,rfl⟩:=D5 h;rfl
theorem ZI:Bg "order_of" "order_of" Lr ["program","plan","widths","one","other"]:=fun _ _ _ _ _ _ _ h=>by obtain⟨_,_,_,_,_,rfl⟩:=U1 h;rfl
theorem bc:Bg "order_by_way" "order_by_way" KN ["way","less"]:=fun _ _ _ _ _ _ _ h=>by obtain⟨_,_,rfl⟩:=DR h;rfl
theorem aQ:Bg "_law_at" "_law_at" M3 ["_law_script","_law_k"]:=fun _ _ _ _ _ _ _ h=>by obtain⟨_,_,rfl⟩:=DR h;rfl
theorem Wq:Bg "_law_digits" "_law_digits" M7 ["_law_cell","_law_sizes"]:=fun _ _ _ _ _ _ _ h=>by obtain⟨_,_,rfl⟩:=DR h;rfl
theorem Xq:Bg "_law_count" "_law_count" Lg ["_law_cell"]:=fun _ _ _ _ _ _ _ h=>by obtain⟨_,rfl⟩:=Iw h;rfl
theorem VY:Bg "_law_loop" "_law_loop" K4 ["_law_cell","_law_loops"]:=fun _ _ _ _ _ _ _ h=>by obtain⟨_,_,rfl⟩:=DR h;rfl
theorem aF:Bg "_law_deeds" "_law_deeds" LZ ["_law_script","_law_first","_law_count_here"]:=fun _ _ _ _ _ _ _ h=>by obtain⟨_,_,_,rfl⟩:=D5 h;rfl
theorem Yg:Bg "_law_told" "_law_told" Lo ["_law_spot","_law_scale","_law_base"]:=fun _ _ _ _ _ _ _ h=>by obtain⟨_,_,_,rfl⟩:=D5 h;rfl
theorem aY:Bg "_law_told_deeds" "_law_told_deeds" Hl ["_law_deeds_here","_law_scale","_law_base"]:=fun _ _ _ _ _ _ _ h=>by obtain⟨_,_,_,rfl⟩:=D5 h;rfl
theorem Yp:Bg "_law_values" "_law_values" KZ ["_law_loops"]:=fun _ _ _ _ _ _ _ h=>by obtain⟨_,rfl⟩:=Iw h;rfl
theorem Y6:Bg "_law_sweeps" "_law_sweeps" LC ["_law_script","_law_first","_law_depth","_law_old"]:=fun _ _ _ _ _ _ _ h=>by obtain⟨_,_,_,_,rfl⟩:=Km h;rfl
theorem To:Bg "_law_places" "_law_places" Mw ["_law_script","_law_first","_law_loops"]:=fun _ _ _ _ _ _ _ h=>by obtain⟨_,_,_,rfl⟩:=D5 h;rfl
theorem Y0:Bg "_law_leaves" "_law_leaves" Jl ["_law_script","_law_first","_law_depths"]:=fun _ _ _ _ _ _ _ h=>by obtain⟨_,_,_,rfl⟩:=D5 h;rfl
theorem ZD:Bg "_law_items" "_law_items" LD ["_law_leaves_here","_law_level"]:=fun _ _ _ _ _ _ _ h=>by obtain⟨_,_,rfl⟩:=DR h;rfl
theorem ao:Bg "_law_keys" "_law_keys" JG ["_law_leaves_here"]:=fun _ _ _ _ _ _ _ h=>by obtain⟨_,rfl⟩:=Iw h;rfl
theorem Uu:Bg "_law_wrapped" "_law_wrapped" KY ["_law_leaves_here","_law_keys_here","_law_key"]:=fun _ _ _ _ _ _ _ h=>by obtain⟨_,_,_,rfl⟩:=D5 h;rfl
theorem XA:Bg "_law_order" "_law_order" M8 ["_law_one","_law_other","_law_leaves_here","_law_keys_here"]:=fun _ _ _ _ _ _ _ h=>by obtain⟨_,_,_,_,rfl⟩:=Km h;rfl
theorem TZ:Bg "_law_frame" "_law_frame" Le ["_law_script","_law_first"]:=fun _ _ _ _ _ _ _ h=>by obtain⟨_,_,rfl⟩:=DR h;rfl
theorem Z4:Bg "_law_entries" "_law_entries" Jk ["_law_deeds_here","_law_leaves_here","_law_frame_here"]:=fun _ _ _ _ _ _ _ h=>by obtain⟨_,_,_,rfl⟩:=D5 h;rfl
theorem UJ:Bg "law" "law" Iu ["_law_script"]:=fun _ _ _ _ _ _ _ h=>by obtain⟨_,rfl⟩:=Iw h;rfl
theorem txt_mk {K:Faa}{h:Heap}{mg:Str->Option Value}{fa:Addr}(X:K.In h)(G:h.Ns mainGlobals mg)(hfa:mg "law"=some (.ref fa))
  {C_Number:Addr} {C_Deed:Addr} {C_Program:Addr} {C_FurrowError:Addr} {C_NoValues:Addr} {f1 f2 f3 f4 f5 f6 f7 f8 f9 f10 f11 f12 f13 f14 f15 f16 f17 f18 f19 f20 f21 f22 f23 f24 f25 f26 f27 f28 f29 f30 f31 f32 f33 f34 f35 f36 f37 f38 f39 f40 f41 f42 f43 f44 f45:Addr} {d1 d2 d3 d4 d5 d6 d7 d8 d9 d10 d11 d12 d13 d14 d15 d16 d17 d18 d19 d20 d21 d22 d23 d24 d25 d26 d27 d28 d29 d30 d31 d32 d33 d34 d35 d36 d37 d38 d39 d40 d41 d42 d43 d44 d45:FuncData}
  (a_Number:ClA K C_Number "Number")
  (a_Deed:ClA K C_Deed "Deed")
  (a_Program:ClA K C_Program "Program")
  (a_FurrowError:PySem.W.nsIn K mainGlobals "FurrowError"=some (some (.ref C_FurrowError)))
  (a_NoValues:PySem.W.nsIn K mainGlobals "NoValues"=some (some (.ref C_NoValues)))
  (h1:Mo K C_NoValues "__init__" "NoValues.__init__" LF f1 d1)
  (h2:Mo K C_Number "__init__" "Number.__init__" LA f2 d2)
  (h3:Mo K C_Deed "__init__" "Deed.__init__" KW f3 d3)
  (h4:Mo K C_Program "__init__" "Program.__init__" L8 f4 d4)
  (h5:Bt K "alike_numbers" LX f5 d5)
  (h6:Bt K "deeds_within" LQ f6 d6)
  (h7:Bt K "sweeps_of" Lu f7 d7)
  (h8:Bt K "sweeps_within" LL f8 d8)
  (h9:Bt K "stand" Mm f9 d9)
  (h10:Bt K "round_both" Mx f10 d10)
  (h11:Bt K "settled" Kn f11 d11)
  (h12:Bt K "lowered_in_a_round" Mv f12 d12)
  (h13:Bt K "ring_behind" LR f13 d13)
  (h14:Bt K "most" K7 f14 d14)
  (h15:Bt K "shortest_chain" Mt f15 d15)
  (h16:Bt K "chains_to" LK f16 d16)
  (h17:Bt K "shortened_in_a_round" L4 f17 d17)
  (h18:Bt K "loop_bonds" KS f18 d18)
  (h19:Bt K "unknown_of" Ls f19 d19)
  (h20:Bt K "ends" JQ f20 d20)
  (h21:Bt K "cut_paths" JF f21 d21)
  (h22:Bt K "ends_at" La f22 d22)
  (h23:Bt K "end_times" LO f23 d23)
  (h24:Bt K "rulers" Ke f24 d24)
  (h25:Bt K "number_shown" LV f25 d25)
  (h26:Bt K "order_of" Lr f26 d26)
  (h27:Bt K "order_by_way" KN f27 d27)
  (h28:Bt K "_law_at" M3 f28 d28)
  (h29:Bt K "_law_digits" M7 f29 d29)
  (h30:Bt K "_law_count" Lg f30 d30)
  (h31:Bt K "_law_loop" K4 f31 d31)
  (h32:Bt K "_law_deeds" LZ f32 d32)
  (h33:Bt K "_law_told" Lo f33 d33)
  (h34:Bt K "_law_told_deeds" Hl f34 d34)
  (h35:Bt K "_law_values" KZ f35 d35)
  (h36:Bt K "_law_sweeps" LC f36 d36)
  (h37:Bt K "_law_places" Mw f37 d37)
  (h38:Bt K "_law_leaves" Jl f38 d38)
  (h39:Bt K "_law_items" LD f39 d39)
  (h40:Bt K "_law_keys" JG f40 d40)
  (h41:Bt K "_law_wrapped" KY f41 d41)
  (h42:Bt K "_law_order" M8 f42 d42)
  (h43:Bt K "_law_frame" Le f43 d43)
  (h44:Bt K "_law_entries" Jk f44 d44)
  (h45:Bt K "law" Iu f45 d45)
  (n_Number_n:PySem.W.findIn K (.ref C_Number) "n"=some none)
  (n_Deed_names:PySem.W.findIn K (.ref C_Deed) "names"=some none)
  (n_Deed_lows:PySem.W.findIn K (.ref C_Deed) "lows"=some none)
  (n_Deed_highs:PySem.W.findIn K (.ref C_Deed) "highs"=some none)
  (n_Deed_table:PySem.W.findIn K (.ref C_Deed) "table"=some none)
  (n_Deed_spots:PySem.W.findIn K (.ref C_Deed) "spots"=some none)
  (n_Deed_term:PySem.W.findIn K (.ref C_Deed) "term"=some none)
  (n_Deed_path:PySem.W.findIn K (.ref C_Deed) "path"=some none)
  (n_Program_size:PySem.W.findIn K (.ref C_Program) "size"=some none)
  (n_Program_deeds:PySem.W.findIn K (.ref C_Program) "deeds"=some none)
  (hn0:PySem.W.specialIn K (.builtin "object.__class__") "__get__"=some (some (.builtin "getset_descriptor.__get__"))) (ht0:PySem.W.takesIn K (.builtin "object.__class__")=some true)
  (xga_FurrowError:PySem.W.findIn K (.ref C_FurrowError) "__getattribute__"=some (some (.builtin "BaseException.__getattribute__"))) (xgh_FurrowError:PySem.W.findIn K (.ref C_FurrowError) "__getattr__"=some none) (xbe_FurrowError:PySem.W.mroIn K C_FurrowError (.type "BaseException")=some true) (xsa_FurrowError:PySem.W.findIn K (.ref C_FurrowError) "__setattr__"=some (some (.builtin "object.__setattr__"))) (xhd_FurrowError:PySem.W.hasDictIn K C_FurrowError=true) (qmt_FurrowError:EX.mroTail K C_FurrowError=true) (xob_FurrowError:PySem.W.mroIn K C_FurrowError (.type "object")=some true) (qct_FurrowError:LN K C_FurrowError []=true) (xca_FurrowError:PySem.W.findIn K (.ref C_FurrowError) "__class__"=some (some (.builtin "object.__class__"))) (kc_FurrowError:PySem.W.keepIn K (.ref C_FurrowError)=true)
  (xin_FurrowError:PySem.W.findIn K (.ref C_FurrowError) "__init__"=some (some (.builtin "ValueError.__init__")))
  (xga_NoValues:PySem.W.findIn K (.ref C_NoValues) "__getattribute__"=some (some (.builtin "BaseException.__getattribute__"))) (xgh_NoValues:PySem.W.findIn K (.ref C_NoValues) "__getattr__"=some none) (xbe_NoValues:PySem.W.mroIn K C_NoValues (.type "BaseException")=some true) (xsa_NoValues:PySem.W.findIn K (.ref C_NoValues) "__setattr__"=some (some (.builtin "object.__setattr__"))) (xhd_NoValues:PySem.W.hasDictIn K C_NoValues=true) (qmt_NoValues:EX.mroTail K C_NoValues=true) (xob_NoValues:PySem.W.mroIn K C_NoValues (.type "object")=some true) (qct_NoValues:LN K C_NoValues [C_FurrowError]=true) (xca_NoValues:PySem.W.findIn K (.ref C_NoValues) "__class__"=some (some (.builtin "object.__class__"))) (kc_NoValues:PySem.W.keepIn K (.ref C_NoValues)=true)
  (n_NoValues_ring:PySem.W.findIn K (.ref C_NoValues) "ring"=some none)
  (dnd:([C_FurrowError,C_NoValues]:List Addr).Nodup)
  (xbg:PySem.W.specialIn K (.ref C_FurrowError) "__getattribute__"=some (some (.builtin "type.__getattribute__"))) (xbr:PySem.W.readsIn K C_FurrowError (.type "type")=true) (xbf:PySem.W.findCls K (.ref C_FurrowError) (.type "type") "__init__"=some (.val (.builtin "ValueError.__init__")))
  (z_bool:PySem.W.nsIn K mainGlobals "bool"=some none)
  (z_dict:PySem.W.nsIn K mainGlobals "dict"=some none)
  (z_enumerate:PySem.W.nsIn K mainGlobals "enumerate"=some none)
  (z_int:PySem.W.nsIn K mainGlobals "int"=some none)
  (z_isinstance:PySem.W.nsIn K mainGlobals "isinstance"=some none)
  (z_len:PySem.W.nsIn K mainGlobals "len"=some none)
  (z_list:PySem.W.nsIn K mainGlobals "list"=some none)
  (z_max:PySem.W.nsIn K mainGlobals "max"=some none)
  (z_min:PySem.W.nsIn K mainGlobals "min"=some none)
  (z_range:PySem.W.nsIn K mainGlobals "range"=some none)
  (z_sum:PySem.W.nsIn K mainGlobals "sum"=some none)
  (z_tuple:PySem.W.nsIn K mainGlobals "tuple"=some none)
  (z_zip:PySem.W.nsIn K mainGlobals "zip"=some none) :
  ∃a:Ad,Tx K mg a/\fa=a.f_O/\(∀(s:Shared) (v:Value),BindsTo s a.d_O ⟨[v],[]⟩ [("_law_script",v)]):=by
 have e:=hfa.symm.trans (Be X G h45.a)
 cases e
 obtain⟨_,_,_,_,_,_,_,_,_,rfl,_⟩:=h45.F.ex
 exact⟨⟨f1,d1,f2,d2,f3,d3,f4,d4,f5,d5,f6,d6,f7,d7,f8,d8,f9,d9,f10,d10,f11,d11,f12,d12,f13,d13,f14,d14,f15,d15,f16,d16,f17,d17,f18,d18,f19,d19,f20,d20,f21,d21,f22,d22,f23,d23,f24,d24,f25,d25,f26,d26,f27,d27,f28,d28,f29,d29,f30,d30,f31,d31,f32,d32,f33,d33,f34,d34,f35,d35,f36,d36,f37,d37,f38,d38,f39,d39,f40,d40,f41,d41,f42,d42,f43,d43,f44,d44,fa,_,C_Number,C_Deed,C_Program,C_FurrowError,C_NoValues⟩,⟨h1.F,
  h1.F.binds aV,
  h2.F,
  h2.F.binds Yf,
  h3.F,
  h3.F.binds Ww,
  h4.F,
  h4.F.binds VE,
  h5.F,
  h5.F.binds SW,
  Be X G h5.a,
  h6.F,
  h6.F.binds Vh,
  Be X G h6.a,
  h7.F,
  h7.F.binds Y2,
  Be X G h7.a,
  h8.F,
  h8.F.binds UA,
  Be X G h8.a,
  h9.F,
  h9.F.binds aL,
  Be X G h9.a,
  h10.F,
  h10.F.binds V2,
  Be X G h10.a,
  h11.F,
  h11.F.binds VD,
  Be X G h11.a,
  h12.F,
  h12.F.binds UT,
  Be X G h12.a,
  h13.F,
  h13.F.binds Xm,
  Be X G h13.a,
  h14.F,
  h14.F.binds VX,
  Be X G h14.a,
  h15.F,
  h15.F.binds W8,
  Be X G h15.a,
  h16.F,
  h16.F.binds Vd,
  Be X G h16.a,
  h17.F,
  h17.F.binds WX,
  Be X G h17.a,
  h18.F,
  h18.F.binds ag,
  Be X G h18.a,
  h19.F,
  h19.F.binds Vb,
  Be X G h19.a,
  h20.F,
  h20.F.binds Vj,
  Be X G h20.a,
  h21.F,
  h21.F.binds VV,
  Be X G h21.a,
  h22.F,
  h22.F.binds YH,
  Be X G h22.a,
  h23.F,
  h23.F.binds SC,
  Be X G h23.a,
  h24.F,
  h24.F.binds bg,
  Be X G h24.a,
  h25.F,
  h25.F.binds V0,
  Be X G h25.a,
  h26.F,
  h26.F.binds ZI,
  Be X G h26.a,
  h27.F,
  h27.F.binds bc,
  Be X G h27.a,
  h28.F,
  h28.F.binds aQ,
  Be X G h28.a,
  h29.F,
  h29.F.binds Wq,
  Be X G h29.a,
  h30.F,
  h30.F.binds Xq,
  Be X G h30.a,
  h31.F,
  h31.F.binds VY,
  Be X G h31.a,
  h32.F,
  h32.F.binds aF,
  Be X G h32.a,
  h33.F,
  h33.F.binds Yg,
  Be X G h33.a,
  h34.F,
  h34.F.binds aY,
  Be X G h34.a,
  h35.F,
  h35.F.binds Yp,
  Be X G h35.a,
  h36.F,
  h36.F.binds Y6,
  Be X G h36.a,
  h37.F,
  h37.F.binds To,
  Be X G h37.a,
  h38.F,
  h38.F.binds Y0,
  Be X G h38.a,
  h39.F,
  h39.F.binds ZD,
  Be X G h39.a,
  h40.F,
  h40.F.binds ao,
  Be X G h40.a,
  h41.F,
  h41.F.binds Uu,
  Be X G h41.a,
  h42.F,
  h42.F.binds XA,
  Be X G h42.a,
  h43.F,
  h43.F.binds TZ,
  Be X G h43.a,
  h44.F,
  h44.F.binds Z4,
  Be X G h44.a,
  h45.F,
  h45.F.binds UJ,
  Be X G h45.a,
  ⟨a_Number.pg,a_Number.hd,a_Number.po,a_Number.sa⟩,
  Be X G a_Number.a,
  ⟨a_Number.mi,h2.a,h2.i,a_Number.kc⟩,
  n_Number_n,
  ⟨a_Deed.pg,a_Deed.hd,a_Deed.po,a_Deed.sa⟩,
  Be X G a_Deed.a,
  ⟨a_Deed.mi,h3.a,h3.i,a_Deed.kc⟩,
  n_Deed_names,
  n_Deed_lows,
  n_Deed_highs,
  n_Deed_table,
  n_Deed_spots,
  n_Deed_term,
  n_Deed_path,
  ⟨a_Program.pg,a_Program.hd,a_Program.po,a_Program.sa⟩,
  Be X G a_Program.a,
  ⟨a_Program.mi,h4.a,h4.i,a_Program.kc⟩,
  n_Program_size,
  n_Program_deeds,
  Be X G a_FurrowError,
  ⟨⟨xga_FurrowError,xgh_FurrowError,xbe_FurrowError,xsa_FurrowError,xhd_FurrowError,qmt_FurrowError,xob_FurrowError,(Ih qct_FurrowError).elim fun N z=>⟨N,_,z⟩⟩,xca_FurrowError,hn0,ht0⟩,
  Ih qct_FurrowError,
  ⟨⟨xga_FurrowError,xgh_FurrowError,xbe_FurrowError,xsa_FurrowError,xhd_FurrowError,qmt_FurrowError,xob_FurrowError,(Ih qct_FurrowError).elim fun N z=>⟨N,_,z⟩⟩,xin_FurrowError,kc_FurrowError⟩,
  Be X G a_NoValues,
  ⟨⟨xga_NoValues,xgh_NoValues,xbe_NoValues,xsa_NoValues,xhd_NoValues,qmt_NoValues,xob_NoValues,(Ih qct_NoValues).elim fun N z=>⟨N,_,z⟩⟩,xca_NoValues,hn0,ht0⟩,
  Ih qct_NoValues,
  ⟨⟨xga_NoValues,xgh_NoValues,xbe_NoValues,xsa_NoValues,xhd_NoValues,qmt_NoValues,xob_NoValues,(Ih qct_NoValues).elim fun N z=>⟨N,_,z⟩⟩,h1.a,h1.i,kc_NoValues⟩,
  n_NoValues_ring,
  dnd,
  ⟨xbg,xbr,xbf⟩,
  EK X G z_bool,
  EK X G z_dict,
  EK X G z_enumerate,
  EK X G z_int,
  EK X G z_isinstance,
  EK X G z_len,
  EK X G z_list,
  EK X G z_max,
  EK X G z_min,
  EK X G z_range,
  EK X G z_sum,
  EK X G z_tuple,
  EK X G z_zip⟩,rfl,fun s v=>.of_eq rfl⟩
end Fw
open PySem PySem.W PyProof.Rows
namespace PySem.W.Fast
def tw1001415127248590246:=True
def tw10043874388553206115:=True
def tw1008324508584693824:=True
def tw10089117942570666230:=True
def tw10171840401524183460:=True
def tw1017274179891349194:=True
def tw10177666113002250733:=True
def tw10208869254226698243:=True
def tw10288394832080000865:=True
def tw10331152432263618945:=True
def tw10386097680139692379:=True
def tw10604060834561428527:=True
def tw10658889840018126990:=True
def tw10661816698468723880:=True
def tw10669041808815489031:=True
def tw10678159294189320242:=True
def tw10698304920345439952:=True
def tw10699310676753810022:=True
def tw10773449532028903455:=True
def tw10843765599495588054:=True
def tw1097303734011964207:=True
def tw10991760250562538988:=True
def tw1101514196196208601:=True
def tw11050175684182130508:=True
def tw11104191990981413563:=True
def tw11118977471287390659:=True
def tw11230700892993478843:=True
def tw11347088161328124563:=True
def tw11394867556661038262:=True
def tw11408672455355134617:=True
def tw11421598195045113373:=True
def tw11427412582136741814:=True
def tw11461783926151450062:=True
def tw11472210398066594288:=True
def tw1149552995082960530:=True
def tw11520568418858145119:=True
def tw11530500745335787281:=True
def tw11597153624730709903:=True
def tw11648597679778665364:=True
def tw11649077942549959285:=True
def tw11724139628400554872:=True
def tw11742232039846384945:=True
def tw11781533665388237213:=True
def tw11793240596449447140:=True
def tw11794483565707243016:=True
def tw11901433093578759861:=True
def tw11916990396702984270:=True
def tw11939166246752714260:=True
def tw1200522721340718540:=True
def tw12024767884933572536:=True
def tw12054492823596715627:=True
def tw12059646629114873022:=True
def tw12061463968313066817:=True
def tw12061556539175667116:=True
def tw12082162138365400894:=True
def tw12120057667976013660:=True
def tw12215655896602550411:=True
def tw12215761392555611324:=True
def tw12323927111542346156:=True
def tw12431989519607378380:=True
def tw12437602260702809255:=True
def tw12550910555700564812:=True
def tw1260407248243142009:=True
def tw12640835363636090828:=True
def tw12674908820502799518:=True
def tw12690360329102804774:=True
def tw12703278871065912152:=True
def tw12752595730885987255:=True
def tw12889853631753820141:=True
def tw12976216045294657972:=True
def tw13020454240906104340:=True
def tw13051443106233718507:=True
def tw13080563979862351514:=True
def tw13128407861779274591:=True
def tw13253444423198083912:=True
def tw13293050147730900672:=True
def tw1333880495142774346:=True
def tw13341437589697094782:=True
def tw13404811248045115541:=True
def tw13450140704500495539:=True
def tw13528734965326211119:=True
def tw13572083638879393180:=True
def tw13598935151001071679:=True
def tw13647373037835678140:=True
def tw13689751012764966543:=True
def tw13715988829733904702:=True
def tw13764897898221058654:=True
def tw13772130921266394774:=True
def tw13781086425330751949:=True
def tw13863544999693769232:=True
def tw13866952907575023846:=True
def tw13954963628212812012:=True
def tw13959944807793972241:=True
def tw14065873897002842369:=True
def tw14177190956418038737:=True
def tw14204423432007134103:=True
def tw14218769551284524480:=True
def tw14230029888978382949:=True
def tw14276062951178518313:=True
def tw14425428138370830929:=True
def tw14466063690465673176:=True
def tw14499223087214890667:=True
def tw1452372606976056928:=True
def tw1455521628850653563:=True
def tw14682036599765624890:=True
def tw14696369772134773581:=True
def tw14729940917411132613:=True
def tw14780227512229049571:=True
def tw14804779144533686758:=True
def tw1480527779387517729:=True
def tw1485515999102672122:=True
def tw14916081864957395185:=True
def tw15037121501403074889:=True
def tw15068038991135864942:=True
def tw1509742945748686915:=True
def tw15109534039189520073:=True
def tw15121124335211267532:=True
def tw15183844933670998280:=True
def tw15241089728675127208:=True
def tw15248427691769430469:=True
def tw15327551226814502475:=True
def tw1535008449137620454:=True
def tw15409468211018802876:=True
def tw15453979580436465677:=True
def tw15467719145535439651:=True
def tw15492697711516139318:=True
def tw15517032379041887015:=True
def tw15643329201797509535:=True
def tw15685989327103482089:=True
def tw15687006158380344542:=True
def tw15758318877605976934:=True
def tw1585796603342562703:=True
def tw15914696867094778909:=True
def tw15924434434532070112:=True
def tw15932963037686503627:=True
def tw1596816168998865803:=True
def tw15968472348096163965:=True
def tw16078443329437744195:=True
def tw16127797079590351166:=True
def tw16183414298180896465:=True
def tw16231225738348861804:=True
def tw16263301885924730849:=True
def tw16322576482440545641:=True
def tw16325217575879117764:=True
def tw16372921423032501162:=True
def tw16537330204218046198:=True
def tw16590975117473296531:=True
def tw16713111517215462213:=True
def tw16773260021782221797:=True
def tw16788530625626796950:=True
def tw16822442517691043838:=True
def tw16834313828445524263:=True
def tw16871767325405537627:=True
def tw16953367704837472336:=True
def tw16972308729727246146:=True
def tw1699404027421475117:=True
def tw17002477634017094656:=True
def tw17013382933025059777:=True
def tw17014245123024858137:=True
def tw17057869288608732459:=True
def tw17073210710146134794:=True
def tw17080722502770248309:=True
def tw17100846309564415519:=True
def tw17467050831897841070:=True
def tw17471160961662283856:=True
def tw17490223044669734816:=True
def tw17490489545904562719:=True
def tw17493049902778182123:=True
def tw17590232038258059622:=True
def tw17612923295163360212:=True
def tw17643180586066699909:=True
def tw17729490275743332483:=True
def tw17776203310536405391:=True
def tw1779280993833308413:=True
def tw17866334828473210061:=True
def tw17901749974750801563:=True
def tw17939406372964503351:=True
def tw17967122131962808769:=True
def tw17984342381511838101:=True
def tw18010550231934437589:=True
def tw18039460743223783711:=True
def tw18067618979357285544:=True
def tw18102475676960534599:=True
def tw1811899463572589761:=True
def tw18129939029559637176:=True
def tw18154146513344855332:=True
def tw18192370663548134253:=True
def tw18302299734055209890:=True
def tw18372551115004497133:=True
def tw18373835568511940732:=True
def tw18424317683592615194:=True
def tw1932800573709117016:=True
def tw2090343296750207337:=True
def tw2187509938427805159:=True
def tw2239167835233549408:=True
def tw2240677176928610311:=True
def tw2247511195257393013:=True
def tw2253538701118299545:=True
def tw2265358008740999893:=True
def tw2282149578947774118:=True
def tw2294855127471045805:=True
def tw2314483605327722291:=True
def tw2324599710004499376:=True
def tw2367472749563195160:=True
def tw2378975197061338995:=True
def tw2493304526354636554:=True
def tw2563822258392854358:=True
def tw2610914950873405997:=True
def tw2691255440161329471:=True
def tw2694930983453307826:=True
def tw2700552273600708946:=True
def tw271016811709481623:=True
def tw2771402986019932856:=True
def tw2787579395629522200:=True
def tw2846783084885033031:=True
def tw2906329935977595582:=True
def tw3075325706041912313:=True
def tw3148099394481241513:=True
def tw3154729876197620426:=True
def tw316478242776783389:=True
def tw3233059010867102605:=True
def tw3347096640921200954:=True
def tw3401156956078841759:=True
def tw3404792912222177696:=True
def tw3426558067483022651:=True
def tw345835243522643481:=True
def tw3492779095916531232:=True
def tw351592629337604778:=True
def tw3603394575525241010:=True
def tw3609551493703199108:=True
def tw3614284079296380159:=True
def tw3624209695237690509:=True
def tw3641798778413467605:=True
def tw3644471029964094823:=True
def tw3744036131815180110:=True
def tw3791266623128757542:=True
def tw381716774900931499:=True
def tw3903682003583691197:=True
def tw3907790560113866723:=True
def tw3916537474380746806:=True
def tw3927958556131883129:=True
def tw3944809084046733099:=True
def tw3946042717878351874:=True
def tw3989229291198948773:=True
def tw4003573951750567138:=True
def tw406834585752109160:=True
def tw4137404699816196794:=True
def tw4139550213221688853:=True
def tw4181007529416483798:=True
def tw4186774932322709889:=True
def tw4186809425560178290:=True
def tw4191017614385289344:=True
def tw4334820399502420729:=True
def tw4388568839757876538:=True
def tw4535292783408774104:=True
def tw4611945959210889164:=True
def tw4631925552526382360:=True
def tw4635824339333926429:=True
def tw4676379199320332401:=True
def tw4783992617743375913:=True
def tw4795608891981903431:=True
def tw4817615795038371992:=True
def tw4836860366229858449:=True
def tw490956868901797833:=True
def tw4971595644259386005:=True
def tw4974260748105121472:=True
def tw5024200909592421945:=True
def tw5207587726365640699:=True
def tw521844990407261808:=True
def tw5233822016394775855:=True
def tw5253746757491659180:=True
def tw5304155569270937549:=True
def tw5312183748397074403:=True
def tw5331908823753369583:=True
def tw540528624579521967:=True
def tw5438295451636242405:=True
def tw5473686276275105830:=True
def tw5646274594261840838:=True
def tw5687985394051914067:=True
def tw5726452798152989704:=True
def tw5818095801846954664:=True
def tw5834902867095023569:=True
def tw5876247547087283570:=True
def tw5900591633439597415:=True
def tw5973797482711906776:=True
def tw5995342641742058017:=True
def tw5997688554529853518:=True
def tw602843095605477750:=True
def tw6048222987630029510:=True
def tw6078325729591454412:=True
def tw6141203114377002912:=True
def tw6160589375592807917:=True
def tw618536634864674135:=True
def tw6215213019607651247:=True
def tw6289397754936380152:=True
def tw6339747869844833080:=True
def tw6412451633255575878:=True
def tw6433108766726758099:=True
def tw6447925568237825418:=True
def tw6494462341269884142:=True
def tw6501743020184316070:=True
def tw6573327119233786168:=True
def tw671466379136549643:=True
def tw6728456560136827717:=True
def tw6778945761655321086:=True
def tw6792596282403656013:=True
def tw6876038520519671425:=True
def tw6893054742262540579:=True
def tw6901489873849211832:=True
def tw6940135715763990329:=True
def tw6940768133909168618:=True
def tw6945171144676095130:=True
def tw6985503699271830047:=True
def tw7015260288775034483:=True
def tw7100490362895534016:=True
def tw7172563128784748116:=True
def tw7215833069124265702:=True
def tw7274270802752940579:=True
def tw7371079562593744139:=True
def tw7371743539705339832:=True
def tw7384076083886736934:=True
def tw7414431978284659039:=True
def tw7481112544059432549:=True
def tw7544894668690686762:=True
def tw7558521574354251876:=True
def tw7822915302563263769:=True
def tw7827866519854339750:=True
def tw7857127233897708369:=True
def tw7863966024958426325:=True
def tw7942197829308258104:=True
def tw7967755599659212073:=True
def tw8043074916852293619:=True
def tw8292099687479429337:=True
def tw8380869683196038703:=True
def tw8390503292610684544:=True
def tw8419632033257550703:=True
def tw8461668910246105036:=True
def tw848208502252437240:=True
def tw8493391690543972080:=True
def tw8512172699546785225:=True
def tw8520772537848446161:=True
def tw8563951928104514161:=True
def tw8566619665909422348:=True
def tw8643797654456680633:=True
def tw8650901794763760450:=True
def tw8696318070411688876:=True
def tw8730724898532084808:=True
def tw8741274330564577812:=True
def tw8762711001281509795:=True
def tw8789601950124208478:=True
def tw8805046647438563233:=True
def tw8815684598080448685:=True
def tw8825814585692315956:=True
def tw886679684845033044:=True
def tw8896814842081904431:=True
def tw8921310789567188028:=True
def tw8925110792357195207:=True
def tw8984793426399050340:=True
def tw9024137206945500370:=True
def tw9025304704682432907:=True
def tw9033631619529604007:=True
def tw9048200326606884955:=True
def tw9144492275618940812:=True
def tw9175681049477989618:=True
def tw9250631278418102854:=True
def tw9314228658861268972:=True
def tw9359868672842780940:=True
def tw9473136293069453488:=True
def tw9483790601469042505:=True
def tw9539928941698271552:=True
def tw9599794210231121165:=True
def tw9616497063493819449:=True
def tw9648557712918976585:=True
def tw9688330650653499905:=True
def tw9713674941692661272:=True
def tw9724180195536395187:=True
def tw9806714770962140553:=True
def tw9890434410096661687:=True
def tw9892657442181078204:=True
def tw9902260287253777975:=True
def tw9921009726623871718:=True
def tw9997904685369095306:=True
end PySem.W.Fast
set_option maxRecDepth 100000 in
set_option maxHeartbeats 0 in
theorem PySem.Challenge.cw_furrow_k68_cut_round_itself_holds : PySem.Challenge.rw_furrow_k68_cut_round_itself.Holds := by
 w_on;o_law;k_head;(case hw=>w_witness2)
 k_fill
 refine L2.law_walk (l:=PySem.Challenge.rw_furrow_k68_cut_round_itself) (x:="_law_script") 15 (by decide) rfl rfl (fun w h Y=>PySem.W.kIn_of Y) ?F
 case F=>
  intro w mg fa h KX G hmg
  suffices hh:∃a:Fw.Ad,Fw.Tx _ mg a/\fa=a.f_O/\(∀(s:Shared) (v:Value),BindsTo s a.d_O ⟨[v],[]⟩ [("_law_script",v)]) by
   obtain⟨a,T,e,b⟩:=hh
   subst e
   exact⟨a.d_O,b,fun base _ _=>Fw.ok_law T⟩
  refine' Fw.txt_mk KX G hmg ?a_Number ?a_Deed ?a_Program ?a_FurrowError ?a_NoValues ?h1 ?h2 ?h3 ?h4 ?h5 ?h6 ?h7 ?h8 ?h9 ?h10 ?h11 ?h12 ?h13 ?h14 ?h15 ?h16 ?h17 ?h18 ?h19 ?h20 ?h21 ?h22 ?h23 ?h24 ?h25 ?h26 ?h27 ?h28 ?h29 ?h30 ?h31 ?h32 ?h33 ?h34 ?h35 ?h36 ?h37 ?h38 ?h39 ?h40 ?h41 ?h42 ?h43 ?h44 ?h45 ?n_Number_n ?n_Deed_names ?n_Deed_lows ?n_Deed_highs ?n_Deed_table ?n_Deed_spots ?n_Deed_term ?n_Deed_path ?n_Program_size ?n_Program_deeds ?hn0 ?ht0 ?xga_FurrowError ?xgh_FurrowError ?xbe_FurrowError ?xsa_FurrowError ?xhd_FurrowError ?qmt_FurrowError ?xob_FurrowError ?qct_FurrowError ?xca_FurrowError ?kc_FurrowError ?xin_FurrowError ?xga_NoValues ?xgh_NoValues ?xbe_NoValues ?xsa_NoValues ?xhd_NoValues ?qmt_NoValues ?xob_NoValues ?qct_NoValues ?xca_NoValues ?kc_NoValues ?n_NoValues_ring ?dnd ?xbg ?xbr ?xbf ?z_bool ?z_dict ?z_enumerate ?z_int ?z_isinstance ?z_len ?z_list ?z_max ?z_min ?z_range ?z_sum ?z_tuple ?z_zip
  any_goals first|refine'⟨?_,L2.fun_mk ?_ ?_ ?_⟩|refine'⟨?_,?_,L2.fun_mk ?_ ?_ ?_⟩|refine' Fw.ClA.mk ?_ ?_ ?_ ?_ ?_ ?_ ?_
  any_goals first|k_is|kit_is|exact rfl|kernel_rfl|decide
#print axioms PySem.Challenge.cw_furrow_k68_cut_round_itself_holds
