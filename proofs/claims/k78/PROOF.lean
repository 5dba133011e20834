import PyProof.Rows.All
import Wide.All
import OpenK.AllK
import Wide.FinOn
import Lean
import PyProof.EqAt
import PyProof.EqKinds
import PyProof.TupleCall
import PyProof.ListMulRoad
import PySem.Challenge.RW_furrow_k78_plans_that_do_not_fit
set_option genSizeOf false
set_option genInjectivity false
set_option compiler.extract_closed false
set_option Elab.async false
set_option linter.all false
set_option maxRecDepth 100000
set_option maxHeartbeats 4000000
noncomputable section
abbrev Faa:=PySem.W.Frag
def Af:=@List.length_map
def Ag:=@PySem.wpAny_bind
def Al:=@Nat.le_refl
def Ao:=@List.length_append
def Av:=@if_pos
def Aw:=@if_neg
def Ax:=@List.getElem?_eq_some_iff
def AA:=@List.getElem?_eq_getElem
def AN:=@PySem.wpAny_pure
def AU:=@PySem.W.mg_of
def AY:=@List.mem_of_getElem?
def B1:=@PySem.Heap.lt_size
def B2:=@PySem.Heap.get?_push_of_some
def Bf:=@List.getElem?_map
def Bh:=@List.size_toArray
def Bi:=@List.length_singleton
def Bj:=@List.mem_cons
def Bk:=@List.getD_eq_getElem?_getD
def Bv:=@Nat.zero_le
def BA:=@List.map_append
def BB:=@decide_eq_true
def BE:=@List.length_take
def BH:=@List.length_cons
def BN:=@PySem.F.plainAttrs_list
def BQ:=@Nat.ne_of_lt
def C2:=@decide_eq_false
def C9:=@Nat.lt_of_lt_of_le
def Ce:=@PySem.F.slot_list_append
def Cf:=@PySem.F.type_list_append
def Ck:=@List.getElem?_append_right
def Cq:=@List.mem_cons_self
def Cr:=@List.map_cons
def Cw:=@List.mem_append
def Cy:=@List.mem_singleton
def CF:=@List.mem_cons_of_mem
def CG:=@Bool.false_ne_true
def CH:=@List.getElem?_append_left
def CI:=@List.length_range
def CK:=@List.append_nil
def CN:=@PySem.Heap.get?_push_size
def CV:=@Option.some.inj
def CW:=@List.append_assoc
def CY:=@List.mem_map
def Dj:=@List.mem_append_right
def Dl:=@List.length_replicate
def Dm:=@PySem.wpAny_mono
def Du:=@Bool.and_eq_true
def Dv:=@Nat.min_eq_left
def DE:=@List.mem_range
def DF:=@List.mem_append_left
def DG:=@List.mem_iff_getElem?
def DZ:=@Nat.sub_self
def E1:=@List.take_length
def Ea:=@Nat.lt_irrefl
def Ey:=@Nat.le_trans
def Ez:=@List.not_mem_nil
def EA:=@List.take_append_of_le_length
def EB:=@PySem.W.mg_none_of
def EW:=@Int.emod_nonneg
def EY:=@List.take_of_length_le
def EZ:=@Nat.lt_or_ge
def Fc:=@Nat.le_of_lt
def Fd:=@Nat.ne_of_gt
def Fe:=@PySem.W.kia_one
def Ff:=@Int.toNat_natCast
def Fg:=@Int.emod_lt_of_pos
def Fh:=@Nat.zero_add
def Fi:=@Nat.le_add_right
def Fj:=@PySem.wpAny_field
def Fk:=@of_decide_eq_true
def FF:=@Nat.le_succ
def FG:=@List.length_drop
def FH:=@List.getElem_mem
def FI:=@List.getElem?_range
def Gf:=@Bool.eq_iff_iff
def Gg:=@List.map_nil
def Gh:=@List.map_map
def Gi:=@List.getElem?_cons_succ
def Gj:=@Prod.mk.inj
def Gk:=@beq_iff_eq
def GK:=@PySem.Heap.get?_update_other
def GL:=@List.lookup_cons
def GM:=@Int.zero_add
def GN:=@PySem.wpAny_holding
def HV:=@Nat.lt_succ_self
def HW:=@List.getElem?_take_of_lt
def I0:=@List.length_set
def Ic:=@List.range_succ
def Jg:=@PyProof.Rows.callWith_type1
def Jh:=@PySem.Heap.size_push
def Ji:=@List.nodup_cons
def Jj:=@List.all_eq_true
def Jk:=@Int.le_refl
def Jl:=@List.drop_eq_getElem_cons
def Jm:=@List.all_append
def Jn:=@Option.map_eq_some_iff
def Jo:=@List.getElem?_take
def Jp:=@PySem.wpAny_passesOwn
def Jq:=@PySem.wpAny_call
def Jr:=@PySem.wpAny_Call_Name_kw
def Js:=@PySem.call_meets
def Jt:=@PySem.wpAny_loadPart_at
def KA:=@List.any_cons
def KB:=@List.replicate_succ
def KC:=@Nat.add_comm
def KD:=@List.mem_iff_getElem
def KE:=@List.drop_eq_nil_of_le
def KF:=@PySem.wpAny_truthy_bool
def KG:=@PySem.wpAny_standAt
def KH:=@PySem.wpAny_newObj_type
def MG:=@List.getElem?_set_self
def MH:=@Nat.le_of_eq
def MI:=@PySem.mem_of_lookup
def MJ:=@List.length_nil
def MK:=@PySem.Heap.get?_update_self
def ML:=@List.nil_append
def MM:=@List.getElem?_eq_none
def MN:=@Nat.sub_zero
def MO:=@Nat.min_eq_right
def MP:=@List.take_zero
def MQ:=@Int.toNat_of_nonneg
def MS:=@List.getElem?_drop
def MU:=@List.take_take
def MV:=@List.pairwise_iff_getElem
def MW:=@PySem.F.slot_list_extend
def MX:=@PySem.F.type_list_extend
def MY:=@beq_eq_false_iff_ne
def MZ:=@PySem.wpAny_execs_nil
def N0:=@PySem.wpAny_pyIter_tuple
def N1:=@PySem.codeAny_mono
def N2:=@PySem.wpAny_seqItems
def N3:=@PySem.wpAny_setField_rec
def OF:=@List.mem_filter
def OG:=@PyProof.Rows.slot_tuple_getitem
def OH:=@List.flatten_cons
def OI:=@Bool.and_false
def OJ:=@Nat.succ_mul
def OK:=@List.find?_cons
def OL:=@List.forIn_cons
def OM:=@List.drop_zero
def ON:=@List.map_congr_left
def OO:=@List.getElem?_set
def OP:=@List.mem_of_mem_take
def OQ:=@Nat.lt_trichotomy
def OR:=@Nat.not_lt_zero
def OS:=@List.map_take
def OT:=@List.take_replicate
def OU:=@List.eq_nil_of_length_eq_zero
def OV:=@Bool.or_true
def OW:=@PySem.Value.ref.inj
def OX:=@Int.natCast_nonneg
def OY:=@PySem.sizeLine_eq
def OZ:=@PySem.wpAny_call_entry
def P0:=@PySem.wpAny_pyIter_enum
def P1:=@PySem.wpAny_setField
def P2:=@PySem.wpAny_isSubtype_exc
def SN:=@List.filterMap_cons
def SO:=@List.getElem?_set_ne
def SQ:=@Array.length_toList
def SR:=@PySem.W.plainGet_of
def SS:=@PySem.W.any_some
def SU:=@PySem.W.callWith_K
def SV:=@List.of_mem_zip
def SW:=@PySem.F.slot_tuple_add
def SX:=@PySem.F.entry_tuple_add
def SY:=@PySem.F.args_tuple_add_2
def SZ:=@List.any_eq_true
def T1:=@PySem.Heap.get?_push_cases
def T2:=@Classical.byContradiction
def T3:=@List.pairwise_map
def T6:=@List.pairwise_lt_range
def T7:=@List.range_succ_eq_map
def T8:=@Option.getD_some
def T9:=@List.ext_getElem?
def Ta:=@Array.getElem?_eq_getElem
def Tb:=@List.flatMap_append
def Tc:=@List.head?_eq_getElem?
def Td:=@Nat.add_sub_cancel
def Te:=@List.pairwise_cons
def Tf:=@Array.getElem?_eq_some_iff
def Tg:=@List.eq_of_mem_replicate
def Th:=@PySem.wpAny_pyIter_list
def Ti:=@PySem.noFill_tuple_add
def Tj:=@decide_eq_true_eq
namespace L2
open PySem PySem.Spec PyProof.Rows
abbrev CA:=Sum Int Str
def J7:CA->Value->Bool
 |.inl k,v=>Value.isInt k v
 |.inr x,v=>Value.isStrOf x v
def Z6 (w:World):CA->Int
 |.inl k=>hashInt k
 |.inr x=>hashStr w x
theorem Gb:∀{k:CA} {v:Value},J7 k v=true->(∃i t,k=Sum.inl i/\v=Value.int i t)\/(∃x t,k=Sum.inr x/\v=Value.str x t)
 |
  .inl i,v,h=>by
  obtain⟨t,e⟩:=Value.isInt_shape (k:=i) (v:=v) h;exact .inl ⟨i,t,rfl,e⟩
 |
  .inr x,v,h=>by
  obtain⟨t,e⟩:=Value.isStrOf_shape (x:=x) (v:=v) h;exact .inr ⟨x,t,rfl,e⟩
theorem Ui (i:Int)(t:Tok):J7 (.inl i) (.int i t)=true:=by simp[J7,Value.isInt]
theorem UL (x:Str)(t:Tok):J7 (.inr x) (.str x t)=true:=by simp[J7,Value.isStrOf]
theorem VN (a b:Int):decide ((Sum.inl a:CA)=Sum.inl b)=(a==b):=by
 by_cases e:a=b
 .subst e;simp
 .have h:¬(Sum.inl a:CA)=Sum.inl b:=λq=>e (Sum.inl.inj q);rw[C2 h];exact(MY.mpr e).symm
theorem Xh (a b:Str):decide ((Sum.inr a:CA)=Sum.inr b)=decide (a=b):=by
 by_cases e:a=b
 .subst e;simp
 .have h:¬(Sum.inr a:CA)=Sum.inr b:=λq=>e (Sum.inr.inj q);rw[C2 h,C2 e]
theorem VG (a:Int)(b:Str):decide ((Sum.inl a:CA)=Sum.inr b)=false:=C2 (λq=>nomatch q)
theorem TU (a:Str)(b:Int):decide ((Sum.inr a:CA)=Sum.inl b)=false:=C2 (λq=>nomatch q)
def Hf (prog:Program)(w:World):PySem.KeyKind prog w CA where
 is:=J7
 hash:=Z6 w
 inj:=λv a b ha hb=>by
  rcases Gb ha with⟨i,t,rfl,rfl⟩|⟨x,t,rfl,rfl⟩
  .rcases Gb hb with⟨j,u,rfl,e⟩|⟨y,u,rfl,e⟩
   .injection e with e1 _;rw[e1]
   .exact nomatch e
  .rcases Gb hb with⟨j,u,rfl,e⟩|⟨y,u,rfl,e⟩
   .exact nomatch e
   .injection e with e1 _;rw[e1]
 byValue:=λk v h=>by
  rcases Gb h with⟨i,t,rfl,rfl⟩|⟨x,t,rfl,rfl⟩<;>rfl
 pyHash:=λhv h=>by
  rcases Gb hv with⟨i,t,rfl,rfl⟩|⟨x,t,rfl,rfl⟩
  .exact wpAny_pyHash_int h
  .exact wpAny_pyHash_str h
 eqBool:=λhu hv h=>by
  rcases Gb hu with⟨i,t,rfl,rfl⟩|⟨x,t,rfl,rfl⟩
  .rcases Gb hv with⟨j,u,rfl,rfl⟩|⟨y,u,rfl,rfl⟩
   .rw[VN]at h;exact wpAny_eqBool_int h
   .rw[VG]at h;exact SeqAt.EqAt.int_str i t y u _ _ _ _ h
  .rcases Gb hv with⟨j,u,rfl,rfl⟩|⟨y,u,rfl,rfl⟩
   .rw[TU]at h;exact SeqAt.EqAt.str_int x t j u _ _ _ _ h
   .rw[Xh]at h;exact wpAny_eqBool_str h
 «strs» := λk x t v h=>by
  rcases Gb h with⟨i,u,rfl,e⟩|⟨y,u,rfl,e⟩
  .exact nomatch e
  .injection e with e1 _;subst e1;cases v<;>rfl
theorem Uo (prog:Program)(w:World)(i:Int)(t:Tok):(Hf prog w).is (.inl i) (.int i t)=true:=Ui i t
theorem Xn (prog:Program)(w:World)(x:Str)(t:Tok):(Hf prog w).is (.inr x) (.str x t)=true:=UL x t
set_option genInjectivity true in
inductive V where
 |non|bl (b:Bool)|int (i:Int)|str (x:Str)|byt (b:Array UInt8)|flt (b:UInt64)|ref (a:Addr)|ty (n:String)
 deriving DecidableEq
def AK:V->Value->Prop
 |.non,u=>u=Value.none
 |.bl b,u=>u=Value.bool b
 |.int i,u=>∃t,u=Value.int i t
 |.str x,u=>∃t,u=Value.str x t
 |.byt b,u=>∃t,u=Value.bytes b t
 |.flt b,u=>∃t,u=Value.float b t
 |.ref a,u=>u=Value.ref a
 |.ty n,u=>u=Value.type n
abbrev Au:List V->List Value->Prop:=Paired AK
theorem Au.length {xs:List V}{us:List Value}(r:Au xs us):xs.length=us.length:=Paired.length r
theorem Au.get:∀{xs:List V} {us:List Value} {i:Nat} {x:V},Au xs us->xs[i]?=some x->∃u,us[i]?=some u/\AK x u
 |_,_,_,_,.nil,e=>by simp at e
 |_,_,0,_,.cons r _,e=>by simp at e;subst e;exact⟨_,rfl,r⟩
 |
  _,_,i+1,x,.cons _ t,e=>by
  obtain⟨u,h1,h2⟩:=Au.get (i:=i) (x:=x) t (by simpa using e);exact⟨u,by simpa using h1,h2⟩
theorem Au.set {x:V}{u:Value}(r:AK x u):∀{xs:List V} {us:List Value} (i:Nat),Au xs us->Au (xs.set i x) (us.set i u)
 |_,_,_,.nil=>.nil
 |_,_,0,.cons _ t=>.cons r t
 |_,_,i+1,.cons q t=>.cons q (Au.set r i t)
theorem Au.append:∀{xs ys:List V} {us ws:List Value},Au xs us->Au ys ws->Au (xs++ys) (us++ws)
 |_,_,_,_,.nil,s=>s
 |_,_,_,_,.cons r t,s=>.cons r (Au.append t s)
theorem Au.take:∀{xs:List V} {us:List Value} (n:Nat),Au xs us->Au (xs.take n) (us.take n)
 |_,_,0,_=>.nil
 |_,_,_+1,.nil=>.nil
 |_,_,n+1,.cons r t=>.cons r (Au.take n t)
theorem Au.drop:∀{xs:List V} {us:List Value} (n:Nat),Au xs us->Au (xs.drop n) (us.drop n)
 |_,_,0,r=>r
 |_,_,_+1,.nil=>.nil
 |_,_,n+1,.cons _ t=>Au.drop n t
theorem Au.none_of:∀{xs:List V} {us:List Value} {i:Nat},Au xs us->xs[i]?=none->us[i]?=none:=fun{xs us i} r e=>by
 have h1:=r.length;have h2:xs.length<=i:=List.getElem?_eq_none_iff.mp e;exact List.getElem?_eq_none_iff.mpr (by lia)
def ES:Option V->Option Value->Prop
 |some v,some u=>AK v u
 |none,none=>True
 |_,_=>False
def KV {κ:Type}:List (κ×V)->List (κ×Value)->Prop:=Paired fun(p:κ×V) (q:κ×Value)=>p.1=q.1/\AK p.2 q.2
def kV:CA->V
 |.inl i=>.int i
 |.inr x=>.str x
set_option genInjectivity true in
inductive HO where
 |lst (xs:List V)
 |tup (xs:List V)
 |dK (kvs:List (CA×V))|dT (kvs:List (List CA×V))
 |set (S:Int->Bool) (n:Nat)
 |ins (C dx:Addr) (fs:List (Str×V))
 |own (x:Addr)
 |xd (fs:List (Str×V))
 |met (f x:Addr)
 |rng (lo hi:Int)
 |frz (o:Obj) (u:HO)
 |tbl (ps:Array Value)
 |ext (φ:Heap->Prop)
abbrev Hp:=Addr->Option HO
def upd (H:Hp)(a:Addr)(o:HO):Hp:=λb=>if b=a then some o else H b
theorem A5 {H:Hp}{a:Addr}{o:HO}:upd H a o a=some o:=by unfold upd;rw[Av rfl]
theorem Ak {H:Hp}{a b:Addr}{o:HO}(h:b≠a):upd H a o b=H b:=by unfold upd;rw[Aw h]
theorem WU {H:Hp}{a:Addr}{o u:HO}:upd (upd H a o) a u=upd H a u:=by
 funext b;unfold upd;split<;>rfl
theorem Ft {H:Hp}{a b:Addr}{o u:HO}(h:H a=some o)(h':H b=some u)(d:o≠u):a≠b:=by
 intro e;subst e;rw[h]at h';exact d (CV h')
theorem AF {H:Hp}{a b:Addr}{o:HO}(h:H a=some o)(h':H b=none):a≠b:=by
 intro e;subst e;rw[h]at h';cases h'
section
variable (P:Program)(w:World)
def Fb (h:Heap)(a:Addr)(its:Array Value):Prop := ∃o,h.get? a=some o/\o.cls = .type "tuple"/\(∃n,o.data = .seq its n)/\o.dict=none
theorem Fb.tup {h:Heap}{a:Addr}{its:Array Value}(x:Fb h a its):IsTup h a its:=by obtain⟨o,e,c,d,_⟩:=x;exact⟨o,e,c,d⟩
theorem Fb.new (h:Heap)(its:Array Value):Fb (h.push {cls:=.type "tuple",data:=.seq its}) h.objs.size its:=⟨_,CN _ rfl,rfl,⟨_,rfl⟩,rfl⟩
def Cb (H:Hp)(h:Heap)(a:Addr):HO->Prop
 |.lst xs=>xs.length<=sizeLine/\∃(its:List Value) (n:Nat),Au xs its/\h.get? a=some {cls:=.type "list",data:=.seq its.toArray n}
 |.tup xs=>xs.length<=sizeLine/\∃its:List Value,Au xs its/\Fb h a its.toArray
 |.dK kvs=>kvs.length<=sizeLine/\(a==sysModules)=false/\∃vs,KV kvs vs/\h.DictOf (Hf P w) a vs
 |.dT kvs=>kvs.length<=sizeLine/\(a==sysModules)=false/\∃xs:List (List CA×Addr×Value),
  Paired (fun(p:List CA×V) (q:List CA×Addr×Value)=>p.1=q.1/\H q.2.1=some (.tup (p.1.map kV))/\AK p.2 q.2.2) kvs xs/\
  ∃o es ep,h.get? a=some o/\o.ExactDict/\o.data = .dict es ep/\es.toList=xs.map (entryOfKey (tupleKind (Hf P w)))/\(xs.map (·.1)).Nodup
 |.set S n=>h.SetOf (intKind P w) a S n
 |.ins C dx fs=>H dx=some (.own a)/\fs.length<=1000/\dx≠a/\h.get? a=some (PySem.W.instObj C dx)/\
  ∃mA,h.Ns1 dx mA/\(∀f,ES (fs.lookup f) (mA f))/\PySem.Within mA (fs.map (·.1))
 |.own _=>∃o,h.get? a=some o
 |.xd fs=>∃mA,h.Ns1 a mA/\∀f,ES (fs.lookup f) (mA f)
 |.rng lo hi=>∃t u v,h.get? a=some {cls:=.type "range",data:=.fields #[.int lo t,.int hi u,.int 1 v]}
 |.frz o u=>h.get? a=some o/\Cb H h a u
 |.tbl ps=>h.get? a=some {cls:=.none,data:=.fields ps}
 |.met f x=>h.get? a=some (PySem.W.methodObj (.ref f) (.ref x))
 |.ext φ=>φ h/\(∃o,h.get? a=some o)/\∀h1 h2:Heap,φ h1->(∀o,h1.get? a=some o->h2.get? a=some o)->φ h2
def BR (H:Hp)(h:Heap):Prop := ∀a o,H a=some o->Cb P w H h a o
end
section
variable {P:Program}{w:World}{H H':Hp}{h h':Heap}{a:Addr}{o:HO}
theorem Cb.lt (x:Cb P w H h a o):a<h.objs.size:=by
 cases o with
 |lst xs=>obtain⟨_,_,_,_,e⟩:=x;exact B1 e
 |tup xs=>obtain⟨_,_,_,p⟩:=x;exact p.tup.lt
 |dK kvs=>obtain⟨_,_,_,_,o,_,_,e,_⟩:=x;exact B1 e
 |dT kvs=>obtain⟨_,_,_,_,o,_,_,e,_⟩:=x;exact B1 e
 |set S n=>obtain⟨o,_,_,_,e,_⟩:=x;exact B1 e
 |ins C dx fs=>obtain⟨_,_,_,e,_⟩:=x;exact B1 e
 |own y=>obtain⟨_,e⟩:=x;exact B1 e
 |xd fs=>obtain⟨_,⟨_,_,_,e,_⟩,_⟩:=x;exact B1 e
 |rng lo hi=>obtain⟨_,_,_,e⟩:=x;exact B1 e
 |frz ob u=>obtain⟨e,_⟩:=x;exact B1 e
 |tbl ps=>exact B1 (show h.get? a=some _ from x)
 |met f y=>exact B1 (show h.get? a=some _ from x)
 |ext φ=>obtain⟨_,⟨_,e⟩,_⟩:=x;exact B1 e
theorem Paired.mapP {α β:Type}{F G:α->β->Prop}:∀{l₁:List α} {l₂:List β},Paired F l₁ l₂->(∀a b,F a b->G a b)->Paired G l₁ l₂
 |_,_,.nil,_=>.nil
 |_,_,.cons r t,f=>.cons (f _ _ r) (Paired.mapP t f)
theorem Cb.stay (x:Cb P w H h a o)(k:∀b u,(b=a\/H b=some (.own a))->h.get? b=some u->h'.get? b=some u)
  (ho:∀b,H b=some (.own a)->H' b=some (.own a)) (ht:∀b xs,H b=some (.tup xs)->H' b=some (.tup xs)):Cb P w H' h' a o:=by
 induction o with
 |lst xs=>obtain⟨z,its,n,r,e⟩:=x;exact⟨z,its,n,r,k _ _ (.inl rfl) e⟩
 |tup xs=>obtain⟨z,its,r,ob,e,c⟩:=x;exact⟨z,its,r,ob,k _ _ (.inl rfl) e,c⟩
 |dK kvs=>obtain⟨z,y,vs,r,ob,es,ep,e,c⟩:=x;exact⟨z,y,vs,r,ob,es,ep,k _ _ (.inl rfl) e,c⟩
 |
  dT kvs=>
  obtain⟨z,y,xs,r,ob,es,ep,e,c⟩:=x;exact⟨z,y,xs,Paired.mapP r λp q z=>⟨z.1,ht _ _ z.2.1,z.2.2⟩,ob,es,ep,k _ _ (.inl rfl) e,c⟩
 |set S n=>obtain⟨ob,es,ep,t,e,c⟩:=x;exact⟨ob,es,ep,t,k _ _ (.inl rfl) e,c⟩
 |
  ins C dx fs=>
  obtain⟨d,z,ne,e,mA,⟨od,es,ep,e2,c⟩,r⟩:=x;exact⟨ho _ d,z,ne,k _ _ (.inl rfl) e,mA,⟨od,es,ep,k _ _ (.inr d) e2,c⟩,r⟩
 |own y=>obtain⟨ob,e⟩:=x;exact⟨ob,k _ _ (.inl rfl) e⟩
 |xd fs=>obtain⟨mA,⟨od,es,ep,e,c⟩,r⟩:=x;exact⟨mA,⟨od,es,ep,k _ _ (.inl rfl) e,c⟩,r⟩
 |rng lo hi=>obtain⟨t,u,v,e⟩:=x;exact⟨t,u,v,k _ _ (.inl rfl) e⟩
 |frz ob u ih=>obtain⟨e,q⟩:=x;exact⟨k _ _ (.inl rfl) e,ih q⟩
 |
  tbl ps=>
  have e:h.get? a=some {cls:=.none,data:=.fields ps}:=x;show h'.get? a=some {cls:=.none,data:=.fields ps};exact k a _ (.inl rfl) e
 |
  met f y=>
  have e:h.get? a=some (PySem.W.methodObj (.ref f) (.ref y)):=x;show h'.get? a=some (PySem.W.methodObj (.ref f) (.ref y));exact k a _ (.inl rfl) e
 |ext φ=>obtain⟨p,⟨o,e⟩,st⟩:=x;exact⟨st _ _ p λo q=>k _ _ (.inl rfl) q,⟨o,k _ _ (.inl rfl) e⟩,st⟩
theorem BR.lt (x:BR P w H h)(e:H a=some o):a<h.objs.size:=(x a o e).lt
theorem BR.fresh (x:BR P w H h)(e:h.objs.size<=a):H a=none:=by
 cases q:H a with
 |none=>rfl
 |some u=>exact absurd (C9 (x.lt q) e) (Ea _)
theorem BR.kept (x:BR P w H h)(k:∀b u,h.get? b=some u->h'.get? b=some u):BR P w H h':=λa o e=>
 (x a o e).stay (λb u _ q=>k b u q) (λ_ q=>q) λ_ _ q=>q
theorem BR.laid (x:BR P w H h)(k:∀b u,h.get? b=some u->h'.get? b=some u)(hp:h.objs.size<=a)(new:Cb P w (upd H a o) h' a o):BR P w (upd H a o) h':=λb u e=>by
 have hn:=x.fresh hp;by_cases hb:b=a
 .subst hb;rw[A5]at e;cases e;exact new
 .rw[Ak hb]at e;exact(x b u e).stay (λc v _ q=>k c v q) (λc q=>by rw[Ak (AF q hn)];exact q) λc xs q=>by rw[Ak (AF q hn)];exact q
end
def Rd (H:Hp)(a:Addr)(u:HO):Prop:=H a=some u\/∃o,H a=some (.frz o u)
theorem Rd.ok {P:Program}{w:World}{H:Hp}{h:Heap}{a:Addr}{u:HO}(r:Rd H a u)(x:BR P w H h):Cb P w H h a u:=by
 rcases r with r|⟨o,r⟩
 .exact x a u r
 .obtain⟨_,q⟩:=x a _ r;exact q
def Lm:Option HO->Prop
 |some (.lst _)=>True
 |some (.dK _)=>True
 |some (.dT _)=>True
 |some (.set _ _)=>True
 |some (.ins _ _ _)=>True
 |some (.ext _)=>True
 |_=>False
section
variable {P:Program}{w:World}{H:Hp}{h h':Heap}{x e:Addr}{o':HO}
theorem BR.write (ok:BR P w H h)(mu:Lm (H x))(he:e=x\/H e=some (.own x))(k:∀b u,b≠e->h.get? b=some u->h'.get? b=some u)(heo:∃u,h'.get? e=some u)
  (new:Cb P w (upd H x o') h' x o'):BR P w (upd H x o') h':=λb u q=>by
 have nown:∀c y,H c=some (.own y)->c≠x:=λc y r z=>by subst z;rw[r]at mu;exact mu
 have ntup:∀c xs,H c=some (.tup xs)->c≠x:=λc xs r z=>by subst z;rw[r]at mu;exact mu
 by_cases hb:b=x
 .subst hb;rw[A5]at q;cases q;exact new
 .rw[Ak hb]at q;by_cases hbe:b=e
  .have q':H b=some (.own x):=by
    rcases he with z|z
    .exact absurd (hbe.trans z) hb
    .rw[hbe];exact z
   rw[q]at q';cases q';obtain⟨v,hv⟩:=heo;exact⟨v,by rw[hbe];exact hv⟩
  .refine(ok b u q).stay (λc v hc r=>k c v ?_ r) (λc r=>by rw[Ak (nown c b r)];exact r) λc xs r=>by rw[Ak (ntup c xs r)];exact r
   rcases hc with rfl|hc
   .exact hbe
   .rintro rfl;rcases he with z|z
    .exact nown c b hc z
    .rw[hc]at z;cases z;exact hb rfl
end
structure Un (fs ex:List Addr)(H H':Hp)(h h':Heap):Prop where
 keep:∀b o,h.get? b=some o->H b=none->b∉fs->b∉ex->h'.get? b=some o
 slot:∀b o,h.get? b=some o->H b=none->b∈fs->b∉ex->∃sl,h'.get? b=some {o with slots:=sl}
 free:∀b o,h.get? b=some o->H b=none->b∉ex->H' b=none
 there:∀b o,h.get? b=some o->b∉ex->∃o',h'.get? b=some o'
 tups:∀b xs,H b=some (.tup xs)->H' b=some (.tup xs)
 frzs:∀b o u,H b=some (.frz o u)->H' b=some (.frz o u)
 tbls:∀b ps,H b=some (.tbl ps)->∃more,H' b=some (.tbl (ps++more))
section
variable {fs fs' ex ex':List Addr}{H H1 H2:Hp}{h h1 h2 h':Heap}{a x e:Addr}{o:HO}
theorem Un.any (u:Un fs ex H H1 h h1){b:Addr}{ob:Obj}(q:h.get? b=some ob)(n:H b=none)(hx:b∉ex):∃sl,h1.get? b=some {ob with slots:=sl}:=by
 by_cases hb:b∈fs
 .exact u.slot b ob q n hb hx
 .exact⟨ob.slots,u.keep b ob q n hb hx⟩
theorem Un.kept (k:∀b u,h.get? b=some u->h'.get? b=some u):Un fs ex H H h h':=
 ⟨λb ob q _ _ _=>k b ob q,λb ob q _ _ _=>⟨ob.slots,k b ob q⟩,λ_ _ _ n _=>n,λb ob q _=>⟨ob,k b ob q⟩,λ_ _ q=>q,λ_ _ _ q=>q,λ_ ps q=>⟨#[],by rw[q];simp⟩⟩
theorem Un.refl:Un fs ex H H h h:=Un.kept λ_ _ q=>q
theorem Un.laid (k:∀b u,h.get? b=some u->h'.get? b=some u)(hp:h.objs.size<=a)(hn:H a=none):Un fs ex H (upd H a o) h h' where
 keep:=λb u q _ _ _=>k b u q
 slot:=λb u q _ _ _=>⟨u.slots,k b u q⟩
 free:=λb u q n _=>by rw[Ak (BQ (C9 (B1 q) hp))];exact n
 there:=λb u q _=>⟨u,k b u q⟩
 tups:=λb xs q=>by rw[Ak (AF q hn)];exact q
 frzs:=λb u xs q=>by rw[Ak (AF q hn)];exact q
 tbls:=λb ps q=>⟨#[],by rw[Ak (AF q hn),q];simp⟩
theorem Un.write (mu:Lm (H x))(he:e=x\/H e=some (.own x))(k:∀b u,b≠e->h.get? b=some u->h'.get? b=some u)(heo:∃u,h'.get? e=some u):Un fs ex H (upd H x o) h h':=by
 have hx:∀b,H b=none->b≠x:=λb n z=>by subst z;rw[n]at mu;exact mu
 have hb:∀b,H b=none->b≠e:=λb n z=>by
  subst z;rcases he with r|r
  .exact hx b n r
  .rw[n]at r;cases r
 have hm:∀b u,H b=some u->¬Lm (some u)->b≠x:=λb u q nm z=>by subst z;rw[q]at mu;exact nm mu
 refine⟨λb u q n _ _=>k b u (hb b n) q,λb u q n _ _=>⟨u.slots,k b u (hb b n) q⟩,λb u q n _=>by rw[Ak (hx b n)];exact n,λb u q _=>?_,
  λb xs q=>by rw[Ak (hm b _ q λz=>z)];exact q,λb u xs q=>by rw[Ak (hm b _ q λz=>z)];exact q,λb ps q=>⟨#[],by rw[Ak (hm b _ q λz=>z),q];simp⟩⟩
 by_cases hbe:b=e
 .subst hbe;exact heo
 .exact⟨u,k b u hbe q⟩
end
def LL (h:Heap)(H:Hp):List Addr:=(List.range h.objs.size).filter λa=>(H a).isSome
def G3 (h:Heap)(H:Hp):Heap:=PySem.W.hideAll h (LL h H)
theorem Xb (h:Heap)(H:Hp):(G3 h H).objs.size=h.objs.size:=PySem.W.hideAll_size _ _
theorem U7 {h:Heap}{H:Hp}{b:Addr}{o:Obj}(e:h.get? b=some o)(n:H b=none):(G3 h H).get? b=some o:=
 PySem.W.hideAll_get _ e λhm=>by
  have q:(H b).isSome=true:=(OF.mp hm).2;rw[n]at q;simp at q
theorem Wc {h:Heap}{H:Hp}{b:Addr}{o:Obj}(e:(G3 h H).get? b=some o):h.get? b=some o/\H b=none:=by
 have e':h.get? b=some o:=PySem.W.of_hideAll (LL h H) e;refine⟨e',?_⟩;cases q:H b with
 |none=>rfl
 |
  some x=>
  have hm:b∈LL h H:=OF.mpr ⟨DE.mpr (B1 e'),by simp[q]⟩;have z:(G3 h H).get? b=none:=PySem.W.hideAll_none (LL h H) hm;rw[z]at e;cases e
structure Mod (K:Faa)(mg:Str->Option Value)(base:Heap):Prop where
 kin:K.In base
 glob:base.Ns mainGlobals mg
 blt:∃mb,base.Ns builtinsNs mb/\∀x:Str,x≠"__name__"->mb x=bootBuiltins x
 nolimit:base.NoLimit
structure Cx where
 prog:Program
 w:World
 K:Faa
 mg:Str->Option Value
 base:Heap
 A:Around
 N:List Str
 s₀:Shared
 H₀:Hp
 env:Env
 outer:List Env
 stack:List Env
 ex:List Addr
 fn:Str->Bool
 calm:Bool
 pn:List (Addr×Obj)
 xe:Value->Shared->Prop
def DV (l:List Env):List Addr:=l.filterMap (·.frame)
abbrev Cx.fs (X:Cx):List Addr:=DV X.outer
def J6 (sc:Scope)(x:Str):Prop:=sc.names.lookup x=some .local\/sc.names.lookup x=some .cell\/sc.names.lookup x=some .free
def GZ (sc:Scope)(x:Str):Prop:=sc.names.lookup x=some .local\/sc.names.lookup x=some .cell
def Xk (env:Env)(h:Heap)(m:Str->Option Value)(x:Str)(u:Value):Prop:=
 (env.kindOf x=some .local/\m x=some u)\/((env.kindOf x=some .cell\/env.kindOf x=some .free)/\∃c,env.cells.lookup x=some c/\h.IsCell c (some u))
structure Cx.Ok (X:Cx):Prop where
 mod:Mod X.K X.mg X.base
 kind:X.env.scope.kind = .function
 glob:X.env.globals=mainGlobals
 blt:X.env.builtins=builtinsNs
 above:X.s₀.heap.objs.size<=X.env.locals
 inj:∀x y c,X.env.cells.lookup x=some c->X.env.cells.lookup y=some c->x=y
 has:∀x,(X.env.kindOf x=some .cell\/X.env.kindOf x=some .free)->∃c,X.env.cells.lookup x=some c
 cab:∀x c,X.fn x=true->X.env.cells.lookup x=some c->X.s₀.heap.objs.size<=c
 hd:X.calm=true->X.A.handled=none
 frames:X.A.frames=some X.stack
 stk:X.stack=X.outer\/(X.stack=X.env::X.outer/\X.env.frame=some X.env.locals)
 exf:∀b∈X.ex,b≠X.env.locals/\∀x c,X.env.cells.lookup x=some c->c≠b
 bs:∀b o,X.base.get? b=some o->X.s₀.heap.get? b=some o/\X.H₀ b=none
 bsz:X.base.objs.size<=X.s₀.heap.objs.size
 noex:∀b o,X.base.get? b=some o->b∉X.ex
 exfs:∀b∈X.ex,b∉X.fs
 funs:X.s₀.heap.FunFrames X.base X.outer
 frf:∀b∈X.fs,X.H₀ b=none
structure A3 (X:Cx)(pins:List (Addr×Obj))(σ:List (Option V))(H:Hp)(s:Shared):Prop where
 ok:X.Ok
 os:s.os=X.s₀.os
 bare:AllBare s.gens
 base:Un X.fs X.ex X.H₀ H X.s₀.heap s.heap
 loc:∃m,s.heap.Ns X.env.locals m/\∀(i:Nat) (x:Str) (v:V),X.N[i]?=some x->σ[i]?=some (some v)->J6 X.env.scope x->∃u,AK v u/\Xk X.env s.heap m x u
 cell:∀x c,X.env.cells.lookup x=some c->∃v,s.heap.IsCell c v
 free:H X.env.locals=none
 freeC:∀x c,X.env.cells.lookup x=some c->H c=none
 pin:∀p∈X.pn++pins,s.heap.get? p.1=some p.2/\H p.1=none/\p.1≠X.env.locals/\p.1∉X.fs/\∀v,p.2.data≠.cell v
 hok:BR X.prog X.w H s.heap
 len:σ.length=X.N.length
section
variable {X:Cx}{pins:List (Addr×Obj)}{σ:List (Option V)}{H H':Hp}{s:Shared}{h':Heap}
theorem Cx.Ok.nofr (ok:X.Ok){b:Addr}{o:Obj}(e:X.base.get? b=some o):b∉X.fs:=λhb=>by
 have:=(ok.funs.mem hb).1;rw[e]at this;cases this
theorem A3.bs (I:A3 X pins σ H s):∀b o,X.base.get? b=some o->s.heap.get? b=some o/\H b=none:=λb o e=>
 ⟨I.base.keep b o (I.ok.bs b o e).1 (I.ok.bs b o e).2 (I.ok.nofr e) (I.ok.noex b o e),I.base.free b o (I.ok.bs b o e).1 (I.ok.bs b o e).2 (I.ok.noex b o e)⟩
theorem A3.bk (I:A3 X pins σ H s):∀b o,X.base.get? b=some o->s.heap.get? b=some o:=λb o e=>(I.bs b o e).1
theorem A3.mod (I:A3 X pins σ H s):Mod X.K X.mg X.base:=I.ok.mod
theorem A3.kIn (I:A3 X pins σ H s):X.K.In s.heap:=I.ok.mod.kin.keeps I.bk
theorem A3.lt (I:A3 X pins σ H s):X.env.locals<s.heap.objs.size:=by obtain⟨_,hn,_⟩:=I.loc;exact hn.lt
theorem A3.sz (I:A3 X pins σ H s):X.s₀.heap.objs.size<=s.heap.objs.size:=Ey I.ok.above (Fc I.lt)
theorem A3.nofs (I:A3 X pins σ H s){a:Addr}(h:s.heap.objs.size<=a):a∉X.fs:=λhb=>by
 obtain⟨_,o,ho,_⟩:=I.ok.funs.mem hb;exact absurd (C9 (B1 ho) (Ey I.sz h)) (Ea _)
theorem A3.cne (I:A3 X pins σ H s):∀x c,X.env.cells.lookup x=some c->c≠X.env.locals:=λx c e z=>by
 obtain⟨v,o,ho,hd⟩:=I.cell x c e;obtain⟨m,⟨o',es,ep,ho',hd',_⟩,_⟩:=I.loc;rw[z,ho']at ho;cases ho;rw[hd']at hd;cases hd
theorem A3.funs (I:A3 X pins σ H s):s.heap.FunFrames X.base X.outer:=by
 have all:∀(l:List Env),(∀b∈DV l,b∈X.fs)->X.s₀.heap.FunFrames X.base l->s.heap.FunFrames X.base l:=by
  intro l;induction l with
  |nil=>intro _ _;trivial
  |
   cons env r ih=>
   intro hs hl;obtain⟨hk,⟨L,o,hf,hn,ho,hd⟩,hr⟩:=hl;have hL:L∈X.fs:=hs L (by unfold DV;rw[SN,hf];exact Cq);obtain⟨sl,e⟩:=I.base.slot L o ho (I.ok.frf L hL) hL λz=>I.ok.exfs L z hL;exact⟨hk,⟨L,_,hf,hn,e,hd⟩,ih (λb hb=>hs b (by unfold DV;rw[SN,hf];exact CF _ hb)) hr⟩
 exact all X.outer (λ_ hb=>hb) I.ok.funs
theorem A3.stack (I:A3 X pins σ H s):s.heap.FunFrames X.base X.stack:=by
 rcases I.ok.stk with e|⟨e,hf⟩
 .rw[e];exact I.funs
 .rw[e];obtain⟨m,hn,_⟩:=I.loc;refine .cons (by rw[I.ok.kind];decide) hf hn ?_ I.funs;exact Heap.get?_none_of_le (Ey I.ok.bsz I.ok.above)
theorem A3.stkSub (I:A3 X pins σ H s):∀b∈DV X.stack,b∈X.env.locals::X.fs:=λb hb=>by
 rcases I.ok.stk with e|⟨e,hf⟩
 .rw[e]at hb;exact CF _ hb
 .rw[e]at hb;unfold DV at hb;rw[SN,hf]at hb;exact hb
theorem A3.stkFree (I:A3 X pins σ H s):∀b∈DV X.stack,H b=none:=λb hb=>by
 rcases Bj.mp (I.stkSub b hb) with e|hb
 .rw[e];exact I.free
 .obtain⟨_,o,ho,_⟩:=I.ok.funs.mem hb;exact I.base.free b o ho (I.ok.frf b hb) λz=>I.ok.exfs b z hb
theorem A3.step {g':Array GenState}{t':Nat}{d':Drawn}{ch:List Addr}(I:A3 X pins σ H s)
  (hch:∀b∈ch,(b∈X.ex\/X.s₀.heap.objs.size<=b)/\b≠X.env.locals/\(∀x c,X.env.cells.lookup x=some c->c≠b)/\∀p∈X.pn++pins,p.1≠b)
  (keep:∀b o,b≠X.env.locals->b∉X.fs->b∉ch->s.heap.get? b=some o->H b=none->h'.get? b=some o)
  (slot:∀b o,b≠X.env.locals->b∈X.fs->b∉ch->s.heap.get? b=some o->H b=none->∃sl,h'.get? b=some {o with slots:=sl}) (free:∀b o,b∉ch->s.heap.get? b=some o->H b=none->H' b=none)
  (there:∀b o,b∉ch->s.heap.get? b=some o->∃o',h'.get? b=some o')
  (tups:∀b xs,H b=some (.tup xs)->H' b=some (.tup xs)) (frzs:∀b o u,H b=some (.frz o u)->H' b=some (.frz o u)) (tbls:∀b ps,H b=some (.tbl ps)->∃more,H' b=some (.tbl (ps++more)))
  (ns:∀m,s.heap.Ns X.env.locals m->h'.Ns X.env.locals m) (hok:BR X.prog X.w H' h') (hg:AllBare g') :
  A3 X pins σ H' {s with heap:=h',gens:=g',drawn:=d',toks:=t'}:=by
 have neL:∀b o,X.s₀.heap.get? b=some o->b≠X.env.locals:=λb o e=>BQ (C9 (B1 e) I.ok.above);have neC:∀b o,X.s₀.heap.get? b=some o->b∉X.ex->b∉ch:=λb o e hx hb=>by
  rcases(hch b hb).1 with z|z
  .exact hx z
  .exact absurd (C9 (B1 e) z) (Ea _)
 have cellK:∀x c,X.env.cells.lookup x=some c->∀v,s.heap.IsCell c v->h'.IsCell c v:=λx c e v ⟨o,ho,hd⟩=>by
  have nch:c∉ch:=λz=>(hch c z).2.2.1 x c e rfl;by_cases hc:c∈X.fs
  .obtain⟨sl,q⟩:=slot c o (I.cne x c e) hc nch ho (I.freeC x c e);exact⟨_,q,hd⟩
  .exact⟨o,keep c o (I.cne x c e) hc nch ho (I.freeC x c e),hd⟩
 refine⟨I.ok,I.os,hg,⟨λb o e n hb hx=>?_,λb o e n hb hx=>?_,λb o e n hx=>?_,λb o e hx=>?_,λb xs e=>tups b xs (I.base.tups b xs e),λb o xs e=>frzs b o xs (I.base.frzs b o xs e),λb ps e=>?_⟩,?_,λx c e=>?_,?_,λx c e=>?_,λp hp=>?_,hok,I.len⟩
 .exact keep b o (neL b o e) hb (neC b o e hx) (I.base.keep b o e n hb hx) (I.base.free b o e n hx)
 .obtain⟨sl,e1⟩:=I.base.slot b o e n hb hx;obtain⟨sl',e2⟩:=slot b _ (neL b o e) hb (neC b o e hx) e1 (I.base.free b o e n hx);exact⟨sl',e2⟩
 .obtain⟨o',e1⟩:=I.base.there b o e hx;exact free b o' (neC b o e hx) e1 (I.base.free b o e n hx)
 .obtain⟨o',e1⟩:=I.base.there b o e hx;exact there b o' (neC b o e hx) e1
 .obtain⟨m1,e1⟩:=I.base.tbls b ps e;obtain⟨m2,e2⟩:=tbls b _ e1;exact⟨m1++m2,by rw[e2,Array.append_assoc]⟩
 .obtain⟨m,hn,hl⟩:=I.loc;refine⟨m,ns m hn,λi x v e1 e2 e3=>?_⟩;obtain⟨u,r,l⟩:=hl i x v e1 e2 e3;refine⟨u,r,?_⟩;rcases l with l|⟨k,c,e,z⟩
  .exact .inl l
  .exact .inr ⟨k,c,e,cellK x c e _ z⟩
 .obtain⟨v,z⟩:=I.cell x c e;exact⟨v,cellK x c e v z⟩
 .obtain⟨m,⟨o,_,_,ho,_⟩,_⟩:=I.loc;exact free _ o (λz=>(hch _ z).2.1 rfl) ho I.free
 .obtain⟨v,o,ho,hd⟩:=I.cell x c e;exact free c o (λz=>(hch c z).2.2.1 x c e rfl) ho (I.freeC x c e)
 .obtain⟨e,n,ne,nf,d⟩:=I.pin p hp;have nch:p.1∉ch:=λz=>(hch p.1 z).2.2.2 p hp rfl;exact⟨keep p.1 p.2 ne nf nch e n,free p.1 p.2 nch e n,ne,nf,d⟩
theorem A3.un {t':Nat}(I:A3 X pins σ H s)(u:Un X.fs [] H H' s.heap h')(hok:BR X.prog X.w H' h'):A3 X pins σ H' {s with heap:=h',toks:=t'}:=by
 obtain⟨m,⟨o,es,ep,ho,r⟩,_⟩:=id I.loc;obtain⟨sl,hL⟩:=u.any ho I.free (by simp);exact I.step (g':=s.gens) (d':=s.drawn) (ch:=[]) (λ_ z=>nomatch z) (λb o _ hb _ e n=>u.keep b o e n hb (by simp)) (λb o _ hb _ e n=>u.slot b o e n hb (by simp)) (λb o _ e n=>u.free b o e n (by simp)) (λb o _ e=>u.there b o e (by simp)) u.tups u.frzs u.tbls (λm' hm=>by
  obtain⟨o',es',ep',ho',r'⟩:=hm;rw[ho]at ho';cases ho';exact⟨_,es',ep',hL,r'⟩) hok I.bare
theorem A3.call {g':Array GenState}{t':Nat}{d':Drawn}{ch:List Addr}(I:A3 X pins σ H s)(u:Un (DV X.stack) ch H H' s.heap h')(hok:BR X.prog X.w H' h')(hg:AllBare g')
  (hch:∀b∈ch,(b∈X.ex\/X.s₀.heap.objs.size<=b)/\b≠X.env.locals/\(∀x c,X.env.cells.lookup x=some c->c≠b)/\∀p∈X.pn++pins,p.1≠b) :
  A3 X pins σ H' {s with heap:=h',gens:=g',drawn:=d',toks:=t'}:=by
 obtain⟨m,⟨o,es,ep,ho,r⟩,_⟩:=id I.loc;obtain⟨sl,hL⟩:=u.any ho I.free λz=>(hch _ z).2.1 rfl;exact I.step (ch:=ch) hch (λb o hL hb hc e n=>u.keep b o e n (λz=>(Bj.mp (I.stkSub b z)).elim hL hb) hc) (λb o _ _ hc e n=>u.any e n hc) (λb o hc e n=>u.free b o e n hc) (λb o hc e=>u.there b o e hc) u.tups u.frzs u.tbls (λm' hm=>by
  obtain⟨o',es',ep',ho',r'⟩:=hm;rw[ho]at ho';cases ho';exact⟨_,es',ep',hL,r'⟩) hok hg
theorem A3.turned {t':Nat}{it:Addr}(I:A3 X pins σ H s)(k:∀b o,b≠it->s.heap.get? b=some o->h'.get? b=some o)(hn:H it=none)(hL:it≠X.env.locals)
  (h1:it∈X.ex\/X.s₀.heap.objs.size<=it) (h2:∀x c,X.env.cells.lookup x=some c->c≠it) (h3:∀p∈X.pn++pins,p.1≠it):A3 X pins σ H {s with heap:=h',toks:=t'}:=by
 have nit:∀b u,H b=some u->b≠it:=λb u e z=>by rw[z,hn]at e;cases e
 refine I.step (g':=s.gens) (d':=s.drawn) (ch:=[it]) (λb hb=>?_) (λb o _ _ hc e _=>k b o (λz=>hc (by simp[z])) e) (λb o _ _ hc e _=>⟨o.slots,k b o (λz=>hc (by simp[z])) e⟩) (λ_ _ _ _ n=>n)
  (λb o hc e=>⟨o,k b o (λz=>hc (by simp[z])) e⟩) (λ_ _ e=>e) (λ_ _ _ e=>e) (λb ps e=>⟨#[],by rw[e];simp⟩) (λm hm=>?_) (λb u e=>?_) I.bare
 .have e:b=it:=by simpa using hb
  subst e;exact⟨h1,hL,h2,h3⟩
 .obtain⟨o,es,ep,ho,r⟩:=hm;exact⟨o,es,ep,k _ o (Ne.symm hL) ho,r⟩
 .refine(I.hok b u e).stay (λc v hc q=>k c v ?_ q) (λ_ q=>q) λ_ _ q=>q;rcases hc with z|z
  .rw[z];exact nit b u e
  .exact nit c _ z
theorem A3.tok (I:A3 X pins σ H s)(t:Nat):A3 X pins σ H {s with toks:=t}:=I.un (h':=s.heap) (t':=t) Un.refl I.hok
theorem A3.kept {t':Nat}(I:A3 X pins σ H s)(k:∀b u,s.heap.get? b=some u->h'.get? b=some u):A3 X pins σ H {s with heap:=h',toks:=t'}:=I.un (Un.kept k) (I.hok.kept k)
theorem A3.laid {a:Addr}{o:HO}{t':Nat}(I:A3 X pins σ H s)(k:∀b u,s.heap.get? b=some u->h'.get? b=some u)(hp:s.heap.objs.size<=a)(new:Cb X.prog X.w (upd H a o) h' a o) :
 A3 X pins σ (upd H a o) {s with heap:=h',toks:=t'}:=I.un (Un.laid k hp (I.hok.fresh hp)) (I.hok.laid k hp new)
theorem A3.write {x e:Addr}{o:HO}{t':Nat}(I:A3 X pins σ H s)(mu:Lm (H x))(he:e=x\/H e=some (.own x))(k:∀b u,b≠e->s.heap.get? b=some u->h'.get? b=some u)(heo:∃u,h'.get? e=some u)
 (new:Cb X.prog X.w (upd H x o) h' x o):A3 X pins σ (upd H x o) {s with heap:=h',toks:=t'}:=I.un (Un.write mu he k heo) (I.hok.write mu he k heo new)
theorem A3.weak {σ':List (Option V)}(I:A3 X pins σ H s)(hl:σ'.length=σ.length)(w:∀(i:Nat) v,σ'[i]?=some (some v)->σ[i]?=some (some v)):A3 X pins σ' H s:=
 ⟨I.ok,I.os,I.bare,I.base,let ⟨m,hn,hl'⟩:=I.loc;⟨m,hn,λi x v e1 e2 e3=>hl' i x v e1 (w i v e2) e3⟩,I.cell,I.free,I.freeC,I.pin,I.hok,hl.trans I.len⟩
theorem A3.pins_of {pins':List (Addr×Obj)}(I:A3 X pins σ H s)(h:∀p∈pins',s.heap.get? p.1=some p.2/\H p.1=none/\p.1≠X.env.locals/\p.1∉X.fs/\∀v,p.2.data≠.cell v):A3 X pins' σ H s:=
 ⟨I.ok,I.os,I.bare,I.base,I.loc,I.cell,I.free,I.freeC,λp hp=>(Cw.mp hp).elim (λz=>I.pin p (DF _ z)) (h p),I.hok,I.len⟩
theorem NS {N:List Str}(hN:N.Nodup){i j:Nat}{x:Str}(a:N[i]?=some x)(b:N[j]?=some x):i=j:=by
 obtain⟨h1,e1⟩:=Ax.mp a;obtain⟨h2,e2⟩:=Ax.mp b;exact(List.getElem_inj hN).mp (e1.trans e2.symm)
theorem XM {M:Model}{A:Around}{E:Value->Shared->Prop}{i:Nat}{x:Str}{v:V}{u:Value}{Q:Unit->Shared->Prop}(I:A3 X pins σ H s)(hN:X.N.Nodup)(hi:X.N[i]?=some x)(hx:GZ X.env.scope x)(r:AK v u)
  (h:∀s',A3 X pins (σ.set i (some v)) H s'->(∃a,Heap.SameBut a s.heap s'.heap/\(a=X.env.locals\/X.env.cells.lookup x=some a))->Q () s') (hf:X.fn x=true\/X.env.scope.names.lookup x=some .local:=by first|exact .inl rfl|exact .inr rfl|assumption):wpAny M A (storeName X.env x u) Q E s:=by
 obtain⟨m,hn,hl⟩:=id I.loc;have hcls:(X.env.scope.kind == .class||(X.env.scope.kind == .module&&X.env.locals != X.env.globals))=false:=by rw[I.ok.kind];rfl
 have hiσ:i<σ.length:=by rw[I.len];exact(Ax.mp hi).1
 have cne:=I.cne;have tracked:∀{a:Addr} {h':Heap},(∃o,s.heap.get? a=some o/\H a=none)->Heap.SameBut a s.heap h'->BR X.prog X.w H h':=fun{a h'} ha hs b ob e=>by
  obtain⟨_,_,hfree⟩:=ha;refine(I.hok b ob e).stay (λc w' hc q=>(hs.2 c ?_).trans q) (λ_ q=>q) λ_ _ q=>q;rintro rfl;rcases hc with rfl|hc
  .rw[hfree]at e;cases e
  .rw[hfree]at hc;cases hc
 rcases hx with hk|hk
 .refine wpAny_storeName_local hk hn (λh' hn' hs=>?_) hcls;obtain⟨oL,_,_,hoL,_⟩:=id hn;refine h _ ⟨I.ok,I.os,I.bare,⟨λb o e n hb hx=>?_,λb o e n hb hx=>?_,I.base.free,λb o e hx=>?_,I.base.tups,I.base.frzs,I.base.tbls⟩,⟨_,hn',λj y v' e1 e2 e3=>?_⟩,λy c e=>?_,I.free,I.freeC,λp hp=>?_,tracked ⟨oL,hoL,I.free⟩ hs,by simpa using I.len⟩ ⟨_,hs,.inl rfl⟩
  .exact(hs.2 b (BQ (C9 (B1 e) I.ok.above))).trans (I.base.keep b o e n hb hx)
  .obtain⟨sl,e1⟩:=I.base.slot b o e n hb hx;exact⟨sl,(hs.2 b (BQ (C9 (B1 e) I.ok.above))).trans e1⟩
  .obtain⟨o',e1⟩:=I.base.there b o e hx;exact⟨o',(hs.2 b (BQ (C9 (B1 e) I.ok.above))).trans e1⟩
  .by_cases hj:j=i
   .subst hj;rw[hi]at e1;cases e1;rw[MG hiσ]at e2;cases e2;exact⟨u,r,.inl ⟨hk,by simp⟩⟩
   .rw[SO (Ne.symm hj)]at e2;obtain⟨u',r',q⟩:=hl j y v' e1 e2 e3;refine⟨u',r',?_⟩;rcases q with⟨k,e⟩|⟨k,c,e,z⟩
    .refine .inl ⟨k,?_⟩;have:y≠x:=λe=>hj (NS hN e1 (e▸hi));simp[this,e]
    .exact .inr ⟨k,c,e,z.sameBut hs (cne y c e)⟩
  .obtain⟨w',z⟩:=I.cell y c e;exact⟨w',z.sameBut hs (cne y c e)⟩
  .obtain⟨e,n,ne,nf,d⟩:=I.pin p hp;exact⟨(hs.2 p.1 ne).trans e,n,ne,nf,d⟩
 .have hfn:X.fn x=true:=by
   rcases hf with z|z
   .exact z
   .rw[z]at hk;cases hk
  obtain⟨c,hc⟩:=I.ok.has x (.inl hk);obtain⟨w',z⟩:=I.cell x c hc;refine wpAny_storeName_cell I.ok.kind hk hc z (λh' hc' hs=>?_);obtain⟨oc,hoc,hocd⟩:=id z;refine h {s with heap:=h'} ⟨I.ok,I.os,I.bare,⟨λb o e n hb hx=>?_,λb o e n hb hx=>?_,I.base.free,λb o e hx=>?_,I.base.tups,I.base.frzs,I.base.tbls⟩,⟨m,hn.sameBut hs (Ne.symm (cne x c hc)),λj y v' e1 e2 e3=>?_⟩,λy c' e=>?_,I.free,I.freeC,λp hp=>?_,tracked ⟨oc,hoc,I.freeC x c hc⟩ hs,by simpa using I.len⟩ ⟨c,hs,.inr hc⟩
  .exact(hs.2 b (BQ (C9 (B1 e) (I.ok.cab x c hfn hc)))).trans (I.base.keep b o e n hb hx)
  .obtain⟨sl,e1⟩:=I.base.slot b o e n hb hx;exact⟨sl,(hs.2 b (BQ (C9 (B1 e) (I.ok.cab x c hfn hc)))).trans e1⟩
  .obtain⟨o',e1⟩:=I.base.there b o e hx;exact⟨o',(hs.2 b (BQ (C9 (B1 e) (I.ok.cab x c hfn hc)))).trans e1⟩
  .by_cases hj:j=i
   .subst hj;rw[hi]at e1;cases e1;rw[MG hiσ]at e2;cases e2;exact⟨u,r,.inr ⟨.inl hk,c,hc,hc'⟩⟩
   .rw[SO (Ne.symm hj)]at e2;obtain⟨u',r',q⟩:=hl j y v' e1 e2 e3;refine⟨u',r',?_⟩;rcases q with q|⟨k,c',e,z'⟩
    .exact .inl q
    .refine .inr ⟨k,c',e,z'.sameBut hs ?_⟩;rintro rfl;exact hj (NS hN e1 (I.ok.inj _ _ _ e hc▸hi))
  .by_cases hcc:c'=c
   .subst hcc;exact⟨_,hc'⟩
   .obtain⟨w2,z2⟩:=I.cell y c' e;exact⟨w2,z2.sameBut hs hcc⟩
  .obtain⟨e,n,ne,nf,d⟩:=I.pin p hp;refine⟨(hs.2 p.1 ?_).trans e,n,ne,nf,d⟩;intro q;rw[q,hoc]at e;have q':oc=p.2:=CV e;exact d w' (by rw[←q'];exact hocd)
theorem IZ {M:Model}{A:Around}{E:Value->Shared->Prop}{i:Nat}{x:Str}{v:V}{u:Value}{Q:Unit->Shared->Prop}(I:A3 X pins σ H s)(hN:X.N.Nodup)(hi:X.N[i]?=some x)(hx:GZ X.env.scope x)(r:AK v u)
  (h:∀s',A3 X pins (σ.set i (some v)) H s'->Q () s') (hf:X.fn x=true\/X.env.scope.names.lookup x=some .local:=by first|exact .inl rfl|exact .inr rfl|assumption):wpAny M A (storeName X.env x u) Q E s:=
 XM I hN hi hx r (λs' I' _=>h s' I') hf
theorem A3.call' {s':Shared}{ch:List Addr}(I:A3 X pins σ H s)(ho:s'.os=s.os)(u:Un (DV X.stack) ch H H' s.heap s'.heap)(hok:BR X.prog X.w H' s'.heap)(hg:AllBare s'.gens)
  (hch:∀b∈ch,(b∈X.ex\/X.s₀.heap.objs.size<=b)/\b≠X.env.locals/\(∀x c,X.env.cells.lookup x=some c->c≠b)/\∀p∈X.pn++pins,p.1≠b):A3 X pins σ H' s':=by
 obtain⟨h',g',d',t',o'⟩:=s';have e:o'=s.os:=ho;subst e;exact I.call (g':=g') (t':=t') (d':=d') u hok hg hch
end
abbrev XK:=Value->Option Addr->Hp->Prop
abbrev St:=List (Option V)
abbrev VK:=V->Hp->Prop
abbrev TE:=St->Hp->VK->Prop
abbrev TT:=St->Hp->(Bool->Hp->Prop)->Prop
abbrev TA:=St->Hp->(List V->Hp->Prop)->Prop
structure CL where
 nx:St->Hp->Prop
 rt:VK
 bk:St->Hp->Prop:=λ_ _=>False
 ct:St->Hp->Prop:=λ_ _=>False
abbrev TS:=CL->St->Hp->Prop
def EP (X:Cx)(pins:List (Addr×Obj))(σ:St)(Q:VK)(u:Value)(s':Shared):Prop := ∃v H',A3 X pins σ H' s'/\AK v u/\Q v H'
def TP (X:Cx)(pins:List (Addr×Obj))(σ:St)(Q:Bool->Hp->Prop)(b:Bool)(s':Shared):Prop := ∃H',A3 X pins σ H' s'/\Q b H'
def AP (X:Cx)(pins:List (Addr×Obj))(σ:St)(Q:List V->Hp->Prop)(us:List Value)(s':Shared):Prop := ∃vs H',A3 X pins σ H' s'/\Au vs us/\Q vs H'
def SP (X:Cx)(pins:List (Addr×Obj))(D:CL)(f:Flow)(s':Shared):Prop:=
 match f with
 |.next=>∃σ' H',A3 X pins σ' H' s'/\D.nx σ' H'
 |.brk=>∃σ' H',A3 X pins σ' H' s'/\D.bk σ' H'
 |.cont=>∃σ' H',A3 X pins σ' H' s'/\D.ct σ' H'
 |.ret u=>∃v σ' H',A3 X pins σ' H' s'/\AK v u/\D.rt v H'
def PE (X:Cx)(e:Expr)(t:TE):Prop:=
 ∀(pins:List (Addr×Obj)) (s:Shared) (σ:St) (H:Hp) (Q:VK),A3 X pins σ H s->t σ H Q->wpAny (model X.prog X.w) X.A (eval e X.env) (EP X pins σ Q) X.xe s
def PT (X:Cx)(e:Expr)(t:TT):Prop:=
 ∀(pins:List (Addr×Obj)) (s:Shared) (σ:St) (H:Hp) (Q:Bool->Hp->Prop),A3 X pins σ H s->t σ H Q->wpAny (model X.prog X.w) X.A (isTrue e X.env (eval e X.env)) (TP X pins σ Q) X.xe s
def PW (X:Cx)(e:Expr)(t:TT):Prop:=
 ∀(whole:Sem Value) (pins:List (Addr×Obj)) (s:Shared) (σ:St) (H:Hp) (Q:Bool->Hp->Prop),A3 X pins σ H s->t σ H Q->wpAny (model X.prog X.w) X.A (isTrue e X.env whole) (TP X pins σ Q) X.xe s
theorem PW.pt {X:Cx}{e:Expr}{t:TT}(h:PW X e t):PT X e t:=h _
def PA (X:Cx)(es:List Expr)(t:TA):Prop:=
 ∀(pos:Pos) (pins:List (Addr×Obj)) (s:Shared) (σ:St) (H:Hp) (Q:List V->Hp->Prop),A3 X pins σ H s->t σ H Q->wpAny (model X.prog X.w) X.A (spliced (backTo pos (starEach es X.env))) (AP X pins σ Q) X.xe s
def PS (X:Cx)(st:Stmt)(t:TS):Prop:=
 ∀(pins:List (Addr×Obj)) (s:Shared) (σ:St) (H:Hp) (D:CL),A3 X pins σ H s->t D σ H->wpAny (model X.prog X.w) X.A (exec st X.env) (SP X pins D) X.xe s
def Dx (X:Cx)(st:List Stmt)(t:TS):Prop:=
 ∀(pins:List (Addr×Obj)) (s:Shared) (σ:St) (H:Hp) (D:CL),A3 X pins σ H s->t D σ H->wpAny (model X.prog X.w) X.A (execs st X.env) (SP X pins D) X.xe s
theorem Ay {α:Type}{t:Sem α}{Q Q':α->Shared->Prop}{M:Model}{A:Around}{E:Value->Shared->Prop}{s:Shared}(h:wpAny M A t Q E s)(hQ:∀a s,Q a s->Q' a s):wpAny M A t Q' E s:=Dm h hQ λ_ _ x=>x
section
variable {X:Cx}
def NM (i:Nat):TE:=fun σ H Q=>∃v,σ[i]?=some (some v)/\Q v H
def tC (v:V):TE:=λ_ H Q=>Q v H
theorem Vg {i:Nat}{x:Str}{pos:Pos}(hN:X.N[i]?=some x)(hv:J6 X.env.scope x)(hd:(x==("__debug__":Str))=false:=by decide)(hcd:(x==("__classdict__":Str))=false:=by decide):PE X (.Name x pos) (NM i):=by
 intro pins s σ H Q I h;obtain⟨v,e,h⟩:=h;obtain⟨m,hn,hl⟩:=I.loc;obtain⟨u,r,l⟩:=hl i x v hN e hv;have fin:EP X pins σ Q u s:=⟨v,H,I,r,h⟩
 rcases l with⟨hk,hm⟩|⟨hk,c,hc,hcell⟩
 .exact wpAny_Name (wpAny_loadName_local I.ok.kind hk hn hm fin) hd
 .rcases hk with hk|hk
  .exact wpAny_Name (wpAny_loadName_cell I.ok.kind hk hc hcell fin) hd
  .exact wpAny_Name (wpAny_loadName_free I.ok.kind hk hc hcell fin hcd) hd
theorem A1 {i j pos}:PE X (.Constant (.int i) j pos) (tC (.int i)):=λ_ _ _ H _ I h=>wpAny_Constant_int ⟨.int i,H,I.tok _,⟨_,rfl⟩,h⟩
theorem DI {b j pos}:PE X (.Constant (.bool b) j pos) (tC (.bl b)):=λ_ _ _ H _ I h=>Constant_bool ⟨.bl b,H,I,rfl,h⟩
theorem FN {j pos}:PE X (.Constant .none j pos) (tC .non):=λ_ _ _ H _ I h=>Constant_none ⟨.non,H,I,rfl,h⟩
theorem BY {x j pos}:PE X (.Constant (.str x) j pos) (tC (.str x)):=λ_ _ _ H _ I h=>Calls.Constant_str ⟨.str x,H,I.tok _,⟨_,rfl⟩,h⟩
def Gl (X:Cx)(x:Str):Prop:=X.env.kindOf x=some .globalImplicit
theorem HF {E:Value->Shared->Prop}{pins:List (Addr×Obj)}{s:Shared}{σ:St}{H:Hp}{x:Str}{u:Value}{pos:Pos}{Q:Value->Shared->Prop}(I:A3 X pins σ H s)(hg:Gl X x)(hm:X.mg x=some u)(h:Q u s)
  (hd:(x==("__debug__":Str))=false:=by decide):wpAny (model X.prog X.w) X.A (eval (.Name x pos) X.env) Q E s:=
 Calls.Name_function_global I.ok.kind hg (Calls.loadGlobal_global (by rw[I.ok.glob];exact I.mod.glob.keeps I.bk) hm h) hd
theorem FW {E:Value->Shared->Prop}{pins:List (Addr×Obj)}{s:Shared}{σ:St}{H:Hp}{x:Str}{u:Value}{pos:Pos}{Q:Value->Shared->Prop}(I:A3 X pins σ H s)(hg:Gl X x)(hm:X.mg x=none)(hv:bootBuiltins x=some u)(h:Q u s)
  (hn:x≠"__name__":=by decide) (hd:(x==("__debug__":Str))=false:=by decide):wpAny (model X.prog X.w) X.A (eval (.Name x pos) X.env) Q E s:=by
 obtain⟨mb,h1,h2⟩:=I.mod.blt;exact Calls.Name_function_global I.ok.kind hg (Calls.loadGlobal_builtin (by rw[I.ok.glob];exact I.mod.glob.keeps I.bk) hm (by rw[I.ok.blt];exact h1.keeps I.bk) ((h2 x hn).trans hv) h) hd
theorem HH {x:Str}{v:V}{u:Value}{pos:Pos}(hg:Gl X x)(hm:X.mg x=some u)(r:AK v u)(hd:(x==("__debug__":Str))=false:=by decide):PE X (.Name x pos) (tC v):=
 λ_ _ _ H _ I h=>HF I hg hm ⟨v,H,I,r,h⟩ hd
theorem SD {x:Str}{v:V}{u:Value}{pos:Pos}(hg:Gl X x)(hm:X.mg x=none)(hv:bootBuiltins x=some u)(r:AK v u)(hn:x≠"__name__":=by decide)(hd:(x==("__debug__":Str))=false:=by decide):PE X (.Name x pos) (tC v):=
 λ_ _ _ H _ I h=>FW I hg hm hv ⟨v,H,I,r,h⟩ hn hd
variable {a b:Expr}{ta tb:TE}{pos:Pos}
def tB (t:TE):TT:=fun σ H Q=>t σ H λx H1=>∃c,x = .bl c/\Q c H1
theorem FJ {e:Expr}{t:TE}(h:PE X e t)(he:∀whole,isTrue e X.env whole=(do let v ←whole;standAt e.pos;holding [v] (truthy v)):=by intro _;rfl):PT X e (tB t):=by
 intro pins s σ H Q I hw;refine isTrue_plain (Ay (h pins s σ H _ I hw) λv s1 zz=>?_) (he _);obtain⟨x,H1,I1,r1,q1⟩:=zz;obtain⟨d,rfl,q⟩:=q1;cases r1;exact KF ⟨H1,I1,q⟩
variable {tA tB':TT}{rest:List Expr}
def S3 (t u:TT):TT:=fun σ H Q=>t σ H λc H1=>if c=true then u σ H1 Q else Q false H1
def Y9 (t u:TT):TT:=fun σ H Q=>t σ H λc H1=>if c=true then Q true H1 else u σ H1 Q
def Wf (t:TT):TT:=fun σ H Q=>t σ H λc H1=>Q (!c) H1
theorem DB (ha:PT X a tA):PW X (.BoolOp .And [a] pos) tA:=by
 intro wh pins s σ H Q I h;refine isTrue_and (Ay (ha pins s σ H Q I h) λc s1 e=>?_);cases c with
 |true=>exact isTrue_and_nil e
 |false=>exact e
theorem Kr (ha:PT X a tA):PW X (.BoolOp .Or [a] pos) tA:=by
 intro wh pins s σ H Q I h;refine isTrue_or (Ay (ha pins s σ H Q I h) λc s1 e=>?_);cases c with
 |false=>exact isTrue_or_nil e
 |true=>exact e
theorem D4 (ha:PT X a tA)(hb:PW X (.BoolOp .And (b::rest) pos) tB'):PW X (.BoolOp .And (a::b::rest) pos) (S3 tA tB'):=by
 intro wh pins s σ H Q I h;refine isTrue_and (Ay (ha pins s σ H _ I h) λc s1 zz=>?_);obtain⟨H1,I1,q1⟩:=zz;cases c with
 |true=>exact hb wh pins s1 σ H1 Q I1 q1
 |false=>exact⟨H1,I1,q1⟩
theorem Ip (ha:PT X a tA)(hb:PW X (.BoolOp .Or (b::rest) pos) tB'):PW X (.BoolOp .Or (a::b::rest) pos) (Y9 tA tB'):=by
 intro wh pins s σ H Q I h;refine isTrue_or (Ay (ha pins s σ H _ I h) λc s1 zz=>?_);obtain⟨H1,I1,q1⟩:=zz;cases c with
 |true=>exact⟨H1,I1,q1⟩
 |false=>exact hb wh pins s1 σ H1 Q I1 q1
theorem Iw (ha:PT X a tA):PT X (.UnaryOp .Not a pos) (Wf tA):=by
 intro pins s σ H Q I h;exact isTrue_not (ha pins s σ H (λc H1=>Q (!c) H1) I h)
def WM (ta tb:TE):TE:=fun σ H Q=>ta σ H λx H1=>∃c,x = .bl c/\if c=true then tb σ H1 Q else Q (.bl false) H1
def WE (ta tb:TE):TE:=fun σ H Q=>ta σ H λx H1=>∃c,x = .bl c/\if c=true then Q (.bl true) H1 else tb σ H1 Q
theorem Om {op}{t:TE}(h:PE X a t):PE X (.BoolOp op [a] pos) t:=λpins s σ H Q I hw=>BoolOp_one (h pins s σ H Q I hw)
theorem Oc (ha:PE X a ta)(hb:PE X (.BoolOp .And (b::rest) pos) tb):PE X (.BoolOp .And (a::b::rest) pos) (WM ta tb):=by
 intro pins s σ H Q I h;refine BoolOp_and (Ay (ha pins s σ H _ I h) λv s1 zz=>?_);obtain⟨x,H1,I1,r1,q1⟩:=zz;obtain⟨c,rfl,q1⟩:=q1;cases r1;refine KF ?_;cases c with
 |true=>exact hb pins s1 σ H1 Q I1 q1
 |false=>exact⟨.bl false,H1,I1,rfl,q1⟩
theorem Yf (ha:PE X a ta)(hb:PE X (.BoolOp .Or (b::rest) pos) tb):PE X (.BoolOp .Or (a::b::rest) pos) (WE ta tb):=by
 intro pins s σ H Q I h;refine BoolOp_or (Ay (ha pins s σ H _ I h) λv s1 zz=>?_);obtain⟨x,H1,I1,r1,q1⟩:=zz;obtain⟨c,rfl,q1⟩:=q1;cases r1;refine KF ?_;cases c with
 |false=>exact hb pins s1 σ H1 Q I1 q1
 |true=>exact⟨.bl true,H1,I1,rfl,q1⟩
end
def A4 (K:Faa)(H:Hp)(a:Addr)(xs:List V):Prop:=
 Rd H a (.lst xs)\/
  ∃(o:Obj) (its:Array Value) (n:Nat),K.lookup a=some o/\o.cls = .type "list"/\o.dict=none/\o.data = .seq its n/\its.size<=sizeLine/\Au xs its.toList
def A7 (K:Faa)(H:Hp)(a:Addr)(xs:List V):Prop:=
 Rd H a (.tup xs)\/
  ∃(o:Obj) (its:Array Value) (n:Nat),K.lookup a=some o/\o.cls = .type "tuple"/\o.data = .seq its n/\its.size<=sizeLine/\Au xs its.toList
def aB:Value->Option V
 |.none=>some .non
 |.bool b=>some (.bl b)
 |.int i _=>some (.int i)
 |.str x _=>some (.str x)
 |.bytes b _=>some (.byt b)
 |.float b _=>some (.flt b)
 |.ref a=>some (.ref a)
 |.type n=>some (.ty n)
 |_=>none
theorem AK.abs {x:V}{u:Value}(r:AK x u):aB u=some x:=by
 cases x with
 |non=>cases r;rfl
 |bl _=>cases r;rfl
 |int _=>obtain⟨t,rfl⟩:=r;rfl
 |str _=>obtain⟨t,rfl⟩:=r;rfl
 |byt _=>obtain⟨t,rfl⟩:=r;rfl
 |flt _=>obtain⟨t,rfl⟩:=r;rfl
 |ref _=>cases r;rfl
 |ty _=>cases r;rfl
theorem AK.inj {x y:V}{u:Value}(r:AK x u)(q:AK y u):x=y:=CV (r.abs.symm.trans q.abs)
theorem Au.inj:∀{xs ys:List V} {us:List Value},Au xs us->Au ys us->xs=ys:=by
 intro xs;induction xs with
 |
  nil=>
  intro ys us h k;cases h;cases k;rfl
 |
  cons x xs ih=>
  intro ys us h k;cases h with
  |
   cons r t=>
   cases k with
   |cons r' t'=>rw[r.inj r',ih t t']
section
variable {X:Cx}{pins:List (Addr×Obj)}{σ:St}{H:Hp}{s:Shared}{a:Addr}{xs ys:List V}
theorem A4.of {K:Faa}(h:H a=some (.lst xs)):A4 K H a xs:=.inl (.inl h)
theorem A7.of {K:Faa}(h:H a=some (.tup xs)):A7 K H a xs:=.inl (.inl h)
theorem A3.list (I:A3 X pins σ H s)(h:A4 X.K H a xs):∃its:List Value,Au xs its/\PlainL s.heap a its.toArray/\xs.length<=sizeLine:=by
 rcases h with h|⟨o,its,n,hk,hc,hd,hs,hz,r⟩
 .obtain⟨z,its,n,r,e⟩:=h.ok I.hok;exact⟨its,r,⟨_,n,e,rfl,rfl,rfl⟩,z⟩
 .refine⟨its.toList,r,⟨o,n,I.kIn a o hk,hc,hd,by simpa using hs⟩,?_⟩;have e:=r.length;simp only[SQ]at e;lia
theorem A3.tuple (I:A3 X pins σ H s)(h:A7 X.K H a xs):∃its:List Value,Au xs its/\IsTup s.heap a its.toArray/\xs.length<=sizeLine:=by
 rcases h with h|⟨o,its,n,hk,hc,hs,hz,r⟩
 .obtain⟨z,its,r,p⟩:=h.ok I.hok;exact⟨its,r,p.tup,z⟩
 .refine⟨its.toList,r,⟨o,I.kIn a o hk,hc,n,by simpa using hs⟩,?_⟩;have e:=r.length;simp only[SQ]at e;lia
theorem A3.list_inj (I:A3 X pins σ H s)(h:A4 X.K H a xs)(h':A4 X.K H a ys):xs=ys:=by
 obtain⟨its,r,⟨o,n,e,_,_,d⟩,_⟩:=I.list h;obtain⟨its',r',⟨o',n',e',_,_,d'⟩,_⟩:=I.list h';rw[e]at e';cases e';rw[d]at d';injection d' with d1 _;have:its=its':=by simpa using congrArg Array.toList d1
 subst this;exact r.inj r'
theorem A3.tuple_inj (I:A3 X pins σ H s)(h:A7 X.K H a xs)(h':A7 X.K H a ys):xs=ys:=by
 obtain⟨its,r,⟨o,e,_,n,d⟩,_⟩:=I.tuple h;obtain⟨its',r',⟨o',e',_,n',d'⟩,_⟩:=I.tuple h';rw[e]at e';cases e';rw[d]at d';injection d' with d1 _;have:its=its':=by simpa using congrArg Array.toList d1
 subst this;exact r.inj r'
end
abbrev Cx.wish (X:Cx)(E:Value->Shared->Prop):Cx:={X with xe:=E}
abbrev Cx.nox (X:Cx):Cx:=X.wish λ_ _=>False
theorem Cx.Ok.wish {X:Cx}(ok:X.Ok)(E:Value->Shared->Prop):(X.wish E).Ok:=
 ⟨ok.mod,ok.kind,ok.glob,ok.blt,ok.above,ok.inj,ok.has,ok.cab,ok.hd,ok.frames,ok.stk,ok.exf,ok.bs,ok.bsz,ok.noex,ok.exfs,ok.funs,ok.frf⟩
theorem Cx.Ok.unwish {X:Cx}{E:Value->Shared->Prop}(ok:(X.wish E).Ok):X.Ok:=
 ⟨ok.mod,ok.kind,ok.glob,ok.blt,ok.above,ok.inj,ok.has,ok.cab,ok.hd,ok.frames,ok.stk,ok.exf,ok.bs,ok.bsz,ok.noex,ok.exfs,ok.funs,ok.frf⟩
section
variable {X:Cx}{pins:List (Addr×Obj)}{σ:St}{H:Hp}{s:Shared}{E:Value->Shared->Prop}
theorem A3.wish (I:A3 X pins σ H s)(E:Value->Shared->Prop):A3 (X.wish E) pins σ H s:=⟨I.ok.wish E,I.os,I.bare,I.base,I.loc,I.cell,I.free,I.freeC,I.pin,I.hok,I.len⟩
theorem A3.unwish (I:A3 (X.wish E) pins σ H s):A3 X pins σ H s:=⟨I.ok.unwish,I.os,I.bare,I.base,I.loc,I.cell,I.free,I.freeC,I.pin,I.hok,I.len⟩
theorem SP.unwish {D:CL}{f:Flow}{s':Shared}(h:SP (X.wish E) pins D f s'):SP X pins D f s':=by
 cases f with
 |next=>obtain⟨σ',H',I,q⟩:=h;exact⟨σ',H',I.unwish,q⟩
 |brk=>obtain⟨σ',H',I,q⟩:=h;exact⟨σ',H',I.unwish,q⟩
 |cont=>obtain⟨σ',H',I,q⟩:=h;exact⟨σ',H',I.unwish,q⟩
 |ret u=>obtain⟨v,σ',H',I,r,q⟩:=h;exact⟨v,σ',H',I.unwish,r,q⟩
theorem Dx.nox {st:List Stmt}{t:TS}(h:Dx X.nox st t):Dx X st t:=λpins s σ H D I hw=>
 Dm (h pins s σ H D (I.wish _) hw) (λ_ _ q=>q.unwish) λ_ _ z=>False.elim z
end
section
variable {X:Cx}{st:Stmt}{rest:List Stmt}{t u:TS}{e:Expr}{te:TE}{pos:Pos}
def Fu:TS:=λD σ H=>D.nx σ H
def G8 (t u:TS):TS:=λD σ H=>t {D with nx:=u D} σ H
theorem BJ:Dx X [] Fu:=λ_ _ σ H _ I h=>MZ ⟨σ,H,I,h⟩
theorem Ab (h1:PS X st t)(h2:Dx X rest u):Dx X (st::rest) (G8 t u):=by
 intro pins s σ H D I h;refine wpAny_execs_cons (Ay (h1 pins s σ H {D with nx:=u D} I h) λf s1 q=>?_);cases f with
 |
  next=>
  obtain⟨σ',H',I',q⟩:=q;exact h2 pins s1 σ' H' D I' q
 |ret v=>exact q
 |brk=>exact q
 |cont=>exact q
theorem Ae (h1:PS X st t):Dx X [st] t:=by
 intro pins s σ H D I h;refine wpAny_execs_cons (Ay (h1 pins s σ H D I h) λf s1 q=>?_);cases f with
 |next=>exact MZ q
 |ret v=>exact q
 |brk=>exact q
 |cont=>exact q
theorem A3.quiet {pins:List (Addr×Obj)}{σ:St}{H:Hp}{s:Shared}(I:A3 X pins σ H s):interactive X.env=false:=by simp[interactive,I.ok.kind]
def Vj (te:TE):TS:=λD σ H=>te σ H λ_ H1=>D.nx σ H1
theorem BG (he:PE X e te)(hs:swapsWith e none pos.line X.env=pure false:=by rfl):PS X (.Expr e pos) (Vj te):=by
 intro pins s σ H D I h;refine wpAny_Expr_any (Ay (he pins s σ H _ I h) λv s1 zz=>?_) I.quiet hs;obtain⟨x,H1,I1,r1,q1⟩:=zz;exact⟨σ,H1,I1,q1⟩
def NK (te:TE):TS:=λD σ H=>te σ H D.rt
theorem AI (he:PE X e te):PS X (.Return (some e) pos) (NK te):=by
 intro pins s σ H D I h;refine wpAny_Return_some (Ay (he pins s σ H _ I h) λv s1 zz=>?_);obtain⟨x,H1,I1,r1,q1⟩:=zz;exact⟨x,σ,H1,I1,r1,q1⟩
def IE (c:TT)(t u:TS):TS:=λD σ H=>c σ H λb H1=>if b=true then t D σ H1 else u D σ H1
theorem Bx {c:Expr}{a b:List Stmt}{tc:TT}(hc:PT X c tc)(ha:Dx X a t)(hb:Dx X b u):PS X (.If c a b pos) (IE tc t u):=by
 intro pins s σ H D I h;refine wpAny_If (Ay (hc pins s σ H _ I h) λd s1 zz=>?_);obtain⟨H1,I1,q1⟩:=zz;cases d with
 |true=>exact ha pins s1 σ H1 D I1 q1
 |false=>exact hb pins s1 σ H1 D I1 q1
def YH:TS:=λ_ _ _=>False
theorem ZD:PS X st YH:=λ_ _ _ _ _ _ h=>h.elim
end
abbrev TG:=V->St->Hp->(St->Hp->Prop)->Prop
abbrev FT:=List V->St->Hp->(St->Hp->Prop)->Prop
def PG (X:Cx)(target:Expr)(t:TG):Prop:=
 ∀(pins:List (Addr×Obj)) (s:Shared) (σ:St) (H:Hp) (v:V) (u:Value) (Q:St->Hp->Prop),A3 X pins σ H s->AK v u->t v σ H Q->
  wpAny (model X.prog X.w) X.A (assign target X.env u) (λ_ s'=>∃σ' H',A3 X pins σ' H' s'/\Q σ' H') X.xe s
def J9 (X:Cx)(ts:List Expr)(t:FT):Prop:=
 ∀(pins:List (Addr×Obj)) (s:Shared) (σ:St) (H:Hp) (vs:List V) (us:List Value) (Q:St->Hp->Prop),A3 X pins σ H s->Au vs us->t vs σ H Q->
  wpAny (model X.prog X.w) X.A (assignInOrder ((assignEach ts X.env).map (·.2)) us) (λ_ s'=>∃σ' H',A3 X pins σ' H' s'/\Q σ' H') X.xe s
abbrev Oo:=V->V->V->Hp->(Hp->Prop)->Prop
def Qf (X:Cx)(t:Oo):Prop:=
 ∀(pins:List (Addr×Obj)) (s:Shared) (σ:St) (H:Hp) (o i v:V) (ov iv u:Value) (Q:Hp->Prop),A3 X pins σ H s->AK o ov->AK i iv->AK v u->t o i v H Q->
  wpAny (model X.prog X.w) X.A (setItem ov iv u) (λ_ s'=>∃H',A3 X pins σ H' s'/\Q H') X.xe s
abbrev L5:=V->V->Hp->VK->Prop
def PC (X:Cx)(op:Operator)(t:L5):Prop:=
 ∀(pins:List (Addr×Obj)) (s:Shared) (σ:St) (H:Hp) (x y:V) (v u:Value) (Q:VK),A3 X pins σ H s->AK x v->AK y u->t x y H Q->
  wpAny (model X.prog X.w) X.A (inplaceOp op v u) (EP X pins σ Q) X.xe s
section
variable {X:Cx}{pos:Pos}
def Ar (i:Nat):TG:=λv σ H Q=>Q (σ.set i (some v)) H
theorem AD {i:Nat}{x:Str}(hN:X.N.Nodup)(hi:X.N[i]?=some x)(hx:GZ X.env.scope x)(hf:X.fn x=true\/X.env.scope.names.lookup x=some .local:=by first|exact .inl rfl|exact .inr rfl|assumption):PG X (.Name x pos) (Ar i):=by
 intro pins s σ H v u Q I r h;exact wpAny_assign_Name (IZ I hN hi hx r (λs' I'=>⟨_,H,I',h⟩) hf)
def Xu:FT:=λvs σ H Q=>vs=[]/\Q σ H
def Ye (t:TG)(u:FT):FT:=λvs σ H Q=>∃v r,vs=v::r/\t v σ H fun σ' H'=>u r σ' H' Q
theorem D6:J9 X [] Xu:=by
 intro pins s σ H vs us Q I r h;obtain⟨e,h⟩:=h;subst e;cases r;exact assignInOrder_nil ⟨σ,H,I,h⟩
theorem O4 {e:Expr}{es:List Expr}{t:TG}{u:FT}(h1:PG X e t)(h2:J9 X es u)
  (hs:(assignEach (e::es) X.env).map (·.2)=assign e X.env::(assignEach es X.env).map (·.2):=by rfl):J9 X (e::es) (Ye t u):=by
 intro pins s σ H vs us Q I r h;obtain⟨v,vr,e1,h⟩:=h;subst e1;cases r with
 |
  cons r rr=>
  rw[hs];refine assignInOrder_cons (Ay (h1 pins s σ H _ _ _ I r h) λ_ s1 zz=>?_);obtain⟨σ1,H1,I1,q1⟩:=zz;exact h2 pins s1 σ1 H1 _ _ Q I1 rr q1
def Kp (K:Faa)(n:Nat)(t:FT):TG:=λv σ H Q=>∃a xs,v = .ref a/\A7 K H a xs/\xs.length=n/\t xs σ H Q
theorem D9 {es:List Expr}{k:Nat}{t:FT}{n:Nat}(hc:X.calm=true)(h:J9 X es t)
  (hn:(assignEach es X.env).length=n:=by rfl) (hst:(assignEach es X.env).findIdx? (·.1)=none:=by rfl):PG X (.Tuple es k pos) (Kp X.K n t):=by
 intro pins s σ H v u Q I r hw;obtain⟨a,xs,e1,hq,hl,hw⟩:=hw;subst e1;cases r;obtain⟨its,rv,ht,hz⟩:=I.tuple hq;refine assign_Tuple_tuple (I.ok.hd hc) ht (by simp[hn,←hl,rv.length]) hst λh' hx=>?_;have I1:A3 X pins σ H {s with heap:=h'}:=I.kept (t':=s.toks) λb o e=>hx b o (BQ (B1 e)) e;exact h pins _ σ H xs _ Q I1 (by simpa using rv) hw
def Xz (to ti:TE)(t:Oo):TG:=λv σ H Q=>to σ H λo H1=>ti σ H1 λi H2=>t o i v H2 λH3=>Q σ H3
theorem Km {o i:Expr}{to ti:TE}{t:Oo}(ho:PE X o to)(hi:PE X i ti)(hs:Qf X t)
  (ha:∀v,assign (.Subscript o i pos) X.env v=(do
   let ov ←holding [v] (eval o X.env);let iv ←holding [v,ov] (eval i X.env)
   standAt pos
   holding [v,ov,iv] (setItem ov iv v)
   release [v,ov,iv] []):=by intro _;rfl):PG X (.Subscript o i pos) (Xz to ti t):=by
 intro pins s σ H v u Q I r h;rw[ha];refine Ag (GN (Ay (ho pins s σ H _ I h) λov s1 zz=>?_));obtain⟨x,H1,I1,r1,q1⟩:=zz;refine Ag (GN (Ay (hi pins s1 σ H1 _ I1 q1) λiv s2 zz=>?_));obtain⟨y,H2,I2,r2,q2⟩:=zz;refine Ag (KG (Ag (GN (Ay (hs pins s2 σ H2 x y v ov iv u _ I2 r1 r2 r q2) λ_ s3 zz=>?_))));obtain⟨H3,I3,q3⟩:=zz;exact wpAny_release ⟨σ,H3,I3,q3⟩
def JF (te:TE)(g:TG):TS:=λD σ H=>te σ H λx H1=>g x σ H1 D.nx
theorem JJ {tg e:Expr}{te:TE}{g:TG}(he:PE X e te)(hg:PG X tg g)(hs:swapsWithSole [tg] e pos.line X.env=pure false:=by rfl)(hw:swappedStores [tg] e X.env=pure none:=by rfl)
  (h1:(assignEach [tg] X.env).map (·.2)=[assign tg X.env]:=by rfl):PS X (.Assign [tg] e pos) (JF te g):=by
 intro pins s σ H D I h;refine wpAny_Assign_stores (Ay (he pins s σ H _ I h) λv s1 zz=>?_) hs hw;obtain⟨x,H1,I1,r1,q1⟩:=zz;rw[h1];exact Ay (hg pins s1 σ H1 x v _ I1 r1 q1) λ_ s2 q=>q
theorem Aq {i:Nat}{x:Str}{e:Expr}{te:TE}{pos':Pos}(hN:X.N.Nodup)(hi:X.N[i]?=some x)(hx:GZ X.env.scope x)(he:PE X e te)(hs:swapsWith e (some (.Name x pos')) pos.line X.env=pure false:=by rfl)(hf:X.fn x=true\/X.env.scope.names.lookup x=some .local:=by first|exact .inl rfl|exact .inr rfl|assumption) :
  PS X (.Assign [.Name x pos'] e pos) (JF te (Ar i)):=by
 intro pins s σ H D I h;refine wpAny_Assign_Name (Ay (he pins s σ H _ I h) λv s1 zz=>?_) hs;obtain⟨y,H1,I1,r1,q1⟩:=zz;exact IZ I1 hN hi hx r1 (λs2 I2=>⟨_,H1,I2,q1⟩) hf
def X6 (i:Nat)(te:TE)(ti:L5):TS:=λD σ H=>∃x,σ[i]?=some (some x)/\te σ H λy H1=>ti x y H1 λz H2=>D.nx (σ.set i (some z)) H2
theorem bV {i:Nat}{x:Str}{e:Expr}{te:TE}{op:Operator}{ti:L5}{pos':Pos}(hN:X.N.Nodup)(hi:X.N[i]?=some x)(hx:GZ X.env.scope x)(he:PE X e te)(ho:PC X op ti)(hf:X.fn x=true\/X.env.scope.names.lookup x=some .local:=by first|exact .inl rfl|exact .inr rfl|assumption) :
  PS X (.AugAssign (.Name x pos') op e pos) (X6 i te ti):=by
 intro pins s σ H D I h;obtain⟨v,e1,h⟩:=h;obtain⟨m,hn,hl⟩:=I.loc;have vis:J6 X.env.scope x:=by rcases hx with k|k;exact .inl k;exact .inr (.inl k)
 obtain⟨u,r,l⟩:=hl i x v hi e1 vis;refine wpAny_AugAssign_Name ?_;have go:wpAny (model X.prog X.w) X.A (eval e X.env) (λw s₂=>wpAny (model X.prog X.w) X.A (inplaceOp op u w) (λr s₃=>wpAny (model X.prog X.w) X.A (storeName X.env x r) (λ_=>SP X pins D .next) X.xe s₃) X.xe s₂) X.xe s:=by
  refine Ay (he pins s σ H _ I h) λw s1 zz=>?_;obtain⟨y,H1,I1,r1,q1⟩:=zz;refine Ay (ho pins s1 σ H1 v y u w _ I1 r r1 q1) λz s2 zz=>?_;obtain⟨zv,H2,I2,r2,q2⟩:=zz;exact IZ I2 hN hi hx r2 (λs3 I3=>⟨_,H2,I3,q2⟩) hf
 rcases l with⟨hk,hm⟩|⟨hk,c,hc,hcell⟩
 .exact wpAny_loadName_local I.ok.kind hk hn hm go
 .rcases hk with hk|hk
  .exact wpAny_loadName_cell I.ok.kind hk hc hcell go
  .rcases hx with k|k
   .have:X.env.scope.names.lookup x=some .free:=hk;rw[k]at this;cases this
   .have:X.env.scope.names.lookup x=some .free:=hk;rw[k]at this;cases this
def YN (f:Int->Int->Int):L5:=λx y H Q=>∃i j,x = .int i/\y = .int j/\Q (.int (f i j)) H
theorem UN:PC X .Add (YN λi j=>i+j):=by
 intro pins s σ H x y v u Q I r1 r2 h;obtain⟨i,j,e1,e2,q⟩:=h;subst e1;subst e2;obtain⟨t,rfl⟩:=r1;obtain⟨t',rfl⟩:=r2;exact iadd_int ⟨.int _,H,I.tok _,⟨_,rfl⟩,q⟩
end
section
variable {X:Cx}{pos:Pos}
def O6 (c:TT)(tb:TS):TS:=λD σ H=>∃W:Nat->St->Hp->Prop,(∃m,W m σ H)/\∀m σ H,W m σ H->
 c σ H λb H1=>if b=true then ∃N:St->Hp->Prop,(∀σ' H',N σ' H'->∃m',m'<m/\W m' σ' H')/\tb {D with nx:=N,ct:=N,bk:=D.nx} σ H1 else D.nx σ H1
theorem K1 {c:Expr}{body:List Stmt}{tc:TT}{tb:TS}(hp:PassesOwn (model X.prog X.w) X.A X.env X.xe)(hc:PT X c tc)(hb:Dx X body tb):PS X (.While c body [] pos) (O6 tc tb):=by
 intro pins s σ H D I h;obtain⟨W,⟨m0,w0⟩,turn⟩:=h;refine wpAny_While (codeAny_whileLoop (λn s'=>∃σ' H',A3 X pins σ' H' s'/\W n σ' H') ?_ m0 ⟨σ,H,I,w0⟩);rintro n s1 ⟨σ1,H1,I1,w1⟩;refine Jp hp (Ay (hc pins s1 σ1 H1 _ I1 (turn n σ1 H1 w1)) λb s2 zz=>?_);obtain⟨H2,I2,q2⟩:=zz;cases b with
 |
  true=>
  obtain⟨N,hN,q2⟩:=q2;rw[Av rfl];refine Jp hp (Ay (hb pins s2 σ1 H2 _ I2 q2) λf s3 q3=>?_);cases f with
  |
   next=>
   obtain⟨σ3,H3,I3,n3⟩:=q3;obtain⟨m',hm,w3⟩:=hN σ3 H3 n3;exact⟨m',hm,σ3,H3,I3,w3⟩
  |
   cont=>
   obtain⟨σ3,H3,I3,n3⟩:=q3;obtain⟨m',hm,w3⟩:=hN σ3 H3 n3;exact⟨m',hm,σ3,H3,I3,w3⟩
  |brk=>exact q3
  |ret v=>exact q3
 |
  false=>
  rw[Aw CG];exact MZ ⟨σ1,H2,I2,q2⟩
end
structure It where
 go:Nat->Hp->Prop
 yld:Nat->Hp->V->Hp->Prop
 stop:Nat->Hp->Prop
def F1 (X:Cx)(pins:List (Addr×Obj))(H:Hp)(b:Addr):Prop:=
 H b=none/\b≠X.env.locals/\b∉X.fs/\(b∈X.ex\/X.s₀.heap.objs.size<=b)/\(∀x c,X.env.cells.lookup x=some c->c≠b)/\∀p∈X.pn++pins,p.1≠b
theorem A3.fpOk {X:Cx}{pins:List (Addr×Obj)}{σ:St}{H H':Hp}{s:Shared}{b:Addr}(I:A3 X pins σ H s)(hb:s.heap.objs.size<=b)(hn:H' b=none):F1 X pins H' b:=by
 refine⟨hn,Fd (C9 I.lt hb),I.nofs hb,.inr (Ey I.sz hb),λx c e z=>?_,λp hp z=>?_⟩
 .obtain⟨v,q⟩:=I.cell x c e;exact absurd (C9 q.lt (by rw[z];exact hb)) (Ea _)
 .exact absurd (C9 (B1 (I.pin p hp).1) (by rw[z];exact hb)) (Ea _)
structure Hv (P:Program)(w:World)(K:Faa)(tg:Expr)(J:It)(fp:List Addr)(it:Addr)(tn:Nat->Heap->Prop):Prop where
 mem:it∈fp
 obj:∀i h,tn i h->∀b∈fp,∃o,h.get? b=some o/\∀v,o.data≠.cell v
 keep:∀i h h',tn i h->(∀b∈fp,∀o,h.get? b=some o->h'.get? b=some o)->tn i h'
 item:∀(X:Cx),X.prog=P->X.w=w->X.K=K->X.calm=true->∀(i:Nat) (pins:List (Addr×Obj)) (s:Shared) (σ:St) (H:Hp) (E:Value->Shared->Prop),A3 X pins σ H s->(∀b∈fp,F1 X pins H b)->tn i s.heap->J.go i H->
  wpAny (model P w) X.A (pyNext (.ref it)) (λr s1=>∃u,r=some u/\
   wpAny (model P w) X.A (letOwnedTupleGo tg (.ref it) u) (λ_ s2=>∃x H',A3 X pins σ H' s2/\AK x u/\J.yld i H x H'/\tn (i+1) s2.heap/\∀b∈fp,H' b=none) E s1) E s
 done:∀(X:Cx),X.prog=P->X.w=w->X.K=K->X.calm=true->∀(i:Nat) (pins:List (Addr×Obj)) (s:Shared) (σ:St) (H:Hp) (E:Value->Shared->Prop),A3 X pins σ H s->(∀b∈fp,F1 X pins H b)->tn i s.heap->J.stop i H->
  wpAny (model P w) X.A (pyNext (.ref it)) (λr s1=>r=none/\A3 X pins σ H s1) E s
 self:∀(A:Around) (i:Nat) (s:Shared) (Q:Value->Shared->Prop) (E:Value->Shared->Prop),tn i s.heap->Q (.ref it) s->wpAny (model P w) A (pyIter (.ref it)) Q E s
abbrev TI:=St->Hp->(It->Hp->Prop)->Prop
def P6 (X:Cx)(pins:List (Addr×Obj))(σ:St)(tg:Expr)(R:It->Hp->Prop)(itv:Value)(s2:Shared):Prop:=
 ∃(it:Addr) (fp:List Addr) (tn:Nat->Heap->Prop) (J:It) (H':Hp),itv = .ref it/\A3 X pins σ H' s2/\Hv X.prog X.w X.K tg J fp it tn/\tn 0 s2.heap/\(∀b∈fp,F1 X pins H' b)/\R J H'
def PI (X:Cx)(tg iter:Expr)(wi:TI):Prop:=
 ∀(pins:List (Addr×Obj)) (s:Shared) (σ:St) (H:Hp) (R:It->Hp->Prop),A3 X pins σ H s->wi σ H R->
  wpAny (model X.prog X.w) X.A (eval iter X.env) (λv s1=>wpAny (model X.prog X.w) X.A (pyIter v) (P6 X pins σ tg R) X.xe s1) X.xe s
theorem O5 {M:Model}{A:Around}{E:Value->Shared->Prop}{s:Shared}{tg:Expr}{it:Addr}{u:Value}{o:Obj}{n:String}{vs:Array Value}{Q:Unit->Shared->Prop}(ho:s.heap.get? it=some o)(hc:o.cls = .type n)(hd:o.data = .fields vs)
  (hn:["enumerate","zip","dict_itemiterator","dict_reverseitemiterator","odict_iterator","itertools.zip_longest","itertools.pairwise"].contains n=false) (hQ:Q () s):wpAny M A (letOwnedTupleGo tg (.ref it) u) Q E s:=by
 unfold letOwnedTupleGo;cases tg<;>first
  |exact AN hQ
  |(cases u<;>first
   |exact AN hQ
   |(
    refine Ag (wpAny_load ho ?_);rw[hc,hd];show wpAny M A (if(["enumerate","zip","dict_itemiterator","dict_reverseitemiterator","odict_iterator","itertools.zip_longest","itertools.pairwise"].contains n&&vs[0]?==some (rawInt _))=true then _ else _) Q E s;rw[Aw (by intro h;rw[hn,Bool.false_and]at h;cases h)];exact AN hQ))
def Ht (K:Faa)(a:Addr):It:=
 ⟨λi H=>∃xs x,A4 K H a xs/\xs[i]?=some x,λi H x H'=>H'=H/\∀xs,A4 K H a xs->xs[i]?=some x,λi H=>∃xs,A4 K H a xs/\xs.length<=i⟩
def Iv (K:Faa)(a:Addr):It:=
 ⟨λi H=>∃xs x,A7 K H a xs/\xs[i]?=some x,λi H x H'=>H'=H/\∀xs,A7 K H a xs->xs[i]?=some x,λi H=>∃xs,A7 K H a xs/\xs.length<=i⟩
def Hw (lo:Int)(n:Nat):It:=⟨λi _=>i<n,λi H x H'=>H'=H/\x = .int (lo+i),λi _=>n<=i⟩
theorem Xg {P:Program}{w:World}{K:Faa}{tg:Expr}(a it:Addr):Hv P w K tg (Ht K a) [it] it (λi h=>h.IsListIter it a i) where
 mem:=by simp
 obj:=λi h st b hb=>by
  have e:b=it:=by simpa using hb
  subst e;obtain⟨o,e,c,d⟩:=st;exact⟨o,e,λv z=>by rw[d]at z;cases z⟩
 keep:=λi h h' st k=>st.at λo e=>k it (by simp) o e
 item:=by
  intro X hP hw hK hc i pins s σ H E I hf st hg;subst hP hw hK;obtain⟨xs,x,hq,hx⟩:=hg;obtain⟨its,rv,p,hz⟩:=I.list hq;obtain⟨u,hu,ru⟩:=rv.get hx;obtain⟨f0,f1,f2,f3,f4,f5⟩:=hf it (by simp);refine wpAny_pyNext_list_item st p.isList (x:=u) (by simpa using hu) λh' st' sb=>?_;have I1:A3 X pins σ H {s with heap:=h'}:=I.turned (t':=s.toks) (λb o hb e=>(sb.2 b hb).trans e) f0 f1 f3 f4 f5;obtain⟨o,e,c,d⟩:=id st';exact⟨u,rfl,O5 (s:={s with heap:=h'}) e c d (by decide) ⟨x,H,I1,ru,⟨rfl,λys hy=>by rw[I.list_inj hy hq];exact hx⟩,st',λb hb=>(hf b hb).1⟩⟩
 done:=by
  intro X hP hw hK hc i pins s σ H E I hf st hg;subst hP hw hK;obtain⟨xs,hq,hx⟩:=hg;obtain⟨its,rv,p,hz⟩:=I.list hq;obtain⟨f0,f1,f2,f3,f4,f5⟩:=hf it (by simp);have hl:=rv.length;exact wpAny_pyNext_list_end (I.ok.hd hc) st p.isList (by simp;lia) λh' eb=>⟨rfl,I.turned (t':=s.toks) (λb o hb e=>eb b o hb e) f0 f1 f3 f4 f5⟩
 self:=λ_ _ _ _ _ st h=>wpAny_pyIter_listiter st h
theorem YC {P:Program}{w:World}{K:Faa}{tg:Expr}(a it:Addr):Hv P w K tg (Iv K a) [it] it (λi h=>h.IsTupleIter it a i) where
 mem:=by simp
 obj:=λi h st b hb=>by
  have e:b=it:=by simpa using hb
  subst e;obtain⟨o,e,c,d⟩:=st;exact⟨o,e,λv z=>by rw[d]at z;cases z⟩
 keep:=λi h h' st k=>st.at λo e=>k it (by simp) o e
 item:=by
  intro X hP hw hK hc i pins s σ H E I hf st hg;subst hP hw hK;obtain⟨xs,x,hq,hx⟩:=hg;obtain⟨its,rv,p,hz⟩:=I.tuple hq;obtain⟨u,hu,ru⟩:=rv.get hx;obtain⟨f0,f1,f2,f3,f4,f5⟩:=hf it (by simp);refine wpAny_pyNext_tuple_item st (show s.heap.IsTuple a its.toArray from p) (x:=u) (by simpa using hu) λh' st' sb=>?_;have I1:A3 X pins σ H {s with heap:=h'}:=I.turned (t':=s.toks) (λb o hb e=>(sb.2 b hb).trans e) f0 f1 f3 f4 f5;obtain⟨o,e,c,d⟩:=id st';exact⟨u,rfl,O5 (s:={s with heap:=h'}) e c d (by decide) ⟨x,H,I1,ru,⟨rfl,λys hy=>by rw[I.tuple_inj hy hq];exact hx⟩,st',λb hb=>(hf b hb).1⟩⟩
 done:=by
  intro X hP hw hK hc i pins s σ H E I hf st hg;subst hP hw hK;obtain⟨xs,hq,hx⟩:=hg;obtain⟨its,rv,p,hz⟩:=I.tuple hq;obtain⟨f0,f1,f2,f3,f4,f5⟩:=hf it (by simp);have hl:=rv.length;exact wpAny_pyNext_tuple_end (I.ok.hd hc) st (show s.heap.IsTuple a its.toArray from p) (by simp;lia) λh' eb=>⟨rfl,I.turned (t':=s.toks) (λb o hb e=>eb b o hb e) f0 f1 f3 f4 f5⟩
 self:=λ_ _ _ _ _ st h=>wpAny_pyIter_tupleiter st h
theorem V8 {P:Program}{w:World}{K:Faa}{tg:Expr}(it:Addr)(lo:Int)(n:Nat):Hv P w K tg (Hw lo n) [it] it (λi h=>IsRangeIter h it (lo+(i:Nat)*1) ((n:Int)-(i:Nat)) 1) where
 mem:=by simp
 obj:=λi h st b hb=>by
  have e:b=it:=by simpa using hb
  subst e;exact⟨_,st,λv z=>by
   have z':Data.fields _=Data.cell v:=z;cases z'⟩
 keep:=λi h h' st k=>k it (by simp) _ st
 item:=by
  intro X hP hw hK hc i pins s σ H E I hf st hg;subst hP hw hK;obtain⟨f0,f1,f2,f3,f4,f5⟩:=hf it (by simp);have W:=Walks.range (prog:=X.prog) (w:=X.w) (I.ok.hd hc) it lo 1 n;refine W.item i s _ _ hg st λv h' tk hv st' kk=>?_;obtain⟨t,rfl⟩:=hv;have I1:A3 X pins σ H {s with heap:=h',toks:=tk}:=I.turned (λb o hb e=>kk b o (by simpa using hb) e) f0 f1 f3 f4 f5;refine⟨_,rfl,O5 (s:={s with heap:=h',toks:=tk}) (n:="range_iterator") st' rfl rfl (by decide) ⟨.int (lo+i),H,I1,⟨t,?_⟩,⟨rfl,rfl⟩,st',λb hb=>(hf b hb).1⟩⟩;rw[Int.mul_one]
 done:=by
  intro X hP hw hK hc i pins s σ H E I hf st hg;subst hP hw hK;obtain⟨f0,f1,f2,f3,f4,f5⟩:=hf it (by simp);exact wpAny_pyNext_range_end (I.ok.hd hc) st (by have:n<=i:=hg;lia) λh' eb=>⟨rfl,I.turned (t':=s.toks) (λb o hb e=>eb b o hb e) f0 f1 f3 f4 f5⟩
 self:=λ_ _ _ _ _ st h=>wpAny_pyIter_rangeiter st h
section
variable {X:Cx}{tg:Expr}
def WL (K:Faa)(tl:TE):TI:=fun σ H R=>tl σ H λx H1=>∃a,x = .ref a/\(∃xs,A4 K H1 a xs)/\R (Ht K a) H1
def Zg (K:Faa)(tl:TE):TI:=fun σ H R=>tl σ H λx H1=>∃a,x = .ref a/\(∃xs,A7 K H1 a xs)/\R (Iv K a) H1
theorem Dp {l:Expr}{tl:TE}(hl:PE X l tl):PI X tg l (WL X.K tl):=by
 intro pins s σ H R I h;refine Ay (hl pins s σ H _ I h) λv s1 zz=>?_;obtain⟨x,H1,I1,r1,q1⟩:=zz;obtain⟨a,e,⟨xs,hq⟩,q⟩:=q1;subst e;cases r1;obtain⟨its,rv,p,hz⟩:=I1.list hq;refine Th p.isList ?_;refine⟨s1.heap.objs.size,[s1.heap.objs.size],_,_,H1,rfl,I1.kept (t':=s1.toks) λb o e=>B2 _ e,Xg a _,⟨_,CN _ rfl,rfl,rfl⟩,λb hb=>?_,q⟩;have e:b=s1.heap.objs.size:=by simpa using hb
 subst e;exact I1.fpOk (Al _) (I1.hok.fresh (Al _))
theorem KJ {l:Expr}{tl:TE}(hl:PE X l tl):PI X tg l (Zg X.K tl):=by
 intro pins s σ H R I h;refine Ay (hl pins s σ H _ I h) λv s1 zz=>?_;obtain⟨x,H1,I1,r1,q1⟩:=zz;obtain⟨a,e,⟨xs,hq⟩,q⟩:=q1;subst e;cases r1;obtain⟨its,rv,p,hz⟩:=I1.tuple hq;refine N0 (show s1.heap.IsTuple a its.toArray from p) ?_;refine⟨s1.heap.objs.size,[s1.heap.objs.size],_,_,H1,rfl,I1.kept (t':=s1.toks) λb o e=>B2 _ e,YC a _,⟨_,CN _ rfl,rfl,rfl⟩,λb hb=>?_,q⟩;have e:b=s1.heap.objs.size:=by simpa using hb
 subst e;exact I1.fpOk (Al _) (I1.hok.fresh (Al _))
theorem bX {pins:List (Addr×Obj)}{σ:St}{H:Hp}{s:Shared}{R:It->Hp->Prop}{E:Value->Shared->Prop}{lo hi:Int}{t u v:Tok}{tk:Nat}(I:A3 X pins σ H s)(h1 : -(2 ^ 62)<=lo)(h2:lo<2 ^ 62)(h3 : -(2 ^ 62)<=hi)(h4:hi<2 ^ 62)
  (q:R (Hw lo (hi-lo).toNat) H):wpAny (model X.prog X.w) X.A (pyIter (.ref s.heap.objs.size)) (P6 X pins σ tg R) E {s with heap:=s.heap.push {cls:=.type "range",data:=.fields #[.int lo t,.int hi u,.int 1 v]},toks:=tk}:=by
 refine wpAny_pyIter_range (IsRange.new ..) (small_one h1 h2 h3 h4) ?_;have I1:A3 X pins σ H {s with heap:=s.heap.push {cls:=.type "range",data:=.fields #[.int lo t,.int hi u,.int 1 v]},toks:=tk}:=I.kept λb o e=>B2 _ e;refine⟨(s.heap.push {cls:=.type "range",data:=.fields #[.int lo t,.int hi u,.int 1 v]}).objs.size,[(s.heap.push {cls:=.type "range",data:=.fields #[.int lo t,.int hi u,.int 1 v]}).objs.size],_,_,H,rfl,
  I1.kept (t':=tk) λb o e=>B2 _ e,V8 _ lo (hi-lo).toNat,?_,λb hb=>?_,q⟩
 .have e1:lo+((0:Nat):Int)*1=lo:=by simp
  have e2:(((hi-lo).toNat:Nat):Int)-((0:Nat):Int)=Builtin.Range.rangeSize lo hi 1:=by rw[rangeSize_one];split<;>lia
  show IsRangeIter _ _ (lo+((0:Nat):Int)*1) ((((hi-lo).toNat:Nat):Int)-((0:Nat):Int)) 1;rw[e1,e2];exact CN _ rfl
 .have e:b=(s.heap.push {cls:=.type "range",data:=.fields #[.int lo t,.int hi u,.int 1 v]}).objs.size:=by simpa using hb
  subst e;exact I1.fpOk (Al _) (I1.hok.fresh (Al _))
def cD (ta:TA):TI:=fun σ H R=>ta σ H λvs H1=>∃j:Int,vs=[.int j]/\-(2 ^ 62)<=j/\j<2 ^ 62/\R (Hw 0 j.toNat) H1
theorem FC {a:Expr}{ta:TA}{p pos:Pos}(hg:Gl X "range")(hm:X.mg "range"=none)(ha:PA X [a] ta)(hs:starEach [a] X.env=[(false,eval a X.env)]:=by rfl):PI X tg (.Call (.Name "range" p) [a] [] pos) (cD ta):=by
 intro pins s σ H R I h;refine Call_ (FW I hg hm boot_range (Jg (Ay (ha pos pins s σ H _ I h) λus s1 zz=>?_) hs rfl));obtain⟨vs,H1,I1,r1,q1⟩:=zz;obtain⟨j,e,q1,q2,q⟩:=q1;subst e;cases r1 with
 |
  cons r rr=>
  cases rr;obtain⟨t,rfl⟩:=r;exact call_range_1 (bX I1 (by lia) (by lia) q1 q2 (by simpa using q))
def Pt (wi:TI)(g:TG)(tb:TS):TS:=λD σ H=>wi σ H λJ H1=>∃W:Nat->Nat->St->Hp->Prop,(∃m,W 0 m σ H1)/\∀i m σ H,W i m σ H->
 (J.stop i H/\D.nx σ H)\/(J.go i H/\∃N:St->Hp->Prop,(∀σ' H',N σ' H'->∃m',m'<m/\W (i+1) m' σ' H')/\∀x H',J.yld i H x H'->g x σ H' fun σ2 H2=>tb {D with nx:=N,ct:=N,bk:=D.nx} σ2 H2)
def Ij (fp:List Addr)(h:Heap):List (Addr×Obj):=fp.filterMap λb=>(h.get? b).map λo=>(b,o)
theorem JT {fp:List Addr}{h:Heap}{b:Addr}{o:Obj}(hb:b∈fp)(e:h.get? b=some o):(b,o)∈Ij fp h:=List.mem_filterMap.mpr ⟨b,hb,by rw[e];rfl⟩
theorem ZI {fp:List Addr}{h:Heap}{p:Addr×Obj}(hp:p∈Ij fp h):p.1∈fp/\h.get? p.1=some p.2:=by
 obtain⟨b,hb,e⟩:=List.mem_filterMap.mp hp;cases q:h.get? b with
 |none=>rw[q]at e;cases e
 |
  some o=>
  rw[q]at e;have e':(b,o)=p:=CV e;subst e';exact⟨hb,q⟩
theorem A3.pinned {pins:List (Addr×Obj)}{σ:St}{H:Hp}{s:Shared}{fp:List Addr}(I:A3 X pins σ H s)(hf:∀b∈fp,F1 X pins H b)(ho:∀b∈fp,∃o,s.heap.get? b=some o/\∀v,o.data≠.cell v):A3 X (pins++Ij fp s.heap) σ H s:=
 I.pins_of λp hp=>(Cw.mp hp).elim (λz=>I.pin p (Dj _ z)) λz=>by
  obtain⟨hb,e⟩:=ZI z;obtain⟨f0,f1,f2,_⟩:=hf p.1 hb;obtain⟨o,e',d⟩:=ho p.1 hb;rw[e]at e';cases e';exact⟨e,f0,f1,f2,d⟩
theorem A3.unpinned {pins pl:List (Addr×Obj)}{σ:St}{H:Hp}{s:Shared}(I:A3 X (pins++pl) σ H s):A3 X pins σ H s:=I.pins_of λp hp=>I.pin p (Dj _ (DF _ hp))
theorem Ca {iter:Expr}{body:List Stmt}{wi:TI}{g:TG}{tb:TS}{pos:Pos}(hp:PassesOwn (model X.prog X.w) X.A X.env X.xe)(hc:X.calm=true)(hi:PI X tg iter wi)(hg:PG X tg g)(hb:Dx X body tb)
  (hs:∀x,foldedSetIterable iter X.env x=pure x:=by intro _;rfl):PS X (.For tg iter body [] pos) (Pt wi g tb):=by
 intro pins s σ H D I h;refine wpAny_For (Ay (hi pins s σ H _ I h) λv s1 h1=>Ay h1 λitv s2 h2=>?_) hs;obtain⟨it,fp,tn,J,H2,e,I2,T,st2,f2,W,⟨m0,w0⟩,turn⟩:=h2;subst e;have stat:∀{H':Hp},(∀b∈fp,H' b=none)->∀b∈fp,F1 X pins H' b:=λhn b hb=>⟨hn b hb,(f2 b hb).2⟩
 refine codeAny_forLoop_any (λn s'=>∃i σ' H',A3 X pins σ' H' s'/\tn i s'.heap/\(∀b∈fp,H' b=none)/\W i n σ' H') ?_ m0 ⟨0,σ,H2,I2,st2,λb hb=>(f2 b hb).1,w0⟩;rintro n s3 ⟨i,σ3,H3,I3,st3,fr3,w3⟩;rcases turn i n σ3 H3 w3 with⟨stop,qn⟩|⟨go,N,hN,step⟩
 .refine Jp hp (Ay (T.done X rfl rfl rfl hc i pins s3 σ3 H3 X.xe I3 (stat fr3) st3 stop) λr s4 zz=>?_);obtain⟨hr,I4⟩:=zz;subst hr;exact MZ ⟨σ3,H3,I4,qn⟩
 .refine Jp hp (Ay (T.item X rfl rfl rfl hc i pins s3 σ3 H3 X.xe I3 (stat fr3) st3 go) λr s4 zz=>?_);obtain⟨u,hr,h4⟩:=zz;subst hr;refine Jp hp (Ay h4 λ_ s5 zz=>?_);obtain⟨x,H5,I5,r5,y5,st5,fr5⟩:=zz;have I5':=I5.pinned (stat fr5) (T.obj _ _ st5);refine Jp hp (Ay (hg _ s5 σ3 H5 x u _ I5' r5 (step x H5 y5)) λ_ s6 zz=>?_);obtain⟨σ6,H6,I6,q6⟩:=zz;refine Jp hp (Ay (hb _ s6 σ6 H6 _ I6 q6) λf s7 q7=>?_);have again:∀{σ7:St} {H7:Hp},A3 X (pins++Ij fp s5.heap) σ7 H7 s7->N σ7 H7->∃m,m<n/\∃i σ' H',A3 X pins σ' H' s7/\tn i s7.heap/\(∀b∈fp,H' b=none)/\W i m σ' H':=fun{σ7 H7} I7 n7=>by
   obtain⟨m',hm,w7⟩:=hN σ7 H7 n7;refine⟨m',hm,i+1,σ7,H7,I7.unpinned,T.keep _ _ _ st5 λb hb o e=>(I7.pin (b,o) (Dj _ (Dj _ (JT hb e)))).1,λb hb=>?_,w7⟩;obtain⟨o,e,d⟩:=T.obj _ _ st5 b hb;exact(I7.pin (b,o) (Dj _ (Dj _ (JT hb e)))).2.1
  cases f with
  |next=>obtain⟨σ7,H7,I7,n7⟩:=q7;exact again I7 n7
  |cont=>obtain⟨σ7,H7,I7,n7⟩:=q7;exact again I7 n7
  |brk=>obtain⟨σ7,H7,I7,q7⟩:=q7;exact⟨σ7,H7,I7.unpinned,q7⟩
  |ret v=>obtain⟨x7,σ7,H7,I7,r7,q7⟩:=q7;exact⟨x7,σ7,H7,I7.unpinned,r7,q7⟩
end
theorem FQ {K:Faa}{a:Addr}{xs:List V}{g:TG}{tb:TS}{D:CL}{σ:St}{H:Hp}(Pv:Nat->St->Hp->Prop)(h0:Pv 0 σ H)(hl:∀i σ H,i<=xs.length->Pv i σ H->A4 K H a xs)
  (hs:∀i x σ H,xs[i]?=some x->Pv i σ H->g x σ H fun σ2 H2=>tb {D with nx:=Pv (i+1),ct:=Pv (i+1),bk:=D.nx} σ2 H2) (hd:∀σ H,Pv xs.length σ H->D.nx σ H) :
  ∃W:Nat->Nat->St->Hp->Prop,(∃m,W 0 m σ H)/\∀i m σ H,W i m σ H->
   ((Ht K a).stop i H/\D.nx σ H)\/((Ht K a).go i H/\∃N:St->Hp->Prop,(∀σ' H',N σ' H'->∃m',m'<m/\W (i+1) m' σ' H')/\∀x H',(Ht K a).yld i H x H'->g x σ H' fun σ2 H2=>tb {D with nx:=N,ct:=N,bk:=D.nx} σ2 H2):=by
 refine⟨λi m σ H=>m=xs.length-i/\i<=xs.length/\Pv i σ H,⟨xs.length,by simp,Bv _,h0⟩,?_⟩;rintro i m σ H ⟨rfl,hi,p⟩;have q:=hl i σ H hi p;by_cases hlt:i<xs.length
 .refine .inr ⟨⟨xs,xs[i],q,by simp[hlt]⟩,Pv (i+1),fun σ' H' p'=>⟨xs.length-(i+1),by lia,rfl,hlt,p'⟩,λx H' y=>?_⟩;obtain⟨e,y⟩:=y;subst e;exact hs i x σ _ (y xs q) p
 .have e:i=xs.length:=by lia
  subst e;exact .inl ⟨⟨xs,q,Al _⟩,hd σ H p⟩
theorem Oi {K:Faa}{a:Addr}{xs:List V}{g:TG}{tb:TS}{D:CL}{σ:St}{H:Hp}(Pv:Nat->St->Hp->Prop)(h0:Pv 0 σ H)(hl:∀i σ H,i<=xs.length->Pv i σ H->A7 K H a xs)
  (hs:∀i x σ H,xs[i]?=some x->Pv i σ H->g x σ H fun σ2 H2=>tb {D with nx:=Pv (i+1),ct:=Pv (i+1),bk:=D.nx} σ2 H2) (hd:∀σ H,Pv xs.length σ H->D.nx σ H) :
  ∃W:Nat->Nat->St->Hp->Prop,(∃m,W 0 m σ H)/\∀i m σ H,W i m σ H->
   ((Iv K a).stop i H/\D.nx σ H)\/((Iv K a).go i H/\∃N:St->Hp->Prop,(∀σ' H',N σ' H'->∃m',m'<m/\W (i+1) m' σ' H')/\∀x H',(Iv K a).yld i H x H'->g x σ H' fun σ2 H2=>tb {D with nx:=N,ct:=N,bk:=D.nx} σ2 H2):=by
 refine⟨λi m σ H=>m=xs.length-i/\i<=xs.length/\Pv i σ H,⟨xs.length,by simp,Bv _,h0⟩,?_⟩;rintro i m σ H ⟨rfl,hi,p⟩;have q:=hl i σ H hi p;by_cases hlt:i<xs.length
 .refine .inr ⟨⟨xs,xs[i],q,by simp[hlt]⟩,Pv (i+1),fun σ' H' p'=>⟨xs.length-(i+1),by lia,rfl,hlt,p'⟩,λx H' y=>?_⟩;obtain⟨e,y⟩:=y;subst e;exact hs i x σ _ (y xs q) p
 .have e:i=xs.length:=by lia
  subst e;exact .inl ⟨⟨xs,q,Al _⟩,hd σ H p⟩
theorem Gz {lo:Int}{n:Nat}{g:TG}{tb:TS}{D:CL}{σ:St}{H:Hp}(Pv:Nat->St->Hp->Prop)(h0:Pv 0 σ H)
  (hs:∀i σ H,i<n->Pv i σ H->g (.int (lo+i)) σ H fun σ2 H2=>tb {D with nx:=Pv (i+1),ct:=Pv (i+1),bk:=D.nx} σ2 H2) (hd:∀σ H,Pv n σ H->D.nx σ H) :
  ∃W:Nat->Nat->St->Hp->Prop,(∃m,W 0 m σ H)/\∀i m σ H,W i m σ H->
   ((Hw lo n).stop i H/\D.nx σ H)\/((Hw lo n).go i H/\∃N:St->Hp->Prop,(∀σ' H',N σ' H'->∃m',m'<m/\W (i+1) m' σ' H')/\∀x H',(Hw lo n).yld i H x H'->g x σ H' fun σ2 H2=>tb {D with nx:=N,ct:=N,bk:=D.nx} σ2 H2):=by
 refine⟨λi m σ H=>m=n-i/\i<=n/\Pv i σ H,⟨n,by simp,Bv _,h0⟩,?_⟩;rintro i m σ H ⟨rfl,hi,p⟩;by_cases hlt:i<n
 .refine .inr ⟨hlt,Pv (i+1),fun σ' H' p'=>⟨n-(i+1),by lia,rfl,hlt,p'⟩,λx H' y=>?_⟩;obtain⟨e,y⟩:=y;subst e y;exact hs i σ _ hlt p
 .have e:i=n:=by lia
  subst e;exact .inl ⟨Al _,hd σ H p⟩
abbrev R2:=V->V->Hp->VK->Prop
def BM (X:Cx)(f:Value->Value->Sem Value)(r:R2):Prop:=
 ∀(pins:List (Addr×Obj)) (s:Shared) (σ:St) (H:Hp) (x y:V) (v u:Value) (Q:VK),A3 X pins σ H s->AK x v->AK y u->r x y H Q->
  wpAny (model X.prog X.w) X.A (f v u) (EP X pins σ Q) X.xe s
def O8 (X:Cx)(f:Value->Sem Value)(r:V->Hp->VK->Prop):Prop:=
 ∀(pins:List (Addr×Obj)) (s:Shared) (σ:St) (H:Hp) (x:V) (v:Value) (Q:VK),A3 X pins σ H s->AK x v->r x H Q->
  wpAny (model X.prog X.w) X.A (f v) (EP X pins σ Q) X.xe s
def Eg (X:Cx)(f:Value)(r:List V->Hp->VK->Prop):Prop:=
 ∀(pins:List (Addr×Obj)) (s:Shared) (σ:St) (H:Hp) (xs:List V) (us:List Value) (Q:VK),A3 X pins σ H s->Au xs us->r xs H Q->
  wpAny (model X.prog X.w) X.A (call f us) (EP X pins σ Q) X.xe s
def Ka (r:R2)(ta tb:TE):TE:=fun σ H Q=>ta σ H λx H1=>tb σ H1 λy H2=>r x y H2 Q
def WW (r:V->Hp->VK->Prop)(ta:TE):TE:=fun σ H Q=>ta σ H λx H1=>r x H1 Q
def rI (C:Int->Int->Prop)(g:Int->Int->V):R2:=λx y H Q=>∃i j,x = .int i/\y = .int j/\C i j/\Q (g i j) H
def G1 (g:Int->Int->V):R2:=λx y H Q=>∃i j,x = .int i/\y = .int j/\Q (g i j) H
def rU (g:Int->V):V->Hp->VK->Prop:=λx H Q=>∃i,x = .int i/\Q (g i) H
section
variable {X:Cx}{a b c:Expr}{ta tb tc:TE}{pos:Pos}
theorem Oy (ha:PE X a ta)(hb:PE X b tb){pins:List (Addr×Obj)}{s:Shared}{σ:St}{H:Hp}{R:V->V->Hp->Prop}(I:A3 X pins σ H s)
  (h:ta σ H λx H1=>tb σ H1 λy H2=>R x y H2) {Q:Value->Shared->Prop} {f:Value->Value->Sem Value}
  (hf:∀v u s2 x y H2,A3 X pins σ H2 s2->AK x v->AK y u->R x y H2->wpAny (model X.prog X.w) X.A (f v u) Q X.xe s2) :
  wpAny (model X.prog X.w) X.A (eval a X.env) (λv s₁=>wpAny (model X.prog X.w) X.A (eval b X.env) (λu s₂=>wpAny (model X.prog X.w) X.A (f v u) Q X.xe s₂) X.xe s₁) X.xe s:=by
 refine Ay (ha pins s σ H _ I h) λv s1 zz=>?_;obtain⟨x,H1,I1,r1,q1⟩:=zz;refine Ay (hb pins s1 σ H1 _ I1 q1) λu s2 zz=>?_;obtain⟨y,H2,I2,r2,q2⟩:=zz;exact hf v u s2 x y H2 I2 r1 r2 q2
theorem Aj {op:Operator}{r:R2}(ho:BM X (binaryOp op) r)(ha:PE X a ta)(hb:PE X b tb):PE X (.BinOp a op b pos) (Ka r ta tb):=by
 intro pins s σ H Q I h;exact wpAny_BinOp (Oy ha hb I h λv u s2 x y H2 I2 rx ry q=>ho pins s2 σ H2 x y v u Q I2 rx ry q)
theorem Dz {op:UnaryOp}{r:V->Hp->VK->Prop}(ho:O8 X (unaryOp op) r)(ha:PE X a ta):PE X (.UnaryOp op a pos) (WW r ta):=by
 intro pins s σ H Q I h;refine UnaryOp_ (Ay (ha pins s σ H _ I h) λv s1 zz=>?_);obtain⟨x,H1,I1,r1,q1⟩:=zz;exact ho pins s1 σ H1 x v Q I1 r1 q1
theorem N5 {f:Value->Value->Sem Value}{C:Int->Int->Prop}{g:Int->Int->Int}
  (rule:∀(i j:Int) (t u:Tok) (s:Shared) (Q:Value->Shared->Prop) (E:Value->Shared->Prop),C i j->Q (.int (g i j) s.toks) {s with toks:=s.toks+1}->wpAny (model X.prog X.w) X.A (f (.int i t) (.int j u)) Q E s) :
  BM X f (rI C λi j=>.int (g i j)):=by
 intro pins s σ H x y v u Q I rx ry h;obtain⟨i,j,rfl,rfl,hc,q⟩:=h;obtain⟨t,rfl⟩:=rx;obtain⟨t',rfl⟩:=ry;exact rule i j t t' s _ _ hc ⟨.int (g i j),H,I.tok _,⟨_,rfl⟩,q⟩
theorem Pu {f:Value->Value->Sem Value}{g:Int->Int->Int}
  (rule:∀(i j:Int) (t u:Tok) (s:Shared) (Q:Value->Shared->Prop) (E:Value->Shared->Prop),Q (.int (g i j) s.toks) {s with toks:=s.toks+1}->wpAny (model X.prog X.w) X.A (f (.int i t) (.int j u)) Q E s) :
  BM X f (G1 λi j=>.int (g i j)):=by
 intro pins s σ H x y v u Q I rx ry h;obtain⟨i,j,rfl,rfl,q⟩:=h;obtain⟨t,rfl⟩:=rx;obtain⟨t',rfl⟩:=ry;exact rule i j t t' s _ _ ⟨.int (g i j),H,I.tok _,⟨_,rfl⟩,q⟩
theorem NU {f:Value->Value->Sem Value}{g:Int->Int->Bool}
  (rule:∀(i j:Int) (t u:Tok) (s:Shared) (Q:Value->Shared->Prop) (E:Value->Shared->Prop),Q (.bool (g i j)) s->wpAny (model X.prog X.w) X.A (f (.int i t) (.int j u)) Q E s) :
  BM X f (G1 λi j=>.bl (g i j)):=by
 intro pins s σ H x y v u Q I rx ry h;obtain⟨i,j,rfl,rfl,q⟩:=h;obtain⟨t,rfl⟩:=rx;obtain⟨t',rfl⟩:=ry;exact rule i j t t' s _ _ ⟨.bl (g i j),H,I,rfl,q⟩
def bu (i j:Int):Prop:=0<j/\j<1073741824
def Oe (i j:Int):Prop:=(-(2 ^ 64)<i/\i<2 ^ 64)\/(-(2 ^ 64)<j/\j<2 ^ 64)
theorem Oe.ok {i j:Int}(h:Oe i j):IntMulOk i j:=by
 rcases h with⟨h1,h2⟩|⟨h1,h2⟩
 .exact .of_left (intBits_le_64 h1 h2)
 .exact .of_right (intBits_le_64 h1 h2)
theorem BC:BM X (binaryOp .Add) (G1 λi j=>.int (i+j)):=Pu λ_ _ _ _ _ _ _ q=>add_int q
theorem Et:BM X (binaryOp .Sub) (G1 λi j=>.int (i-j)):=Pu λ_ _ _ _ _ _ _ q=>sub_int q
theorem II:BM X (binaryOp .Mult) (rI Oe λi j=>.int (i*j)):=N5 λ_ _ _ _ _ _ _ hc q=>mul_int q hc.ok
theorem Ed:BM X (binaryOp .FloorDiv) (rI bu λi j=>.int (i/j)):=N5 λi j _ _ _ _ _ hc q=>by
 have h1:(0:Int)<j:=hc.1;have h2:j<1073741824:=hc.2;exact floordiv_int (by lia) (by rw[Int.fdiv_eq_ediv_of_nonneg i (by lia)];exact q) (.inl (PyProof.noPylong_small (by lia)))
theorem Co:BM X (binaryOp .Mod) (rI (λ_ j=>0<j) λi j=>.int (i%j)):=N5 λi j _ _ _ _ _ hc q=>by
 have h1:(0:Int)<j:=hc;exact mod_int' (by lia) (by rw[Int.fmod_eq_emod_of_nonneg i (by lia)];exact q)
theorem Y6 {f:Value->Sem Value}{g:Int->Int}
  (rule:∀(i:Int) (t:Tok) (s:Shared) (Q:Value->Shared->Prop) (E:Value->Shared->Prop),Q (.int (g i) s.toks) {s with toks:=s.toks+1}->wpAny (model X.prog X.w) X.A (f (.int i t)) Q E s) :
  O8 X f (rU λi=>.int (g i)):=by
 intro pins s σ H x v Q I rx h;obtain⟨i,rfl,q⟩:=h;obtain⟨t,rfl⟩:=rx;exact rule i t s _ _ ⟨.int (g i),H,I.tok _,⟨_,rfl⟩,q⟩
theorem DD:O8 X (unaryOp .USub) (rU λi=>.int (-i)):=Y6 λ_ _ _ _ _ q=>neg_int q
end
def Rz:V->V->Bool
 |.non,.non=>true|.non,.int _=>true|.int _,.non=>true|.non,.bl _=>true|.bl _,.non=>true|.non,.str _=>true|.str _,.non=>true
 |.int _,.int _=>true|.bl _,.bl _=>true|.str _,.str _=>true|.byt _,.byt _=>true
 |.int _,.str _=>true|.str _,.int _=>true|.bl _,.str _=>true|.str _,.bl _=>true
 |_,_=>false
def Xq:R2:=λx y H Q=>Rz x y=true/\Q (.bl (decide (x=y))) H
def Xw:R2:=λx y H Q=>Rz x y=true/\Q (.bl (!decide (x=y))) H
theorem Px {i j:Int}:decide (V.int i=V.int j)=(i==j):=by
 rw[Gf];simp
theorem Qa {i j:Bool}:decide (V.bl i=V.bl j)=(i==j):=by
 rw[Gf];simp
theorem Su {i j:Str}:decide (V.str i=V.str j)=(i==j):=by
 rw[Gf];simp
theorem Pj {i j:Array UInt8}:decide (V.byt i=V.byt j)=(i.toList==j.toList):=by
 rw[Gf];cases i;cases j;simp
section
variable {X:Cx}{a b c:Expr}{ta tb tc:TE}{pos:Pos}
theorem BZ {pins:List (Addr×Obj)}{σ:St}{H:Hp}{s:Shared}{Q:VK}{k k':Bool}(I:A3 X pins σ H s)(q:Q (.bl k) H)(e:k=k'):EP X pins σ Q (.bool k') s:=by
 subst e;exact⟨.bl k,H,I,rfl,q⟩
theorem C6:BM X (compareOp .Eq) Xq:=by
 intro pins s σ H x y v u Q I rx ry h;obtain⟨hs,q⟩:=h;cases x with
 |
  non=>
  cases rx;cases y with
  |non=>cases ry;exact PySem.EqNone.eq_none_none (BZ I q (by simp))
  |bl j=>cases ry;exact PySem.EqNone.eq_none_bool (BZ I q (by simp))
  |int j=>obtain⟨t',rfl⟩:=ry;exact PySem.EqNone.eq_none_int (BZ I q (by simp))
  |str j=>obtain⟨t',rfl⟩:=ry;exact PySem.EqNone.eq_none_str (BZ I q (by simp))
  |_=>exact absurd (show false=true from hs) CG
 |
  bl i=>
  cases rx;cases y with
  |non=>cases ry;exact PySem.EqNone.eq_bool_none (BZ I q (by simp))
  |bl j=>cases ry;exact eq_bool (BZ I q Qa)
  |str j=>obtain⟨t',rfl⟩:=ry;exact PySem.EqMixed.eq_bool_str (BZ I q (by simp))
  |_=>exact absurd (show false=true from hs) CG
 |
  int i=>
  obtain⟨t,rfl⟩:=rx;cases y with
  |non=>cases ry;exact PySem.EqNone.eq_int_none (BZ I q (by simp))
  |int j=>obtain⟨t',rfl⟩:=ry;exact eq_int (BZ I q Px)
  |str j=>obtain⟨t',rfl⟩:=ry;exact PySem.EqMixed.eq_int_str (BZ I q (by simp))
  |_=>exact absurd (show false=true from hs) CG
 |
  str i=>
  obtain⟨t,rfl⟩:=rx;cases y with
  |non=>cases ry;exact PySem.EqNone.eq_str_none (BZ I q (by simp))
  |bl j=>cases ry;exact PySem.EqMixed.eq_str_bool (BZ I q (by simp))
  |int j=>obtain⟨t',rfl⟩:=ry;exact PySem.EqMixed.eq_str_int (BZ I q (by simp))
  |str j=>obtain⟨t',rfl⟩:=ry;exact eq_str (BZ I q Su)
  |_=>exact absurd (show false=true from hs) CG
 |
  byt i=>
  obtain⟨t,rfl⟩:=rx;cases y with
  |byt j=>obtain⟨t',rfl⟩:=ry;exact PySem.W.eq_bytes (BZ I q Pj)
  |_=>exact absurd (show false=true from hs) CG
 |_=>cases y<;>exact absurd (show false=true from hs) CG
theorem Ni:BM X (compareOp .NotEq) Xw:=by
 intro pins s σ H x y v u Q I rx ry h;obtain⟨hs,q⟩:=h;cases x with
 |
  non=>
  cases rx;cases y with
  |non=>cases ry;exact PySem.EqNone.ne_none_none (BZ I q (by simp))
  |bl j=>cases ry;exact PySem.EqNone.ne_none_bool (BZ I q (by simp))
  |int j=>obtain⟨t',rfl⟩:=ry;exact PySem.EqNone.ne_none_int (BZ I q (by simp))
  |str j=>obtain⟨t',rfl⟩:=ry;exact PySem.EqNone.ne_none_str (BZ I q (by simp))
  |_=>exact absurd (show false=true from hs) CG
 |
  bl i=>
  cases rx;cases y with
  |non=>cases ry;exact PySem.EqNone.ne_bool_none (BZ I q (by simp))
  |bl j=>cases ry;exact ne_bool (BZ I q (congrArg not Qa))
  |str j=>obtain⟨t',rfl⟩:=ry;exact PySem.EqMixed.ne_bool_str (BZ I q (by simp))
  |_=>exact absurd (show false=true from hs) CG
 |
  int i=>
  obtain⟨t,rfl⟩:=rx;cases y with
  |non=>cases ry;exact PySem.EqNone.ne_int_none (BZ I q (by simp))
  |int j=>obtain⟨t',rfl⟩:=ry;exact ne_int (BZ I q (congrArg not Px))
  |str j=>obtain⟨t',rfl⟩:=ry;exact PySem.EqMixed.ne_int_str (BZ I q (by simp))
  |_=>exact absurd (show false=true from hs) CG
 |
  str i=>
  obtain⟨t,rfl⟩:=rx;cases y with
  |non=>cases ry;exact PySem.EqNone.ne_str_none (BZ I q (by simp))
  |bl j=>cases ry;exact PySem.EqMixed.ne_str_bool (BZ I q (by simp))
  |int j=>obtain⟨t',rfl⟩:=ry;exact PySem.EqMixed.ne_str_int (BZ I q (by simp))
  |str j=>obtain⟨t',rfl⟩:=ry;exact ne_str (BZ I q (congrArg not Su))
  |_=>exact absurd (show false=true from hs) CG
 |
  byt i=>
  obtain⟨t,rfl⟩:=rx;cases y with
  |byt j=>obtain⟨t',rfl⟩:=ry;exact PySem.W.ne_bytes (BZ I q (congrArg not Pj))
  |_=>exact absurd (show false=true from hs) CG
 |_=>cases y<;>exact absurd (show false=true from hs) CG
theorem Eh:BM X (compareOp .Lt) (G1 λi j=>.bl (decide (i<j))):=NU λ_ _ _ _ _ _ _ q=>lt_int q
theorem Es:BM X (compareOp .Gt) (G1 λi j=>.bl (decide (j<i))):=NU λ_ _ _ _ _ _ _ q=>gt_int q
theorem Ts:BM X (compareOp .GtE) (G1 λi j=>.bl (decide (j<=i))):=NU λ_ _ _ _ _ _ _ q=>ge_int q
theorem b9:BM X (compareOp .Is) (λx y H Q=>y = .non/\Q (.bl (decide (x = .non))) H):=by
 intro pins s σ H x y v u Q I rx ry h;obtain⟨rfl,q⟩:=h;cases ry;refine is_none_gen (BZ I q ?_);cases x<;>first
  |(cases rx;rfl)
  |(obtain⟨t,rfl⟩:=rx;rfl)
theorem Wl:BM X (compareOp .IsNot) (λx y H Q=>y = .non/\Q (.bl (!decide (x = .non))) H):=by
 intro pins s σ H x y v u Q I rx ry h;obtain⟨rfl,q⟩:=h;cases ry;refine isnot_none_gen (BZ I q ?_);cases x<;>first
  |(cases rx;rfl)
  |(obtain⟨t,rfl⟩:=rx;rfl)
theorem AG (b:Expr){op:CmpOp}(h:op≠.In:=by decide)(h2:op≠.NotIn:=by decide):behindInMarks op b=false:=by
 have e1:(op==CmpOp.In)=false:=by cases op<;>first|rfl|exact absurd rfl h
 have e2:(op==CmpOp.NotIn)=false:=by cases op<;>first|rfl|exact absurd rfl h2
 cases b<;>simp[behindInMarks,e1,e2]
theorem Gu {op:CmpOp}{r:R2}(ho:BM X (compareOp op) r)(ha:PE X a ta)(hb:PE X b tb)(hm:behindInMarks op b=false):PE X (.Compare a [op] [b] pos) (Ka r ta tb):=by
 intro pins s σ H Q I h;exact wpAny_Compare1 (Oy ha hb I h λv u s2 x y H2 I2 rx ry q=>ho pins s2 σ H2 x y v u Q I2 rx ry q) hm
def Sn (t:TE):TT:=fun σ H Q=>t σ H λx H'=>∃k,x = .bl k/\Q k H'
theorem AL {op:CmpOp}{r:R2}(ho:BM X (compareOp op) r)(ha:PE X a ta)(hb:PE X b tb)(hm:behindInMarks op b=false):PT X (.Compare a [op] [b] pos) (Sn (Ka r ta tb)):=by
 intro pins s σ H Q I h;refine wpAny_isTrue_Compare1 (Ay (ha pins s σ H _ I h) λv s1 ⟨x,H1,I1,r1,q1⟩=>Ay (hb pins s1 σ H1 _ I1 q1) λu s2 ⟨y,H2,I2,r2,q2⟩=>
  Ay (ho pins s2 σ H2 x y v u _ I2 r1 r2 q2) λc s3 ⟨z,H3,I3,r3,k,e,q3⟩=>?_) hm
 subst e;cases r3;exact KF ⟨H3,I3,q3⟩
theorem JU:(sizeLine:Nat)<2 ^ 63:=by rw[OY];decide
theorem TX:BM X (binaryOp .Add) (λx y H Q=>∃i j,x = .str i/\y = .str j/\i.length+j.length<=sizeLine/\Q (.str (i++j)) H):=by
 intro pins s σ H x y v u Q I rx ry h;obtain⟨i,j,rfl,rfl,hz,q⟩:=h;obtain⟨t,rfl⟩:=rx;obtain⟨t',rfl⟩:=ry;exact add_str (λt' tk=>⟨.str (i++j),H,I.tok _,⟨_,rfl⟩,q⟩) hz
theorem EJ {x:V}{us:List Value}(r:Au [x] us):∃u,us=[u]/\AK x u:=by
 cases r with
 |cons r1 r2=>cases r2;exact⟨_,rfl,r1⟩
theorem WR {x y:V}{us:List Value}(r:Au [x,y] us):∃u w',us=[u,w']/\AK x u/\AK y w':=by
 cases r with
 |
  cons r1 r2=>
  cases r2 with
  |cons r3 r4=>cases r4;exact⟨_,_,rfl,r1,r3⟩
theorem VL:Eg X (.builtin "abs") (λxs H Q=>∃i,xs=[.int i]/\Q (.int (if i<0 then -i else i)) H):=by
 intro pins s σ H xs us Q I r h;obtain⟨i,rfl,q⟩:=h;obtain⟨u,rfl,t,rfl⟩:=EJ r;exact call_abs_int λu tk=>⟨.int (if i<0 then -i else i),H,I.tok _,⟨_,rfl⟩,q⟩
theorem LQ (hc:X.calm=true):Eg X (.builtin "min") (λxs H Q=>∃i j,xs=[.int i,.int j]/\Q (.int (if j<i then j else i)) H):=by
 intro pins s σ H xs us Q I r h;obtain⟨i,j,rfl,q⟩:=h;obtain⟨u,w',rfl,⟨t,rfl⟩,⟨t',rfl⟩⟩:=WR r;refine min_two_ints (I.ok.hd hc) λh' tk k=>⟨_,H,I.kept k,?_,q⟩
 by_cases hj:j<i
 .rw[Av hj,Av hj];exact⟨_,rfl⟩
 .rw[Aw hj,Aw hj];exact⟨_,rfl⟩
theorem Tp:Eg X (.type "int") (λxs H Q=>(∃i,xs=[.int i]/\Q (.int i) H)\/∃k,xs=[.bl k]/\Q (.int (if k then 1 else 0)) H):=by
 intro pins s σ H xs us Q I r h;rcases h with⟨i,rfl,q⟩|⟨k,rfl,q⟩
 .obtain⟨u,rfl,t,rfl⟩:=EJ r;exact call_int_int ⟨.int i,H,I,⟨_,rfl⟩,q⟩
 .obtain⟨u,rfl,r1⟩:=EJ r;cases r1;exact call_int_bool ⟨.int (if k then 1 else 0),H,I.tok _,⟨_,rfl⟩,q⟩
end
structure Ha (h:Heap)(x dx C:Addr)(mA:Str->Option Value):Prop where
 obj:h.get? x=some (PySem.W.instObj C dx)
 ns:h.Ns1 dx mA
 ne:dx≠x
theorem Tu {h:Heap}{dx:Addr}{mA:Str->Option Value}(n:h.Ns1 dx mA):∃od,h.get? dx=some od/\∀name,PySem.W.lookIn name od=some (mA name):=by
 obtain⟨o,es,ep,ho,hd,hk,_,hm⟩:=n;refine⟨o,ho,λname=>?_⟩;have e:=hm name;unfold nsFind findBy at e;rw[←Array.find?_toList]at e;unfold PySem.W.lookIn;rw[hd];dsimp only;split
 .rename_i y q;rw[q]at e;exact congrArg some e
 .rename_i q;rw[q]at e;have a:es.toList.any (·.refKey)=false:=by
   rw[List.any_eq_false];intro y hy;obtain⟨z,t,hkey⟩:=hk y (Array.mem_toList_iff.mp hy);simp[DictEntry.refKey,hkey]
  have a':¬es.toList.any (·.refKey)=true:=by rw[a];exact CG
  rw[Aw a'];exact congrArg some e
theorem Ha.look {h:Heap}{x dx C:Addr}{mA:Str->Option Value}(I:Ha h x dx C mA):∃od,PySem.W.InstAt h x (PySem.W.instObj C dx) C (some od)/\∀name,PySem.W.lookIn name od=some (mA name):=
 let ⟨od,ho,hl⟩:=Tu I.ns
 ⟨od,⟨I.obj,rfl,rfl,ho⟩,hl⟩
section
variable {prog:Program}{w:World}{A:Around}{E:Value->Shared->Prop}{s:Shared}{K:Faa}{x dx C f:Addr}{mA:Str->Option Value}{name:Str}{v:Value}
theorem VH {expr:Bool}{Q:Value->Shared->Prop}(X:K.In s.heap)(I:Ha s.heap x dx C mA)(hg:PySem.W.plainGet K C name=true)(hh:PySem.W.hasDictIn K C=true)
  (ha:PySem.W.findIn K (.ref C) name=some none) (hv:mA name=some v) (hv':PySem.W.handedIn v=true) (h:Q v {s with toks:=s.toks+1}) :
  wpAny (model prog w) A (getAttr (.ref x) name expr) Q E s:=by
 obtain⟨od,J,hl⟩:=I.look;exact PySem.W.get_value X J (SR hg).1 (PySem.W.findObj_own hh ha rfl (by rw[hl,hv])) hv' h
theorem Vu {pl:Sem Bool}{Q:Value×List Value->Shared->Prop}(X:K.In s.heap)(I:Ha s.heap x dx C mA)(hg:PySem.W.plainGet K C name=true)
  (hf:PySem.W.findIn K (.ref C) name=some (some (.ref f))) (ht:PySem.W.isFn K (.ref f)=true) (hv:mA name=none) (h:Q (.ref f,[.ref x]) s) :
  wpAny (model prog w) A (getMethod (.ref x) name pl) Q E s:=by
 obtain⟨od,J,hl⟩:=I.look;exact PySem.W.method_fn X J (SR hg).1 (SR hg).2 hf (Gk.mp ht) (by show(PySem.W.lookIn name od).map (·.isSome)=some false;rw[hl,hv];rfl) h
theorem Vp {ns:List Str}{Q:Unit->Shared->Prop}(X:K.In s.heap)(I:Ha s.heap x dx C mA)
  (hs:PySem.W.findIn K (.ref C) "__setattr__"=some (some (.builtin "object.__setattr__"))) (hp:PySem.W.plainOver K C=true) (ht:PySem.W.takerIn K C name=some none) (hh:PySem.W.hasDictIn K C=true)
  (hw:PySem.Within mA ns) (hsz:ns.length<=sizeLine)
  (h:∀h',Ha h' x dx C (λy=>if y=name then some v else mA y)->Heap.SameBut dx s.heap h'->Q () {s with heap:=h',toks:=s.toks+2}) :
  wpAny (model prog w) A (setAttr (.ref x) name v) Q E s:=by
 obtain⟨od,J,hl⟩:=I.look;refine PySem.W.set_plain X J hs (PySem.W.osa_open (s:={s with toks:=s.toks+1}) (r:=none) X J hp ht λb=>?_);obtain⟨cd,hc,hd'⟩:=SS hh;have hx:s.heap.get? x=some ⟨.ref C,some dx,.plain,#[]⟩:=I.obj;refine Ag (AN (Ag (Ag (wpAny_loadPart hx (Ag (PySem.W.Looks.here (s:={s with toks:=s.toks+1}) (PySem.W.looks_clsIn X hc) ?_))))));rw[hd'];refine AN (a:=some dx) (Ag (AN (Ag ?_)));refine wpAny_nsSet1 (s:={s with toks:=s.toks+1}) I.ns λh' hn2 hs2=>?_;obtain⟨oD,esD,epD,hoD,hdD,hcD⟩:=hn2.count (PySem.Within.cons name v hw);refine Ag (wpAny_lookBehind hoD (by rw[hdD];exact pastItsLine_dict (Ey hcD (by rw[BH];lia))) ?_);exact AN (h _ ⟨(hs2.2 _ (Ne.symm I.ne)).trans I.obj,hn2,I.ne⟩ hs2)
theorem Vm {R:Result->Shared->Prop}{vs:List Value}{kw:List (Str×Value)}(X:K.In s.heap)(hm:PySem.W.makesIn K C=true)
  (hi:PySem.W.findIn K (.ref C) "__init__"=some (some (.ref f))) (hf:PySem.W.typeIn K (.ref f)=some (.type "function"))
  (h:codeAny (model prog w) (A.under (.builtin "type.__call__" ⟨.ref C::vs,kw⟩)) (.call (.ref f) ⟨.ref (s.heap.objs.size+1)::vs,kw⟩) (PySem.W.InitBack (s.heap.objs.size+1) R)
   {s with heap:=(s.heap.push PySem.W.emptyDict).push (PySem.W.instObj C s.heap.objs.size)}) :
  codeAny (model prog w) A (.call (.ref C) ⟨vs,kw⟩) R s:=by
 obtain⟨hh,g,d,t,os⟩:=s;exact PySem.W.make_core (PySem.W.makes_of X hm) (PySem.W.looks_findIn X hi) (λself=>PySem.W.bind_fn X self hf) (.inl rfl) h
end
def DP (f:Str)(v:V):List (Str×V)->List (Str×V)
 |[]=>[(f,v)]
 |(g,x)::r=>if g=f then(g,v)::r else(g,x)::DP f v r
theorem Qc (f g:Str)(v:V):∀fs:List (Str×V),(DP f v fs).lookup g=if g=f then some v else fs.lookup g
 |
  []=>by
  show List.lookup g [(f,v)]=_;by_cases h:g=f
  .have hb:(g==f)=true:=Gk.mpr h;simp only[List.lookup,hb,Av h]
  .have hb:(g==f)=false:=MY.mpr h;simp only[List.lookup,hb,Aw h]
 |
  (k,x)::r=>by
  have ih:=Qc f g v r;rw[show DP f v ((k,x)::r)=(if k=f then(k,v)::r else(k,x)::DP f v r) from rfl];by_cases hk:k=f
  .rw[Av hk];by_cases h:g=k
   .have hb:(g==k)=true:=Gk.mpr h;simp only[List.lookup,hb,Av (h.trans hk)]
   .have hb:(g==k)=false:=MY.mpr h;simp only[List.lookup,hb,Aw (λe:g=f=>h (e.trans hk.symm))]
  .rw[Aw hk];by_cases h:g=k
   .have hb:(g==k)=true:=Gk.mpr h;simp only[List.lookup,hb,Aw (λe:g=f=>hk (h.symm.trans e))]
   .have hb:(g==k)=false:=MY.mpr h;simp only[List.lookup,hb];exact ih
theorem Nc (f:Str)(v:V):∀fs:List (Str×V),f∈(DP f v fs).map (·.1)/\∀g,g∈fs.map (·.1)->g∈(DP f v fs).map (·.1)
 |[]=>⟨by simp[DP],λg h=>by simp at h⟩
 |
  (k,x)::r=>by
  obtain⟨i1,i2⟩:=Nc f v r;rw[show DP f v ((k,x)::r)=(if k=f then(k,v)::r else(k,x)::DP f v r) from rfl];by_cases hk:k=f
  .rw[Av hk];subst hk;exact⟨by simp,λg h=>by simpa using h⟩
  .rw[Aw hk];refine⟨?_,λg h=>?_⟩
   .rw[Cr];exact CF _ i1
   .rw[Cr]at h ⊢;rcases Bj.mp h with e|e
    .exact Bj.mpr (.inl e)
    .exact CF _ (i2 g e)
theorem Pq (f:Str)(v:V):∀fs:List (Str×V),(DP f v fs).length<=fs.length+1
 |[]=>by simp[DP]
 |
  (k,x)::r=>by
  have ih:=Pq f v r;rw[show DP f v ((k,x)::r)=(if k=f then(k,v)::r else(k,x)::DP f v r) from rfl];by_cases hk:k=f
  .rw[Av hk,BH,BH];lia
  .rw[Aw hk,BH,BH];lia
theorem ES.some_of {v:V}{o:Option Value}(r:ES (some v) o):∃u,o=some u/\AK v u:=by
 cases o with
 |none=>exact(show False from r).elim
 |some u=>exact⟨u,rfl,r⟩
theorem ES.none_of {o:Option Value}(r:ES none o):o=none:=by
 cases o with
 |none=>rfl
 |some u=>exact(show False from r).elim
theorem Xs {v:V}{u:Value}(r:AK v u):PySem.W.handedIn u=true:=by
 cases v with
 |non=>cases (show u=Value.none from r);rfl
 |bl b=>cases (show u=Value.bool b from r);rfl
 |int i=>obtain⟨t,e⟩:=(show ∃t,u=Value.int i t from r);cases e;rfl
 |str x=>obtain⟨t,e⟩:=(show ∃t,u=Value.str x t from r);cases e;rfl
 |byt b=>obtain⟨t,e⟩:=(show ∃t,u=Value.bytes b t from r);cases e;rfl
 |flt b=>obtain⟨t,e⟩:=(show ∃t,u=Value.float b t from r);cases e;rfl
 |ref a=>cases (show u=Value.ref a from r);rfl
 |ty n=>cases (show u=Value.type n from r);rfl
section
variable {P:Program}{w:World}{H H':Hp}{h h':Heap}{a C dx:Addr}{fs fs':List (Str×V)}
theorem MD (hok:BR P w H h)(e:H a=some (.ins C dx fs)):∃mA,Ha h a dx C mA/\(∀f,ES (fs.lookup f) (mA f))/\PySem.Within mA (fs.map (·.1))/\fs.length<=1000/\H dx=some (.own a):=by
 obtain⟨d,z,ne,ob,mA,n,r,q⟩:=(show Cb P w H h a (.ins C dx fs) from hok a _ e)
 exact⟨mA,⟨ob,n,ne⟩,r,q,z,d⟩
end
structure DX (K:Faa)(C:Addr):Prop where
 pg:PySem.W.plainGet K C Str.empty=true
 hd:PySem.W.hasDictIn K C=true
 po:PySem.W.plainOver K C=true
 sa:PySem.W.findIn K (.ref C) "__setattr__"=some (some (.builtin "object.__setattr__"))
theorem DX.get {K:Faa}{C:Addr}(c:DX K C)(f:Str):PySem.W.plainGet K C f=true:=c.pg
def CS (K:Faa)(C:Addr)(f:Str):Prop:=PySem.W.findIn K (.ref C) f=some none
theorem CS.taker {K:Faa}{C:Addr}{f:Str}(n:CS K C f):PySem.W.takerIn K C f=some none:=by
 unfold PySem.W.takerIn;rw[show PySem.W.findIn K (.ref C) f=some none from n];rfl
structure JL (K:Faa)(C:Addr)(m:Str)(f:Addr):Prop where
 at_:PySem.W.findIn K (.ref C) m=some (some (.ref f))
 fn:PySem.W.isFn K (.ref f)=true
 kp:PySem.W.keepIn K (.ref f)=true
section
variable {X:Cx}{pins:List (Addr×Obj)}{σ:St}{H:Hp}{s:Shared}{a C dx:Addr}{fs:List (Str×V)}{f:Str}{v:V}{A:Around}{E:Value->Shared->Prop}
theorem Xp {b:Bool}{Q:Value->Shared->Prop}(I:A3 X pins σ H s)(e:H a=some (.ins C dx fs))(c:DX X.K C)(n:CS X.K C f)(l:fs.lookup f=some v)
  (h:∀u s',A3 X pins σ H s'->AK v u->Q u s'):wpAny (model X.prog X.w) A (getAttr (.ref a) f b) Q E s:=by
 obtain⟨mA,O,r,_,_,_⟩:=MD I.hok e;obtain⟨u,hu,ru⟩:=ES.some_of (v:=v) (o:=mA f) (by rw[←l];exact r f);exact VH I.kIn O (c.get f) c.hd n hu (Xs ru) (h u _ (I.tok _) ru)
theorem Z4 {m:Str}{g:Addr}{pl:Sem Bool}{Q:Value×List Value->Shared->Prop}(I:A3 X pins σ H s)(e:H a=some (.ins C dx fs))(c:DX X.K C)(k:JL X.K C m g)(l:fs.lookup m=none)
  (h:Q (.ref g,[.ref a]) s):wpAny (model X.prog X.w) A (getMethod (.ref a) m pl) Q E s:=by
 obtain⟨mA,O,r,_,_,_⟩:=MD I.hok e;have hn:mA m=none:=ES.none_of (by rw[←l];exact r m);exact Vu I.kIn O (c.get m) k.at_ k.fn hn h
theorem bW {y:V}{u:Value}{Q:Unit->Shared->Prop}(I:A3 X pins σ H s)(e:H a=some (.ins C dx fs))(c:DX X.K C)(n:CS X.K C f)(hl:fs.length<1000)(ry:AK y u)
  (h:∀s',A3 X pins σ (upd H a (.ins C dx (DP f y fs))) s'->Q () s'):wpAny (model X.prog X.w) A (setAttr (.ref a) f u) Q E s:=by
 obtain⟨mA,O,r,wi,_,ho⟩:=MD I.hok e;have hz:(fs.map (·.1)).length<=sizeLine:=by rw[Af,OY];lia
 refine Vp I.kIn O c.sa c.po n.taker c.hd wi hz λh' O' sb=>h _ ?_;have hd:∃o,h'.get? dx=some o:=by obtain⟨o,_,_,e',_⟩:=O'.ns;exact⟨o,e'⟩
 refine I.write (x:=a) (e:=dx) (by rw[e];exact True.intro) (.inr ho) (λb q hb z=>(sb.2 b hb).trans z) hd ?_;refine⟨by rw[Ak O.ne];exact ho,?_,O.ne,O'.obj,_,O'.ns,λg=>?_,λg hg=>?_⟩
 .have:=Pq f y fs;lia
 .show ES ((DP f y fs).lookup g) (if g=f then some u else mA g);rw[Qc];by_cases q:g=f
  .rw[Av q,Av q];exact ry
  .rw[Aw q,Aw q];exact r g
 .by_cases q:g=f
  .rw[q];exact(Nc f y fs).1
  .refine(Nc f y fs).2 g (wi g λz=>hg ?_);show(if g=f then some u else mA g)=none;rw[Aw q];exact z
theorem A3.made (I:A3 X pins σ H s):A3 X pins σ (upd (upd H s.heap.objs.size (.own (s.heap.objs.size+1))) (s.heap.objs.size+1) (.ins C s.heap.objs.size []))
  {s with heap:=(s.heap.push PySem.W.emptyDict).push (PySem.W.instObj C s.heap.objs.size)}:=by
 have e1:(s.heap.push PySem.W.emptyDict).get? s.heap.objs.size=some PySem.W.emptyDict:=CN s.heap rfl;have e2:((s.heap.push PySem.W.emptyDict).push (PySem.W.instObj C s.heap.objs.size)).get? (s.heap.objs.size+1)=some (PySem.W.instObj C s.heap.objs.size):=by
  have:=CN (s.heap.push PySem.W.emptyDict) (o:=PySem.W.instObj C s.heap.objs.size) rfl
  rwa [Jh]at this
 have e3:(s.heap.push PySem.W.emptyDict).Ns s.heap.objs.size (λ_=>none):=⟨PySem.W.emptyDict,#[],_,e1,rfl,(λe he=>absurd he (by simp)),λ_=>rfl⟩
 have I1:=I.laid (a:=s.heap.objs.size) (o:=.own (s.heap.objs.size+1)) (h':=s.heap.push PySem.W.emptyDict) (t':=s.toks) (λb u q=>B2 _ q) (Al _) ⟨_,e1⟩;refine I1.laid (a:=s.heap.objs.size+1) (o:=.ins C s.heap.objs.size []) (t':=s.toks) (λb u q=>B2 _ q) (MH (Jh _ _)) ?_;have ne:s.heap.objs.size≠s.heap.objs.size+1:=BQ (HV _);refine⟨by rw[Ak ne,A5],Bv _,ne,e2,λ_=>none,(Heap.Ns1.of_empty e3).at λo q=>B2 _ q,λ_=>True.intro,λy hy=>absurd rfl hy⟩
theorem ZX {prog:Program}{w:World}{env:Env}{e:Expr}{f:Str}{pos:Pos}{s:Shared}{Q:Value->Shared->Prop}(hb:attributeBase e f env (eval e env)=eval e env)
  (h:wpAny (model prog w) A (eval e env) (λo s₁=>wpAny (model prog w) A (getAttr o f true) Q E s₁) E s):wpAny (model prog w) A (eval (.Attribute e f pos) env) Q E s:=
 Attribute_any_ h (by rw[arm_eval_Attribute,hb])
end
def PF (K:Faa)(ta:TE)(f:Str):TE:=fun σ H Q=>ta σ H λx H1=>∃a C dx fs v,x = .ref a/\H1 a=some (.ins C dx fs)/\DX K C/\CS K C f/\fs.lookup f=some v/\Q v H1
def Wn (K:Faa)(ta tv:TE)(f:Str):TS:=λD σ H=>tv σ H λy H1=>ta σ H1 λx H2=>∃a C dx fs,x = .ref a/\H2 a=some (.ins C dx fs)/\DX K C/\CS K C f/\fs.length<1000/\
 D.nx σ (upd H2 a (.ins C dx (DP f y fs)))
section
variable {X:Cx}{o e value:Expr}{f:Str}{pos pos' tpos:Pos}{ta tv:TE}
theorem BD (he:PE X e ta)(hb:attributeBase e f X.env (eval e X.env)=eval e X.env):PE X (.Attribute e f pos) (PF X.K ta f):=by
 intro pins s σ H Q I h;refine ZX hb (Ay (he pins s σ H _ I h) λu s1 zz=>?_);obtain⟨x,H1,I1,rx,a,C,dx,fs,v,ex,ea,c,n,l,q⟩:=zz;subst ex;obtain rfl:u=Value.ref a:=rx;exact Xp I1 ea c n l λu' s2 I2 ru=>⟨v,H1,I2,ru,q⟩
theorem DR (ha:PE X o ta)(hv:PE X value tv)(hs:swapsWith value (some (.Attribute o f pos')) pos.line X.env=pure false):PS X (.Assign [.Attribute o f pos'] value pos) (Wn X.K ta tv f):=by
 intro pins s σ H D I h;refine plainObj_wpAny_Assign_Attribute (Ay (hv pins s σ H _ I h) λu s1 zz=>?_) hs;obtain⟨y,H1,I1,ry,q⟩:=zz;refine Ay (ha pins s1 σ H1 _ I1 q) λov s2 zz=>?_;obtain⟨x,H2,I2,rx,a,C,dx,fs,ex,ea,c,n,l,q2⟩:=zz;subst ex;obtain rfl:ov=Value.ref a:=rx;exact bW I2 ea c n l ry λs3 I3=>⟨σ,_,I3,q2⟩
end
section
variable {X:Cx}{pins:List (Addr×Obj)}{σ:St}{H:Hp}{s:Shared}{A:Around}{E:Value->Shared->Prop}{Q:Value->Shared->Prop}{c:Value}{b:Bool}
inductive Ex (K:Faa)(H:Hp):V->Value->Prop where
 |non:Ex K H .non (.type "NoneType")
 |bl (x:Bool):Ex K H (.bl x) (.type "bool")
 |int (i:Int):Ex K H (.int i) (.type "int")
 |str (x:Str):Ex K H (.str x) (.type "str")
 |flt (x:UInt64):Ex K H (.flt x) (.type "float")
 |lst {a:Addr} {xs:List V} (e:H a=some (.lst xs)):Ex K H (.ref a) (.type "list")
 |frz {a:Addr} {o:Obj} {xs:List V} (e:H a=some (.frz o (.lst xs))):Ex K H (.ref a) (.type "list")
 |tup {a:Addr} {xs:List V} (e:H a=some (.tup xs)):Ex K H (.ref a) (.type "tuple")
 |dK {a:Addr} {kvs:List (CA×V)} (e:H a=some (.dK kvs)):Ex K H (.ref a) (.type "dict")
 |dT {a:Addr} {kvs:List (List CA×V)} (e:H a=some (.dT kvs)):Ex K H (.ref a) (.type "dict")
 |ins {a C dx:Addr} {fs:List (Str×V)} (e:H a=some (.ins C dx fs)) (cl:DX K C) (ha:PySem.W.findIn K (.ref C) "__class__"=some (some (.builtin "object.__class__")))
  (hn:PySem.W.specialIn K (.builtin "object.__class__") "__get__"=some (some (.builtin "getset_descriptor.__get__"))) (htk:PySem.W.takesIn K (.builtin "object.__class__")=some true)
  (hm:PySem.W.mroIn K C (.type "object")=some true):Ex K H (.ref a) (.ref C)
theorem aD {x:V}{u t:Value}(I:A3 X pins σ H s)(rx:AK x u)(ty:Ex X.K H x t)(e:PySem.W.kitOne X.K t c=some b)(h:∀tk,Q (.bool b) {s with toks:=tk}) :
  wpAny (model X.prog X.w) A (call (.builtin "isinstance") [u,c]) Q E s:=by
 cases ty with
 |non=>cases (show u=Value.none from rx);exact Fe PySem.W.kitx_none I.kIn True.intro e (λz=>nomatch z) h
 |bl y=>cases (show u=Value.bool y from rx);exact Fe PySem.W.kitx_bool I.kIn True.intro e (λz=>nomatch z) h
 |int i=>obtain⟨t,q⟩:=(show ∃t,u=Value.int i t from rx);cases q;exact Fe PySem.W.kitx_int I.kIn True.intro e (λz=>nomatch z) h
 |str y=>obtain⟨t,q⟩:=(show ∃t,u=Value.str y t from rx);cases q;exact Fe PySem.W.kitx_str I.kIn True.intro e (λz=>nomatch z) h
 |flt y=>obtain⟨t,q⟩:=(show ∃t,u=Value.float y t from rx);cases q;exact Fe PySem.W.kitx_float I.kIn True.intro e (λz=>nomatch z) h
 |
  @lst a xs ea=>
  cases (show u=Value.ref a from rx);obtain⟨_,_,n,_,h1⟩:=(show Cb X.prog X.w H s.heap a (.lst xs) from I.hok a _ ea)
  exact Fe PySem.W.kitx_list I.kIn ⟨_,h1,rfl⟩ e (λz=>nomatch z) h
 |
  @frz a ob xs ea=>
  cases (show u=Value.ref a from rx);obtain⟨_,_,_,n,_,h1⟩:=(show Cb X.prog X.w H s.heap a (.frz ob (.lst xs)) from I.hok a _ ea)
  exact Fe PySem.W.kitx_list I.kIn ⟨_,h1,rfl⟩ e (λz=>nomatch z) h
 |
  @tup a xs ea=>
  cases (show u=Value.ref a from rx);obtain⟨_,_,_,p⟩:=(show Cb X.prog X.w H s.heap a (.tup xs) from I.hok a _ ea)
  obtain⟨o,h1,h2,_⟩:=p;exact Fe PySem.W.kitx_tuple I.kIn ⟨o,h1,h2⟩ e (λz=>nomatch z) h
 |
  @dK a kvs ea=>
  cases (show u=Value.ref a from rx);obtain⟨_,_,vs,_,p⟩:=(show Cb X.prog X.w H s.heap a (.dK kvs) from I.hok a _ ea)
  obtain⟨o,es,ep,h1,h2,_⟩:=p;exact Fe PySem.W.kitx_dict I.kIn ⟨o,h1,h2.1⟩ e (λz=>nomatch z) h
 |
  @dT a kvs ea=>
  cases (show u=Value.ref a from rx);obtain⟨_,_,xs,_,o,es,ep,h1,h2,_⟩:=(show Cb X.prog X.w H s.heap a (.dT kvs) from I.hok a _ ea)
  exact Fe PySem.W.kitx_dict I.kIn ⟨o,h1,h2.1⟩ e (λz=>nomatch z) h
 |
  @ins a C dx fs ea cl ha hn htk hm=>
  cases (show u=Value.ref a from rx);obtain⟨mA,O,_⟩:=MD I.hok ea;obtain⟨od,J,_⟩:=O.look;exact Fe (PySem.W.kitx_own (cl.get _) cl.hd ha hn htk hm) I.kIn J e (λz=>nomatch z) h
end
structure Cg (k:Nat)(A:Around):Prop where
 hd:A.handled=none
 dp:A.depth+3*k+5<recursionLimit
 un:A.units+16*k+200<cLine
 gd:A.guards=some []
theorem Cg.mono {j k:Nat}{A:Around}(r:Cg k A)(h:j<=k):Cg j A:=⟨r.hd,by have:=r.dp;lia,by have:=r.un;lia,r.gd⟩
theorem Cg.deeper {k:Nat}{A:Around}(r:Cg (k+1) A)(env:Env):Cg k (A.deeper env):=
 ⟨r.hd,by have:=r.dp;show A.depth+1+3*k+5<_;lia,by have:=r.un;show A.units+3+16*k+200<_;lia,r.gd⟩
theorem XO {A:Around}{C:Addr}{us:List Value}{kw:List (Str×Value)}:(A.under (.builtin "type.__call__" ⟨.ref C::us,kw⟩)).depth=A.depth+1:=by
 first|rfl|simp[Around.under,Code.weight,Code.isCreation,Code.isGuard,Code.isCaller,Code.frames,Code.isFrame,guardIds]
theorem Uz {A:Around}{C:Addr}{us:List Value}{kw:List (Str×Value)}:(A.under (.builtin "type.__call__" ⟨.ref C::us,kw⟩)).units=A.units+1:=by
 first|rfl|simp[Around.under,Code.cUnits,Code.frames,Code.isFrame]
theorem Zu {A:Around}{C:Addr}{us:List Value}{kw:List (Str×Value)}:(A.under (.builtin "type.__call__" ⟨.ref C::us,kw⟩)).guards=A.guards:=by
 have:Code.guards (.builtin "type.__call__" ⟨.ref C::us,kw⟩)=[]:=by first|rfl|simp[Code.guards,Code.isGuard,guardIds]
 show pushGuards (Code.guards (.builtin "type.__call__" ⟨.ref C::us,kw⟩)) A.guards=A.guards;rw[this];cases A.guards<;>rfl
theorem Cg.make {k:Nat}{A:Around}(r:Cg (k+1) A)(C:Addr)(us:List Value)(kw:List (Str×Value)):Cg k (A.under (.builtin "type.__call__" ⟨.ref C::us,kw⟩)):=
 ⟨r.hd,by have:=r.dp;rw[XO];lia,by have:=r.un;rw[Uz];lia,by rw[Zu];exact r.gd⟩
theorem Cg.depth {k:Nat}{A:Around}(r:Cg k A):A.depth<recursionLimit:=by have:=r.dp;lia
theorem Cg.units {k:Nat}{A:Around}(r:Cg k A):A.units+64<cLine:=by have:=r.un;lia
def Hb:TA:=λ_ H Q=>Q [] H
def L6 (ta:TE)(tr:TA):TA:=fun σ H Q=>ta σ H λx H1=>tr σ H1 λxs H2=>Q (x::xs) H2
section
variable {X:Cx}{e:Expr}{es:List Expr}{te:TE}{t:TA}{pos:Pos}
theorem A2:PA X [] Hb:=λ_ _ _ _ H Q I h=>Calls.spliced_nil ⟨[],H,I,.nil,h⟩
theorem A0 (ha:PE X e te)(hr:PA X es t)(hs:starEach (e::es) X.env=(false,eval e X.env)::starEach es X.env:=by rfl):PA X (e::es) (L6 te t):=by
 intro pos pins s σ H Q I h;rw[hs];show wpAny _ _ (spliced ((false,eval e X.env)::backTo pos (starEach es X.env))) _ _ s;refine Calls.spliced_cons (Ay (ha pins s σ H _ I h) λu s1 zz=>?_);obtain⟨x,H1,I1,r1,q1⟩:=zz;refine Ay (hr pos pins s1 σ H1 _ I1 q1) λus s2 zz=>?_;obtain⟨xs,H2,I2,r2,q2⟩:=zz;exact⟨x::xs,H2,I2,.cons r1 r2,q2⟩
def PX (t:TA):TE:=fun σ H Q=>t σ H λxs H1=>xs.length<=sizeLine/\∀p,H1 p=none->Q (.ref p) (upd H1 p (.tup xs))
def SA (t:TA):TE:=fun σ H Q=>t σ H λxs H1=>xs.length<=sizeLine/\∀p,H1 p=none->Q (.ref p) (upd H1 p (.lst xs))
theorem BS {x1}(h:PA X es t):PE X (.Tuple es x1 pos) (PX t):=by
 intro pins s σ H Q I hq;refine wpAny_Tuple_spliced (Ay (h pos pins s σ H _ I hq) λus s1 zz=>?_);obtain⟨xs,H1,I1,r,z,q⟩:=zz;refine⟨by rw[←r.length];exact z,?_⟩;have hf:H1 s1.heap.objs.size=none:=I1.hok.fresh (Al _);refine⟨.ref s1.heap.objs.size,upd H1 s1.heap.objs.size (.tup xs),I1.laid (t':=s1.toks) (λb u e=>B2 _ e) (Al _) ?_,rfl,q _ hf⟩;exact⟨z,us,r,⟨_,CN _ rfl,rfl,⟨_,rfl⟩,rfl⟩⟩
theorem By (h:PA X es t):PE X (.List es pos) (SA t):=by
 intro pins s σ H Q I hq;refine wpAny_List_spliced (Ay (h pos pins s σ H _ I hq) λus s1 zz=>?_);obtain⟨xs,H1,I1,r,z,q⟩:=zz;refine⟨by rw[←r.length];exact z,?_⟩;have hf:H1 s1.heap.objs.size=none:=I1.hok.fresh (Al _);refine⟨.ref s1.heap.objs.size,upd H1 s1.heap.objs.size (.lst xs),I1.laid (t':=s1.toks) (λb u e=>B2 _ e) (Al _) ?_,rfl,q _ hf⟩;exact⟨z,us,0,r,CN _ rfl⟩
end
abbrev Sp:=List V->Hp->VK->XK->Prop
abbrev Ej:=List Env->Hp->Shared->XK->Value->Shared->Prop
structure Hm (P:Program)(w:World)(K:Faa)(mg:Str->Option Value)(base:Heap)(A:Around)(outer:List Env)(s:Shared)(H:Hp):Prop where
 frames:A.frames=some outer
 mod:Mod K mg base
 bs:∀b o,base.get? b=some o->s.heap.get? b=some o/\H b=none
 bsz:base.objs.size<=s.heap.objs.size
 funs:s.heap.FunFrames base outer
 frf:∀b∈DV outer,H b=none
 hok:BR P w H s.heap
 bare:AllBare s.gens
def CE (outer:List Env)(P:Program)(w:World)(H:Hp)(s:Shared)(Q:VK)(u:Value)(s':Shared):Prop:=
 ∃v H',s'.os=s.os/\AllBare s'.gens/\Un (DV outer) [] H H' s.heap s'.heap/\BR P w H' s'.heap/\AK v u/\Q v H'
def CR (CX:Ej)(outer:List Env)(P:Program)(w:World)(H:Hp)(s:Shared)(Q:VK)(E:XK)(r:Result)(s':Shared):Prop:=
 match r with
 |.ok (.ret u)=>CE outer P w H s Q u s'
 |.ok _=>False
 |.error e=>CX outer H s E e s'
structure AM (P:Program)(w:World)(K:Faa)(mg:Str->Option Value)(base:Heap)(CX:Ej)(k:Nat)(f:Addr)(fd:FuncData)(ps:List Str)(sp:Sp):Prop where
 len:∀vs H Q E,sp vs H Q E->vs.length=ps.length
 run:∀(A:Around) (outer:List Env) (s:Shared) (H:Hp) (args:Args) (us:List Value) (vs:List V) (Q:VK) (E:XK),Cg k A->Hm P w K mg base A outer s H->BindsTo s fd args (ps.zip us)->Au vs us->sp vs H Q E->
  codeAny (model P w) A (.call (.ref f) args) (CR CX outer P w H s Q E) s
theorem Hm.make {P:Program}{w:World}{K:Faa}{mg:Str->Option Value}{base:Heap}{A:Around}{outer:List Env}{s:Shared}{H:Hp}(e:Hm P w K mg base A outer s H)(C:Addr)(us:List Value)(kw:List (Str×Value)) :
 Hm P w K mg base (A.under (.builtin "type.__call__" ⟨.ref C::us,kw⟩)) outer s H:=⟨by first|exact e.frames|(simpa[Around.under,Code.envs,Code.isFrame,pushEnvs] using e.frames),e.mod,e.bs,e.bsz,e.funs,e.frf,e.hok,e.bare⟩
section
variable {X:Cx}{pins:List (Addr×Obj)}{σ:St}{H:Hp}{s s':Shared}
theorem A3.env0 (I:A3 X pins σ H s):Hm X.prog X.w X.K X.mg X.base X.A X.stack s H:=
 ⟨I.ok.frames,I.ok.mod,I.bs,Ey I.ok.bsz I.sz,I.stack,I.stkFree,I.hok,I.bare⟩
theorem A3.after {Q:VK}{u:Value}(I:A3 X pins σ H s)(h:CE X.stack X.prog X.w H s Q u s'):EP X pins σ Q u s':=by
 obtain⟨v,H',os,bare,un,hok,r,q⟩:=h;obtain⟨hh,g,d,t,os'⟩:=s';obtain rfl:os'=s.os:=os;exact⟨v,H',I.call (h':=hh) (g':=g) (d':=d) (t':=t) (ch:=[]) un hok bare (λb z=>absurd z (by simp)),r,q⟩
end
def cE (sp:Sp)(dvs:List V)(E:XK)(t:TA):TE:=fun σ H Q=>t σ H λvs H1=>sp (vs++dvs) H1 Q E
def LS (C:Addr)(m:Str)(sp:Sp)(dvs:List V)(E:XK)(ta:TE)(t:TA):TE:=fun σ H Q=>ta σ H λx H1=>∃a dx fs,x = .ref a/\H1 a=some (.ins C dx fs)/\fs.lookup m=none/\
 t σ H1 λvs H2=>sp (x::(vs++dvs)) H2 Q E
def Z1 (C:Addr)(sp:Sp)(dvs:List V)(E:XK)(t:TA):TE:=fun σ H Q=>t σ H λvs H1=>∀x dx,H1 x=none->H1 dx=none->dx≠x->
 sp (.ref x::(vs++dvs)) (upd (upd H1 dx (.own x)) x (.ins C dx [])) (λv H2=>v = .non/\Q (.ref x) H2) E
def AO (K:Faa)(fd:FuncData)(ps:List Str)(ds:List Value):Prop:=
 ∀(s:Shared) (us:List Value),K.In s.heap->(us++ds).length=ps.length->BindsTo s fd ⟨us,[]⟩ (ps.zip (us++ds))
theorem AO.all {K:Faa}{fd:FuncData}{ps:List Str}(h:∀us:List Value,us.length=ps.length->bindArgs fd ⟨us,[]⟩=pure (ps.zip us)):AO K fd ps []:=λs us _ hl=>by
 rw[CK]at hl ⊢;exact .of_eq (h us hl)
def IC (CX:Ej)(X:Cx)(E:XK):Prop := ∀(pins:List (Addr×Obj)) (σ:St) (H:Hp) (s:Shared) (e:Value) (s':Shared),A3 X pins σ H s->CX X.stack H s E e s'->X.xe e s'
section
variable {X:Cx}{CX:Ej}{k:Nat}{f C:Addr}{fd:FuncData}{ps:List Str}{sp:Sp}{dvs:List V}{ds:List Value}{E:XK}{x m:Str}{p pos apos:Pos}{e o:Expr}{es:List Expr}{ta:TE}{t:TA}
theorem R4 {pins:List (Addr×Obj)}{σ:St}{H:Hp}{s:Shared}{Q:VK}{us:List Value}{vs:List V}(F:AM X.prog X.w X.K X.mg X.base CX k f fd ps sp)(hr:Cg k X.A)(hb:AO X.K fd ps ds)(hd:Au dvs ds)(hx:IC CX X E)
  (I:A3 X pins σ H s) (r:Au vs us) (h:sp (vs++dvs) H Q E):wpAny (model X.prog X.w) X.A (call (.ref f) us) (EP X pins σ Q) X.xe s:=by
 have r2:Au (vs++dvs) (us++ds):=r.append hd;have hl:(us++ds).length=ps.length:=by rw[←r2.length];exact F.len _ _ _ _ h
 refine Jq (N1 (F.run X.A X.stack s H ⟨us,[]⟩ (us++ds) (vs++dvs) Q E hr I.env0 (hb s us I.kIn hl) r2 h) λr s' hq=>?_);cases r with
 |error e=>exact hx pins σ H s e s' I hq
 |
  ok fl=>
  cases fl with
  |ret u=>exact I.after hq
  |next=>exact False.elim hq
  |brk=>exact False.elim hq
  |cont=>exact False.elim hq
theorem Az (F:AM X.prog X.w X.K X.mg X.base CX k f fd ps sp)(hr:Cg k X.A)(hg:Gl X x)(hm:X.mg x=some (.ref f))(hk:PySem.W.keepIn X.K (.ref f)=true)(hb:AO X.K fd ps ds)(hd:Au dvs ds)(hx:IC CX X E)
  (ha:PA X (e::es) t) (hdb:(x==("__debug__":Str))=false:=by decide) (he:starEach (e::es) X.env=(false,eval e X.env)::starEach es X.env:=by rfl) (hpl:(backTo pos (starEach es X.env)).any (·.1)=false:=by rfl) :
  PE X (.Call (.Name x p) (e::es) [] pos) (cE sp dvs E t):=by
 intro pins s σ H Q I h;refine Jr (HF I hg hm ?_ hdb);refine SU (h₀:=X.base) I.ok.mod.kin hk (Ay (ha pos pins s σ H _ I h) λus s1 zz=>?_) he hpl;obtain⟨vs,H1,I1,r,q⟩:=zz;refine⟨I1.kIn,?_⟩;exact R4 F hr hb hd hx I1 r q
theorem FV {pl:Sem Bool}(he:PE X o ta)(c:DX X.K C)(hm:JL X.K C m f)(F:AM X.prog X.w X.K X.mg X.base CX k f fd ps sp)(hr:Cg k X.A)(hb:AO X.K fd ps ds)(hd:Au dvs ds)(hx:IC CX X E)
  (ht:eval (.Call (.Attribute o m apos) [] [] pos) X.env=(do
   let ov ←eval o X.env
   standAt apos.atName
   let (f,first) ←holding [ov] (getMethod ov m pl)
   callWith pos f first (backTo pos (starEach [] X.env)) (backToKw pos (keywordEach [] X.env))):=by rfl) :
  PE X (.Call (.Attribute o m apos) [] [] pos) (LS C m sp dvs E ta Hb):=by
 intro pins s σ H Q I h;refine PySem.W.methodCall_KW (pl:=pl) (Ay (he pins s σ H _ I h) λu s1 zz=>?_) ht;obtain⟨x,H1,I1,rx,a,dx,fs,ex,ea,l,q⟩:=zz;subst ex;obtain rfl:u=Value.ref a:=rx;refine Z4 I1 ea c hm l ?_;exact PySem.W.callWith_K0 (first:=[.ref a]) I1.kIn hm.kp (R4 (us:=[.ref a]) (vs:=[.ref a]) F hr hb hd hx I1 (.cons rfl .nil) q)
structure Mk (K:Faa)(C f:Addr):Prop where
 makes:PySem.W.makesIn K C=true
 init:PySem.W.findIn K (.ref C) "__init__"=some (some (.ref f))
 fn:PySem.W.isFn K (.ref f)=true
 kp:PySem.W.keepIn K (.ref C)=true
theorem YW {pins:List (Addr×Obj)}{σ:St}{H:Hp}{s:Shared}{Q:VK}{us:List Value}{vs:List V}(M:Mk X.K C f)(F:AM X.prog X.w X.K X.mg X.base CX k f fd ps sp)(hr:Cg (k+1) X.A)(hb:AO X.K fd ps ds)(hd:Au dvs ds)
  (hx:IC CX X E) (I:A3 X pins σ H s) (r:Au vs us)
  (h:∀x dx,H x=none->H dx=none->dx≠x->sp (.ref x::(vs++dvs)) (upd (upd H dx (.own x)) x (.ins C dx [])) (λv H2=>v = .non/\Q (.ref x) H2) E) :
  wpAny (model X.prog X.w) X.A (call (.ref C) us) (EP X pins σ Q) X.xe s:=by
 have hq:=h (s.heap.objs.size+1) s.heap.objs.size (I.hok.fresh (FF _)) (I.hok.fresh (Al _)) (BQ (HV _));have I2:=A3.made (C:=C) I;have r2:Au (V.ref (s.heap.objs.size+1)::(vs++dvs)) (Value.ref (s.heap.objs.size+1)::(us++ds)):=.cons rfl (r.append hd);have hl:(Value.ref (s.heap.objs.size+1)::us++ds).length=ps.length:=by
  have e:=r2.length;rw[F.len _ _ _ _ hq]at e;exact e.symm
 refine Jq (Vm (f:=f) I.kIn M.makes M.init (Gk.mp M.fn) (N1 (F.run _ X.stack _ _ ⟨Value.ref (s.heap.objs.size+1)::us,[]⟩ (Value.ref (s.heap.objs.size+1)::(us++ds)) _ _ E (hr.make C us [])
  (I2.env0.make C us []) (hb _ (Value.ref (s.heap.objs.size+1)::us) I2.kIn hl) r2 hq) λr s' hq'=>?_))
 cases r with
 |error e=>exact hx pins σ _ _ e s' I2 hq'
 |
  ok fl=>
  cases fl with
  |
   ret u=>
   obtain⟨v,H',I3,rv,ev,q3⟩:=I2.after hq';subst ev;exact⟨rv,⟨V.ref (s.heap.objs.size+1),H',I3,rfl,q3⟩⟩
  |next=>exact False.elim hq'
  |brk=>exact False.elim hq'
  |cont=>exact False.elim hq'
theorem JN (M:Mk X.K C f)(F:AM X.prog X.w X.K X.mg X.base CX k f fd ps sp)(hr:Cg (k+1) X.A)(hg:Gl X x)(hm:X.mg x=some (.ref C))(hb:AO X.K fd ps ds)(hd:Au dvs ds)(hx:IC CX X E)
  (ha:PA X (e::es) t) (hdb:(x==("__debug__":Str))=false:=by decide) (he:starEach (e::es) X.env=(false,eval e X.env)::starEach es X.env:=by rfl) (hpl:(backTo pos (starEach es X.env)).any (·.1)=false:=by rfl) :
  PE X (.Call (.Name x p) (e::es) [] pos) (Z1 C sp dvs E t):=by
 intro pins s σ H Q I h;refine Jr (HF I hg hm ?_ hdb);refine SU (h₀:=X.base) I.ok.mod.kin M.kp (Ay (ha pos pins s σ H _ I h) λus s1 zz=>?_) he hpl;obtain⟨vs,H1,I1,r,q⟩:=zz;refine⟨I1.kIn,?_⟩;exact YW M F hr hb hd hx I1 r q
end
section
variable {X:Cx}{CX:Ej}{k:Nat}{f C:Addr}{fd:FuncData}{ps ks:List Str}{sp:Sp}{E:XK}{x m:Str}{p pos apos kpos:Pos}{e o:Expr}{es:List Expr}{kws:List Keyword}{te ta:TE}{t tk:TA}{nm:Option Str}
variable {g:List Value->List Value->List Value}{gV:List V->List V->List V}
end
structure AV (N P:List Str)(sc:Scope):Prop where
 kind:sc.kind = .function
 co:sc.isCoroutine=false
 gen:sc.isGenerator=false
 nd:N.Nodup
 pre:N.take P.length=P
 par:∀x∈P,sc.names.lookup x=some .local\/sc.names.lookup x=some .cell
 nofree:∀y∈sc.names,y.2≠.free
theorem QK {kindOf:Str->Option NameKind}{x:Str}:∀{binds:List (Str×Value)} {m:Str->Option Value},(∀v,(x,v)∉binds)->bindL kindOf binds m x=m x
 |[],_,_=>rfl
 |
  (n,v)::r,m,h=>by
  unfold bindL;rw[QK λw hw=>h w (CF _ hw)];split
  .have:x≠n:=by rintro rfl;exact h v Cq
   simp[this]
  .rfl
theorem QM {kindOf:Str->Option NameKind}{x:Str}:∀{binds:List (Str×Value)} {m:Str->Option Value},(∀v,(x,v)∉binds)->bindC kindOf binds m x=m x
 |[],_,_=>rfl
 |
  (n,v)::r,m,h=>by
  unfold bindC;rw[QM λw hw=>h w (CF _ hw)];split
  .rfl
  .have:x≠n:=by rintro rfl;exact h v Cq
   simp[this]
theorem So {kindOf:Str->Option NameKind}{x:Str}{v:Value}:∀{P:List Str} {vs:List Value} {i:Nat} {m:Str->Option Value},P.Nodup->P[i]?=some x->vs[i]?=some v->kindOf x=some .local->
  bindL kindOf (P.zip vs) m x=some v
 |[],_,_,_,_,h,_,_=>by simp at h
 |_::_,[],_,_,_,_,h,_=>by simp at h
 |
  p::P,w::vs,0,m,nd,h1,h2,hk=>by
  simp at h1 h2;subst h1;subst h2;show bindL kindOf ((p,w)::P.zip vs) m p=_;unfold bindL;rw[QK λv hv=>(Ji.mp nd).1 (SV hv).1,Av hk];simp
 |
  p::P,w::vs,i+1,m,nd,h1,h2,hk=>by
  show bindL kindOf ((p,w)::P.zip vs) m x=_;unfold bindL;exact So (i:=i) (Ji.mp nd).2 (by simpa using h1) (by simpa using h2) hk
theorem Rx {kindOf:Str->Option NameKind}{x:Str}{v:Value}:∀{P:List Str} {vs:List Value} {i:Nat} {m:Str->Option Value},P.Nodup->P[i]?=some x->vs[i]?=some v->kindOf x≠some .local->
  bindC kindOf (P.zip vs) m x=some v
 |[],_,_,_,_,h,_,_=>by simp at h
 |_::_,[],_,_,_,_,h,_=>by simp at h
 |
  p::P,w::vs,0,m,nd,h1,h2,hk=>by
  simp at h1 h2;subst h1;subst h2;show bindC kindOf ((p,w)::P.zip vs) m p=_;unfold bindC;rw[QM λv hv=>(Ji.mp nd).1 (SV hv).1,Aw hk];simp
 |
  p::P,w::vs,i+1,m,nd,h1,h2,hk=>by
  show bindC kindOf ((p,w)::P.zip vs) m x=_;unfold bindC;exact Rx (i:=i) (Ji.mp nd).2 (by simpa using h1) (by simpa using h2) hk
def start (N:List Str)(vs:List V):St:=vs.map some++List.replicate (N.length-vs.length) none
def GG (CX:Ej)(P:Program)(w:World)(K:Faa)(mg:Str->Option Value)(base:Heap)(N:List Str)(qual:Str)(scope:Scope)(f:Addr)(cd:Value)(A:Around)(outer:List Env)(s:Shared)(H:Hp)(E:XK):Cx where
 prog:=P
 w:=w
 K:=K
 mg:=mg
 base:=base
 A:=A.deeper (envOfC qual scope s.heap.objs.size f cd)
 N:=N
 s₀:=s
 H₀:=H
 env:=envOfC qual scope s.heap.objs.size f cd
 outer:=outer
 stack:=envOfC qual scope s.heap.objs.size f cd::outer
 ex:=[]
 calm:=true
 fn:=λ_=>true
 pn:=[]
 xe:=λe s'=>wpAny (model P w) (A.deeper (envOfC qual scope s.heap.objs.size f cd)) (leaving (envOfC qual scope s.heap.objs.size f cd) e) (λ_ s''=>CX outer H s E e s'') (λe' s''=>CX outer H s E e' s'') s'
theorem Po {sc:Scope}{n:Nat}{x:Str}(h:sc.names.lookup x=some .cell):∃c,(cellsFrom n sc.names []).lookup x=some c:=by
 have q:=PySem.W.cellsFrom_some sc.names n [] (.inl h);exact Option.isSome_iff_exists.mp q
theorem ZK {CX:Ej}{P:Program}{w:World}{K:Faa}{mg:Str->Option Value}{base:Heap}{N ps:List Str}{qual:Str}{scope:Scope}{f:Addr}{cd:Value}{A:Around}{outer:List Env}{s s1:Shared}{H:Hp}{E:XK}{us:List Value}{vs:List V}
  (S:AV N ps scope) (hd:A.handled=none) (e0:Hm P w K mg base A outer s H) (hl:vs.length=ps.length) (r:Au vs us)
  (x:InCallC s s.heap.objs.size (bindL (envOfC qual scope s.heap.objs.size f cd).kindOf (ps.zip us) λ_=>none) (cellsFrom (s.heap.objs.size+1) scope.names []) (bindC (envOfC qual scope s.heap.objs.size f cd).kindOf (ps.zip us) λ_=>none) s1) :
  A3 (GG CX P w K mg base N qual scope f cd A outer s H E) [] (start N vs) H s1:=by
 have hpl:ps.length<=N.length:=by have:=congrArg List.length S.pre;rw[BE]at this;lia
 obtain⟨h1,tk,rfl,hk⟩:=x.done;have noA:∀b:Addr,b∉(GG CX P w K mg base N qual scope f cd A outer s H E).ex:=λb z=>absurd (show b∈([]:List Addr) from z) (by simp);refine⟨⟨e0.mod,S.kind,rfl,rfl,Al _,λy z c h1 h2=>?_,λy hy=>?_,λy c _ h=>?_,λ_=>hd,Around.frames_deeper e0.frames,.inr ⟨rfl,rfl⟩,λb z=>absurd z (noA b),e0.bs,e0.bsz,λb _ _=>noA b,λb z=>absurd z (noA b),e0.funs,e0.frf⟩,
  rfl,e0.bare,Un.kept hk,⟨_,x.toInCall.ns,λi y v h1 h2 h3=>?_⟩,λy c h=>⟨_,x.cell y c h⟩,e0.hok.fresh (Al _),λy c h=>?_,λp hp=>absurd (show p∈([]:List (Addr×Obj)) from hp) (by simp),e0.hok.kept hk,?_⟩
 .exact name_of_addr x.apart (MI h1) (MI h2)
 .have hy:scope.names.lookup y=some .cell\/scope.names.lookup y=some .free:=hy;rcases hy with hy|hy
  .exact Po hy
  .exact absurd rfl (S.nofree _ (MI hy))
 .exact Fc (x.above y c (MI h))
 .have hi:i<vs.length:=by
   unfold start at h2;by_cases hi:i<vs.length
   .exact hi
   .rw[Ck (by simpa using hi)]at h2;rw[List.getElem?_replicate]at h2;split at h2<;>cases h2
  have ha:vs[i]?=some v:=by
   unfold start at h2;rw[CH (by simpa using hi),Bf]at h2;cases e:vs[i]? with
   |none=>rw[e]at h2;cases h2
   |some a=>rw[e]at h2;cases h2;rfl
  obtain⟨u,hu,rv⟩:=r.get ha;have hp:ps[i]?=some y:=by
   rw[←S.pre,HW (by lia)];exact h1
  have ndP:ps.Nodup:=by rw[←S.pre];exact S.nd.sublist (List.take_sublist _ _)
  refine⟨u,rv,?_⟩;rcases S.par y (AY hp) with k|k
  .exact .inl ⟨k,So ndP hp hu k⟩
  .obtain⟨c,e⟩:=Po (n:=s.heap.objs.size+1) k;refine .inr ⟨.inl k,c,e,?_⟩;have q:=x.cell y c e;rw[Rx ndP hp hu (by show scope.names.lookup y≠_;rw[k];decide)]at q;exact q
 .exact e0.hok.fresh (Fc (x.above y c (MI h)))
 .unfold start;show _=N.length;rw[Ao,Af,Dl];lia
theorem RP {CX:Ej}{P:Program}{w:World}{K:Faa}{mg:Str->Option Value}{base:Heap}{k:Nat}{f:Addr}{name qual:Str}{params:Arguments}{body:List Stmt}{scope:Scope}{dV kV doc pm cdv ct oc:Value}{an od:Option Addr}
  {osl:Array (Option Value)} {N ps:List Str} {sp:Sp} (lk:K.lookup f=some ⟨oc,od,.func (PySem.W.fnOf name qual params body scope dV kV doc pm an cdv ct),osl⟩) (hcd:PySem.W.codeIn K cdv qual=true) (S:AV N ps scope)
  (len:∀vs H Q E,sp vs H Q E->vs.length=ps.length)
  (hbody:∀(A:Around) (outer:List Env) (s:Shared) (H:Hp) (vs:List V) (Q:VK) (E:XK),Cg k (A.deeper (envOfC qual scope s.heap.objs.size f cdv))->sp vs H Q E->
   ∃t,Dx (GG CX P w K mg base N qual scope f cdv A outer s H E) body t/\t {nx:=λ_ H'=>Q .non H',rt:=Q} (start N vs) H) :
  AM P w K mg base CX (k+1) f (PySem.W.fnOf name qual params body scope dV kV doc pm an cdv ct) ps sp:=by
 refine⟨len,λA outer s H args us vs Q E hr e0 hb r hsp=>?_⟩;have hl:=len _ _ _ _ hsp;have KX:K.In s.heap:=e0.mod.kin.keeps λb o e=>(e0.bs b o e).1;have lim:s.heap.NoLimit:=e0.mod.nolimit.keeps λb o e=>(e0.bs b o e).1;have hkind:∀y∈ps.zip us,scope.names.lookup y.1=some .local\/(scope.names.lookup y.1=some .cell/\((cellsFrom (s.heap.objs.size+1) scope.names []).lookup y.1).isSome=true):=fun⟨n,v⟩ hy=>by
  rcases S.par n (SV hy).1 with q|q
  .exact .inl q
  .exact .inr ⟨q,PySem.W.cellsFrom_some _ _ _ (.inl q)⟩
 refine codeAny_call_function hr.depth (KX _ _ lk) rfl S.co S.gen rfl (PySem.W.codeRec_of KX hcd) (hb _ _ _ _ ?_);refine wpAny_newFunctionEnv_cells S.kind hkind λenv he s1 x=>?_;subst he;refine⟨lim.keeps x.toInCall.keep,codeAny_func ?_⟩;obtain⟨t,ht,hq⟩:=hbody A outer s H vs Q E (hr.deeper _) hsp;have I:A3 (GG CX P w K mg base N qual scope f cdv A outer s H E) [] (start N vs) H s1:=ZK S hr.hd e0 hl r x;refine Dm (ht [] s1 (start N vs) H _ I hq) (λfl s' hs=>?_) λe s' hs=>hs;have fin:∀{σ':St} {H':Hp} {v:V} {u:Value},A3 (GG CX P w K mg base N qual scope f cdv A outer s H E) [] σ' H' s'->AK v u->Q v H'->CE outer P w H s Q u s':=
  fun{σ' H' v u} J rv q=>⟨v,H',J.os,J.bare,J.base,J.hok,rv,q⟩
 cases fl with
 |
  ret u=>
  obtain⟨v,σ',H',J,rv,q⟩:=hs;exact fin J rv q
 |
  next=>
  obtain⟨σ',H',J,q⟩:=hs;exact fin (v:=V.non) (u:=Value.none) J rfl q
 |
  brk=>
  obtain⟨_,_,_,q⟩:=hs;exact False.elim q
 |
  cont=>
  obtain⟨_,_,_,q⟩:=hs;exact False.elim q
section
variable {X:Cx}{x:Str}{p pos:Pos}{e:Expr}{es:List Expr}{t:TA}{id T:String}{r:List V->Hp->VK->Prop}
def NV (r:List V->Hp->VK->Prop)(t:TA):TE:=fun σ H Q=>t σ H λvs H1=>r vs H1 Q
theorem AZ (hc:Eg X (.builtin id) r)(hg:Gl X x)(hm:X.mg x=none)(hv:bootBuiltins x=some (.builtin id))(ha:PA X (e::es) t)(hn:x≠"__name__":=by decide)(hdb:(x==("__debug__":Str))=false:=by decide)
  (he:starEach (e::es) X.env=(false,eval e X.env)::starEach es X.env:=by rfl) (hpl:(backTo pos (starEach es X.env)).any (·.1)=false:=by rfl):PE X (.Call (.Name x p) (e::es) [] pos) (NV r t):=by
 intro pins s σ H Q I h;refine Jr (FW I hg hm hv ?_ hn hdb);refine PyProof.Rows.callWith_builtin1 (Ay (ha pos pins s σ H _ I h) λus s1 zz=>?_) he hpl;obtain⟨vs,H1,I1,r1,q1⟩:=zz;exact hc pins s1 σ H1 vs us Q I1 r1 q1
theorem E9 (hc:Eg X (.type T) r)(hg:Gl X x)(hm:X.mg x=none)(hv:bootBuiltins x=some (.type T))(ha:PA X (e::es) t)(hn:x≠"__name__":=by decide)(hdb:(x==("__debug__":Str))=false:=by decide)
  (he:starEach (e::es) X.env=(false,eval e X.env)::starEach es X.env:=by rfl) (hpl:(backTo pos (starEach es X.env)).any (·.1)=false:=by rfl):PE X (.Call (.Name x p) (e::es) [] pos) (NV r t):=by
 intro pins s σ H Q I h;refine Jr (FW I hg hm hv ?_ hn hdb);refine Jg (Ay (ha pos pins s σ H _ I h) λus s1 zz=>?_) he hpl;obtain⟨vs,H1,I1,r1,q1⟩:=zz;exact hc pins s1 σ H1 vs us Q I1 r1 q1
end
end L2
namespace HT
open PySem PyProof.Rows
def lexLt:List Int->List Int->Bool
 |[],[]=>false
 |[],_::_=>true
 |_::_,[]=>false
 |x::xs,y::ys=>if x=y then lexLt xs ys else decide (x<y)
theorem c9 (x y:Int)(xs ys:List Int):lexLt (x::xs) (y::ys)=if x=y then lexLt xs ys else decide (x<y):=rfl
theorem UY:lexLt [] []=false:=rfl
theorem Wa (y:Int)(ys:List Int):lexLt [] (y::ys)=true:=rfl
theorem TR (x:Int)(xs:List Int):lexLt (x::xs) []=false:=rfl
theorem af (A:Around)(s:Shared)(a:Int)(t:Tok)(c:Int)(u:Tok):∃e,SeqAt.EqAt A s (.int a t) (.int c u) e/\(e=true↔a=c):=
 ⟨(a==c),SeqAt.EqAt.int_int a t c u,by simp⟩
theorem Zs (A:Around)(s:Shared)(a:Int)(t:Tok)(c:Int)(u:Tok)(prog:Program)(w:World)(E:Value->Shared->Prop)(Q:Value->Shared->Prop)(h:Q (.bool (decide (a<c))) s) :
  wpAny (model prog w) A (richCompare .Lt (.int a t) (.int c u)) Q E s:=
 (PyProof.Rows.lt_int h:wpAny (model prog w) A (compareOp .Lt (.int a t) (.int c u)) Q E s)
section
open PySem.SeqAt
open PySem.AutoSeq1 (wpAny_loadPart')
open PySem.MeetsSeq PySem.MeetsSeq2 PySem.MeetsSeq3
theorem Uj (l b:Addr)(items items2:Array Value)(n n2:Nat)(dd dd2:Option Addr)(sl sl2:Array (Option Value))(ns ms:List Int)(hi:IntsAre items.toList ns)(hj:IntsAre items2.toList ms) :
  Meets (Builtin.«tuple.__lt__» ⟨[.ref l,.ref b],[]⟩)
   (λ_ R s=>s.heap.get? l=some {cls:=.type "tuple",dict:=dd,data:=.seq items n,slots:=sl}/\s.heap.get? b=some {cls:=.type "tuple",dict:=dd2,data:=.seq items2 n2,slots:=sl2}/\
    R (.ok (.ret (.bool (lexLt ns ms)))) s):=
 .of_wp λprog w A R s h=>by
  obtain⟨hp,g,d,tk,os⟩:=s;obtain⟨hl,hb,h⟩:=h;have f2:=AutoSeq1.sub_tuple_tuple;have z1:items.size=ns.length:=by rw[←hi.length];simp
  have z2:items2.size=ms.length:=by rw[←hj.length];simp
  wp_walk using wpAny_loadPart' hl,wpAny_loadPart' hb,wpAny_forIn_list _ (λrest b s'=>b.1=none/\s'=⟨hp,g,d,tk,os⟩/\∃(vs ws:List Value) (ns' ms':List Int),rest=vs.zip ws/\
   IntsAre vs ns'/\IntsAre ws ms'/\ns'.length+items2.size=ms'.length+items.size/\R (.ok (.ret (.bool (lexLt ns' ms')))) ⟨hp,g,d,tk,os⟩) _
  case turn=>
   rintro ⟨y,x⟩ rest b s' ⟨hb',rfl,vs,ws,ns',ms',hz,hvi,hwi,hlen,hR⟩;cases hvi with
   |nil=>rw[List.zip_nil_left]at hz;cases hz
   |
    cons a t hvi'=>
    cases hwi with
    |nil=>rw[List.zip_nil_right]at hz;cases hz
    |
     cons c u hwi'=>
     rw[List.zip_cons_cons]at hz;injection hz with hyx hrest;injection hyx with hy hx;subst hy hx;rw[c9]at hR;simp only[BH]at hlen;obtain⟨e,he,hiff⟩:=af A.in1 ⟨hp,g,d,tk,os⟩ a t c u;refine Ag (he prog w _ _ ?_);cases e with
     |
      true=>
      rw[Av (hiff.mp rfl)]at hR
      wp_walk
      exact⟨rfl,rfl,_,_,_,_,hrest,hvi',hwi',by lia,hR⟩
     |
      false=>
      rw[Aw (λq=>absurd (hiff.mpr q) CG)]at hR;have hri:=Zs A.in1 ⟨hp,g,d,tk,os⟩ a t c u prog w
      wp_walk using hri
      exact⟨_,rfl,by simpa using hR⟩
  case fin=>
   rintro ⟨b1,b2⟩ s' ⟨hb',rfl,vs,ws,ns',ms',hz,hvi,hwi,hlen,hR⟩;simp only at hb';subst hb';have hv:lexLt ns' ms'=decide (items.size<items2.size):=by
    cases hvi with
    |
     nil=>
     cases hwi with
     |
      nil=>
      simp only[MJ]at hlen;rw[UY];exact(C2 (by lia)).symm
     |
      cons c u hw=>
      simp only[MJ,BH]at hlen;rw[Wa];exact(BB (by lia)).symm
    |
     cons a t hv=>
     cases hwi with
     |
      nil=>
      simp only[MJ,BH]at hlen;rw[TR];exact(C2 (by lia)).symm
     |
      cons c u hw=>
      rw[List.zip_cons_cons]at hz;cases hz
   rw[hv]at hR
   wp_walk
   exact⟨_,rfl,by simpa[Builtin.Tuple.tupleCompareSizes] using hR⟩
  case h=>
   exact⟨rfl,rfl,items.toList,items2.toList,ns,ms,rfl,hi,hj,by lia,h⟩
end
section
variable {prog:Program}{w:World}{A:Around}{E:Value->Shared->Prop}{s:Shared}
theorem lt_tupInts {l b:Addr}{items items2:Array Value}{ns ms:List Int}{Q:Value->Shared->Prop}(hl:IsTup s.heap l items)(hb:IsTup s.heap b items2)(hi:IntsAre items.toList ns)(hj:IntsAre items2.toList ms)
  (hu:A.units<cLine) (h:Q (.bool (lexLt ns ms)) s):wpAny (model prog w) A (compareOp .Lt (.ref l) (.ref b)) Q E s:=by
 obtain⟨⟨cls,dd,data,sl⟩,ho,hc,n,hd⟩:=id hl;obtain⟨⟨cls2,dd2,data2,sl2⟩,ho2,hc2,n2,hd2⟩:=id hb;simp only at hc hd hc2 hd2;subst hc hd hc2 hd2;exact richCompare_meets_room (op:=.Lt) ⟨_,ho,rfl⟩ ⟨_,ho2,rfl⟩ PySem.F.slot_tuple_lt PySem.F.entry_tuple_lt (PySem.F.args_tuple_lt_2 _ _) (Uj l b items items2 n n2 dd dd2 sl sl2 ns ms hi hj)
  ⟨ho,ho2,show Value.bool (lexLt ns ms)≠Value.notImplemented/\Q (.bool (lexLt ns ms)) s from⟨(λx=>nomatch x),h⟩⟩ hu
theorem cat_tup {t b:Addr}{vs ws:List Value}{Q:Value->Shared->Prop}(ht:IsTup s.heap t vs.toArray)(hb:IsTup s.heap b ws.toArray)(hv:vs≠[])
  (h1:ws=[]->Q (.ref t) s) (h2:ws≠[]->Q (.ref s.heap.objs.size) {s with heap:=s.heap.push {cls:=.type "tuple",data:=.seq (vs++ws).toArray}})
  (hsz:vs.length+ws.length<=sizeLine):wpAny (model prog w) A (binaryOp .Add (.ref t) (.ref b)) Q E s:=by
 obtain⟨⟨cls,dd,data,sl⟩,ho,hc,n,hd⟩:=id ht;obtain⟨⟨cls2,dd2,data2,sl2⟩,ho2,hc2,n2,hd2⟩:=id hb;simp only at hc hd hc2 hd2;subst hc hd hc2 hd2;have e:vs.toArray++ws.toArray=(vs++ws).toArray:=by simp
 by_cases hw:ws=[]
 .exact concat_meets ⟨_,ho,rfl⟩ ⟨_,ho2,rfl⟩ Ti seq_tuple_add SW SX (SY _ _)
   (tuple_addW1 t b vs.toArray ws.toArray n n2 dd dd2 sl sl2 (by simpa using hv) (by simp[hw])) ⟨ho,ho2,h1 hw⟩
 .refine concat_meets ⟨_,ho,rfl⟩ ⟨_,ho2,rfl⟩ Ti seq_tuple_add SW SX (SY _ _)
   (tuple_addW2 t b vs.toArray ws.toArray n n2 dd dd2 sl sl2 (by simpa using hv) (by simpa using hw) (by rw[Bh,Bh];exact hsz)) ⟨ho,ho2,?_⟩
  rw[e];exact h2 hw
def sIx (n d:Nat):Option Int->Nat
 |none=>d
 |some v=>if v<0 then(v+(n:Int)).toNat else min v.toNat n
theorem sIx_none (n d:Nat):sIx n d none=d:=rfl
theorem sIx_nat (n d k:Nat):sIx n d (some (k:Int))=min k n:=by
 show(if(k:Int)<0 then((k:Int)+(n:Int)).toNat else min (k:Int).toNat n)=min k n;rw[Aw (by lia),Ff]
theorem Xv (n d:Nat)(hd:d<=n)(o:Option Int):sIx n d o<=n:=by
 cases o with
 |none=>exact hd
 |
  some v=>
  show(if v<0 then(v+(n:Int)).toNat else min v.toNat n)<=n;by_cases hv:v<0
  .rw[Av hv];lia
  .rw[Aw hv];exact Nat.min_le_right _ _
theorem QC (v:Int)(n d:Nat):(if v<0 then max (v+(n:Int)) 0 else min v (n:Int))=((sIx n d (some v):Nat):Int):=by
 show(if v<0 then max (v+(n:Int)) 0 else min v (n:Int))=(((if v<0 then(v+(n:Int)).toNat else min v.toNat n):Nat):Int)
 by_cases hv:v<0
 .simp only[Av hv];lia
 .simp only[Aw hv];lia
theorem Xj (lo hi:Option Int)(n:Nat):Builtin.Slice.sliceAdjust lo hi 1 (n:Int)=(((sIx n 0 lo:Nat):Int),((sIx n n hi:Nat):Int)):=by
 have h1:¬((1:Int)<0):=by lia
 unfold Builtin.Slice.sliceAdjust;simp only[h1,if_false];refine Prod.ext ?_ ?_
 .cases lo with
  |none=>rfl
  |some v=>exact QC v n 0
 .cases hi with
  |none=>rfl
  |some v=>exact QC v n n
theorem Vb (i j:Nat):Builtin.Slice.slicePlaces (i:Int) (j:Int) 1=j-i:=by
 unfold Builtin.Slice.slicePlaces;have h1:(1:Int)>0:=by lia
 simp only[h1,if_true,Int.ediv_one];split<;>lia
theorem SM {v:Value}{o:Option Int}{Q:Option Int->Shared->Prop}(p:IsPart v o)(h:Q o s):wpAny (model prog w) A (Builtin.Slice.slicePartIndex v) Q E s:=by
 cases p with
 |none=>exact slicePart_none h
 |int i t=>exact slicePart_int h
theorem PB {sl:Addr}{vl vu:Value}{lo hi:Option Int}{n:Nat}{Q:Int×Int×Nat->Shared->Prop}(hs:s.heap.IsSliceOf sl vl vu .none)(pl:IsPart vl lo)(pu:IsPart vu hi)
  (h:Q (((sIx n 0 lo:Nat):Int),1,sIx n n hi-sIx n 0 lo) s):wpAny (model prog w) A (Builtin.Slice.sliceApplied (.ref sl) (pure (n:Int))) Q E s:=by
 obtain⟨os,hos,hcs,hds⟩:=id hs;unfold Builtin.Slice.sliceApplied Builtin.Slice.sliceFields;refine Ag (Ag (Fj hos hds (x:=vl) rfl (Ag (Fj hos hds (x:=vu) rfl (Ag (Fj hos hds (x:=.none) rfl (AN ?_)))))));refine Ag (slicePart_none ?_);show wpAny _ _ (if((1:Int)==0)=true then _ else _) _ _ s;rw[Aw (by decide)];refine Ag (SM pl (Ag (SM pu (Ag (AN ?_)))));show wpAny _ _ (match Builtin.Slice.sliceAdjust lo hi 1 (n:Int) with|(lo,hi)=>pure (lo,(1:Int),Builtin.Slice.slicePlaces lo hi 1)) _ _ s;rw[Xj lo hi n];show wpAny _ _ (pure (((sIx n 0 lo:Nat):Int),(1:Int),Builtin.Slice.slicePlaces ((sIx n 0 lo:Nat):Int) ((sIx n n hi:Nat):Int) 1)) _ _ s;rw[Vb];exact AN h
theorem Xy (xs:Array Value)(i k:Nat):((List.range k).filterMap fun(m:Nat)=>xs[((i:Int)+(m:Int)*1).toNat]?).toArray=((xs.toList.drop i).take k).toArray:=by
 have e:(fun(m:Nat)=>xs[((i:Int)+(m:Int)*1).toNat]?)=λm=>xs[i+m]?:=by
  funext m
  have:((i:Int)+(m:Int)*1).toNat=i+m:=by lia
  rw[this]
 rw[e];have:=pick_run xs i k;rw[List.filterMap_map]at this;have e2:((λx=>xs[x]?)∘λx=>i+x)=λm=>xs[i+m]?:=rfl;rw[e2]at this;rw[this]
theorem getItem_tuple_cut {t sl:Addr}{items:Array Value}{vl vu:Value}{lo hi:Option Int}{Q:Value->Shared->Prop}(ht:IsTup s.heap t items)(hs:s.heap.IsSliceOf sl vl vu .none)(pl:IsPart vl lo)(pu:IsPart vu hi)
  (hw:¬(sIx items.size 0 lo=0/\sIx items.size items.size hi=items.size))
  (h:Q (.ref s.heap.objs.size) {s with heap:=s.heap.push {cls:=.type "tuple",data:=.seq ((items.toList.drop (sIx items.size 0 lo)).take (sIx items.size items.size hi-sIx items.size 0 lo)).toArray}})
  (hsz:items.size<=sizeLine):wpAny (model prog w) A (getItem (.ref t) (.ref sl)) Q E s:=by
 have htake:sizeOk (.seq ((items.toList.drop (sIx items.size 0 lo)).take (sIx items.size items.size hi-sIx items.size 0 lo)).toArray):=by
  show((items.toList.drop (sIx items.size 0 lo)).take (sIx items.size items.size hi-sIx items.size 0 lo)).toArray.size<=sizeLine;rw[Bh,BE,FG,SQ];lia
 have hj:sIx items.size items.size hi<=items.size:=Xv _ _ (Al _) hi;obtain⟨os,hos,hcs,hds⟩:=id hs;have hTs:s.TypeIs (.ref sl) "slice":=⟨os,hos,hcs⟩
 unfold getItem
 try with_reducible refine GN ?_
 first|refine Ag (AN ?_)|skip
 refine Ag (wpAny_sequenceKey ht.typeIs (by decide) ?_);refine Ag (wpAny_callSpecial?_slot (name:=Str.ofString "__getitem__") ht.typeIs OG
  (OZ OG ht.typeIs entry_tuple_getitem ?_ (args_tuple_getitem _ _)))
 show wpAny _ _ (Builtin.Tuple.tupleItemsOf (.ref t)>>=_) _ _ s;refine Ag (tupleItemsOf_ ht ?_);refine Ag (wpAny_typeOf hTs ?_);rw[Av (by decide)];refine Ag (PB hs pl pu ?_);have hno:¬((((sIx items.size 0 lo:Nat):Int)==0&&(1:Int)==1&&(sIx items.size items.size hi-sIx items.size 0 lo)==items.size)=true):=by
  intro q;rw[Du,Du]at q;have q1:((sIx items.size 0 lo:Nat):Int)=0:=eq_of_beq q.1.1;have q2:sIx items.size items.size hi-sIx items.size 0 lo=items.size:=eq_of_beq q.2;exact hw ⟨by lia,by lia⟩
 show wpAny _ _ (if(((sIx items.size 0 lo:Nat):Int)==0&&(1:Int)==1&&(sIx items.size items.size hi-sIx items.size 0 lo)==items.size)=true then _ else _) _ _ s;rw[Aw hno,Xy]
 first
  |exact Ag (m:=Builtin.Tuple.tupleExact _) (KH (AN ⟨_,rfl,AN h⟩) htake)
  |exact Ag (m:=Builtin.Tuple.tupleExact _) (KH (Ag (AN (AN ⟨_,rfl,AN h⟩))) htake)
  |exact Ag (Ag (m:=Builtin.Tuple.tupleExact _) (KH (AN (AN ⟨_,rfl,AN h⟩)) htake))
  |exact Ag (Ag (m:=Builtin.Tuple.tupleExact _) (KH (AN ⟨_,rfl,AN h⟩) htake))
end
end HT
namespace L2
open PySem PySem.Spec PyProof.Rows
abbrev TO:=St->Hp->(Option Int->Hp->Prop)->Prop
def PO (X:Cx)(e:Option Expr)(t:TO):Prop:=
 ∀(pins:List (Addr×Obj)) (s:Shared) (σ:St) (H:Hp) (Q:Option Int->Hp->Prop),A3 X pins σ H s->t σ H Q->
  wpAny (model X.prog X.w) X.A (evalPart e X.env) (λu s'=>∃o H',A3 X pins σ H' s'/\IsPart u o/\Q o H') X.xe s
def RU:TO:=λ_ H Q=>Q none H
def S7 (t:TE):TO:=fun σ H Q=>t σ H λx H1=>∃i,x = .int i/\Q (some i) H1
theorem QU {ns:List Int}:∀{us:List Value},Au (ns.map V.int) us->IntsAre us ns:=by
 induction ns with
 |nil=>intro us r;rw[Gg]at r;cases r;exact .nil
 |
  cons n ns ih=>
  intro us r;rw[Cr]at r;cases r with
  |
   cons r1 r2=>
   obtain⟨t,e⟩:=r1;subst e;exact .cons n t (ih r2)
section
variable {X:Cx}{e:Expr}{te:TE}{lo hi:Option Expr}{tl th:TO}{pos p2:Pos}
theorem EU:PO X none RU:=by
 intro pins s σ H Q I h;rw[evalPart_none];exact AN ⟨none,H,I,.none,h⟩
theorem DH (h:PE X e te):PO X (some e) (S7 te):=by
 intro pins s σ H Q I hw;rw[evalPart_some];refine Ay (h pins s σ H _ I hw) λu s1 zz=>?_;obtain⟨x,H1,I1,r1,q1⟩:=zz;obtain⟨i,rfl,q⟩:=q1;obtain⟨t,rfl⟩:=r1;exact⟨some i,H1,I1,.int i t,q⟩
def M3 (X:Cx)(r:V->Option Int->Option Int->Hp->VK->Prop):Prop:=
 ∀(pins:List (Addr×Obj)) (s:Shared) (σ:St) (H:Hp) (x:V) (v vl vu:Value) (lo hi:Option Int) (sl:Addr) (Q:VK),A3 X pins σ H s->AK x v->s.heap.IsSliceOf sl vl vu .none->IsPart vl lo->IsPart vu hi->r x lo hi H Q->
  ∃T id,typeLookup (.type T) "__getitem__"=pure (some (.builtin id))/\s.TypeIs v T/\wpAny (model X.prog X.w) X.A (getItem v (.ref sl)) (EP X pins σ Q) X.xe s
def Pd (r:V->Option Int->Option Int->Hp->VK->Prop)(te:TE)(tl th:TO):TE:=fun σ H Q=>te σ H λx H1=>tl σ H1 λl H2=>th σ H2 λu H3=>r x l u H3 Q
theorem E4 {r:V->Option Int->Option Int->Hp->VK->Prop}(hr:M3 X r)(he:PE X e te)(hl:PO X lo tl)(hu:PO X hi th):PE X (.Subscript e (.Slice lo hi none p2) pos) (Pd r te tl th):=by
 intro pins s σ H Q I h;refine Subscript_ (Ay (he pins s σ H _ I h) λv s1 zz=>?_);obtain⟨x,H1,I1,r1,q1⟩:=zz;refine wpAny_Slice (Ay (hl pins s1 σ H1 _ I1 q1) λvl s2 zz=>?_);obtain⟨l,H2,I2,pl,q2⟩:=zz;refine Ay (hu pins s2 σ H2 _ I2 q2) λvu s3 zz=>?_;obtain⟨u,H3,I3,pu,q3⟩:=zz;rw[evalPart_none];refine AN ?_;have I4:A3 X pins σ H3 {s3 with heap:=s3.heap.push {cls:=.type "slice",data:=.fields #[vl,vu,.none]}}:=I3.kept (t':=s3.toks) λb ob q=>B2 _ q;obtain⟨T,id,hT,ht,hg⟩:=hr pins {s3 with heap:=s3.heap.push {cls:=.type "slice",data:=.fields #[vl,vu,.none]}} σ H3 x v vl vu l u s3.heap.objs.size Q I4 r1 (Heap.IsSliceOf.new ..) pl pu q3;show wpAny (model X.prog X.w) X.A (subscriptTail e (.Slice lo hi none p2) v (.ref s3.heap.objs.size)) (EP X pins σ Q) X.xe {s3 with heap:=s3.heap.push {cls:=.type "slice",data:=.fields #[vl,vu,.none]}};exact tail_any (ops:=[.ref s3.heap.objs.size,v]) ht hT hg (by with_unfolding_all rfl)
def BU (xs:List V)(lo hi:Option Int):List V:=(xs.drop (HT.sIx xs.length 0 lo)).take (HT.sIx xs.length xs.length hi-HT.sIx xs.length 0 lo)
theorem S5 (xs:List V)(lo hi:Option Int):(BU xs lo hi).length<=xs.length:=by
 unfold BU;rw[BE,FG];lia
def aT (K:Faa):V->Option Int->Option Int->Hp->VK->Prop:=λx lo hi H Q=>∃a xs,x = .ref a/\A7 K H a xs/\
 ¬(HT.sIx xs.length 0 lo=0/\HT.sIx xs.length xs.length hi=xs.length)/\∀p,H p=none->Q (.ref p) (upd H p (.tup (BU xs lo hi)))
theorem UV:M3 X (aT X.K):=by
 intro pins s σ H x v vl vu lo hi sl Q I rx hs pl pu h;obtain⟨a,xs,rfl,hx,hw,q⟩:=h;cases rx;obtain⟨its,r,ht,hz⟩:=I.tuple hx;have hlen:its.toArray.size=xs.length:=by rw[Bh];exact r.length.symm
 refine⟨"tuple",_,PyProof.Rows.slot_tuple_getitem.lookup,ht.typeIs,?_⟩;refine HT.getItem_tuple_cut ht hs pl pu (by rw[hlen];exact hw) ?_ (by rw[hlen];exact hz);rw[hlen];refine⟨.ref s.heap.objs.size,_,I.laid (t':=s.toks) (o:=.tup (BU xs lo hi)) (λb ob q=>B2 _ q) (Al _) ?_,rfl,q _ (I.hok.fresh (Al _))⟩;exact⟨Ey (S5 xs lo hi) hz,_,(r.drop (HT.sIx xs.length 0 lo)).take (HT.sIx xs.length xs.length hi-HT.sIx xs.length 0 lo),Fb.new _ _⟩
def aW (K:Faa):R2:=λx y H Q=>∃a b ns ms,x = .ref a/\y = .ref b/\A7 K H a (ns.map V.int)/\A7 K H b (ms.map V.int)/\Q (.bl (HT.lexLt ns ms)) H
theorem aU (hu:X.A.units<cLine):BM X (compareOp .Lt) (aW X.K):=by
 intro pins s σ H x y v u Q I rx ry h;obtain⟨a,b,ns,ms,rfl,rfl,ha,hb,q⟩:=h;cases rx;cases ry;obtain⟨its,r1,p1,_⟩:=I.tuple ha;obtain⟨its2,r2,p2,_⟩:=I.tuple hb;have i1:IntsAre its.toArray.toList ns:=QU r1;have i2:IntsAre its2.toArray.toList ms:=QU r2;exact HT.lt_tupInts p1 p2 i1 i2 hu ⟨.bl (HT.lexLt ns ms),H,I,rfl,q⟩
def VW (K:Faa):R2:=λx y H Q=>∃a b xs ys,x = .ref a/\y = .ref b/\A7 K H a xs/\A7 K H b ys/\xs≠[]/\xs.length+ys.length<=sizeLine/\
 (ys=[]->Q (.ref a) H)/\(ys≠[]->∀p,H p=none->Q (.ref p) (upd H p (.tup (xs++ys))))
theorem Au.nil_iff {xs:List V}{us:List Value}(r:Au xs us):us=[]↔xs=[]:=by
 cases r with
 |nil=>simp
 |cons _ _=>simp
theorem Yz:BM X (binaryOp .Add) (VW X.K):=by
 intro pins s σ H x y v u Q I rx ry h;obtain⟨a,b,xs,ys,rfl,rfl,ha,hb,hx,hz,q1,q2⟩:=h;cases rx;cases ry;obtain⟨its,r1,p1,_⟩:=I.tuple ha;obtain⟨its2,r2,p2,_⟩:=I.tuple hb;refine HT.cat_tup p1 p2 (λz=>hx (r1.nil_iff.mp z)) (λz=>⟨.ref a,H,I,rfl,q1 (r2.nil_iff.mp z)⟩) (λz=>?_) (by rw[←r1.length,←r2.length];exact hz);refine⟨.ref s.heap.objs.size,_,I.laid (t':=s.toks) (o:=.tup (xs++ys)) (λb ob q=>B2 _ q) (Al _) ?_,rfl,q2 (λw=>z (r2.nil_iff.mpr w)) _ (I.hok.fresh (Al _))⟩;exact⟨by rw[Ao];exact hz,_,r1.append r2,Fb.new _ _⟩
end
def Dt (n:Nat)(i:Int):Option Nat:=if 0<=i then(if i<n then some i.toNat else none) else if -(n:Int)<=i then some (i+n).toNat else none
def Be {α:Type}(xs:List α)(i:Int):Option α:=(Dt xs.length i).bind λj=>xs[j]?
theorem Qt {n:Nat}{i:Int}{j:Nat}(h:Dt n i=some j):seqIndex? i n=some j/\j<n/\-(n:Int)<=i/\i<n:=by
 unfold Dt at h;by_cases h0:0<=i
 .rw[Av h0]at h;by_cases h1:i<n
  .rw[Av h1]at h;have e:i.toNat=j:=CV h;exact⟨by rw[seqIndex_of h0 h1,e],by lia,by lia,h1⟩
  .rw[Aw h1]at h;cases h
 .rw[Aw h0]at h;by_cases h1 : -(n:Int)<=i
  .rw[Av h1]at h;have e:(i+n).toNat=j:=CV h;exact⟨by rw[seqIndex_neg (by lia) h1,e],by lia,h1,by lia⟩
  .rw[Aw h1]at h;cases h
theorem NN {α:Type}{xs:List α}{i:Int}{v:α}(h:Be xs i=some v):∃j,seqIndex? i xs.length=some j/\xs[j]?=some v/\j<xs.length/\-(xs.length:Int)<=i/\i<xs.length:=by
 unfold Be at h;cases e:Dt xs.length i with
 |none=>rw[e]at h;cases h
 |
  some j=>
  rw[e]at h;obtain⟨h1,h2,h3,h4⟩:=Qt e;exact⟨j,h1,h,h2,h3,h4⟩
theorem Bg {α:Type}{xs:List α}{j:Nat}{v:α}(h:xs[j]?=some v):Be xs (j:Int)=some v:=by
 have hj:j<xs.length:=(Ax.mp h).1;have e:Dt xs.length (j:Int)=some j:=by
  unfold Dt;rw[Av (by lia),Av (by lia)];simp
 unfold Be;rw[e];exact h
theorem Ov {α:Type}(xs:List α)(v:α):Be (xs++[v]) (-1)=some v:=by
 have hl:(xs++[v]).length=xs.length+1:=by simp
 have e:Dt (xs++[v]).length (-1)=some xs.length:=by
  unfold Dt;rw[hl,Aw (by decide),Av (by lia)];congr 1;lia
 unfold Be;rw[e];show(xs++[v])[xs.length]?=some v;simp
def UO (b:Expr):Prop := ∀o i,subscripted b false o i=operate [o,i] (getItem o i)
def DW (X:Cx)(r:R2):Prop:=
 ∀(value slice:Expr) (pins:List (Addr×Obj)) (s:Shared) (σ:St) (H:Hp) (x y:V) (v u:Value) (Q:VK),A3 X pins σ H s->AK x v->AK y u->r x y H Q->
  subscripted slice false v u=operate [v,u] (getItem v u)->wpAny (model X.prog X.w) X.A (subscriptTail value slice v u) (EP X pins σ Q) X.xe s
def SE (X:Cx)(id:String)(r:V->List V->Hp->VK->Prop):Prop:=
 ∀(pins:List (Addr×Obj)) (s:Shared) (σ:St) (H:Hp) (x:V) (xs:List V) (v:Value) (us:List Value) (Q:VK),A3 X pins σ H s->AK x v->Au xs us->r x xs H Q->
  wpAny (model X.prog X.w) X.A (call (.builtin id) (v::us)) (EP X pins σ Q) X.xe s
section
variable {X:Cx}{a b:Expr}{ta tb:TE}{pos:Pos}
theorem Aa {r:R2}(hr:DW X r)(ha:PE X a ta)(hb:PE X b tb)(hs:UO b):PE X (.Subscript a b pos) (Ka r ta tb):=by
 intro pins s σ H Q I h;exact Subscript_ (Oy ha hb I h λv u s2 x y H2 I2 rx ry q=>hr a b pins s2 σ H2 x y v u Q I2 rx ry q (hs _ _))
def Kl (K:Faa):R2:=λx y H Q=>∃p xs i v,x = .ref p/\y = .int i/\A4 K H p xs/\Be xs i=some v/\Q v H
def FB (K:Faa):R2:=λx y H Q=>∃p xs i v,x = .ref p/\y = .int i/\A7 K H p xs/\Be xs i=some v/\Q v H
def bg:R2:=λx y H Q=>∃z i c,x = .str z/\y = .int i/\z.length<=sizeLine/\Be z.cps.toList i=some c/\Q (.str ⟨#[c]⟩) H
theorem AE:DW X (Kl X.K):=by
 intro value slice pins s σ H x y v u Q I rx ry h hs;obtain⟨p,xs,i,z,rfl,rfl,hq,he,q⟩:=h;cases rx;obtain⟨t,rfl⟩:=ry;obtain⟨its,r,pl,hz⟩:=I.list hq;obtain⟨j,h1,h2,h3,h4,h5⟩:=NN he;obtain⟨w,ew,rw'⟩:=r.get h2;have hl:=r.length;have hn:=JU;have fin:EP X pins σ Q w s:=⟨z,H,I,rw',q⟩
 by_cases h0:0<=i
 .have hj:i.toNat=j:=by
   rw[seqIndex_of h0 h5]at h1;exact CV h1
  exact item_listR pl.isList h0 (by lia) (by rw[hj];simpa using ew) fin hs
 .have hj:(i+(its.toArray.size:Int)).toNat=j:=by
   rw[seqIndex_neg (by lia) h4]at h1;rw[Bh,←hl];exact CV h1
  exact subscriptTail_builtinR (x:=w) pl.isList.typeIs slot_list_getitem.lookup
   (wpAny_getItem_list_neg (Q:=λr s'=>r=w/\EP X pins σ Q r s') pl.isList (by lia) (by rw[Bh]<;>lia) (by lia) (by rw[hj];simpa using ew) ⟨rfl,fin⟩) hs
theorem Ap:DW X (FB X.K):=by
 intro value slice pins s σ H x y v u Q I rx ry h hs;obtain⟨p,xs,i,z,rfl,rfl,hq,he,q⟩:=h;cases rx;obtain⟨t,rfl⟩:=ry;obtain⟨its,r,pl,hz⟩:=I.tuple hq;obtain⟨j,h1,h2,h3,h4,h5⟩:=NN he;obtain⟨w,ew,rw'⟩:=r.get h2;have hl:=r.length;have hn:=JU;have fin:EP X pins σ Q w s:=⟨z,H,I,rw',q⟩
 exact subscriptTail_builtinR (x:=w) pl.typeIs slot_tuple_getitem.lookup
  (getItem_tuple (j:=j) (Q:=λr s'=>r=w/\EP X pins σ Q r s') pl (by lia) (by lia) (by rw[Bh,←hl];exact h1) (by simpa using ew) ⟨rfl,fin⟩) hs
theorem Qo:DW X bg:=by
 intro value slice pins s σ H x y v u Q I rx ry h hs;obtain⟨z,i,c,rfl,rfl,hz,he,q⟩:=h;obtain⟨t,rfl⟩:=rx;obtain⟨t',rfl⟩:=ry;obtain⟨j,h1,h2,h3,h4,h5⟩:=NN he;have hl:z.cps.toList.length=z.length:=by simp[Str.length]
 rw[hl]at h1 h4 h5;have hn:=JU;exact tail_any (typeIs_str s z t) slot_str_getitem.lookup (getItem_str (c:=c) (by
  have e1:decide (i < -(2 ^ 63:Int))=false:=C2 (by lia);have e2:decide (i≥2 ^ 63)=false:=C2 (by lia);rw[e1,e2,Bool.or_false]) (by rw[h1];simpa using h2) ⟨.str ⟨#[c]⟩,H,I.tok _,⟨_,rfl⟩,q⟩) hs
theorem TY (its:List Value)(n j:Nat)(u:Value):Obj.mapSeq (·.setIfInBounds j u) {cls:=.type "list",data:=.seq its.toArray n}={cls:=.type "list",data:=.seq (its.set j u).toArray n}:=by
 simp[Obj.mapSeq]
theorem A3.lst {pins:List (Addr×Obj)}{σ:St}{H:Hp}{s:Shared}{p:Addr}{xs:List V}(I:A3 X pins σ H s)(h:H p=some (.lst xs)) :
  ∃(its:List Value) (n:Nat),Au xs its/\s.heap.get? p=some {cls:=.type "list",data:=.seq its.toArray n}/\xs.length<=sizeLine:=by
 obtain⟨z,its,n,r,e⟩:=I.hok p _ h;exact⟨its,n,r,e,z⟩
theorem A3.lstUpd {pins:List (Addr×Obj)}{σ:St}{H:Hp}{s:Shared}{p:Addr}{xs ys:List V}{its its':List Value}{n n':Nat}{f:Obj->Obj}(I:A3 X pins σ H s)(h:H p=some (.lst xs))
  (ho:s.heap.get? p=some {cls:=.type "list",data:=.seq its.toArray n}) (hf:f {cls:=.type "list",data:=.seq its.toArray n}={cls:=.type "list",data:=.seq its'.toArray n'}) (r:Au ys its') (hz:ys.length<=sizeLine) (t:Nat) :
  A3 X pins σ (upd H p (.lst ys)) {s with heap:=s.heap.update p f,toks:=t}:=by
 have e:(s.heap.update p f).get? p=some {cls:=.type "list",data:=.seq its'.toArray n'}:=by
  rw[MK f ho (by rw[hf]<;>rfl),hf]
 refine I.write (x:=p) (e:=p) (by rw[h];trivial) (.inl rfl) (λb u hb q=>(GK _ _ (Ne.symm hb)).trans q) ⟨_,e⟩ ?_;exact⟨hz,its',n',r,e⟩
def XQ:V->V->V->Hp->(Hp->Prop)->Prop:=λo i v H Q=>∃p xs k j,o = .ref p/\i = .int k/\H p=some (.lst xs)/\Dt xs.length k=some j/\Q (upd H p (.lst (xs.set j v)))
theorem JW:Qf X XQ:=by
 intro pins s σ H o i v ov iv u Q I ro ri rv h;obtain⟨p,xs,k,j,rfl,rfl,hp,hj,q⟩:=h;cases ro;obtain⟨t,rfl⟩:=ri;obtain⟨its,n,r,ho,hz⟩:=I.lst hp;obtain⟨h1,h2,h3,h4⟩:=Qt hj;have hl:=r.length;have hn:=JU;have I':A3 X pins σ (upd H p (.lst (xs.set j v))) {s with heap:=s.heap.update p (Obj.mapSeq (·.setIfInBounds j u))}:=
  I.lstUpd hp ho (TY its n j u) (r.set rv j) (by rw[I0];exact hz) s.toks
 by_cases h0:0<=k
 .have hk:k.toNat=j:=by
   rw[seqIndex_of h0 h4]at h1;exact CV h1
  exact PySem.W.ki_setAt ho h0 (by lia) (by rw[Bh,←hl];exact h4) (by rw[hk];exact⟨_,I',q⟩)
 .have hk:(k+(its.toArray.size:Int)).toNat=j:=by
   rw[seqIndex_neg (by lia) h3]at h1;rw[Bh,←hl];exact CV h1
  exact PySem.W.ki_setBack ho (by lia) (by rw[Bh,←hl];exact h3) (by lia) (by rw[hk];exact⟨_,I',q⟩)
theorem Zl (lo hi:Option Int)(n:Nat):(sliceBounds lo hi none n).1=((HT.sIx n 0 lo:Nat):Int)/\(sliceBounds lo hi none n).2.1=((HT.sIx n n hi:Nat):Int)/\(sliceBounds lo hi none n).2.2=1:=by
 refine⟨?_,?_,rfl⟩
 .cases lo with
  |none=>simp[sliceBounds,HT.sIx]
  |
   some i=>
   simp only[sliceBounds,HT.sIx,Option.getD_none,show(1:Int)>0 by decide,if_true];by_cases h:i<0
   .simp only[h,if_true]<;>lia
   .simp only[h,if_false]<;>lia
 .cases hi with
  |none=>simp[sliceBounds,HT.sIx]
  |
   some i=>
   simp only[sliceBounds,HT.sIx,Option.getD_none,show(1:Int)>0 by decide,if_true];by_cases h:i<0
   .simp only[h,if_true]<;>lia
   .simp only[h,if_false]<;>lia
theorem Y0 (its:List Value)(lo hi:Option Int):slicePick its.toArray lo hi none=((its.drop (HT.sIx its.length 0 lo)).take (HT.sIx its.length its.length hi-HT.sIx its.length 0 lo)).toArray:=by
 obtain⟨h1,h2,h3⟩:=Zl lo hi its.toArray.size;unfold slicePick;rw[h1,h2,h3];simp only[sliceRange_one,pick_run,Bh]<;>rfl
def VT (K:Faa):V->Option Int->Option Int->Hp->VK->Prop:=λx lo hi H Q=>∃a xs,x = .ref a/\A4 K H a xs/\∀p,H p=none->Q (.ref p) (upd H p (.lst (BU xs lo hi)))
theorem G6:M3 X (VT X.K):=by
 intro pins s σ H x v vl vu lo hi sl Q I rx hs pl pu h;obtain⟨a,xs,rfl,hx,q⟩:=h;cases rx;obtain⟨its,r,ht,hz⟩:=I.list hx;have hlen:=r.length;refine⟨"list",_,slot_list_getitem.lookup,ht.isList.typeIs,?_⟩;refine wpAny_getItem_list_slice ht.isList hs pl pu .none (by simp) ?_ (by rw[Bh]<;>lia);rw[Y0,←hlen];refine⟨.ref s.heap.objs.size,_,I.laid (t':=s.toks) (o:=.lst (BU xs lo hi)) (λb ob q=>B2 _ q) (Al _) ?_,rfl,q _ (I.hok.fresh (Al _))⟩;exact⟨Ey (S5 xs lo hi) hz,_,0,(r.drop (HT.sIx xs.length 0 lo)).take (HT.sIx xs.length xs.length hi-HT.sIx xs.length 0 lo),CN _ rfl⟩
def E5:V->Bool
 |.non=>true
 |.bl _=>true
 |.int _=>true
 |.str _=>true
 |_=>false
def DT:V->V->Bool
 |.non,.non=>true
 |.bl a,.bl b=>a==b
 |.bl a,.int b=>(if a then 1 else 0)==b
 |.int a,.bl b=>a==(if b then 1 else 0)
 |.int a,.int b=>a==b
 |.str a,.str b=>a==b
 |_,_=>false
theorem Na {A:Around}{s:Shared}{y x:V}{u v:Value}(ry:AK y u)(rx:AK x v)(fy:E5 y=true)(fx:E5 x=true):SeqAt.EqAt A s u v (DT y x):=by
 cases y with
 |
  non=>
  cases ry;cases x with
  |non=>cases rx;exact SeqAt.EqAt.same _
  |bl b=>cases rx;exact SeqAt.EqAt.none_bool b
  |int b=>obtain⟨t,rfl⟩:=rx;exact SeqAt.EqAt.none_int b t
  |str b=>obtain⟨t,rfl⟩:=rx;exact SeqAt.EqAt.none_str b t
  |_=>exact absurd (show false=true from fx) CG
 |
  bl a=>
  cases ry;cases x with
  |non=>cases rx;exact SeqAt.EqAt.bool_none a
  |bl b=>cases rx;exact SeqAt.EqAt.bool_bool a b
  |int b=>obtain⟨t,rfl⟩:=rx;exact SeqAt.EqAt.bool_int a b t
  |str b=>obtain⟨t,rfl⟩:=rx;exact SeqAt.EqAt.bool_str a b t
  |_=>exact absurd (show false=true from fx) CG
 |
  int a=>
  obtain⟨t',rfl⟩:=ry;cases x with
  |non=>cases rx;exact SeqAt.EqAt.int_none a t'
  |bl b=>cases rx;exact SeqAt.EqAt.int_bool a t' b
  |int b=>obtain⟨t,rfl⟩:=rx;exact SeqAt.EqAt.int_int a t' b t
  |str b=>obtain⟨t,rfl⟩:=rx;exact SeqAt.EqAt.int_str a t' b t
  |_=>exact absurd (show false=true from fx) CG
 |
  str a=>
  obtain⟨t',rfl⟩:=ry;cases x with
  |non=>cases rx;exact SeqAt.EqAt.str_none a t'
  |bl b=>cases rx;exact SeqAt.EqAt.str_bool a t' b
  |int b=>obtain⟨t,rfl⟩:=rx;exact SeqAt.EqAt.str_int a t' b t
  |str b=>obtain⟨t,rfl⟩:=rx;exact SeqAt.EqAt.str_str a t' b t
  |_=>exact absurd (show false=true from fx) CG
 |_=>exact absurd (show false=true from fy) CG
def DY (x:V)(u:Value):Bool:=match u with
 |.none=>DT .non x
 |.bool b=>DT (.bl b) x
 |.int i _=>DT (.int i) x
 |.str z _=>DT (.str z) x
 |_=>false
theorem RO {x y:V}{u:Value}(r:AK y u)(f:E5 y=true):DY x u=DT y x:=by
 cases y with
 |non=>cases r;rfl
 |bl b=>cases r;rfl
 |int i=>obtain⟨t,rfl⟩:=r;rfl
 |str z=>obtain⟨t,rfl⟩:=r;rfl
 |_=>exact absurd (show false=true from f) CG
theorem K9 {x:V}:∀{xs:List V} {us:List Value},Au xs us->xs.all E5=true->us.any (DY x)=xs.any λy=>DT y x
 |_,_,.nil,_=>rfl
 |
  y::xs,u::us,.cons r t,f=>by
  rw[List.all_cons,Du]at f;rw[KA,KA,RO r f.1,K9 t f.2]
theorem K6 {A:Around}{s:Shared}{x:V}{v:Value}(rx:AK x v)(fx:E5 x=true):∀{xs:List V} {us:List Value},Au xs us->xs.all E5=true->∀u∈us,SeqAt.EqAt A s u v (DY x u)
 |_,_,.nil,_=>λu hu=>by cases hu
 |
  y::xs,u::us,.cons r t,f=>λu' hu=>by
  rw[List.all_cons,Du]at f;rcases Bj.mp hu with rfl|hu
  .rw[RO r f.1];exact Na r rx f.1 fx
  .exact K6 rx fx t f.2 u' hu
def Hd (x:V)(xs:List V):Bool:=xs.any λy=>DT y x
def Oq (K:Faa)(neg:Bool):R2:=λx y H Q=>∃p xs,y = .ref p/\(A4 K H p xs\/A7 K H p xs)/\E5 x=true/\xs.all E5=true/\Q (.bl (if neg then !Hd x xs else Hd x xs)) H
theorem OC:BM X (compareOp .In) (Oq X.K false):=by
 intro pins s σ H x y v u Q I rx ry h;obtain⟨p,xs,rfl,hq,fx,fs,q⟩:=h;cases ry;rcases hq with hq|hq
 .obtain⟨its,r,pl,hz⟩:=I.list hq;refine SeqAt.in_listAt (DY x) pl.isList (λw hw=>K6 rx fx r fs w (by simpa using hw)) ⟨.bl _,H,I,rfl,?_⟩;rw[show its.toArray.any (DY x)=its.any (DY x) by simp,K9 r fs];exact q
 .obtain⟨its,r,pl,hz⟩:=I.tuple hq;refine SeqAt.in_tupleAt (DY x) pl (λw hw=>K6 rx fx r fs w (by simpa using hw)) ⟨.bl _,H,I,rfl,?_⟩;rw[show its.toArray.any (DY x)=its.any (DY x) by simp,K9 r fs];exact q
theorem Xo:BM X (compareOp .NotIn) (Oq X.K true):=by
 intro pins s σ H x y v u Q I rx ry h;obtain⟨p,xs,rfl,hq,fx,fs,q⟩:=h;cases ry;rcases hq with hq|hq
 .obtain⟨its,r,pl,hz⟩:=I.list hq;refine SeqAt.notIn_listAt (DY x) pl.isList (λw hw=>K6 rx fx r fs w (by simpa using hw)) ⟨.bl _,H,I,rfl,?_⟩;rw[show its.toArray.any (DY x)=its.any (DY x) by simp,K9 r fs];exact q
 .obtain⟨its,r,pl,hz⟩:=I.tuple hq;refine SeqAt.notIn_tupleAt (DY x) pl (λw hw=>K6 rx fx r fs w (by simpa using hw)) ⟨.bl _,H,I,rfl,?_⟩;rw[show its.toArray.any (DY x)=its.any (DY x) by simp,K9 r fs];exact q
theorem BI:Eg X (.builtin "len") (λxs H Q=>∃p ys,xs=[.ref p]/\(A4 X.K H p ys\/A7 X.K H p ys)/\Q (.int ys.length) H):=by
 intro pins s σ H xs us Q I r h;obtain⟨p,ys,rfl,hq,q⟩:=h;obtain⟨u,rfl,rx⟩:=EJ r;cases rx;have hn:=JU;rcases hq with hq|hq
 .obtain⟨its,r',pl,hz⟩:=I.list hq;have hlen:=r'.length;exact Calls.call_len_list pl.isList (by simp only[Bh]<;>lia) ⟨.int ys.length,H,I.tok _,⟨s.toks+1,by rw[Bh,hlen]⟩,q⟩
 .obtain⟨its,r',pl,hz⟩:=I.tuple hq;have hlen:=r'.length;exact len_tuple pl (by simp only[Bh]<;>lia) ⟨.int ys.length,H,I.tok _,⟨s.toks+1,by rw[Bh,hlen]⟩,q⟩
theorem Nw:Eg X (.type "list") (λxs H Q=>∃p ys,xs=[.ref p]/\(A4 X.K H p ys\/A7 X.K H p ys)/\∀l,H l=none->Q (.ref l) (upd H l (.lst ys))):=by
 intro pins s σ H xs us Q I r h;obtain⟨p,ys,rfl,hq,q⟩:=h;obtain⟨u,rfl,rx⟩:=EJ r;cases rx;have fin:∀(its:List Value),Au ys its->ys.length<=sizeLine->∀(h':Heap) (c':Nat),(∀b o',s.heap.get? b=some o'->h'.get? b=some o')->
   h'.get? s.heap.objs.size=some {cls:=.type "list",dict:=none,data:=.seq its.toArray c',slots := #[]}->EP X pins σ Q (.ref s.heap.objs.size) {s with heap:=h'}:=λits r' hz h' c' kp e=>
  ⟨.ref s.heap.objs.size,_,I.laid (t':=s.toks) kp (Al _) (show Cb X.prog X.w _ h' _ (.lst ys) from⟨hz,its,c',r',e⟩),rfl,q _ (I.hok.fresh (Al _))⟩
 rcases hq with hq|hq
 .obtain⟨its,r',pl,hz⟩:=I.list hq;have hlen:=r'.length;obtain⟨o,ho,hc,n,hd⟩:=pl.isList;exact call_list_seq p (.inl rfl) ho hc hd (λh' c' kp e=>fin its r' hz h' c' kp e) (by simp only[Bh]<;>lia)
 .obtain⟨its,r',pl,hz⟩:=I.tuple hq;have hlen:=r'.length;obtain⟨o,ho,hc,n,hd⟩:=pl;exact call_list_seq p (.inr rfl) ho hc hd (λh' c' kp e=>fin its r' hz h' c' kp e) (by simp only[Bh]<;>lia)
theorem Fx:Eg X (.type "tuple") (λxs H Q=>∃p ys,xs=[.ref p]/\((A4 X.K H p ys/\∀l,H l=none->Q (.ref l) (upd H l (.tup ys)))\/(A7 X.K H p ys/\Q (.ref p) H))):=by
 intro pins s σ H xs us Q I r h;obtain⟨p,ys,rfl,h⟩:=h;obtain⟨u,rfl,rx⟩:=EJ r;cases rx;rcases h with⟨hq,q⟩|⟨hq,q⟩
 .obtain⟨its,r',pl,hz⟩:=I.list hq;have hlen:=r'.length;refine call_tuple_list pl.isList (λh' kp=>?_) (by simp only[Bh]<;>lia);have I1:A3 X pins σ H {s with heap:=h'}:=I.kept (t':=s.toks) kp;have I2:A3 X pins σ (upd H h'.objs.size (.tup ys)) {s with heap:=h'.push {cls:=.type "tuple",data:=.seq its.toArray}}:=
   I1.laid (t':=s.toks) (λb o e=>B2 _ e) (Al _) (show Cb X.prog X.w _ _ _ (.tup ys) from⟨hz,its,r',Fb.new _ _⟩)
  exact⟨.ref h'.objs.size,_,I2,rfl,q _ (I1.hok.fresh (Al _))⟩
 .obtain⟨its,r',pl,hz⟩:=I.tuple hq;exact call_tuple_same pl ⟨.ref p,H,I,rfl,q⟩
def Np (K:Faa)(T:String)(x:V)(H:Hp):Prop:=match x with
 |.str _=>T="str"
 |.int _=>T="int"
 |.ref p=>(T="list"/\∃xs,A4 K H p xs)\/(T="tuple"/\∃o,K.lookup p=some o/\o.cls = .type "tuple"/\o.dict=none)\/
  (T="dict"/\((∃kvs,H p=some (.dK kvs))\/∃kvs,H p=some (.dT kvs)))\/(T="set"/\∃S n,H p=some (.set S n))
 |_=>False
theorem Qm {pins:List (Addr×Obj)}{σ:St}{H:Hp}{s:Shared}{T:String}{x:V}{v:Value}(I:A3 X pins σ H s)(r:AK x v)(ty:Np X.K T x H) :
  s.TypeIs v T/\∀a,v = .ref a->∃ob,s.heap.get? a=some ob/\ob.dict=none:=by
 cases x with
 |
  str z=>
  obtain⟨t,rfl⟩:=r;cases (show T="str" from ty);exact⟨typeIs_str s z t,λ_ e=>nomatch e⟩
 |
  int i=>
  obtain⟨t,rfl⟩:=r;cases (show T="int" from ty);exact⟨typeIs_int s i t,λ_ e=>nomatch e⟩
 |
  ref p=>
  cases r;rcases ty with⟨rfl,xs,hq⟩|⟨rfl,o,hk,hc,hd⟩|⟨rfl,hk⟩|⟨rfl,S,n,hk⟩
  .obtain⟨its,_,pl,_⟩:=I.list hq;refine⟨pl.isList.typeIs,λa e=>?_⟩;cases e;obtain⟨o,n,e,c,hd,_⟩:=pl;exact⟨o,e,hd⟩
  .refine⟨⟨o,I.kIn p o hk,hc⟩,λa e=>?_⟩;cases e;exact⟨o,I.kIn _ o hk,hd⟩
  .have z:∃o,s.heap.get? p=some o/\o.ExactDict:=by
    rcases hk with⟨kvs,hk⟩|⟨kvs,hk⟩
    .obtain⟨_,_,_,_,o,_,_,e,ex,_⟩:=I.hok p _ hk;exact⟨o,e,ex⟩
    .obtain⟨_,_,_,_,o,_,_,e,ex,_⟩:=I.hok p _ hk;exact⟨o,e,ex⟩
   obtain⟨o,e,ex⟩:=z;refine⟨⟨o,e,ex.1⟩,λa e2=>?_⟩;cases e2;exact⟨o,e,ex.2.1⟩
  .obtain⟨o,_,_,_,e,ex,_⟩:=I.hok p _ hk;refine⟨⟨o,e,ex.1⟩,λa e2=>?_⟩;cases e2;exact⟨o,e,ex.2.1⟩
 |_=>exact False.elim ty
def VI (K:Faa)(T:String)(r:V->List V->Hp->VK->Prop)(to:TE):TE:=fun σ H Q=>to σ H λx H1=>Np K T x H1/\r x [] H1 Q
def XF (K:Faa)(T:String)(r:V->List V->Hp->VK->Prop)(to:TE)(t:TA):TE:=fun σ H Q=>to σ H λx H1=>Np K T x H1/\t σ H1 λxs H2=>r x xs H2 Q
variable {o e:Expr}{es:List Expr}{to:TE}{t:TA}{name:Str}{apos cpos:Pos}{T id:String}{r:V->List V->Hp->VK->Prop}
theorem Rj (pa:PlainAttrs T)(slot:Slot T name id)(hty:typeOf (.builtin id)=pure (.type "method_descriptor"))(hm:SE X id r)(ho:PE X o to)
  (hbase:attributeBase o name X.env (eval o X.env)=eval o X.env:=by rfl) (hline:(apos.endLine==cpos.line)=true:=by rfl):PE X (.Call (.Attribute o name apos) [] [] cpos) (VI X.K T r to):=by
 intro pins s σ H Q I h;refine wpAny_Call_method0_late hbase hline (Ay (ho pins s σ H _ I h) λv s1 zz=>?_);obtain⟨x,H1,I1,r1,ty,q1⟩:=zz;obtain⟨h1,h2⟩:=Qm I1 r1 ty;exact⟨T,id,pa,slot,hty,h1,h2,Calls.callWith_builtin rfl (PySem.evalArgs_none (hm pins s1 σ H1 x [] v [] Q I1 r1 .nil q1))⟩
theorem BP (pa:PlainAttrs T)(slot:Slot T name id)(hty:typeOf (.builtin id)=pure (.type "method_descriptor"))(hm:SE X id r)(ho:PE X o to)(ha:PA X (e::es) t)
  (hbase:attributeBase o name X.env (eval o X.env)=eval o X.env:=by rfl)
  (hfew:((backTo cpos (starEach (e::es) X.env)).all (λx=>!x.1)&&(backToKw cpos (keywordEach [] X.env)).all (λx=>x.1.isSome)
   && decide ((e::es).length+([]:List Keyword).length+(if([]:List Keyword).isEmpty then 0 else 1)<30))=true:=by rfl)
  (hline:(apos.endLine==cpos.line)=true:=by rfl) (hs:starEach (e::es) X.env=(false,eval e X.env)::starEach es X.env:=by rfl) (hplain:(backTo cpos (starEach es X.env)).any (·.1)=false:=by rfl) :
  PE X (.Call (.Attribute o name apos) (e::es) [] cpos) (XF X.K T r to t):=by
 intro pins s σ H Q I h;refine wpAny_Call_method_late hbase hfew hline rfl (Ay (ho pins s σ H _ I h) λv s1 zz=>?_);obtain⟨x,H1,I1,r1,ty,q1⟩:=zz;obtain⟨h1,h2⟩:=Qm I1 r1 ty;refine⟨T,id,pa,slot,hty,h1,h2,?_⟩;have hA:=ha cpos pins s1 σ H1 _ I1 q1;rw[hs]at hA ⊢;refine Calls.callWith_builtin (by show(false||(backTo cpos (starEach es X.env)).any (·.1))=false;rw[hplain]<;>rfl) (Calls.evalArgs_plain ?_);refine Ay hA λus s2 zz=>?_;obtain⟨vs,H2,I2,r2,q2⟩:=zz;exact hm pins s2 σ H2 x vs v us Q I2 r1 r2 q2
end
def K5 (X:Cx)(id:String)(r:V->List V->Hp->VK->Prop):Prop:=
 ∀(pins:List (Addr×Obj)) (s:Shared) (σ:St) (H:Hp) (x:V) (xs:List V) (v:Value) (us:List Value) (Q:VK),A3 X pins σ H s->AK x v->Au xs us->r x xs H Q->
  wpAny (model X.prog X.w) X.A (call (.builtin id) (v::us)) (EP X pins σ Q) X.xe s
theorem Au.one:∀{x:V} {us:List Value},Au [x] us->∃u,us=[u]/\AK x u:=by
 intro x us h;cases h with
 |
  cons r q=>
  cases q;exact⟨_,rfl,r⟩
theorem Au.two:∀{x y:V} {us:List Value},Au [x,y] us->∃u v,us=[u,v]/\AK x u/\AK y v:=by
 intro x y us h;cases h with
 |
  cons r q=>
  obtain⟨v,rfl,z⟩:=Au.one q;exact⟨_,_,rfl,r,z⟩
theorem Au.zero:∀{us:List Value},Au [] us->us=[]
 |_,.nil=>rfl
theorem Au.dropLast {xs:List V}{us:List Value}(h:Au xs us):Au xs.dropLast us.dropLast:=by
 induction h with
 |nil=>exact .nil
 |
  cons r t ih=>
  cases t with
  |nil=>exact .nil
  |cons q t'=>exact .cons r ih
theorem Au.rep {xs:List V}{us:List Value}(h:Au xs us):∀k:Nat,Au (List.replicate k xs).flatten (List.replicate k us).flatten
 |0=>.nil
 |
  k+1=>by
  rw[KB,KB,OH,OH];exact Au.append h (Au.rep h k)
theorem UP {α:Type}(l:List α):l.eraseIdx (l.length-1)=l.dropLast:=by
 induction l with
 |nil=>rfl
 |
  cons a r ih=>
  cases r with
  |nil=>rfl
  |
   cons b r=>
   have e:(a::b::r).length-1=((b::r).length-1)+1:=by
    have h1:(a::b::r).length=r.length+2:=rfl;have h2:(b::r).length=r.length+1:=rfl;lia
   rw[e,List.eraseIdx_cons_succ,ih]
   all_goals rfl
theorem RG (its:List Value):∀(k:Nat) (acc:List Value),
  List.foldl (λx1 x2=>x1++x2) acc.toArray (List.replicate k its.toArray)=(acc++(List.replicate k its).flatten).toArray
 |0,acc=>by simp
 |
  k+1,acc=>by
  have e:acc.toArray++its.toArray=(acc++its).toArray:=by simp
  have e2:(acc++its)++(List.replicate k its).flatten=acc++(List.replicate (k+1) its).flatten:=by
   rw[KB,OH,CW]
  rw[←e2,←RG its k (acc++its),←e,KB,List.foldl_cons]
section
variable {X:Cx}{pins:List (Addr×Obj)}{σ:St}{H:Hp}{s:Shared}{l b:Addr}{xs ys zs:List V}
theorem A3.lset {its its':List Value}{n:Nat}{f:Array Value->Array Value}{t':Nat}(I:A3 X pins σ H s)(hH:H l=some (.lst xs))
  (e:s.heap.get? l=some {cls:=.type "list",data:=.seq its.toArray n}) (hf:f its.toArray=its'.toArray) (hv:Au ys its') (hz:ys.length<=sizeLine) :
  A3 X pins σ (upd H l (.lst ys)) {s with heap:=s.heap.update l (Obj.mapSeq f),toks:=t'}:=by
 have q:=PySem.IsL.update e f;rw[hf]at q;refine I.write (x:=l) (e:=l) (by rw[hH];exact trivial) (.inl rfl) (λb' u hb hu=>(GK s.heap (Obj.mapSeq f) (Ne.symm hb)).trans hu) ⟨_,q⟩ ?_;exact⟨hz,its',_,hv,q⟩
theorem A3.lnew {its:List Value}{t':Nat}(I:A3 X pins σ H s)(hv:Au ys its)(hz:ys.length<=sizeLine) :
  A3 X pins σ (upd H s.heap.objs.size (.lst ys)) {s with heap:=s.heap.push {cls:=.type "list",data:=.seq its.toArray},toks:=t'}:=
 I.laid (λ_ _ q=>B2 _ q) (Al _) ⟨hz,its,0,hv,CN _ rfl⟩
theorem A3.fresh (I:A3 X pins σ H s):H s.heap.objs.size=none:=I.hok.fresh (Al _)
theorem A3.lstM (I:A3 X pins σ H s)(hH:H l=some (.lst xs)):xs.length<=sizeLine/\∃(its:List Value) (n:Nat),Au xs its/\xs.length=its.length/\s.heap.get? l=some {cls:=.type "list",data:=.seq its.toArray n}:=by
 obtain⟨z,its,n,r,e⟩:=I.hok l _ hH;exact⟨z,its,n,r,r.length,e⟩
theorem Sj {n:Nat}(h:n<=sizeLine):Builtin.List.listTooLong n=false:=by
 unfold Builtin.List.listTooLong;exact C2 (by lia)
end
section
variable {X:Cx}
def V9:V->List V->Hp->VK->Prop:=λx vs H Q=>∃l xs y,x = .ref l/\vs=[y]/\H l=some (.lst xs)/\xs.length<sizeLine/\Q .non (upd H l (.lst (xs++[y])))
theorem C8:K5 X "list.append" V9:=by
 intro pins s σ H x vs v us Q I rx rv h;obtain⟨l,xs,y,rfl,rfl,hH,hz,q⟩:=h;cases rx;obtain⟨u,rfl,ru⟩:=rv.one;obtain⟨z,its,n,r,hl,e⟩:=I.lstM hH;refine Js F.slot_list_append ⟨_,e,rfl⟩ F.entry_list_append (F.args_list_append_2 _ _) (PySem.list_append l its.toArray n u (by rw[Bh];lia)) ⟨e,?_⟩;refine⟨.non,_,I.lset (its':=its++[u]) hH e (by simp) (r.append (.cons ru .nil)) ?_,rfl,q⟩;rw[Ao,Bi];lia
def Ug:V->List V->Hp->VK->Prop:=λx vs H Q=>∃l b xs zs,x = .ref l/\vs=[.ref b]/\H l=some (.lst xs)/\H b=some (.lst zs)/\xs.length+zs.length<=sizeLine/\Q .non (upd H l (.lst (xs++zs)))
theorem JI:K5 X "list.extend" Ug:=by
 intro pins s σ H x vs v us Q I rx rv h;obtain⟨l,b,xs,zs,rfl,rfl,hH,hB,hz,q⟩:=h;cases rx;obtain⟨u,rfl,ru⟩:=rv.one;cases ru;obtain⟨z,its,n,r,hl,e⟩:=I.lstM hH;obtain⟨z2,its2,n2,r2,hl2,e2⟩:=I.lstM hB;have hsz:its.toArray.size+its2.toArray.size<=sizeLine:=by rw[Bh,Bh];lia
 have hlong:¬(!its.toArray.isEmpty&&Builtin.List.listTooLong (its.toArray.size+its2.toArray.size))=true:=by
  rw[Sj hsz,OI];exact CG
 refine Js F.slot_list_extend ⟨_,e,rfl⟩ F.entry_list_extend (F.args_list_extend_2 _ _)
  (AutoSeq1.list_extend_list_list_0 l its.toArray n b its2.toArray n2 hlong (by rw[Bh];lia) (by lia)) ⟨e,e2,?_⟩
 refine⟨.non,_,I.lset (its':=its++its2) hH e (by simp) (r.append r2) ?_,rfl,q⟩;rw[Ao];lia
def UK:V->List V->Hp->VK->Prop:=λx vs H Q=>∃l xs y,x = .ref l/\vs=[]/\H l=some (.lst xs)/\xs[xs.length-1]?=some y/\Q y (upd H l (.lst xs.dropLast))
theorem Rg:K5 X "list.pop" UK:=by
 intro pins s σ H x vs v us Q I rx rv h;obtain⟨l,xs,y,rfl,rfl,hH,hy,q⟩:=h;cases rx;have hus:=rv.zero;subst hus;obtain⟨z,its,n,r,hl,e⟩:=I.lstM hH;obtain⟨u,hu,ru⟩:=r.get hy;have hy':its.toArray[its.toArray.size-1]?=some u:=by
  show its.toArray[its.length-1]?=some u;rw[←Array.getElem?_toList,←hl];exact hu
 refine Js F.slot_list_pop ⟨_,e,rfl⟩ F.entry_list_pop (F.args_list_pop_1 _) (MeetsSeq.list_pop_last l its.toArray n u hy' (by rw[Bh];lia)) ⟨e,?_⟩;refine⟨y,_,I.lset (its':=its.dropLast) hH e ?_ r.dropLast ?_,ru,q⟩
 .show its.toArray.eraseIdxIfInBounds (its.toArray.size-1)=its.dropLast.toArray;rw[Bh,List.eraseIdxIfInBounds_toArray,UP]
 .rw[List.length_dropLast];lia
def VP:R2:=λx y H Q=>∃l b xs zs,x = .ref l/\y = .ref b/\H l=some (.lst xs)/\H b=some (.lst zs)/\xs.length+zs.length<=sizeLine/\∀p,H p=none->Q (.ref p) (upd H p (.lst (xs++zs)))
theorem Ei:BM X (binaryOp .Add) VP:=by
 intro pins s σ H x y v u Q I rx ry h;obtain⟨l,b,xs,zs,rfl,rfl,hH,hB,hz,q⟩:=h;cases rx;cases ry;obtain⟨z,its,n,r,hl,e⟩:=I.lstM hH;obtain⟨z2,its2,n2,r2,hl2,e2⟩:=I.lstM hB;refine PySem.P.add_list e e2 ?_ (by rw[Bh,Bh];lia);have ea:its.toArray++its2.toArray=(its++its2).toArray:=by simp
 rw[ea];exact⟨.ref _,_,I.lnew (t':=s.toks) (r.append r2) (by rw[Ao];lia),rfl,q _ I.fresh⟩
def ZR:R2:=λx y H Q=>∃l k xs,x = .ref l/\y = .int k/\H l=some (.lst xs)/\-(2 ^ 63)<=k/\k<2 ^ 63/\xs.length*k.toNat<=sizeLine/\
 ∀p,H p=none->Q (.ref p) (upd H p (.lst (List.replicate k.toNat xs).flatten))
theorem cC {α:Type}(xs:List α)(k:Nat):(List.replicate k xs).flatten.length=k*xs.length:=by
 induction k with
 |zero=>simp
 |succ k ih=>rw[KB,OH,Ao,ih,OJ,KC]
theorem Nj:BM X (binaryOp .Mult) ZR:=by
 intro pins s σ H x y v u Q I rx ry h;obtain⟨l,k,xs,rfl,rfl,hH,h1,h2,hz,q⟩:=h;cases rx;obtain⟨t,rfl⟩:=ry;obtain⟨z,its,n,r,hl,e⟩:=I.lstM hH;have hlen:its.toArray.size*k.toNat<=sizeLine:=by rw[Bh,←hl];exact hz
 have hcap:¬its.toArray.size*k.toNat>(2 ^ 63-1)/8:=by
  have:(sizeLine:Nat)<=(2 ^ 63-1)/8:=by decide
  lia
 have hfit:¬(!Builtin.List.listFitsIndex k)=true:=by
  rw[fitsIndex_both h1 h2];exact CG
 have hlong:¬Builtin.List.listTooLong (its.toArray.size*k.toNat)=true:=by
  rw[Sj hlen];exact CG
 have hnew:List.foldl (λx1 x2=>x1++x2) #[] (List.replicate (if its.toArray.isEmpty=true then 0 else k.toNat) its.toArray)=(List.replicate k.toNat its).flatten.toArray:=by
  have f0:∀m:Nat,List.foldl (λx1 x2=>x1++x2) #[] (List.replicate m its.toArray)=(List.replicate m its).flatten.toArray:=λm=>by
   have:=RG its m [];rw[ML]at this;exact this
  rw[f0];cases its with
  |nil=>simp
  |cons a r'=>rw[Aw (by simp)]
 refine wpAny_binaryOp_repeat_ref (T:="list") (U:="int") (by decide) ⟨_,e,rfl⟩ (λs'=>typeIs_int s' k t) noFill_list_mul F.fills_int_mul F.slot_int_rmul repeat_list F.slot_int_index.lookup
  (Js F.slot_int_rmul (typeIs_int s k t) F.entry_int_rmul (F.args_int_rmul_2 _ _) (int___rmul___int_list k t l its.toArray n)
   ⟨e,rfl,⟨_,e,rfl⟩,Js F.slot_list_mul ⟨_,e,rfl⟩ F.entry_list_mul (F.args_list_mul_2 _ _) (AutoListH.list___mul___list_int_3 l its.toArray n k t hfit hcap hlong) ⟨e,?_⟩⟩)
 rw[hnew];exact⟨.ref _,_,I.lnew (t':=s.toks) (r.rep k.toNat) (by rw[cC,Nat.mul_comm];exact hz),rfl,q _ I.fresh⟩
end
section
variable {prog:Program}{w:World}{A:Around}{E:Value->Shared->Prop}{s:Shared}
set_option maxRecDepth 100000 in
end
section
variable {X:Cx}
end
section
variable {κ:Type}[DecidableEq κ]
def F9 (kvs:List (κ×V))(k:κ):Option V:=(kvs.find? λkv=>decide (kv.1=k)).map (·.2)
theorem X7 {p:κ×V}{r:List (κ×V)}{k:κ}(e:p.1=k):F9 (p::r) k=some p.2:=by simp[F9,OK,e]
theorem cm {p:κ×V}{r:List (κ×V)}{k:κ}(e:¬p.1=k):F9 (p::r) k=F9 r k:=by simp[F9,OK,e]
theorem KV.val {kvs:List (κ×V)}{vs:List (κ×Value)}(r:KV kvs vs)(k:κ):ES (F9 kvs k) (valueAt vs k):=by
 unfold KV at r;induction r with
 |nil=>exact True.intro
 |
  @cons p q ps qs h t ih=>
  obtain⟨h1,h2⟩:=h;by_cases e:p.1=k
  .have e':q.1=k:=h1.symm.trans e;have b:valueAt (q::qs) k=some q.2:=by simp[valueAt,OK,e']
   rw[X7 e,b];exact h2
  .have e':¬q.1=k:=λz=>e (h1.trans z);have b:valueAt (q::qs) k=valueAt qs k:=by simp[valueAt,OK,e']
   rw[cm e,b];exact ih
end
theorem QF {P:Program}{w:World}{k:CA}{u:Value}(r:AK (kV k) u):(Hf P w).is k u=true:=by
 cases k with
 |inl i=>obtain⟨t,e⟩:=(show ∃t,u=Value.int i t from r);subst e;exact Uo P w i t
 |inr x=>obtain⟨t,e⟩:=(show ∃t,u=Value.str x t from r);subst e;exact Xn P w x t
section
variable {P:Program}{w:World}{H:Hp}{h:Heap}{a:Addr}
end
section
variable {X:Cx}{pins:List (Addr×Obj)}{σ:St}{H:Hp}{s:Shared}{a:Addr}{y v:V}{u r:Value}{o:Option V}{A:Around}{E:Value->Shared->Prop}
end
section
variable {X:Cx}{pins:List (Addr×Obj)}{σ:St}{H:Hp}{s:Shared}{a:Addr}{kvs:List (CA×V)}{k:CA}{u:Value}{A:Around}{E:Value->Shared->Prop}
end
def Rc (i:Expr):Prop := ∀ov iv,subscripted i false ov iv=operate [ov,iv] (getItem ov iv)
theorem ZC {prog:Program}{w:World}{A:Around}{E:Value->Shared->Prop}{s:Shared}{env:Env}{value slice:Expr}{pos:Pos}{T id:String}{Q:Value->Shared->Prop}
  (hl:typeLookup (.type T) "__getitem__"=pure (some (.builtin id))) (hs:Rc slice)
  (h:wpAny (model prog w) A (eval value env) (λo s₁=>wpAny (model prog w) A (eval slice env) (λi s₂=>s₂.TypeIs o T/\wpAny (model prog w) A (getItem o i) Q E s₂) E s₁) E s) :
  wpAny (model prog w) A (eval (.Subscript value slice pos) env) Q E s:=by
 refine Subscript_ (Dm h (λo s₁ h₁=>Dm h₁ (λi s₂ h₂=>?_) λ_ _ x=>x) λ_ _ x=>x);obtain⟨hT,h₂⟩:=h₂;unfold subscriptTail;refine Ag ?_;rw[getitemInPython_of_ne hT.not_modules];refine Ag (wpAny_specialOf hT hl ?_);have fin:wpAny (model prog w) A (subscripted slice false o i) (λr s₃=>wpAny (model prog w) A (letTemporaryGo value o r>>=λ_=>pure r) Q E s₃) E s₂:=by
  rw[hs o i];exact wpAny_operating (Dm h₂ (λr s₃ h₃=>Ag (wpAny_letTemporaryGo (AN h₃))) λ_ _ x=>x)
 first
  |exact AN (Ag fin)
  |exact Ag (AN (Ag fin))
  |exact Ag fin
section
variable {X:Cx}{o i e value:Expr}{pos pos' tpos:Pos}{td ty tv:TE}
end
section
variable {X:Cx}{pos:Pos}
end
section
variable {X:Cx}{pins:List (Addr×Obj)}{σ:St}{H:Hp}{s:Shared}{a:Addr}{y d:V}{u r:Value}{o:Option V}{A:Around}{E:Value->Shared->Prop}
end
section
variable {X:Cx}{o e f:Expr}{apos cpos:Pos}{td ty tx:TE}
end
section
variable {X:Cx}{pins:List (Addr×Obj)}{σ:St}{H:Hp}{s:Shared}{a:Addr}{kvs:List (CA×V)}{A:Around}{E:Value->Shared->Prop}
end
section
variable {X:Cx}{pins:List (Addr×Obj)}{σ:St}{H:Hp}{s:Shared}{a:Addr}{y:V}{u:Value}{A:Around}{E:Value->Shared->Prop}
end
end L2
namespace Att
open PySem PySem.W PySem.Calls PyProof.Rows
theorem Z2 {P:Params}{h:Heap}:∀(ns:List Int) (vs:List Value),WellAll P h vs (ns.map WData.int)->IntsAre vs ns:=by
 intro ns;induction ns with
 |
  nil=>
  intro vs w;rw[Gg]at w;cases w;exact .nil
 |
  cons n ns ih=>
  intro vs w;rw[Cr]at w;cases w with
  |
   cons a b=>
   cases a;exact .cons _ _ (ih _ b)
theorem Vv {l:OpenLaw}{n:Nat}(hn:l.most=some n){P:Params}{h:Heap}{args:List WData}{vals:List Value}
  (hpre:l.row.toRowW.claim.pre args=true) (hwl:WellAll P h vals args) :
  ∃a vs ns,vals=[Value.ref a]/\args=[WData.list (ns.map WData.int)]/\h.get? a=some {cls:=.type "list",data:=.seq vs.toArray}/\IntsAre vs ns/\ns.length<=n:=by
 have hsh:WShape.hasAll [] args [.list .int]=true:=(pre_splitW hpre).1;have hc:l.pre.holds [] {args:=args}=true:=(pre_splitW hpre).2;obtain⟨d,r,rfl,h1,h2⟩:=hasAllW_cons hsh;obtain rfl:=hasAllW_nil h2;obtain⟨xs,rfl,h3⟩:=hasW_list h1;obtain⟨ns,rfl⟩:=items_int h3;have hlen:ns.length<=n:=by
  unfold OpenLaw.pre at hc;have h4:(WTm.not (.lt (.lit (.int (n:Int))) (.len (.arg 0)))).holds [] {args:=[.list (ns.map .int)]}=true:=by
   have h4:=(holds_andW hc).1;rw[hn]at h4;exact h4
  have h5:=condW_of h4 (w_not (w_lt w_lit (w_len_list (w_arg rfl))));rw[Af]at h5;refine Nat.le_of_not_lt λq=>?_;have q':(n:Int)<((ns.length:Nat):Int):=by lia
  first
   |(rw[BB q']at h5;exact absurd h5 (by decide))
   |(simp at h5;lia)
 cases hwl with
 |
  cons w1 w2=>
  cases w2;cases w1 with
  |list ho hall=>exact⟨_,_,ns,rfl,rfl,ho,Z2 ns _ hall,hlen⟩
theorem Vr (l:OpenLaw)(args:List WData):l.row.toRowW.claim.post args (.bool true) args=true:=
 postW_of (r:=l.row.toRowW) (X:=(true==true))
  (show WShape.has [] (.bool true) .bool=true by first|rfl|decide|simp[WShape.has,WShape.arms,WShape.armsAll])
  (show(WTm.eq .res (.lit (.bool true))).value [] {args:=args,res:=some (.bool true),after:=args}=some (.bool (true==true)) from w_eq_bool (w_res rfl) w_lit) rfl
theorem attach_call {l:OpenLaw}{n:Nat}{q:Program}{loose:List Str}{XP:(Str->Option Value)->Heap->Prop}{YP:World->Heap->Prop}{d:DefRec}
  (hn:l.most=some n) (hdf:d.params.defaults=[])
  (call:∀(w:World) (s₀ s₁:Shared) (mg mb:Str->Option Value) (fa:Addr) (o:Obj) (pm cd doc:Value) (a:Addr) (vs:List Value) (ns:List Int),
   Ground q loose [] XP w s₀ mg mb s₁.heap->YP w s₁.heap->
   s₁.heap.get? fa=some o->o.data = .func (docDef d.name d.params d.body d.scope pm cd doc)->s₁.heap.CodeRec cd d.name->mg d.name=some (.ref fa)->
   s₁.heap.get? a=some {cls:=.type "list",data:=.seq vs.toArray}->IntsAre vs ns->ns.length<=n->s₁.gens = #[]->
   codeAny (model l.prog w) callerA (.call (.ref fa) ⟨[.ref a],[]⟩) (λr s'=>r = .ok (.ret (.bool true))/\OldK s₁.heap s'.heap/\s'.os=s₁.os/\AllBare s'.gens) s₁) :
  WalkO q loose XP YP l.row.toRowW d [] (λf vs=>PySem.call f vs):=by
 intro w s₀ s₁ mg mb G Y fa o pm cd doc dV kV ho hd hcd hD hmg hg args vals as hpre hlay hrd hwl hlo;obtain rfl:dV = .none:=Dflts.none hD hdf;obtain rfl:kV = .none:=Dflts.noKw hD;obtain⟨a,vs,ns,rfl,rfl,hobj,hints,hlen⟩:=Vv hn hpre hwl;refine enter_call (N1 (call w s₀ s₁ mg mb fa o pm cd doc a vs ns G Y ho (fd_plain hd) hcd hmg hobj hints hlen hg) λr s' hq=>?_);obtain⟨rfl,h2,h3,h4⟩:=hq;exact⟨.inl ⟨.bool true,.bool true,[],rfl,λ_=>rfl,.bool true,Vr l _,λ_=>⟨List.Pairwise.nil,λ_ hm=>(nomatch hm)⟩⟩,h2,h3,h4⟩
section
variable {prog:Program}{w:World}{A:Around}{E:Value->Shared->Prop}{s:Shared}{K:Frag}
end
end Att
namespace L2
open PySem PySem.Spec PyProof.Rows
theorem Rr:∀{vs:List Value} {ns:List Int},IntsAre vs ns->Au (ns.map V.int) vs
 |_,_,.nil=>.nil
 |_,_,.cons n t h=>.cons ⟨t,rfl⟩ (Rr h)
def Md (H:Hp):Prop := ∀b,H b=none\/∃o xs,H b=some (.frz o (.lst xs))
theorem W0 {P:Program}{w:World}{K:Faa}{mg mb:Str->Option Value}{CX:Ej}{k:Nat}{fa a:Addr}{fd:FuncData}{x:Str}{sp:Sp}{s₁:Shared}{vs:List Value}{ns:List Int}
  (KX:K.In s₁.heap) (hns:s₁.heap.Ns mainGlobals mg) (hb:s₁.heap.Ns builtinsNs mb) (hbb:∀x:Str,x≠"__name__"->mb x=bootBuiltins x) (hlim:s₁.heap.NoLimit) (hg:s₁.gens = #[])
  (ha:s₁.heap.get? a=some {cls:=.type "list",data:=.seq vs.toArray}) (hi:IntsAre vs ns) (hl:ns.length<=sizeLine) (hr:Cg k callerA)
  (F:∀base:Heap,K.In base->base.Ns mainGlobals mg->AM P w K mg base CX k fa fd [x] sp) (hbind:∀(s:Shared) (u:Value),BindsTo s fd ⟨[u],[]⟩ [(x,u)])
  (hsp:∀H:Hp,Md H->A4 K H a (ns.map V.int)->sp [.ref a] H (λv _=>v = .bl true) λ_ _ _=>False)
  (hCX:∀H e s',CX [] H s₁ (λ_ _ _=>False) e s'->False) :
  codeAny (model P w) callerA (.call (.ref fa) ⟨[.ref a],[]⟩) (λr s'=>r = .ok (.ret (.bool true))/\OldK s₁.heap s'.heap/\s'.os=s₁.os/\AllBare s'.gens) s₁:=by
 have rv:=Rr hi;have lenV:=hi.length;have core:∀H:Hp,Md H->A4 K H a (ns.map V.int)->BR P w H s₁.heap->(∀b,H b≠none->b=a)->(H a≠none->K.lookup a=none)->
   codeAny (model P w) callerA (.call (.ref fa) ⟨[.ref a],[]⟩) (λr s'=>r = .ok (.ret (.bool true))/\OldK s₁.heap s'.heap/\s'.os=s₁.os/\AllBare s'.gens) s₁:=by
  intro H hO hS hok hA hK;have base_of:∀{b:Addr} {o:Obj},s₁.heap.get? b=some o->H b=none->(G3 s₁.heap H).get? b=some o:=λe n=>U7 e n;have noA:∀{b:Addr} {o:Obj} {es:Array DictEntry} {ep:Nat},s₁.heap.get? b=some o->o.data = .dict es ep->H b=none:=fun{b o es ep} e d=>by
   cases q:H b with
   |none=>rfl
   |
    some u=>
    have e':b=a:=hA b (by rw[q];simp);subst e';rw[ha]at e;cases e;have d':Data.seq vs.toArray _=Data.dict es ep:=d;cases d'
  have nsK:∀{b:Addr} {m:Str->Option Value},s₁.heap.Ns b m->(G3 s₁.heap H).Ns b m:=fun{b m} ⟨o,es,ep,e,d,r⟩=>⟨o,es,ep,base_of e (noA e d),d,r⟩
  have hKb:K.In (G3 s₁.heap H):=λb o e=>base_of (KX b o e) (by
   cases q:H b with
   |none=>rfl
   |
    some u=>
    have e':b=a:=hA b (by rw[q];simp);subst e';rw[hK (by rw[q];simp)]at e;cases e)
  have hM:Mod K mg (G3 s₁.heap H):=⟨hKb,nsK hns,⟨mb,nsK hb,hbb⟩,let ⟨mc,h1,h2⟩:=hlim;⟨mc,nsK h1,h2⟩⟩
  have e0:Hm P w K mg (G3 s₁.heap H) callerA [] s₁ H:=⟨rfl,hM,λb o e=>Wc e,MH (Xb _ _),trivial,λb hb=>absurd (show b∈([]:List Addr) from hb) (by simp),hok,.of_eq hg⟩
  refine N1 ((F _ hKb (nsK hns)).run callerA [] s₁ H ⟨[.ref a],[]⟩ [.ref a] [.ref a] _ _ hr e0 (hbind s₁ (.ref a)) (.cons rfl .nil) (hsp H hO hS)) λr s' h=>?_;cases r with
  |error e=>exact(hCX H e s' h).elim
  |
   ok fl=>
   cases fl with
   |next=>exact False.elim h
   |brk=>exact False.elim h
   |cont=>exact False.elim h
   |
    ret u=>
    obtain⟨v,H',os,bare,un,hok',r',q⟩:=h;have q':v = .bl true:=q;subst q';obtain rfl:u=Value.bool true:=r';refine⟨rfl,OldK.of_keep λb o e=>?_,os,bare⟩;cases q:H b with
    |none=>exact un.keep b o e q (by intro z;exact absurd (show b∈([]:List Addr) from z) (by simp)) (by simp)
    |
     some u=>
     rcases hO b with z|⟨ob,xs,z⟩
     .rw[q]at z;cases z
     .have z2:=un.frzs b ob _ z;obtain⟨e1,_⟩:=hok b _ z;obtain⟨e2,_⟩:=hok' b _ z2;rw[e]at e1;cases e1;exact e2
 cases hk:K.lookup a with
 |
  some o=>
  have e:=KX a o hk;rw[ha]at e;cases e;refine core (λ_=>none) (λ_=>.inl rfl) (.inr ⟨_,vs.toArray,_,hk,rfl,rfl,rfl,by rw[Bh,lenV];exact hl,by simpa using rv⟩) (λb u z=>by have z':(none:Option HO)=some u:=z;cases z') (λb z=>absurd rfl z) λz=>absurd rfl z
 |
  none=>
  refine core (λb=>if b=a then some (.frz {cls:=.type "list",data:=.seq vs.toArray} (.lst (ns.map V.int))) else none) (λb=>?_) (.inl (.inr ⟨{cls:=.type "list",data:=.seq vs.toArray},Av rfl⟩)) (λb u z=>?_) (λb z=>?_) λ_=>hk
  .by_cases hb:b=a
   .exact .inr ⟨_,_,Av hb⟩
   .exact .inl (Aw hb)
  .by_cases hb:b=a
   .have z':=(Av hb).symm.trans z;cases z';subst hb;exact⟨ha,by rw[Af];exact hl,vs,_,rv,ha⟩
   .have z':=(Aw hb).symm.trans z;cases z'
  .by_cases hb:b=a
   .exact hb
   .exact absurd (Aw hb) z
theorem walk_of {l:PySem.W.OpenLaw}{n k:Nat}{q:Program}{loose:List Str}{XP:(Str->Option Value)->Heap->Prop}{YP:World->Heap->Prop}{d:DefRec}{K:Params->Faa}{CX:World->Ej}{sp:World->Sp}{x:Str}
  (hn:l.most=some n) (hn2:n<=sizeLine) (hdf:d.params.defaults=[]) (hr:Cg k callerA)
  (hY:∀(w:World) (h:Heap),YP w h->(K w.params).In h)
  (F:∀(w:World) (mg:Str->Option Value) (fa:Addr) (h:Heap),(K w.params).In h->h.Ns mainGlobals mg->mg d.name=some (.ref fa)->
   ∃fd:FuncData,(∀(s:Shared) (u:Value),BindsTo s fd ⟨[u],[]⟩ [(x,u)])/\
    ∀base:Heap,(K w.params).In base->base.Ns mainGlobals mg->AM l.prog w (K w.params) mg base (CX w) k fa fd [x] (sp w))
  (hsp:∀(w:World) (H:Hp) (a:Addr) (ns:List Int),ns.length<=n->Md H->A4 (K w.params) H a (ns.map V.int)->sp w [.ref a] H (λv _=>v = .bl true) λ_ _ _=>False)
  (hCX:∀(w:World) (H:Hp) (s:Shared) (e:Value) (s':Shared),CX w [] H s (λ_ _ _=>False) e s'->False) :
  PySem.W.WalkO q loose XP YP l.row.toRowW d [] (λf vs=>PySem.call f vs):=by
 refine Att.attach_call hn hdf λw s₀ s₁ mg mb fa o pm cd doc a vs ns G Y ho hd hcd hmg hobj hints hlen hg=>?_;have KX:=hY w _ Y;obtain⟨fd,hb,hF⟩:=F w mg fa _ KX G.T.g hmg;exact W0 KX G.T.g G.T.b G.T.builtins G.T.nolimit hg hobj hints (Ey hlen hn2) hr hF hb (λH hO hS=>hsp w H a ns hlen hO hS) λH e s'=>hCX w H s₁ e s'
def Gs (s:Stmt)(j:Nat):Stmt:=match s with
 |.ClassDef _ _ _ body _ _ _ _ _ _ _=>body.getD j (.Pass ⟨0,0,0,0⟩)
 |_=>.Pass ⟨0,0,0,0⟩
def Kh (s:Stmt):Arguments:=match s with
 |.FunctionDef _ a _ _ _ _ _ _ _ _=>a
 |_=>{posonlyargs:=[],args:=[],vararg:=none,kwonlyargs:=[],kw_defaults:=[],kwarg:=none,defaults:=[]}
def HN (s:Stmt):List Stmt:=match s with
 |.FunctionDef _ _ b _ _ _ _ _ _ _=>b
 |_=>[]
def AC (s:Stmt):Scope:=match s with
 |.FunctionDef _ _ _ _ _ _ sc _ _ _=>sc
 |_=>{kind:=.function,names:=[],isGenerator:=false,isCoroutine:=false}
abbrev AW:Ej:=λ_ _ _ _ _ _=>False
abbrev E0:XK:=λ_ _ _=>False
theorem As {X:Cx}:IC AW X E0:=λ_ _ _ _ _ _ _ h=>h.elim
structure AQ (K:Faa)(x qual:Str)(st:Stmt)(f:Addr)(fd:FuncData):Prop where
 ex:∃(oc:Value) (od:Option Addr) (kV doc pm:Value) (an:Option Addr) (cdv ct:Value) (osl:Array (Option Value)),
  fd=PySem.W.fnOf x qual (Kh st) (HN st) (AC st) .none kV doc pm an cdv ct/\K.lookup f=some ⟨oc,od,.func fd,osl⟩/\PySem.W.codeIn K cdv qual=true
 kp:PySem.W.keepIn K (.ref f)=true
section
variable {P:Program}{w:World}{K:Faa}{mg:Str->Option Value}{base:Heap}
theorem AQ.ok {x qual:Str}{st:Stmt}{f:Addr}{fd:FuncData}{N ps:List Str}{k:Nat}{sp:Sp}(F:AQ K x qual st f fd)(S:AV N ps (AC st))(len:∀vs H Q E,sp vs H Q E->vs.length=ps.length)
  (hbody:∀(cdv:Value) (A:Around) (outer:List Env) (s:Shared) (H:Hp) (vs:List V) (Q:VK) (E:XK),Cg k (A.deeper (envOfC qual (AC st) s.heap.objs.size f cdv))->sp vs H Q E->
   ∃t,Dx (GG AW P w K mg base N qual (AC st) f cdv A outer s H E).nox (HN st) t/\t {nx:=λ_ H'=>Q .non H',rt:=Q} (start N vs) H):AM P w K mg base AW (k+1) f fd ps sp:=by
 obtain⟨oc,od,kV,doc,pm,an,cdv,ct,osl,rfl,lk,hcd⟩:=F.ex;refine RP lk hcd S len λA outer s H vs Q E hr hsp=>?_;obtain⟨t,h,q⟩:=hbody cdv A outer s H vs Q E hr hsp;exact⟨t,h.nox,q⟩
theorem AQ.binds {x qual:Str}{st:Stmt}{f:Addr}{fd:FuncData}{ps:List Str}(F:AQ K x qual st f fd)
  (h:∀(kV doc pm:Value) (an:Option Addr) (cdv ct:Value) (us:List Value),us.length=ps.length->bindArgs (PySem.W.fnOf x qual (Kh st) (HN st) (AC st) .none kV doc pm an cdv ct) ⟨us,[]⟩=pure (ps.zip us)):AO K fd ps []:=by
 obtain⟨oc,od,kV,doc,pm,an,cdv,ct,osl,rfl,lk,hcd⟩:=F.ex;exact .all (h kV doc pm an cdv ct)
theorem fun_mk {x qual:Str}{st:Stmt}{f:Addr}{oc:Value}{od an:Option Addr}{osl:Array (Option Value)}{kV doc pm cdv ct:Value}(l:K.lookup f=some ⟨oc,od,.func (PySem.W.fnOf x qual (Kh st) (HN st) (AC st) .none kV doc pm an cdv ct),osl⟩)
 (c:PySem.W.codeIn K cdv qual=true) (k:PySem.W.keepIn K (.ref f)=true):AQ K x qual st f (PySem.W.fnOf x qual (Kh st) (HN st) (AC st) .none kV doc pm an cdv ct):=⟨⟨oc,od,kV,doc,pm,an,cdv,ct,osl,rfl,l,c⟩,k⟩
end
theorem Up {A:Around}{k:Nat}(hr:Cg k A):A.units+1<cLine:=Nat.lt_of_le_of_lt (Nat.add_le_add_left (by decide:1<=64) _) hr.units
section
variable {X:Cx}
theorem pv (i:Nat){x:Str}{pos:Pos}(hN:X.N[i]?=some x:=by rfl)(hv:J6 X.env.scope x:=by first|exact Or.inl rfl|exact Or.inr (.inl rfl)|exact Or.inr (.inr rfl))(hd:(x==("__debug__":Str))=false:=by decide)
 (hcd:(x==("__classdict__":Str))=false:=by decide):PE X (.Name x pos) (NM i):=Vg hN hv hd hcd
end
theorem BW {A B:Prop}(h:B):if false=true then A else B:=by
 rw[Aw CG];exact h
theorem BL {A B:Prop}(h:A):if true=true then A else B:=by
 rw[Av rfl];exact h
theorem Bq {c A B:Prop}[Decidable c](h1:c->A)(h2:¬c->B):if c then A else B:=by
 by_cases h:c
 .rw[Av h];exact h1 h
 .rw[Aw h];exact h2 h
def A8 (H H':Hp):Prop := ∀b o,H b=some o->H' b=some o
theorem A8.refl (H:Hp):A8 H H:=λ_ _ h=>h
theorem A8.trans {H H1 H2:Hp}(a:A8 H H1)(b:A8 H1 H2):A8 H H2:=λc o h=>b c o (a c o h)
theorem A8.free {H H':Hp}(e:A8 H H'){l:Addr}(h:H' l=Option.none):H l=Option.none:=by
 cases q:H l with
 |none=>rfl
 |
  some o=>
  rw[e l o q]at h;cases h
theorem A8.seq {K:Faa}{H H':Hp}{a:Addr}{xs:List V}(e:A8 H H')(h:A4 K H a xs):A4 K H' a xs:=by
 rcases h with(h|⟨o,h⟩)|h
 .exact .inl (.inl (e _ _ h))
 .exact .inl (.inr ⟨o,e _ _ h⟩)
 .exact .inr h
section
variable {κ:Type}[DecidableEq κ]
end
theorem N9 (env:Env):∀(l:List (Str×NameKind)) (cs:List (Str×Addr)),(∀n,(n,NameKind.free)∈l->∃c,env.cells.lookup n=some c)->(∀x c,cs.lookup x=some c->env.cells.lookup x=some c)->
  ∃cl,(forIn l cs λx s=>if(x.snd==NameKind.free)=true then do let c ←cellOf env x.fst;pure (ForInStep.yield ((x.fst,c)::s)) else pure (ForInStep.yield s))=(pure cl:Sem (List (Str×Addr)))/\
   (∀x c,cl.lookup x=some c->env.cells.lookup x=some c)/\(∀n,(n,NameKind.free)∈l->∃c,cl.lookup n=some c)/\∀n c,cs.lookup n=some c->∃c',cl.lookup n=some c'
 |[],cs,_,h=>⟨cs,rfl,h,(λ_ z=>nomatch z),(λn c e=>⟨c,e⟩)⟩
 |
  (n,k)::r,cs,hf,h=>by
  by_cases hk:k = .free
  .subst hk;obtain⟨c,hc⟩:=hf n Cq;have e:cellOf env n=pure c:=by unfold cellOf;rw[hc]
   obtain⟨cl,e1,h1,h2,h3⟩:=N9 env r ((n,c)::cs) (λm hm=>hf m (CF _ hm)) (λx c' q=>by
    rw[GL]at q;by_cases hx:x=n
    .subst hx;simp at q;subst q;exact hc
    .have:(x==n)=false:=by simpa using hx
     rw[this]at q;exact h x c' q)
   refine⟨cl,?_,h1,λm hm=>?_,λm c' q=>?_⟩
   .rw[OL];show((do let c ←cellOf env n;pure (ForInStep.yield ((n,c)::cs)))>>=_)=_;rw[e];exact e1
   .rcases Bj.mp hm with z|z
    .cases z;exact h3 n c (by simp)
    .exact h2 m z
   .by_cases hx:m=n
    .subst hx;exact h3 m c (by simp)
    .have:(m==n)=false:=by simpa using hx
     exact h3 m c' (by rw[GL,this];exact q)
  .have hb:(k==NameKind.free)=false:=by simpa using hk
   obtain⟨cl,e1,h1,h2,h3⟩:=N9 env r cs (λm hm=>hf m (CF _ hm)) h;refine⟨cl,?_,h1,λm hm=>?_,h3⟩
   .rw[OL];dsimp only;rw[hb];exact e1
   .rcases Bj.mp hm with z|z
    .cases z;exact absurd rfl hk
    .exact h2 m z
theorem Rv {scope:Scope}{env:Env}(h:∀n,(n,NameKind.free)∈scope.names->∃c,env.cells.lookup n=some c) :
  ∃cl,closureFor scope env=pure cl/\(∀x c,cl.lookup x=some c->env.cells.lookup x=some c)/\∀n,(n,NameKind.free)∈scope.names->∃c,cl.lookup n=some c:=by
 obtain⟨cl,e,h1,h2,_⟩:=N9 env scope.names [] h (λ_ _ z=>by simp at z);refine⟨cl,?_,h1,h2⟩;simp only[closureFor];rw[e];rfl
def De (X:Cx)(scope:Scope)(N':List Str)(cl:List (Str×Addr))(C:Addr)(s:Shared)(H:Hp)(fp:List Addr)(pins:List (Addr×Obj)):Cx where
 prog:=X.prog
 w:=X.w
 K:=X.K
 mg:=X.mg
 base:=X.base
 A:=X.A
 N:=N'
 s₀:=s
 H₀:=H
 env:=compEnvC scope cl C X.env
 outer:=X.stack
 stack:=X.stack
 ex:=fp
 calm:=X.calm
 fn:=λ_=>false
 pn:=X.pn++pins
 xe:=λ_ _=>False
structure Ih (sc:Scope)(out:Scope):Prop where
 kind:sc.kind = .function
 cell:∀y∈sc.names,y.2≠.cell
 loc:∀y∈sc.names,y.2 = .local->sc.names.lookup y.1=some .local
 free:∀y∈sc.names,y.2 = .free->out.names.lookup y.1=some .cell\/out.names.lookup y.1=some .free
def C3 (ρ:List (Option Nat))(σ:St):St:=ρ.map λo=>match o with|some i=>(σ[i]?).getD none|none=>none
def Kz (sc:Scope)(env:Env)(N N':List Str)(ρ:List (Option Nat)):Prop:=
 ρ.length=N'.length/\∀(j i:Nat) (x:Str),ρ[j]?=some (some i)->N'[j]?=some x->N[i]?=some x/\J6 env.scope x/\(x,NameKind.free)∈sc.names
theorem QG {names:List (Str×NameKind)}{env:Env}{x:Str}{k:NameKind}(h:(names.map fun(n,k)=>if(k==NameKind.free&&env.scope.kind == .function&&env.kindOf n==some .cell) then(n,NameKind.cell) else(n,k)).lookup x=some k)
  (hk:k = .cell\/k = .free) (hc:∀y∈names,y.2≠.cell):(x,NameKind.free)∈names:=by
 induction names with
 |nil=>simp at h
 |
  cons p r ih=>
  obtain⟨n,k'⟩:=p;by_cases hx:x=n
  .subst hx;have hk':k' = .free:=by
    by_cases hc':(k'==NameKind.free&&env.scope.kind == .function&&env.kindOf x==some .cell)=true
    .simp only[Du,Gk]at hc';exact hc'.1.1
    .simp only[Cr]at h;rw[Aw hc']at h;simp at h;subst h;rcases hk with z|z
     .exact absurd z (hc (x,k') Cq)
     .exact z
   rw[hk'];exact Cq
  .have hb:(x==n)=false:=by simpa using hx
   refine CF _ (ih ?_ λy hy=>hc y (CF _ hy));simp only[Cr]at h;by_cases hc':(k'==NameKind.free&&env.scope.kind == .function&&env.kindOf n==some .cell)=true
   .rw[Av hc',GL,hb]at h;exact h
   .rw[Aw hc',GL,hb]at h;exact h
theorem Ya:∀{names:List (Str×NameKind)} {env:Env} {x:Str},(x,NameKind.free)∈names->(names.map fun(n,k)=>if(k==NameKind.free&&env.scope.kind == .function&&env.kindOf n==some .cell) then(n,NameKind.cell) else(n,k)).lookup x=some .cell\/
  (names.map fun(n,k)=>if(k==NameKind.free&&env.scope.kind == .function&&env.kindOf n==some .cell) then(n,NameKind.cell) else(n,k)).lookup x=some .free\/names.lookup x≠some .free:=by
 intro names env x hm;by_cases hl:names.lookup x=some .free
 .induction names with
  |nil=>simp at hl
  |
   cons p r ih=>
   obtain⟨n,k'⟩:=p;by_cases hx:x=n
   .subst hx;simp at hl;subst hl;by_cases hc':(NameKind.free==NameKind.free&&env.scope.kind == .function&&env.kindOf x==some .cell)=true
    .left;simp only[Cr];rw[Av hc'];simp
    .right;left;simp only[Cr];rw[Aw hc'];simp
   .have hb:(x==n)=false:=by simpa using hx
    rw[GL,hb]at hl;have hm':(x,NameKind.free)∈r:=by
     rcases Bj.mp hm with z|z
     .cases z;exact absurd rfl hx
     .exact z
    have q:=ih hm' hl;simp only[Cr];by_cases hc':(k'==NameKind.free&&env.scope.kind == .function&&env.kindOf n==some .cell)=true
    .rw[Av hc',GL,hb,GL,hb];exact q
    .rw[Aw hc',GL,hb,GL,hb];exact q
 .exact .inr (.inr hl)
section
variable {X:Cx}{pins:List (Addr×Obj)}{σ:St}{H:Hp}{s:Shared}{scope:Scope}{N':List Str}{ρ:List (Option Nat)}{cl:List (Str×Addr)}{fp:List Addr}{C D:Addr}
theorem ZQ (I:A3 X pins σ H s)(S:Ih scope X.env.scope)(hf:∀b∈fp,F1 X pins H b)(h1:∀x c,cl.lookup x=some c->X.env.cells.lookup x=some c)(h2:∀n,(n,NameKind.free)∈scope.names->∃c,cl.lookup n=some c)
  (hC:s.heap.objs.size<=C) (hfs:∀b∈fp,b<s.heap.objs.size):(De X scope N' cl C s H fp pins).Ok where
 mod:=I.ok.mod
 kind:=S.kind
 glob:=I.ok.glob
 blt:=I.ok.blt
 above:=hC
 inj:=λx y c e1 e2=>I.ok.inj x y c (h1 x c e1) (h1 y c e2)
 has:=λx hk=>h2 x (by
  rcases hk with hk|hk
  .exact QG (env:=X.env) hk (.inl rfl) S.cell
  .exact QG (env:=X.env) hk (.inr rfl) S.cell)
 cab:=λ_ _ z=>nomatch z
 hd:=I.ok.hd
 frames:=I.ok.frames
 stk:=.inl rfl
 exf:=λb hb=>⟨BQ (C9 (hfs b hb) hC),λx c e=>(hf b hb).2.2.2.2.1 x c (h1 x c e)⟩
 bs:=I.bs
 bsz:=Ey I.ok.bsz I.sz
 noex:=λb o e hb=>by
  rcases(hf b hb).2.2.2.1 with z|z
  .exact I.ok.noex b o e z
  .exact absurd (C9 (C9 (B1 e) I.ok.bsz) z) (Ea _)
 exfs:=λb hb z=>by
  rcases Bj.mp (I.stkSub b z) with q|q
  .exact(hf b hb).2.1 q
  .exact(hf b hb).2.2.1 q
 funs:=I.stack
 frf:=I.stkFree
theorem Wt {h₁:Heap}{tk:Nat}(I:A3 X pins σ H s)(S:Ih scope X.env.scope)(hρ:Kz scope X.env X.N N' ρ)(hf:∀b∈fp,F1 X pins H b)(h1:∀x c,cl.lookup x=some c->X.env.cells.lookup x=some c)
  (h2:∀n,(n,NameKind.free)∈scope.names->∃c,cl.lookup n=some c) (hC:s.heap.objs.size<=C) (hfs:∀b∈fp,b<s.heap.objs.size) (hn:h₁.Ns C (λ_=>none)) (hk:∀b o,s.heap.get? b=some o->h₁.get? b=some o)
  (hl:∀x,(x,NameKind.free)∈scope.names->scope.names.lookup x=some .free) :
  A3 (De X scope N' cl C s H fp pins) [] (C3 ρ σ) H {s with heap:=h₁,toks:=tk} where
 ok:=ZQ I S hf h1 h2 hC hfs
 os:=rfl
 bare:=I.bare
 base:=Un.kept hk
 loc:=by
  refine⟨_,hn,λj x v e1 e2 hv=>?_⟩;obtain⟨m,hm,hl'⟩:=I.loc;unfold C3 at e2;rw[Bf]at e2;cases hr:ρ[j]? with
  |none=>rw[hr]at e2;simp at e2
  |
   some o=>
   cases o with
   |none=>rw[hr]at e2;simp at e2
   |
    some i=>
    rw[hr]at e2;obtain⟨q1,q2,q3⟩:=hρ.2 j i x hr e1;have e3:σ[i]?=some (some v):=by
     cases hσ:σ[i]? with
     |none=>simp[hσ]at e2
     |some z=>simp[hσ]at e2;rw[e2]
    obtain⟨u,r,lk⟩:=hl' i x v q1 e3 q2;refine⟨u,r,?_⟩;obtain⟨c,hc⟩:=h2 x q3;have hkind:(relabel scope X.env).names.lookup x=some .cell\/(relabel scope X.env).names.lookup x=some .free:=by
     rcases Ya (env:=X.env) q3 with z|z|z
     .exact .inl z
     .exact .inr z
     .exact absurd (hl x q3) z
    refine .inr ⟨hkind,c,hc,?_⟩;rcases lk with⟨k,_⟩|⟨_,c',e',z⟩
    .rcases S.free (x,.free) q3 rfl with z|z
     .have k':X.env.scope.names.lookup x=some .local:=k;rw[z]at k';cases k'
     .have k':X.env.scope.names.lookup x=some .local:=k;rw[z]at k';cases k'
    .have:=h1 x c hc;rw[e']at this;cases this;obtain⟨o,ho,hd⟩:=z;exact⟨o,hk _ _ ho,hd⟩
 cell:=λx c e=>by
  obtain⟨v,o,ho,hd⟩:=I.cell x c (h1 x c e);exact⟨v,o,hk _ _ ho,hd⟩
 free:=I.hok.fresh hC
 freeC:=λx c e=>I.freeC x c (h1 x c e)
 pin:=λp hp=>by
  have hp':p∈X.pn++pins:=by simpa[De] using hp
  obtain⟨e,n,ne,nf,d⟩:=I.pin p hp';refine⟨hk _ _ e,n,BQ (C9 (B1 e) hC),λz=>?_,d⟩;rcases Bj.mp (I.stkSub p.1 z) with q|q
  .exact ne q
  .exact nf q
 hok:=I.hok.kept hk
 len:=by
  show(C3 ρ σ).length=N'.length;unfold C3;rw[Af];exact hρ.1
end
theorem BR.track {P:Program}{w:World}{H:Hp}{h:Heap}{D:Addr}{o:HO}(x:BR P w H h)(n:H D=none)(new:Cb P w (upd H D o) h D o):BR P w (upd H D o) h:=λb u e=>by
 by_cases hb:b=D
 .subst hb;rw[A5]at e;cases e;exact new
 .rw[Ak hb]at e;exact(x b u e).stay (λc v _ q=>q) (λc q=>by rw[Ak (AF q n)];exact q) λc xs q=>by rw[Ak (AF q n)];exact q
section
variable {prog:Program}{w:World}{A:Around}{R:Result->Shared->Prop}{s:Shared}
theorem VU {elt target iter:Expr}{ifs:List Expr}{scope:Scope}{pos:Pos}{it acc:Value}{env:Env}(I:Nat->Shared->Prop)
  (turn:∀n s,I n s->wpAny (model prog w) A (pyNext it) (λr s₁=>match r with
   |none=>R (.ok .next) s₁
   |some v=>wpAny (model prog w) A (letOwnedTupleGo target it v) (λ_ s₁'=>wpAny (model prog w) A (assign target env v) (λ_ s₂=>
    wpAny (model prog w) A (forIn ifs true λc r=>if r=true then do let ok ←isTrue c env (eval c env);pure (ForInStep.yield ok) else pure (ForInStep.yield r)) (λok s₃=>
     if ok=true then wpAny (model prog w) A (eval elt env) (λx s₄=>
      wpAny (model prog w) A (call (.builtin "list.append") [acc,x]) (λ_ s₅=>∃m,m<n/\I m s₅) (λ_ _=>False) s₄) (λ_ _=>False) s₃
     else ∃m,m<n/\I m s₃) (λ_ _=>False) s₂) (λ_ _=>False) s₁') (λ_ _=>False) s₁) (λ_ _=>False) s)
  (n:Nat) (h:I n s) :
  codeAny (model prog w) A (.compLoop (.ListComp elt [⟨target,iter,ifs,0⟩] scope pos) 0 it acc env) R s:=by
 refine codeAny_loop rfl I (λn s hI=>?_) n h;show wpAny _ A ((compTurn (.ListComp elt [⟨target,iter,ifs,0⟩] scope pos) 0 it acc env).onRaise (λx=>do noteFrame x env;theTreesLotGoes x)) _ _ s;refine wpAny_noted ?_;rw[compTurn_list];refine Ag (KG (Ag (Dm (turn n s hI) (λr s₁ h₁=>?_) λ_ _ h'=>h'.elim)));cases r with
 |none=>exact AN h₁
 |
  some v=>
  refine Ag (Dm h₁ (λ_ s₁' h₁=>?_) λ_ _ h'=>h'.elim);refine Ag (Dm h₁ (λ_ s₂ h₂=>Ag (Dm h₂ (λok s₃ h₃=>?_) λ_ _ h'=>h'.elim)) λ_ _ h'=>h'.elim);cases ok with
  |false=>exact AN ⟨rfl,h₃⟩
  |
   true=>
   exact Ag (Ag (Dm h₃ (λx s₄ h₄=>Ag (Dm h₄ (λ_ s₅ h₅=>AN (AN ⟨rfl,h₅⟩)) λ_ _ h'=>h'.elim)) λ_ _ h'=>h'.elim))
end
def Ho (X:Cx)(ifs:List Expr)(t:TT):Prop:=
 ∀(pins:List (Addr×Obj)) (s:Shared) (σ:St) (H:Hp) (Q:Bool->Hp->Prop),A3 X pins σ H s->t σ H Q->
  wpAny (model X.prog X.w) X.A (forIn ifs true λc r=>if r=true then do let ok ←isTrue c X.env (eval c X.env);pure (ForInStep.yield ok) else pure (ForInStep.yield r)) (TP X pins σ Q) X.xe s
def U9:TT:=λ_ H Q=>Q true H
theorem EL {X:Cx}:Ho X [] U9:=λ_ _ _ H _ I h=>wpAny_tests_nil ⟨H,I,h⟩
theorem VB {X:Cx}{c:Expr}{t:TT}(h:PT X c t):Ho X [c] t:=λpins s σ H Q I hw=>wpAny_tests_one (h pins s σ H Q I hw)
def IT (ρ:List (Option Nat))(σ σ2:St):Prop:=σ2.length=ρ.length/\∀(j:Nat) v,(C3 ρ σ)[j]?=some (some v)->σ2[j]?=some (some v)
def Hn (ρ:List (Option Nat))(g:TG)(tt:TT)(te:TE)(σ:St)(Q:VK)(J:It)(H1:Hp):Prop := ∃W:Nat->Nat->List V->Hp->Prop,(∃m,W 0 m [] H1)/\∀i m ys H',W i m ys H'->
 (J.stop i H'/\ys.length<=sizeLine/\∀p,H' p=none->Q (.ref p) (upd H' p (.lst ys)))\/
 (J.go i H'/\ys.length<sizeLine/\∃N:List V->Hp->Prop,(∀ys' H'',N ys' H''->∃m',m'<m/\W (i+1) m' ys' H'')/\∀x H2,J.yld i H' x H2->g x (C3 ρ σ) H2 fun σ2 H3=>IT ρ σ σ2/\tt σ2 H3 λok H4=>if ok=true then te σ2 H4 λv H5=>N (ys++[v]) H5 else N ys H4)
def JE (ρ:List (Option Nat))(wi:TI)(g:TG)(tt:TT)(te:TE):TE:=fun σ H Q=>wi σ H λJ H1=>Hn ρ g tt te σ Q J H1
theorem PY {X:Cx}{elt iter tg:Expr}{ifs:List Expr}{scope:Scope}{pos:Pos}{N':List Str}{ρ:List (Option Nat)}{wi:TI}{g:TG}{tt:TT}{te:TE}{cl:List (Str×Addr)}{RR:Value->Addr->Result->Shared->Prop}(hc:X.calm=true)(hi:PI X tg iter wi)(S:Ih scope X.env.scope)(hρ:Kz scope X.env X.N N' ρ)
  (hl:∀x,(x,NameKind.free)∈scope.names->scope.names.lookup x=some .free)
  (inner:∀(cl:List (Str×Addr)) (C:Addr) (s:Shared) (H:Hp) (fp:List Addr) (pins:List (Addr×Obj)),PG (De X scope N' cl C s H fp pins) tg g/\Ho (De X scope N' cl C s H fp pins) ifs tt/\PE (De X scope N' cl C s H fp pins) elt te)
  {pins:List (Addr×Obj)} {s:Shared} {σ:St} {H:Hp} {Q:VK} (I:A3 X pins σ H s) (h:JE ρ wi g tt te σ H Q)
  (h1:∀x c,cl.lookup x=some c->X.env.cells.lookup x=some c) (h2:∀n,(n,NameKind.free)∈scope.names->∃c,cl.lookup n=some c)
  (fin:∀D C s' H' m,A3 X pins σ H' s'->Q (.ref D) H'->s'.heap.Ns C m->F1 X pins H' C->RR (.ref D) C (.ok .next) s') :
  wpAny (model X.prog X.w) X.A (eval iter X.env) (λx s₁=>wpAny (model X.prog X.w) X.A (pyIter x) (λit s₂=>wpAny (model X.prog X.w) X.A (newList []) (λacc s₃=>
   wpAny (model X.prog X.w) X.A (newFunctionEnv scope X.env.globals cl [] X.env.qual none .none (some X.env)) (λcenv s₄=>
    codeAny (model X.prog X.w) X.A (.compStart (.ListComp elt [⟨tg,iter,ifs,0⟩] scope pos) 0 it acc {cenv with scope:=relabel scope X.env}) (RR acc cenv.locals) s₄) X.xe s₃) X.xe s₂) X.xe s₁) X.xe s:=by
 refine Ay (hi pins s σ H _ I h) λv s1 h1'=>Ay h1' λitv s2 hx=>?_;obtain⟨it,fp,tn,J,H2,e,I2,T,st2,f2,W,⟨m0,w0⟩,turn⟩:=hx;subst e;have hfs:∀b∈fp,b<s2.heap.objs.size:=λb hb=>by
  obtain⟨o,e,_⟩:=T.obj _ _ st2 b hb;exact B1 e
 refine KH (wpAny_newFunctionEnv S.cell (by intro y hy;simp at hy) (λh₁ hns₁ hsb₁=>?_) S.kind);dsimp only at hns₁ hsb₁ ⊢;generalize hH2:s2.heap.push {cls:=.type "list",dict:=none,data:=.seq ([]:List Value).toArray}=G at hns₁ hsb₁ ⊢;have hC:G.objs.size=s2.heap.objs.size+1:=by rw[←hH2,Jh]
 have hDC:s2.heap.objs.size≠G.objs.size:=by rw[hC];exact BQ (HV _)
 have hCle:s2.heap.objs.size<=G.objs.size:=by rw[hC];exact FF _
 have old:∀b o,s2.heap.get? b=some o->h₁.get? b=some o:=λb o e=>hsb₁.extBut b o (BQ (C9 (B1 e) hCle)) (B2 _ (hH2▸B2 _ e));have hacc:h₁.get? s2.heap.objs.size=some {cls:=.type "list",dict:=none,data:=.seq ([]:List Value).toArray}:=hsb₁.extBut _ _ hDC (B2 _ (hH2▸CN _ rfl));have hns₂:h₁.Ns G.objs.size (λ_=>none):=hns₁;generalize hXX:De X scope N' cl G.objs.size s2 H2 fp pins=XX at *;have IN:∀(tk:Nat),A3 XX [] (C3 ρ σ) H2 {s2 with heap:=h₁,toks:=tk}:=λtk=>hXX▸Wt (N':=N') I2 S hρ f2 h1 h2 hCle hfs hns₂ old hl;obtain⟨pg,pt,pe⟩:=inner cl G.objs.size s2 H2 fp pins;rw[hXX]at pg pt pe;have eP:XX.prog=X.prog:=by rw[←hXX];rfl
 have eW:XX.w=X.w:=by rw[←hXX];rfl
 have eK:XX.K=X.K:=by rw[←hXX];rfl
 have eA:XX.A=X.A:=by rw[←hXX];rfl
 have eE:XX.env=compEnvC scope cl G.objs.size X.env:=by rw[←hXX];rfl
 have eL:XX.env.locals=G.objs.size:=by rw[eE];rfl
 have ec:XX.calm=true:=by rw[←hXX];exact hc
 have ex:XX.xe=λ_ _=>False:=by rw[←hXX];rfl
 have es0:XX.s₀=s2:=by rw[←hXX];rfl
 have eex:XX.ex=fp:=by rw[←hXX];rfl
 have efs:XX.fs=DV X.stack:=by rw[←hXX];rfl
 have eH0:XX.H₀=H2:=by rw[←hXX];rfl
 have epn:XX.pn=X.pn++pins:=by rw[←hXX];rfl
 have ecl:XX.env.cells=cl:=by rw[eE];rfl
 have stat:∀{H':Hp} {ps:List (Addr×Obj)},(∀b∈fp,H' b=none)->(∀p∈ps,p.1=s2.heap.objs.size)->∀b∈fp,F1 XX ps H' b:=fun{H' ps} hn hp b hb=>by
  refine⟨hn b hb,?_,?_,?_,?_,?_⟩
  .rw[eL];exact BQ (C9 (hfs b hb) hCle)
  .rw[efs];intro z;rcases Bj.mp (I2.stkSub b z) with q|q
   .exact(f2 b hb).2.1 q
   .exact(f2 b hb).2.2.1 q
  .rw[eex];exact .inl hb
  .rw[ecl];exact λx c e=>(f2 b hb).2.2.2.2.1 x c (h1 x c e)
  .intro p hp' z;rw[epn]at hp';rcases Cw.mp hp' with q|q
   .exact(f2 b hb).2.2.2.2.2 p q z
   .rw[hp p q]at z;exact absurd (hfs b hb) (by rw[z];exact Ea _)
 have nofsD:s2.heap.objs.size∉XX.fs:=by
  rw[efs];intro z;rcases Bj.mp (I2.stkSub _ z) with q|q
  .exact absurd I2.lt (by rw[←q];exact Ea _)
  .exact I2.nofs (Al _) q
 have pinD:∀{σ':St} {H':Hp} {s':Shared} {its:List Value} {n:Nat},A3 XX [] σ' H' s'->H' s2.heap.objs.size=none->s'.heap.get? s2.heap.objs.size=some {cls:=.type "list",data:=.seq its.toArray n}->
   A3 XX [(s2.heap.objs.size,{cls:=.type "list",data:=.seq its.toArray n})] σ' H' s':=fun{σ' H' s' its n} I' hn ho=>I'.pins_of λp hp=>by
  have e:p=(s2.heap.objs.size,{cls:=.type "list",data:=.seq its.toArray n}):=by simpa using hp
  subst e;refine⟨ho,hn,by rw[eL];exact hDC,nofsD,λv z=>?_⟩;have z':Data.seq its.toArray n=Data.cell v:=z;cases z'
 have loop:∀s₃:Shared,(∃tk,s₃={s2 with heap:=h₁,toks:=tk})->
   codeAny (model X.prog X.w) X.A (.compLoop (.ListComp elt [⟨tg,iter,ifs,0⟩] scope pos) 0 (.ref it) (.ref s2.heap.objs.size) (compEnvC scope cl G.objs.size X.env)) (RR (.ref s2.heap.objs.size) G.objs.size) s₃:=by
  rintro s₃ ⟨tk,rfl⟩;refine VU (λn s'=>∃i ys its k H',A3 XX [] (C3 ρ σ) H' s'/\tn i s'.heap/\(∀b∈fp,H' b=none)/\H' s2.heap.objs.size=none/\Au ys its/\
   s'.heap.get? s2.heap.objs.size=some {cls:=.type "list",data:=.seq its.toArray k}/\W i n ys H') ?_ m0
   ⟨0,[],[],0,H2,IN tk,T.keep _ _ _ st2 λb _ o e=>old b o e,λb hb=>(f2 b hb).1,I2.hok.fresh (Al _),.nil,hacc,w0⟩
  rintro n s3 ⟨i,ys,its,k,H3,I3,st3,fr3,hD3,rv,ho3,w3⟩;rcases turn i n ys H3 w3 with⟨stop,hz,qn⟩|⟨go,hz,N,hN,step⟩
  .have I3p:=pinD I3 hD3 ho3;have q:=T.done XX eP eW eK ec i _ s3 (C3 ρ σ) H3 (λ_ _=>False) I3p (stat fr3 (by simp)) st3 stop;rw[eA]at q;refine Ay q λr s4 zz=>?_;obtain⟨hr,I4⟩:=zz;subst hr;have ho4:=(I4.pin (s2.heap.objs.size,{cls:=.type "list",data:=.seq its.toArray k}) (by simp)).1;obtain⟨m,hm,_⟩:=I4.loc;rw[eL]at hm;have hun:Un (DV X.stack) fp H2 (upd H3 s2.heap.objs.size (.lst ys)) s2.heap s4.heap:=by
    have u:=I4.base;rw[efs,eex,eH0,es0]at u;refine⟨u.keep,u.slot,λb o e n hx=>?_,u.there,λb xs e=>?_,λb o xs e=>?_,λb ps e=>?_⟩
    .rw[Ak (BQ (B1 e))];exact u.free b o e n hx
    .have q:=u.tups b xs e;rw[Ak (AF q hD3)];exact q
    .have q:=u.frzs b o xs e;rw[Ak (AF q hD3)];exact q
    .obtain⟨more,q⟩:=u.tbls b ps e;exact⟨more,by rw[Ak (AF q hD3)];exact q⟩
   have hok:BR X.prog X.w (upd H3 s2.heap.objs.size (.lst ys)) s4.heap:=by
    have q:=I4.hok;rw[eP,eW]at q;exact q.track hD3 ⟨hz,its,k,rv,ho4⟩
   have hfr:∀b∈fp,(b∈X.ex\/X.s₀.heap.objs.size<=b)/\b≠X.env.locals/\(∀x c,X.env.cells.lookup x=some c->c≠b)/\∀p∈X.pn++pins,p.1≠b:=λb hb=>⟨(f2 b hb).2.2.2.1,(f2 b hb).2.1,(f2 b hb).2.2.2.2.1,(f2 b hb).2.2.2.2.2⟩
   have IO:A3 X pins σ (upd H3 s2.heap.objs.size (.lst ys)) s4:=I2.call' (by have:=I4.os;rw[es0]at this;exact this) hun hok I4.bare hfr;refine fin _ _ s4 _ m IO (qn _ hD3) hm (I2.fpOk hCle ?_);rw[Ak (Ne.symm hDC)];have:=I4.free;rw[eL]at this;exact this
  .have I3p:=pinD I3 hD3 ho3;have q:=T.item XX eP eW eK ec i _ s3 (C3 ρ σ) H3 (λ_ _=>False) I3p (stat fr3 (by simp)) st3 go;rw[eA]at q;refine Ay q λr s4 zz=>?_;obtain⟨u,hr,h4⟩:=zz;subst hr;refine Ay h4 λ_ s5 zz=>?_;obtain⟨x,H5,I5,r5,y5,st5,fr5⟩:=zz;have I5':=I5.pinned (stat fr5 (by simp)) (T.obj _ _ st5);have qa:=pg _ s5 (C3 ρ σ) H5 x u _ I5' r5 (step x H5 y5);rw[eP,eW,eA,eE,ex]at qa;refine Ay qa λ_ s6 zz=>?_;obtain⟨σ6,H6,I6,⟨ou1,ou2⟩,q6⟩:=zz;have hw6:(C3 ρ σ).length=σ6.length:=by rw[ou1];unfold C3;rw[Af]
   have qt:=pt _ s6 σ6 H6 _ I6 q6;rw[eP,eW,eA,eE,ex]at qt;refine Ay qt λok s7 zz=>?_;obtain⟨H7,I7,q7⟩:=zz;have back:∀{s8:Shared} {H8:Hp},A3 XX ([(s2.heap.objs.size,{cls:=.type "list",data:=.seq its.toArray k})]++Ij fp s5.heap) σ6 H8 s8->tn (i+1) s8.heap/\(∀b∈fp,H8 b=none)/\H8 s2.heap.objs.size=none/\
     s8.heap.get? s2.heap.objs.size=some {cls:=.type "list",data:=.seq its.toArray k}:=fun{s8 H8} I8=>by
    refine⟨T.keep _ _ _ st5 λb hb o e=>(I8.pin (b,o) (Dj _ (Dj _ (JT hb e)))).1,λb hb=>?_,?_,?_⟩
    .obtain⟨o,e,d⟩:=T.obj _ _ st5 b hb;exact(I8.pin (b,o) (Dj _ (Dj _ (JT hb e)))).2.1
    .exact(I8.pin (s2.heap.objs.size,{cls:=.type "list",data:=.seq its.toArray k}) (by simp)).2.1
    .exact(I8.pin (s2.heap.objs.size,{cls:=.type "list",data:=.seq its.toArray k}) (by simp)).1
   cases ok with
   |
    false=>
    obtain⟨m',hm,w7⟩:=hN _ _ q7;obtain⟨b1,b2,b3,b4⟩:=back I7;exact⟨m',hm,i+1,ys,its,k,H7,(I7.pins_of (pins':=[]) (λ_ z=>nomatch z)).weak hw6 ou2,b1,b2,b3,rv,b4,w7⟩
   |
    true=>
    have qe:=pe _ s7 σ6 H7 _ I7 q7;rw[eP,eW,eA,eE,ex]at qe;refine Ay qe λy s8 zz=>?_;obtain⟨v8,H8,I8,r8,n8⟩:=zz;obtain⟨m',hm,w8⟩:=hN _ _ n8;obtain⟨b1,b2,b3,b4⟩:=back I8;have hlen:=rv.length;refine Js F.slot_list_append ⟨_,b4,rfl⟩ F.entry_list_append (F.args_list_append_2 _ _) (PySem.list_append s2.heap.objs.size its.toArray k y (by rw[Bh];lia)) ⟨b4,?_⟩;have qL:=PySem.IsL.update b4 (λxs=>xs.push y);have I8':A3 XX [] σ6 H8 s8:=I8.pins_of (λ_ z=>nomatch z);have I9:A3 XX [] σ6 H8 {s8 with heap:=s8.heap.update s2.heap.objs.size (Obj.mapSeq λxs=>xs.push y),toks:=s8.toks}:=I8'.turned (it:=s2.heap.objs.size) (λb o hb e=>(GK s8.heap _ (Ne.symm hb)).trans e) b3
     (by rw[eL];exact hDC) (.inr (by rw[es0];exact Al _)) (by
      rw[ecl];intro x c e z;obtain⟨v,qc⟩:=I2.cell x c (h1 x c e);exact absurd qc.lt (by rw[z];exact Ea _)) (by
      intro p hp z;have hp':p∈X.pn++pins:=by rw[epn]at hp;simpa using hp
      exact absurd (B1 (I2.pin p hp').1) (by rw[z];exact Ea _))
    have hnd:s2.heap.objs.size∉fp:=λz=>Ea _ (hfs _ z);rw[show its.toArray.push y=(its++[y]).toArray by simp]at qL;refine⟨m',hm,i+1,ys++[v8],its++[y],_,H8,I9.weak hw6 ou2,T.keep _ _ _ b1 λb hb o e=>(GK s8.heap _ (by rintro rfl;exact hnd hb)).trans e,b2,b3,rv.append (.cons r8 .nil),qL,w8⟩
 refine codeAny_compStart_list (loop _ ⟨_,rfl⟩) (T.self X.A 0 _ _ _ (T.keep _ _ _ st2 λb _ o e=>old b o e) (loop _ ⟨_,rfl⟩))
theorem YO {X:Cx}{elt iter tg:Expr}{ifs:List Expr}{scope:Scope}{pos:Pos}(N':List Str)(ρ:List (Option Nat)){wi:TI}{g:TG}{tt:TT}{te:TE}(hc:X.calm=true)(hi:PI X tg iter wi)(S:Ih scope X.env.scope)(hρ:Kz scope X.env X.N N' ρ)
  (hl:∀x,(x,NameKind.free)∈scope.names->scope.names.lookup x=some .free)
  (inner:∀(cl:List (Str×Addr)) (C:Addr) (s:Shared) (H:Hp) (fp:List Addr) (pins:List (Addr×Obj)),PG (De X scope N' cl C s H fp pins) tg g/\Ho (De X scope N' cl C s H fp pins) ifs tt/\PE (De X scope N' cl C s H fp pins) elt te)
  (hs:∀x,foldedSetIterable iter X.env x=pure x:=by intro _;rfl):PE X (.ListComp elt [⟨tg,iter,ifs,0⟩] scope pos) (JE ρ wi g tt te):=by
 intro pins s σ H Q I h;obtain⟨cl,hcl,h1,h2⟩:=Rv (scope:=scope) (env:=X.env) (λn hn=>I.ok.has n (S.free (n,.free) hn rfl));rw[eval_ListComp];refine wpAny_comprehension_free (use:=none) rfl hs hcl S.kind S.loc ?_;refine PY (RR:=λacc C=>compPost (model X.prog X.w) X.A X.xe none (EP X pins σ Q) acc C) hc hi S hρ hl inner I h h1 h2 ?_;intro D C s' H' m I' q hm hf;refine⟨m,hm,λh' sb=>⟨.ref D,H',?_,rfl,q⟩⟩;exact I'.turned (t':=s'.toks) (λb o hb e=>(sb.2 b hb).trans e) hf.1 hf.2.1 hf.2.2.2.1 hf.2.2.2.2.1 hf.2.2.2.2.2
theorem XR {X:Cx}{elt iter tg:Expr}{ifs:List Expr}{scope:Scope}{pos pos' spos:Pos}{i:Nat}{x:Str}(N':List Str)(ρ:List (Option Nat)){wi:TI}{g:TG}{tt:TT}{te:TE}(hN:X.N.Nodup)(hix:X.N[i]?=some x)(hx:GZ X.env.scope x)
  (hc:X.calm=true) (hi:PI X tg iter wi) (S:Ih scope X.env.scope) (hρ:Kz scope X.env X.N N' ρ)
  (hl:∀x,(x,NameKind.free)∈scope.names->scope.names.lookup x=some .free)
  (inner:∀(cl:List (Str×Addr)) (C:Addr) (s:Shared) (H:Hp) (fp:List Addr) (pins:List (Addr×Obj)),PG (De X scope N' cl C s H fp pins) tg g/\Ho (De X scope N' cl C s H fp pins) ifs tt/\PE (De X scope N' cl C s H fp pins) elt te)
  (hsw:swapsWith (.ListComp elt [⟨tg,iter,ifs,0⟩] scope pos) (some (.Name x pos')) spos.line X.env=pure true:=by rfl)
  (hs:∀x,foldedSetIterable iter X.env x=pure x:=by intro _;rfl) (hf:X.fn x=true\/X.env.scope.names.lookup x=some .local:=by first|exact .inl rfl|exact .inr rfl|assumption) :
  PS X (.Assign [.Name x pos'] (.ListComp elt [⟨tg,iter,ifs,0⟩] scope pos) spos) (JF (JE ρ wi g tt te) (Ar i)):=by
 intro pins s σ H Dn I h;obtain⟨cl,hcl,h1,h2⟩:=Rv (scope:=scope) (env:=X.env) (λn hn=>I.ok.has n (S.free (n,.free) hn rfl));rw[exec_Assign_Name_used _ _ _ _ hsw];refine Ag (KG (Ag ?_));show wpAny _ X.A (do let _ ←comprehension (.ListComp elt [⟨tg,iter,ifs,0⟩] scope pos) scope X.env _ (newList []) false (eval iter X.env) (some (assign (.Name x pos') X.env))) _ _ s;refine Ag (Dm (wpAny_comprehension_free (use:=some (assign (.Name x pos') X.env)) (Q:=λ_ s'=>SP X pins Dn .next s') rfl hs hcl S.kind S.loc ?_) (λ_ s' hq=>AN (AN hq)) λ_ _ e=>e);refine PY (RR:=λacc C=>compPost (model X.prog X.w) X.A X.xe (some (assign (.Name x pos') X.env)) (λ_ s'=>SP X pins Dn .next s') acc C) hc hi S hρ hl inner I h h1 h2 ?_;intro D C s' H' m I' q hm hfC;obtain⟨oC,es,ep,hoC,hr⟩:=id hm;have pin:A3 X (pins++Ij [C] s'.heap) σ H' s':=I'.pinned (λb hb=>by
  have e:b=C:=by simpa using hb
  subst e;exact hfC) (λb hb=>by
  have e:b=C:=by simpa using hb
  subst e;exact⟨oC,hoC,λv z=>by rw[hr.1]at z;cases z⟩)
 show wpAny _ X.A (assign (.Name x pos') X.env (.ref D)) _ _ _;refine wpAny_assign_Name ?_;refine IZ (M:=model X.prog X.w) (A:=X.A) (E:=X.xe) pin hN hix hx (v:=.ref D) (u:=.ref D) rfl (λs'' I''=>?_) hf;have pC:=(I''.pin (C,oC) (Dj _ (Dj _ (JT (by simp) hoC))))
 refine⟨m,⟨oC,es,ep,pC.1,hr⟩,λh' sb=>⟨_,H',?_,q⟩⟩;have I2:A3 X pins (σ.set i (some (.ref D))) H' s'':=I''.unpinned;exact I2.turned (t':=s''.toks) (λb o hb e=>(sb.2 b hb).trans e) hfC.1 hfC.2.1 hfC.2.2.2.1 hfC.2.2.2.2.1 hfC.2.2.2.2.2
theorem Fl (σ:St)(o:Option Nat)(ρ:List (Option Nat)):C3 (o::ρ) σ=(match o with|some i=>(σ[i]?).getD none|none=>none)::C3 ρ σ:=rfl
theorem cF {ρ:List (Option Nat)}{σ:St}(o:Option V):IT (none::ρ) σ (o::C3 ρ σ):=by
 refine⟨by unfold C3;simp,λj v e=>?_⟩;cases j with
 |zero=>rw[Fl]at e;simp at e
 |succ j=>rw[Fl]at e;simpa using e
theorem Sg {ρ:List (Option Nat)}{σ:St}(o o':Option V):IT (none::none::ρ) σ (o::o'::C3 ρ σ):=by
 refine⟨by unfold C3;simp,λj v e=>?_⟩;cases j with
 |zero=>rw[Fl]at e;simp at e
 |
  succ j=>
  rw[Fl,Fl]at e;cases j with
  |zero=>simp at e
  |succ j=>simpa using e
theorem O7 {J:It}{n:Nat}{X:Nat->V->Prop}{ρ:List (Option Nat)}{tt:TT}{te:TE}{σ:St}{H:Hp}{Q:VK}(Pv:Nat->List V->Hp->Prop)(h0:Pv 0 [] H)(hlen:n<=sizeLine)
  (hy:∀i ys H,i<=n->Pv i ys H->ys.length<=i) (hgo:∀i ys H,i<n->Pv i ys H->J.go i H) (hyl:∀i ys H x H',i<n->Pv i ys H->J.yld i H x H'->H'=H/\X i x) (hst:∀ys H,Pv n ys H->J.stop n H)
  (hs:∀i x ys H,i<n->X i x->Pv i ys H->tt (some x::C3 ρ σ) H λok H4=>if ok=true then te (some x::C3 ρ σ) H4 λv H5=>Pv (i+1) (ys++[v]) H5 else Pv (i+1) ys H4)
  (hd:∀ys H,Pv n ys H->∀p,H p=none->Q (.ref p) (upd H p (.lst ys))) :
  Hn (none::ρ) (Ar 0) tt te σ Q J H:=by
 refine⟨λi m ys H=>m=n-i/\i<=n/\Pv i ys H,⟨n,by simp,Bv _,h0⟩,?_⟩;rintro i m ys H ⟨rfl,hi,p⟩;have hl:=hy i ys H hi p;by_cases hlt:i<n
 .refine .inr ⟨hgo i ys H hlt p,by lia,Pv (i+1),λys' H'' p'=>⟨n-(i+1),by lia,rfl,hlt,p'⟩,λx H' y=>?_⟩;obtain⟨e,y2⟩:=hyl i ys H x H' hlt p y;subst e;exact⟨cF _,hs i x ys _ hlt y2 p⟩
 .have e:i=n:=by lia
  subst e;exact .inl ⟨hst ys H p,by lia,hd ys H p⟩
theorem bL {K:Faa}{a:Addr}{xs:List V}{ρ:List (Option Nat)}{tt:TT}{te:TE}{σ:St}{H:Hp}{Q:VK}(Pv:Nat->List V->Hp->Prop)(h0:Pv 0 [] H)(hlen:xs.length<=sizeLine)(hl:∀i ys H,i<=xs.length->Pv i ys H->A7 K H a xs/\ys.length<=i)
  (hs:∀i x ys H,xs[i]?=some x->Pv i ys H->tt (some x::C3 ρ σ) H λok H4=>if ok=true then te (some x::C3 ρ σ) H4 λv H5=>Pv (i+1) (ys++[v]) H5 else Pv (i+1) ys H4)
  (hd:∀ys H,Pv xs.length ys H->∀p,H p=none->Q (.ref p) (upd H p (.lst ys))) :
  Hn (none::ρ) (Ar 0) tt te σ Q (Iv K a) H:=
 O7 (n:=xs.length) (X:=λi x=>xs[i]?=some x) Pv h0 hlen (λi ys H hi p=>(hl i ys H hi p).2) (λi ys H hi p=>⟨xs,xs[i],(hl i ys H (Fc hi) p).1,by simp[hi]⟩) (λi ys H x H' hi p y=>⟨y.1,y.2 xs (hl i ys H (Fc hi) p).1⟩)
  (λys H p=>⟨xs,(hl _ ys H (Al _) p).1,Al _⟩) (λi x ys H _ e p=>hs i x ys H e p) hd
theorem J8 {K:Faa}{a:Addr}{xs:List V}{ρ:List (Option Nat)}{tt:TT}{te:TE}{σ:St}{H:Hp}{Q:VK}(Pv:Nat->List V->Hp->Prop)(h0:Pv 0 [] H)(hlen:xs.length<=sizeLine)(hl:∀i ys H,i<=xs.length->Pv i ys H->A4 K H a xs/\ys.length<=i)
  (hs:∀i x ys H,xs[i]?=some x->Pv i ys H->tt (some x::C3 ρ σ) H λok H4=>if ok=true then te (some x::C3 ρ σ) H4 λv H5=>Pv (i+1) (ys++[v]) H5 else Pv (i+1) ys H4)
  (hd:∀ys H,Pv xs.length ys H->∀p,H p=none->Q (.ref p) (upd H p (.lst ys))) :
  Hn (none::ρ) (Ar 0) tt te σ Q (Ht K a) H:=
 O7 (n:=xs.length) (X:=λi x=>xs[i]?=some x) Pv h0 hlen (λi ys H hi p=>(hl i ys H hi p).2) (λi ys H hi p=>⟨xs,xs[i],(hl i ys H (Fc hi) p).1,by simp[hi]⟩) (λi ys H x H' hi p y=>⟨y.1,y.2 xs (hl i ys H (Fc hi) p).1⟩)
  (λys H p=>⟨xs,(hl _ ys H (Al _) p).1,Al _⟩) (λi x ys H _ e p=>hs i x ys H e p) hd
theorem PZ {lo:Int}{n:Nat}{ρ:List (Option Nat)}{tt:TT}{te:TE}{σ:St}{H:Hp}{Q:VK}(Pv:Nat->List V->Hp->Prop)(h0:Pv 0 [] H)(hlen:n<=sizeLine)(hl:∀i ys H,i<=n->Pv i ys H->ys.length<=i)
  (hs:∀i ys H,i<n->Pv i ys H->tt (some (.int (lo+i))::C3 ρ σ) H λok H4=>if ok=true then te (some (.int (lo+i))::C3 ρ σ) H4 λv H5=>Pv (i+1) (ys++[v]) H5 else Pv (i+1) ys H4)
  (hd:∀ys H,Pv n ys H->∀p,H p=none->Q (.ref p) (upd H p (.lst ys))) :
  Hn (none::ρ) (Ar 0) tt te σ Q (Hw lo n) H:=
 O7 (n:=n) (X:=λi x=>x = .int (lo+i)) Pv h0 hlen hl (λi ys H hi p=>hi) (λi ys H x H' hi p y=>y) (λys H p=>Al _) (λi x ys H hi e p=>by subst e;exact hs i ys H hi p) hd
abbrev Fq (x:Str):List Nat:=x.cps.toList
theorem Ma (x:Str):(Fq x).length=x.length:=by simp[Fq,Str.length]
theorem Yt (x y:Str):Fq (x++y)=Fq x++Fq y:=by simp[Fq,Str.cps_append]
def bZ (l:List Nat):Str:=⟨l.toArray⟩
def Ie {α:Type}(xs:List α)(lo hi:Option Int):List α:=(xs.drop (HT.sIx xs.length 0 lo)).take (HT.sIx xs.length xs.length hi-HT.sIx xs.length 0 lo)
section
variable {X:Cx}
def VR:R2:=λx y H Q=>∃z n,x = .str z/\y = .int n/\-(2 ^ 63:Int)<=n/\n<=4096/\z.length<=4096/\Q (.str (Txt.mul z n)) H
theorem au:BM X (binaryOp .Mult) VR:=by
 intro pins s σ H x y v u Q I rx ry h;obtain⟨z,n,rfl,rfl,h1,h2,h3,q⟩:=h;obtain⟨t,rfl⟩:=rx;obtain⟨t',rfl⟩:=ry;exact SB.mul (mulOk_of 4096 4096 h3 h2 h1 (by decide) (by decide)) λt' k=>⟨.str _,H,I.tok _,⟨_,rfl⟩,q⟩
theorem cA (c:Nat)(n:Int):Fq (Txt.mul ⟨#[c]⟩ n)=List.replicate n.toNat c:=mul_one_list c n
end
section
variable {X:Cx}
theorem cn (hc:X.calm=true):Eg X (.builtin "all") (λxs H Q=>∃(p:Addr) (bs:List Bool),xs=[.ref p]/\A4 X.K H p (bs.map V.bl)/\Q (.bl (bs.all id)) H):=by
 intro pins s σ H xs us Q I r h;obtain⟨p,bs,rfl,hq,q⟩:=h;obtain⟨u,rfl,ru⟩:=EJ r;cases ru;obtain⟨its,rv,pl,hz⟩:=I.list hq;have hne:p≠s.heap.objs.size:=by
  obtain⟨o,n,e,_⟩:=pl;exact BQ (B1 e)
 have hl:=rv.length;refine call_all_walk (Th pl.isList ⟨s.heap.objs.size,_,_,its.toArray.size,_,_,λi=>bs.getD i true,rfl,Walks.list (A:=X.A.in1) (show X.A.in1.handled=none from I.ok.hd hc) s.heap.objs.size p hne its.toArray,⟨⟨_,CN _ rfl,rfl,rfl⟩,(pl.isList).push _⟩,?_,λh' tk kk=>?_⟩)
 .intro i v s' Q' E hv hq';have hv':its[i]?=some v:=by simpa using hv
  have hb:∃b,bs[i]?=some b/\v = .bool b:=by
   cases e:(bs.map V.bl)[i]? with
   |
    none=>
    have:=rv.none_of e;rw[hv']at this;cases this
   |
    some y=>
    obtain⟨u,hu,ru⟩:=rv.get e;rw[hv']at hu;cases hu;rw[Bf]at e;cases eb:bs[i]? with
    |none=>rw[eb]at e;cases e
    |
     some b=>
     rw[eb]at e;cases e;exact⟨b,rfl,ru⟩
  obtain⟨b,hb,rfl⟩:=hb;refine KF ?_;have hq2:Q' ((bs[i]?).getD true) s':=hq';rw[hb]at hq2;exact hq2
 .have e:((List.range its.toArray.size).all λi=>bs.getD i true)=bs.all id:=by
   have el:its.toArray.size=bs.length:=by rw[Bh,←hl,Af]
   rw[el];rw[Gf];simp only[Jj,DE];constructor
   .intro h b hb;obtain⟨i,hi,e⟩:=KD.mp hb;have:=h i hi;rw[Bk,AA hi]at this;rw[←e];exact this
   .intro h i hi;rw[Bk,AA hi];exact h _ (FH hi)
  rw[e];refine⟨.bl (bs.all id),H,I.kept (t':=tk) λb o eb=>kk b o ?_ (B2 _ eb),rfl,q⟩;intro z;have z':b=s.heap.objs.size:=by simpa using z
  exact absurd (B1 eb) (by rw[z'];exact Ea _)
def N8:V->Option Value
 |.ty n=>some (.type n)
 |.ref a=>some (.ref a)
 |_=>none
theorem YR:Eg X (.builtin "isinstance") (λxs H Q=>∃x c t cv b,xs=[x,c]/\N8 c=some cv/\Ex X.K H x t/\PySem.W.kitOne X.K t cv=some b/\Q (.bl b) H):=by
 intro pins s σ H xs us Q I r h;obtain⟨x,c,t,cv,b,rfl,rc,ty,e,q⟩:=h;obtain⟨u,w',rfl,rx,rw'⟩:=r.two;have:w'=cv:=by
  cases c with
  |ref a=>cases rc;exact rw'
  |ty a=>cases rc;exact rw'
  |_=>cases rc
 subst this;exact aD I rx ty e λtk=>⟨.bl b,H,I.tok _,rfl,q⟩
end
def Dy (sc out:Scope)(N N':List Str)(ρ:List (Option Nat)):Bool:=
 decide (sc.kind = .function)&&sc.names.all (λy=>decide (y.2≠.cell))&&sc.names.all (λy=>decide (y.2 = .local->sc.names.lookup y.1=some .local)) &&
 sc.names.all (λy=>decide (y.2 = .free->sc.names.lookup y.1=some .free/\(out.names.lookup y.1=some .cell\/out.names.lookup y.1=some .free))) &&
 decide (ρ.length=N'.length)&&decide N'.Nodup &&
 (ρ.zip N').all (λp=>match p.1 with|none=>true|some i=>decide (N[i]?=some p.2)&&decide (out.names.lookup p.2=some .local\/out.names.lookup p.2=some .cell\/out.names.lookup p.2=some .free)&&sc.names.any (λy=>decide (y=(p.2,NameKind.free))))
structure Yq (sc:Scope)(env:Env)(N N':List Str)(ρ:List (Option Nat)):Prop where
 S:Ih sc env.scope
 sl:Kz sc env N N' ρ
 hl:∀x,(x,NameKind.free)∈sc.names->sc.names.lookup x=some .free
 nd:N'.Nodup
theorem Sy {sc:Scope}{env:Env}{N N':List Str}{ρ:List (Option Nat)}(h:Dy sc env.scope N N' ρ=true):Yq sc env N N' ρ:=by
 unfold Dy at h;simp only[Du,Tj,Jj]at h;obtain⟨⟨⟨⟨⟨⟨h1,h2⟩,h3⟩,h4⟩,h5⟩,h6⟩,h7⟩:=h;refine⟨⟨h1,h2,h3,λy hy e=>(h4 y hy e).2⟩,⟨h5,λj i x e1 e2=>?_⟩,λx hx=>(h4 _ hx rfl).1,h6⟩;have hm:(some i,x)∈ρ.zip N':=by
  refine AY (i:=j) ?_;rw[List.getElem?_zip_eq_some];exact⟨e1,e2⟩
 have q:=h7 _ hm;simp only[Du,Tj,SZ]at q;obtain⟨⟨q1,q2⟩,y,hy,e⟩:=q;exact⟨q1,q2,e▸hy⟩
theorem F7 {X:Cx}{elt iter tg:Expr}{ifs:List Expr}{scope:Scope}{pos:Pos}(N':List Str)(ρ:List (Option Nat)){wi:TI}{g:TG}{tt:TT}{te:TE}(hc:X.calm=true)(hi:PI X tg iter wi)(h:Dy scope X.env.scope X.N N' ρ=true)
  (inner:∀(cl:List (Str×Addr)) (C:Addr) (s:Shared) (H:Hp) (fp:List Addr) (pins:List (Addr×Obj)),PG (De X scope N' cl C s H fp pins) tg g/\Ho (De X scope N' cl C s H fp pins) ifs tt/\PE (De X scope N' cl C s H fp pins) elt te)
  (hs:∀x,foldedSetIterable iter X.env x=pure x:=by intro _;rfl):PE X (.ListComp elt [⟨tg,iter,ifs,0⟩] scope pos) (JE ρ wi g tt te):=
 have F:=Sy h
 YO N' ρ hc hi F.S F.sl F.hl inner hs
theorem Sr {X:Cx}{elt iter tg:Expr}{ifs:List Expr}{scope:Scope}{pos pos' spos:Pos}{i:Nat}{x:Str}(N':List Str)(ρ:List (Option Nat)){wi:TI}{g:TG}{tt:TT}{te:TE}(hN:X.N.Nodup)(hix:X.N[i]?=some x)(hx:GZ X.env.scope x)
  (hc:X.calm=true) (hi:PI X tg iter wi) (h:Dy scope X.env.scope X.N N' ρ=true)
  (inner:∀(cl:List (Str×Addr)) (C:Addr) (s:Shared) (H:Hp) (fp:List Addr) (pins:List (Addr×Obj)),PG (De X scope N' cl C s H fp pins) tg g/\Ho (De X scope N' cl C s H fp pins) ifs tt/\PE (De X scope N' cl C s H fp pins) elt te)
  (hsw:swapsWith (.ListComp elt [⟨tg,iter,ifs,0⟩] scope pos) (some (.Name x pos')) spos.line X.env=pure true:=by rfl)
  (hs:∀x,foldedSetIterable iter X.env x=pure x:=by intro _;rfl) (hf:X.fn x=true\/X.env.scope.names.lookup x=some .local:=by first|exact .inl rfl|exact .inr rfl|assumption) :
  PS X (.Assign [.Name x pos'] (.ListComp elt [⟨tg,iter,ifs,0⟩] scope pos) spos) (JF (JE ρ wi g tt te) (Ar i)):=
 have F:=Sy h
 XR N' ρ hN hix hx hc hi F.S F.sl F.hl inner hsw hs hf
def N4 (K:Faa):Sp:=λvs H Q _=>∃(a:Addr) (ns:List Int),vs=[.ref a]/\A4 K H a (ns.map V.int)/\ns.length<=63/\Md H/\∀H',Q (.bl true) H'
theorem law_walk {l:PySem.W.OpenLaw}{q:Program}{loose:List Str}{XP:(Str->Option Value)->Heap->Prop}{YP:World->Heap->Prop}{d:DefRec}{K:Params->Faa}{x:Str}(k:Nat)(hk:k<=200)(hn:l.most=some 63)(hdf:d.params.defaults=[])
  (hY:∀(w:World) (h:Heap),YP w h->(K w.params).In h)
  (F:∀(w:World) (mg:Str->Option Value) (fa:Addr) (h:Heap),(K w.params).In h->h.Ns mainGlobals mg->mg d.name=some (.ref fa)->
   ∃fd:FuncData,(∀(s:Shared) (u:Value),BindsTo s fd ⟨[u],[]⟩ [(x,u)])/\∀base:Heap,(K w.params).In base->base.Ns mainGlobals mg->AM l.prog w (K w.params) mg base AW k fa fd [x] (N4 (K w.params))) :
  PySem.W.WalkO q loose XP YP l.row.toRowW d [] (λf vs=>PySem.call f vs):=
 L2.walk_of (n:=63) (k:=k) (x:=x) (CX:=λ_=>AW) (sp:=λw=>N4 (K w.params)) hn (by decide) hdf
  ⟨rfl,by
    have:callerA.depth+605<recursionLimit:=by decide
    lia,by
     have:callerA.units+3400<cLine:=by decide
     lia,rfl⟩ hY F (λ_ H a ns hl hO hS=>⟨a,ns,rfl,hS,hl,hO,λ_=>rfl⟩) λ_ _ _ _ _ z=>z
def Em (l:List (Str×NameKind)):Scope:={kind:=.function,names:=l,isGenerator:=false,isCoroutine:=false,more:=[]}
theorem BK:bootBuiltins "len"=some (.builtin "len"):=by decide +kernel
theorem Xl:bootBuiltins "all"=some (.builtin "all"):=by decide +kernel
theorem XA:bootBuiltins "any"=some (.builtin "any"):=by decide +kernel
theorem J4:bootBuiltins "isinstance"=some (.builtin "isinstance"):=by decide +kernel
theorem ZS:bootBuiltins "abs"=some (.builtin "abs"):=by decide +kernel
theorem Mu:bootBuiltins "min"=some (.builtin "min"):=by decide +kernel
theorem P8:bootBuiltins "sorted"=some (.builtin "sorted"):=by decide +kernel
theorem bR:bootBuiltins "int"=some (.type "int"):=by decide +kernel
theorem Ln:bootBuiltins "list"=some (.type "list"):=by decide +kernel
theorem F4:bootBuiltins "tuple"=some (.type "tuple"):=by decide +kernel
theorem Bp {n:Nat}(h:n<=1000000):n<=sizeLine:=by rw[OY];lia
theorem Ai {n:Nat}(h:Nat.ble n 1000000=true):n<=sizeLine:=Bp (Nat.le_of_ble_eq_true h)
theorem C5 {n:Nat}(h:n<1000000):n<sizeLine:=by rw[OY];lia
theorem A9 {H:Hp}{p:Addr}(h:H p=none)(o:HO):A8 H (upd H p o):=λb u q=>by rw[Ak (AF q h)];exact q
theorem dT {p:Prop}[Decidable p](h:decide p=true):p:=Fk h
theorem dF {p:Prop}[Decidable p](h:¬decide p=true):¬p:=λz=>h (BB z)
def Xm (K:Faa):Sp:=λvs H Q _=>∃(a:Addr) (ns:List Int) (k:Int),vs=[.ref a,.int k]/\A4 K H a (ns.map V.int)/\0<=k/\Q (.int (ns.getD k.toNat 0)) H
theorem Ny {ns:List Int}{k:Int}(h0:0<=k)(h:k<(ns.length:Int)):Be (ns.map V.int) k=some (.int (ns.getD k.toNat 0)):=by
 have hk:k.toNat<ns.length:=by lia
 have ek:k=((k.toNat:Nat):Int):=by lia
 have q:Be (ns.map V.int) ((k.toNat:Nat):Int)=some (.int (ns.getD k.toNat 0)):=Bg (by rw[Bf,AA hk];simp[Bk,hk]);rw[←ek]at q;exact q
theorem U6 {ns:List Int}{k:Int}(h:¬k<(ns.length:Int)):ns.getD k.toNat 0=0:=by rw[Bk,MM (by lia)];rfl
theorem Ct {α:Type}{l:List α}{i:Nat}{c:α}(h:l[i]?=some c):l.take (i+1)=l.take i++[c]:=by
 rw[List.take_succ,h];rfl
theorem Dq {t u:TS}{D:CL}{σ:St}{H:Hp}(M:St->Hp->Prop)(hu:∀σ' H',M σ' H'->u D σ' H')(ht:(∀σ' H',M σ' H'->u D σ' H')->t {D with nx:=u D} σ H):G8 t u D σ H:=ht hu
theorem KP {p:Prop}[Decidable p](h:p):(!decide p)=false:=by rw[BB h];rfl
theorem KU {p:Prop}[Decidable p](h:¬p):(!decide p)=true:=by rw[C2 h];rfl
theorem Bc {b:Bool}{A B:Prop}{v:Bool}(e:b=v)(h:if v=true then A else B):if b=true then A else B:=by rw[e];exact h
set_option genInjectivity true in
inductive Tr where
 |v (x:V)
 |lst (l:List Tr)
 |tup (l:List Tr)
mutual
inductive BO (K:Faa)(H:Hp):V->Tr->Prop
 |flat {x:V}:E5 x=true->BO K H x (.v x)
 |lst {p:Addr} {xs:List V} {l:List Tr}:A4 K H p xs->Cp K H xs l->BO K H (.ref p) (.lst l)
 |tup {p:Addr} {xs:List V} {l:List Tr}:A7 K H p xs->Cp K H xs l->BO K H (.ref p) (.tup l)
inductive Cp (K:Faa)(H:Hp):List V->List Tr->Prop
 |nil:Cp K H [] []
 |cons {x:V} {t:Tr} {xs:List V} {l:List Tr}:BO K H x t->Cp K H xs l->Cp K H (x::xs) (t::l)
end
mutual
def BX:Tr->Tr->Bool
 |.v x,.v y=>DT x y
 |.lst l,.lst m=>Cc l m
 |.tup l,.tup m=>Cc l m
 |_,_=>false
def Cc:List Tr->List Tr->Bool
 |[],[]=>true
 |x::l,y::m=>BX x y&&Cc l m
 |_,_=>false
end
mutual
def Cn:Tr->Tr->Bool
 |.v _,.v _=>true
 |.lst l,.lst m=>F3 l m
 |.tup l,.tup m=>F3 l m
 |_,_=>false
def F3:List Tr->List Tr->Bool
 |x::l,y::m=>Cn x y&&F3 l m
 |_,_=>true
end
mutual
def CM:Tr->Nat
 |.v _=>0
 |.lst l=>CU l+1
 |.tup l=>CU l+1
def CU:List Tr->Nat
 |[]=>0
 |x::l=>max (CM x) (CU l)
end
theorem VO {x:V}(h:E5 x=true):DT x x=true:=by
 cases x<;>first|rfl|(simp[DT];done)|(simp[E5]at h)
mutual
def Ga:Tr->Bool
 |.v x=>E5 x
 |.lst l=>Gw l
 |.tup l=>Gw l
def Gw:List Tr->Bool
 |[]=>true
 |x::l=>Ga x&&Gw l
end
mutual
theorem Ml:∀t:Tr,Ga t=true->BX t t=true
 |.v x,h=>by rw[BX];exact VO (by simpa[Ga] using h)
 |.lst l,h=>by rw[BX];exact O2 l (by simpa[Ga] using h)
 |.tup l,h=>by rw[BX];exact O2 l (by simpa[Ga] using h)
theorem O2:∀l:List Tr,Gw l=true->Cc l l=true
 |[],_=>by rw[Cc]
 |
  x::l,h=>by
  rw[Gw,Du]at h;rw[Cc,Ml x h.1,O2 l h.2];rfl
end
mutual
theorem R7:∀t:Tr,Cn t t=true
 |.v x=>by rw[Cn]
 |.lst l=>by rw[Cn];exact O3 l
 |.tup l=>by rw[Cn];exact O3 l
theorem O3:∀l:List Tr,F3 l l=true
 |[]=>by simp[F3]
 |x::l=>by rw[F3,R7 x,O3 l];rfl
end
mutual
theorem BO.ok {K:Faa}{H:Hp}:∀{x:V} {t:Tr},BO K H x t->Ga t=true
 |
  _,_,h=>by
  cases h with
  |flat h=>rw[Ga];exact h
  |lst _ h=>rw[Ga];exact h.ok
  |tup _ h=>rw[Ga];exact h.ok
theorem Cp.ok {K:Faa}{H:Hp}:∀{xs:List V} {l:List Tr},Cp K H xs l->Gw l=true
 |
  _,_,h=>by
  cases h with
  |nil=>rw[Gw]
  |cons h r=>rw[Gw,h.ok,r.ok];rfl
end
theorem Cp.length {K:Faa}{H:Hp}:∀{xs:List V} {l:List Tr},Cp K H xs l->xs.length=l.length
 |
  _,_,h=>by
  cases h with
  |nil=>rfl
  |cons _ r=>simp[r.length]
theorem OB:∀{l m:List Tr},l.length≠m.length->Cc l m=false
 |[],[],h=>absurd rfl h
 |[],_::_,_=>by rw[Cc]<;>simp
 |_::_,[],_=>by rw[Cc]<;>simp
 |
  x::l,y::m,h=>by
  rw[Cc,OB (l:=l) (m:=m) (λe=>h (by simp[e])),OI]
section
variable {X:Cx}{pins:List (Addr×Obj)}{σ:St}{H:Hp}{s:Shared}
mutual
theorem BO.inj (I:A3 X pins σ H s):∀{t t':Tr} {x:V},BO X.K H x t->BO X.K H x t'->t=t'
 |
  _,_,_,h,h'=>by
  cases h with
  |
   flat h=>
   cases h' with
   |flat _=>rfl
   |lst _ _=>cases h
   |tup _ _=>cases h
  |
   lst hq hr=>
   cases h' with
   |flat h=>cases h
   |
    lst hq' hr'=>
    have e:=I.list_inj hq hq';subst e;rw[Cp.inj I hr hr']
   |
    tup hq' hr'=>
    obtain⟨_,_,⟨o,n,e1,c1,_⟩,_⟩:=I.list hq;obtain⟨_,_,⟨o',e2,c2,_⟩,_⟩:=I.tuple hq';rw[e1]at e2;cases e2;rw[c1]at c2;simp at c2
  |
   tup hq hr=>
   cases h' with
   |flat h=>cases h
   |
    tup hq' hr'=>
    have e:=I.tuple_inj hq hq';subst e;rw[Cp.inj I hr hr']
   |
    lst hq' hr'=>
    obtain⟨_,_,⟨o,n,e1,c1,_⟩,_⟩:=I.list hq';obtain⟨_,_,⟨o',e2,c2,_⟩,_⟩:=I.tuple hq;rw[e1]at e2;cases e2;rw[c1]at c2;simp at c2
theorem Cp.inj (I:A3 X pins σ H s):∀{l l':List Tr} {xs:List V},Cp X.K H xs l->Cp X.K H xs l'->l=l'
 |
  _,_,_,h,h'=>by
  cases h with
  |
   nil=>
   cases h';rfl
  |
   cons h r=>
   cases h' with
   |cons h2 r2=>rw[BO.inj I h h2,Cp.inj I r r2]
end
theorem YU {α:Type}{e:Nat->Bool}{f:α->Bool}:∀{l:List α},(∀j x,l[j]?=some x->e j=f x)->(List.range l.length).all e=l.all f:=by
 intro l h;rw[Gf];simp only[Jj,DE];constructor
 .intro q x hx;obtain⟨i,hi,hx⟩:=KD.mp hx;rw[←h i x (by rw[AA hi,hx])];exact q i hi
 .intro q i hi;rw[h i l[i] (AA hi)];exact q _ (FH hi)
theorem QR:∀{l m:List Tr},l.length=m.length->Cc l m=(l.zip m).all λp=>BX p.1 p.2
 |[],[],_=>by rw[Cc];rfl
 |[],_::_,h=>by simp at h
 |_::_,[],h=>by simp at h
 |
  x::l,y::m,h=>by
  rw[Cc,QR (l:=l) (m:=m) (by simpa using h)];rfl
theorem Cp.at {K:Faa}{H:Hp}:∀{xs:List V} {l:List Tr} {j:Nat} {t:Tr},Cp K H xs l->l[j]?=some t->∃x,xs[j]?=some x/\BO K H x t
 |_,_,_,_,.nil,h=>by simp at h
 |_,_,0,_,.cons h _,e=>by simp at e;subst e;exact⟨_,rfl,h⟩
 |
  _,_,j+1,_,.cons _ r,e=>by
  obtain⟨x,h1,h2⟩:=r.at (j:=j) (by simpa using e);exact⟨x,by simpa using h1,h2⟩
theorem Ks:∀{l m:List Tr} {j:Nat} {t t':Tr},F3 l m=true->l[j]?=some t->m[j]?=some t'->Cn t t'=true
 |[],_,_,_,_,_,h,_=>by simp at h
 |_::_,[],_,_,_,_,_,h=>by simp at h
 |
  x::l,y::m,0,t,t',h,e1,e2=>by
  simp at e1 e2;subst e1 e2;rw[F3,Du]at h;exact h.1
 |
  x::l,y::m,j+1,t,t',h,e1,e2=>by
  rw[F3,Du]at h;exact Ks (j:=j) h.2 (by simpa using e1) (by simpa using e2)
theorem JX:∀{l:List Tr} {j:Nat} {t:Tr},l[j]?=some t->CM t<=CU l
 |[],_,_,h=>by simp at h
 |x::l,0,t,h=>by simp at h;subst h;rw[CU];lia
 |
  x::l,j+1,t,h=>by
  have:=JX (l:=l) (j:=j) (t:=t) (by simpa using h);rw[CU];lia
theorem My {A:Around}{l m:List Tr}{xs ys:List V}{its jts:List Value}(hr:Cp X.K H xs l)(hr':Cp X.K H ys m)(rv:Au xs its)(rv':Au ys jts)
  (ih:∀(j:Nat) (t t':Tr) (x y:V) (u v:Value),l[j]?=some t->m[j]?=some t'->BO X.K H x t->AK x u->BO X.K H y t'->AK y v->SeqAt.EqAt A.in1 s u v (BX t t')) :
  ∀j (h1:j<its.toArray.size) (h2:j<jts.toArray.size),SeqAt.EqAt A.in1 s its.toArray[j] jts.toArray[j] (match l[j]?,m[j]? with|some t,some t'=>BX t t'|_,_=>true):=by
 intro j h1 h2;have l1:=hr.length;have l2:=hr'.length;have l3:=rv.length;have l4:=rv'.length;rw[Bh]at h1 h2;obtain⟨t,ht⟩:∃t,l[j]?=some t:=⟨l[j]'(by lia),AA (by lia)⟩
 obtain⟨t',ht'⟩:∃t',m[j]?=some t':=⟨m[j]'(by lia),AA (by lia)⟩
 obtain⟨x,hx,hxt⟩:=hr.at ht;obtain⟨y,hy,hyt⟩:=hr'.at ht';obtain⟨u,hu,ru⟩:=rv.get hx;obtain⟨v,hv,rw'⟩:=rv'.get hy;rw[ht,ht'];have e1:its.toArray[j]=u:=by
  have:=AA (l:=its) (i:=j) h1;rw[hu]at this;simpa using(CV this).symm
 have e2:jts.toArray[j]=v:=by
  have:=AA (l:=jts) (i:=j) h2;rw[hv]at this;simpa using(CV this).symm
 rw[e1,e2];exact ih j t t' x y u v ht ht' hxt ru hyt rw'
theorem Qj {l m:List Tr}(h:l.length=m.length):(List.range l.length).all (λj=>match l[j]?,m[j]? with|some t,some t'=>BX t t'|_,_=>true)=Cc l m:=by
 rw[QR h];have e:l.length=(l.zip m).length:=by rw[List.length_zip];lia
 rw[e];refine YU λj p hp=>?_;obtain⟨h1,h2⟩:=List.getElem?_zip_eq_some.mp hp;rw[h1,h2]
theorem Rk {A:Around}{p q:Addr}{xs ys:List V}{l m:List Tr}(I:A3 X pins σ H s)(hu:A.units<cLine)(hq:A4 X.K H p xs)(hr:Cp X.K H xs l)(hq':A4 X.K H q ys)(hr':Cp X.K H ys m)
  (ih:∀(j:Nat) (t t':Tr) (x y:V) (u v:Value),l[j]?=some t->m[j]?=some t'->BO X.K H x t->AK x u->BO X.K H y t'->AK y v->SeqAt.EqAt A.in1 s u v (BX t t')) :
  SeqAt.RcAt A s (.ref p) (.ref q) (Cc l m)/\SeqAt.RcNeAt A s (.ref p) (.ref q) (!Cc l m):=by
 obtain⟨its,rv,pl,_⟩:=I.list hq;obtain⟨jts,rv',pl',_⟩:=I.list hq';have l1:=hr.length;have l2:=hr'.length;have l3:=rv.length;have l4:=rv'.length;by_cases hl:l.length=m.length
 .have e:its.toArray.size=l.length:=by rw[Bh];lia
  have a:=SeqAt.RcAt.lists (A:=A) pl.isList pl'.isList (by rw[Bh,Bh];lia) hu (My hr hr' rv rv' ih);have b:=SeqAt.RcNeAt.lists (A:=A) pl.isList pl'.isList (by rw[Bh,Bh];lia) hu (My hr hr' rv rv' ih);rw[e,Qj hl]at a b;exact⟨a,b⟩
 .rw[OB hl];have hne:(its.toArray.size != jts.toArray.size)=true:=by
   rw[Bh,Bh];simp only[bne_iff_ne,ne_eq];lia
  exact⟨SeqAt.RcAt.lists_lengths pl.isList pl'.isList hne hu,SeqAt.RcNeAt.lists_lengths pl.isList pl'.isList hne hu⟩
theorem PD {A:Around}{p q:Addr}{xs ys:List V}{l m:List Tr}(I:A3 X pins σ H s)(hu:A.units<cLine)(hq:A7 X.K H p xs)(hr:Cp X.K H xs l)(hq':A7 X.K H q ys)(hr':Cp X.K H ys m)
  (ih:∀(j:Nat) (t t':Tr) (x y:V) (u v:Value),l[j]?=some t->m[j]?=some t'->BO X.K H x t->AK x u->BO X.K H y t'->AK y v->SeqAt.EqAt A.in1 s u v (BX t t')) :
  SeqAt.RcAt A s (.ref p) (.ref q) (Cc l m)/\SeqAt.RcNeAt A s (.ref p) (.ref q) (!Cc l m):=by
 obtain⟨its,rv,pl,_⟩:=I.tuple hq;obtain⟨jts,rv',pl',_⟩:=I.tuple hq';have l1:=hr.length;have l2:=hr'.length;have l3:=rv.length;have l4:=rv'.length;have a:=SeqAt.RcAt.tuples (A:=A) (show s.heap.IsTuple p its.toArray from pl) (show s.heap.IsTuple q jts.toArray from pl') hu (My hr hr' rv rv' ih);have b:=SeqAt.RcNeAt.tuples (A:=A) (show s.heap.IsTuple p its.toArray from pl) (show s.heap.IsTuple q jts.toArray from pl') hu (My hr hr' rv rv' ih);have e:((List.range (min its.toArray.size jts.toArray.size)).all (λj=>match l[j]?,m[j]? with|some t,some t'=>BX t t'|_,_=>true)&&its.toArray.size==jts.toArray.size)=Cc l m:=by
  by_cases hl:l.length=m.length
  .have e1:min its.toArray.size jts.toArray.size=l.length:=by rw[Bh,Bh];lia
   have e2:(its.toArray.size==jts.toArray.size)=true:=by rw[Bh,Bh];simp;lia
   rw[e1,e2,Qj hl,Bool.and_true]
  .have e2:(its.toArray.size==jts.toArray.size)=false:=by rw[Bh,Bh];simp;lia
   rw[e2,OB hl,OI]
 rw[e]at a b;exact⟨a,b⟩
theorem QO (I:A3 X pins σ H s)(n:Nat):∀(A:Around) (t t':Tr) (x y:V) (u v:Value),CM t<=n->A.units+n<cLine->Cn t t'=true->BO X.K H x t->AK x u->BO X.K H y t'->AK y v->SeqAt.EqAt A s u v (BX t t'):=by
 induction n with
 |
  zero=>
  intro A t t' x y u v hd hu hs hx rx hy ry;cases hx with
  |
   flat fx=>
   cases hy with
   |flat fy=>rw[BX];exact Na rx ry fx fy
   |lst _ _=>simp[Cn]at hs
   |tup _ _=>simp[Cn]at hs
  |lst _ _=>simp[CM]at hd
  |tup _ _=>simp[CM]at hd
 |
  succ n ih=>
  intro A t t' x y u v hd hu hs hx rx hy ry;cases hx with
  |
   flat fx=>
   cases hy with
   |flat fy=>rw[BX];exact Na rx ry fx fy
   |lst _ _=>simp[Cn]at hs
   |tup _ _=>simp[Cn]at hs
  |
   @lst p xs l hq hr=>
   cases hy with
   |flat fy=>simp[Cn]at hs
   |tup _ _=>simp[Cn]at hs
   |
    @lst q ys m hq' hr'=>
    cases rx;cases ry;rw[CM]at hd;rw[Cn]at hs;by_cases e:p=q
    .subst e;have e1:=BO.inj I (BO.lst hq hr) (BO.lst hq' hr');rw[←e1,Ml _ (BO.lst hq hr).ok];exact SeqAt.EqAt.same _
    .rw[BX];refine SeqAt.EqAt.of_refs e (Rk I (by lia) hq hr hq' hr' λj t t' x y u v h1 h2 h3 h4 h5 h6=>?_).1;exact ih A.in1 t t' x y u v (by have:=JX h1;lia) (by show A.units+1+n<cLine;lia) (Ks hs h1 h2) h3 h4 h5 h6
  |
   @tup p xs l hq hr=>
   cases hy with
   |flat fy=>simp[Cn]at hs
   |lst _ _=>simp[Cn]at hs
   |
    @tup q ys m hq' hr'=>
    cases rx;cases ry;rw[CM]at hd;rw[Cn]at hs;by_cases e:p=q
    .subst e;have e1:=BO.inj I (BO.tup hq hr) (BO.tup hq' hr');rw[←e1,Ml _ (BO.tup hq hr).ok];exact SeqAt.EqAt.same _
    .rw[BX];refine SeqAt.EqAt.of_refs e (PD I (by lia) hq hr hq' hr' λj t t' x y u v h1 h2 h3 h4 h5 h6=>?_).1;exact ih A.in1 t t' x y u v (by have:=JX h1;lia) (by show A.units+1+n<cLine;lia) (Ks hs h1 h2) h3 h4 h5 h6
end
section
variable {X:Cx}
def FP (K:Faa)(neg:Bool):R2:=λx y H Q=>∃t t',BO K H x t/\BO K H y t'/\(∃p,x = .ref p)/\(∃p,y = .ref p)/\Cn t t'=true/\CM t<=60/\Q (.bl (if neg then !BX t t' else BX t t')) H
theorem Ql {neg:Bool}(hu:X.A.units+64<cLine):BM X (compareOp (if neg then .NotEq else .Eq)) (FP X.K neg):=by
 intro pins s σ H x y v u Q I rx ry h;obtain⟨t,t',hx,hy,⟨p,rfl⟩,⟨q,rfl⟩,hs,hd,q'⟩:=h;cases rx;cases ry;have done:∀l m,SeqAt.RcAt X.A s (.ref p) (.ref q) (Cc l m)/\SeqAt.RcNeAt X.A s (.ref p) (.ref q) (!Cc l m)->Q (.bl (if neg then !Cc l m else Cc l m)) H->
   wpAny (model X.prog X.w) X.A (compareOp (if neg then .NotEq else .Eq) (.ref p) (.ref q)) (EP X pins σ Q) X.xe s:=λl m hb hq=>by
  cases neg with
  |false=>exact hb.1 X.prog X.w X.xe _ ⟨.bl _,H,I,rfl,hq⟩
  |true=>exact hb.2 X.prog X.w X.xe _ ⟨.bl _,H,I,rfl,hq⟩
 cases hx with
 |flat fx=>cases fx
 |
  @lst _ xs l hq hr=>
  cases hy with
  |flat fy=>cases fy
  |tup _ _=>simp[Cn]at hs
  |
   @lst _ ys m hq' hr'=>
   rw[CM]at hd;rw[Cn]at hs;rw[BX]at q';refine done l m (Rk I (by lia) hq hr hq' hr' λj t t' x y u v h1 h2 h3 h4 h5 h6=>?_) q';exact QO I 60 X.A.in1 t t' x y u v (by have:=JX h1;lia) (by show X.A.units+1+60<cLine;lia) (Ks hs h1 h2) h3 h4 h5 h6
 |
  @tup _ xs l hq hr=>
  cases hy with
  |flat fy=>cases fy
  |lst _ _=>simp[Cn]at hs
  |
   @tup _ ys m hq' hr'=>
   rw[CM]at hd;rw[Cn]at hs;rw[BX]at q';refine done l m (PD I (by lia) hq hr hq' hr' λj t t' x y u v h1 h2 h3 h4 h5 h6=>?_) q';exact QO I 60 X.A.in1 t t' x y u v (by have:=JX h1;lia) (by show X.A.units+1+60<cLine;lia) (Ks hs h1 h2) h3 h4 h5 h6
theorem LX (hu:X.A.units+64<cLine):BM X (compareOp .Eq) (FP X.K false):=Ql (neg:=false) hu
theorem NJ (hu:X.A.units+64<cLine):BM X (compareOp .NotEq) (FP X.K true):=Ql (neg:=true) hu
theorem GY {A:Around}{k:Nat}(hr:Cg k A):A.units+64<cLine:=by have:=hr.un;lia
end
section
variable {X:Cx}
end
abbrev Kg:Str:="abcdefghijklmnopqrstuvwxyz"
theorem cf:Fq Kg=(List.range 26).map (97 + ·):=by decide +kernel
def NF (x:Int):Nat:=97+(x%26).toNat
theorem Zb (x:Int):Be (Fq Kg) (x%26)=some (NF x):=by
 have h0:=EW x (show(26:Int)≠0 by decide);have h1:=Fg x (show(0:Int)<26 by decide);have e:x%26=(((x%26).toNat:Nat):Int):=by lia
 rw[e];refine Bg ?_;rw[cf,Bf,FI (by lia)];rfl
theorem Vd:Kg.length<=sizeLine:=Bp (by decide +kernel)
theorem P9 {α:Type}(l:List α){k:Int}(h:0<=k):Ie l none (some k)=l.take k.toNat:=by
 unfold Ie;have e:k=((k.toNat:Nat):Int):=by lia
 rw[HT.sIx_none,e,HT.sIx_nat,OM,MN];rw[show(((k.toNat:Nat):Int)).toNat=k.toNat by lia];by_cases h:k.toNat<=l.length
 .rw[Dv h]
 .rw[MO (by lia),EY (by lia),EY (by lia)]
theorem Qh {α:Type}(l:List α){i j:Int}(hi:0<=i)(hj:0<=j)(hl:j<=(l.length:Int))(hij:i<=j):Ie l (some i) (some j)=(l.drop i.toNat).take (j.toNat-i.toNat):=by
 unfold Ie;have e1:i=((i.toNat:Nat):Int):=by lia
 have e2:j=((j.toNat:Nat):Int):=by lia
 rw[e1,e2,HT.sIx_nat,HT.sIx_nat];rw[show(((i.toNat:Nat):Int)).toNat=i.toNat by lia,show(((j.toNat:Nat):Int)).toNat=j.toNat by lia,Dv (by lia),Dv (by lia)]
theorem Zr {α:Type}(l:List α){i:Int}(hi:0<=i):Ie l (some i) none=l.drop i.toNat:=by
 unfold Ie;have e1:i=((i.toNat:Nat):Int):=by lia
 rw[e1,HT.sIx_nat,HT.sIx_none,show(((i.toNat:Nat):Int)).toNat=i.toNat by lia];by_cases h:i.toNat<=l.length
 .rw[Dv h,EY (by rw[FG];lia)]
 .rw[MO (by lia),DZ,MP,KE (by lia)]
def a9 (C:Addr):Sp:=λvs H Q _=>∃(x dx:Addr) (v1 v2 v3 v4 v5 v6 v7:V),vs=[.ref x,v1,v2,v3,v4,v5,v6,v7]/\H x=some (.ins C dx [])/\∀H',(∀b o,H b=some o->b≠x->H' b=some o)->(∃dx,H' x=some (.ins C dx [("names",v1),("lows",v2),("highs",v3),("table",v4),("spots",v5),("term",v6),("path",v7)]))->Q .non H'
def Zw:Sp:=λvs H Q _=>∃(p1 p2:Addr) (xs ys:List Int) (m k:Nat),vs=[.ref p1,.ref p2,.int (m:Int)]/\H p1=some (.tup (xs.map V.int))/\H p2=some (.tup (ys.map V.int))/\m<=xs.length/\m<=ys.length/\m<=1000/\k<=m/\(∀e<k,xs.getD e 0=ys.getD e 0)/\(k<m->xs.getD k 0≠ys.getD k 0)/\Q (.int (k:Int)) H
def wo (H:Hp)(l:Addr):Hp:=λb=>if b=l then none else H b
theorem Uq {H:Hp}{l:Addr}:A8 (wo H l) H:=λb o h=>by
 unfold wo at h;split at h
 .cases h
 .exact h
theorem GS {H H':Hp}{l:Addr}(e:A8 H H'):A8 (wo H l) (wo H' l):=λb o h=>by
 unfold wo at h ⊢;split at h
 .cases h
 .rename_i c;rw[Aw c];exact e b o h
theorem NP {H:Hp}{l:Addr}{o:HO}:wo (upd H l o) l=wo H l:=by
 funext b
 unfold wo;by_cases c:b=l
 .rw[Av c,Av c]
 .rw[Aw c,Aw c,Ak c]
theorem E8 {H:Hp}{l b:Addr}(h:b≠l):wo H l b=H b:=by unfold wo;rw[Aw h]
theorem nodup_le {α:Type}[DecidableEq α]:∀{l k:List α},l.Nodup->(∀x∈l,x∈k)->l.length<=k.length
 |[],_,_,_=>Bv _
 |
  a::l,k,hn,hs=>by
  have ha:=hs a Cq;have h2:=Ji.mp hn;have:=nodup_le (l:=l) (k:=k.erase a) h2.2 λx hx=>(List.mem_erase_of_ne (show x≠a from λe=>h2.1 (by rw[←e];exact hx))).mpr (hs x (CF _ hx));rw[List.length_erase_of_mem ha]at this;have:0<k.length:=List.length_pos_of_mem ha;simp only[BH];lia
theorem Zo (l m:List V)(hm:0<m.length){n:Int}(hn:n = -(m.length:Int)):BU (l++m) none (some n)=l:=by
 unfold BU;have hl:(l++m).length=l.length+m.length:=Ao;have e1:HT.sIx (l++m).length 0 none=0:=rfl;have e2:HT.sIx (l++m).length (l++m).length (some n)=l.length:=by
  show(if n<0 then(n+((l++m).length:Int)).toNat else min n.toNat (l++m).length)=l.length;rw[hl,Av (by lia)];lia
 rw[e1,e2,OM,MN,List.take_left'];rfl
theorem Jz {α:Type}{l:List α}{n:Nat}(h:l.length=n+1):∃p x,l=p++[x]/\p.length=n:=by
 have hne:l≠[]:=λe=>by rw[e]at h;cases h
 exact⟨l.dropLast,l.getLast hne,(List.dropLast_concat_getLast hne).symm,by rw[List.length_dropLast];lia⟩
theorem JC {H H2:Hp}{x dx C:Addr}(hx:H x=none)(hdx:H dx=none)(k:∀b o,(upd (upd H dx (.own x)) x (.ins C dx [])) b=some o->b≠x->H2 b=some o):A8 H H2:=λb o e=>by
 have n1:=AF e hx;have n2:=AF e hdx;exact k b o (by rw[Ak n1,Ak n2];exact e) n1
section
variable {X:Cx}{pins:List (Addr×Obj)}{σ:St}{H:Hp}{s:Shared}{h':Heap}
theorem A3.turnedL {t':Nat}{ch:List Addr}(I:A3 X pins σ H s)(k:∀b o,b∉ch->s.heap.get? b=some o->h'.get? b=some o)(hf:∀b∈ch,F1 X pins H b):A3 X pins σ H {s with heap:=h',toks:=t'}:=by
 have nit:∀b u,H b=some u->b∉ch:=λb u e z=>by rw[(hf b z).1]at e;cases e
 have hL:X.env.locals∉ch:=λz=>(hf _ z).2.1 rfl;refine I.step (g':=s.gens) (d':=s.drawn) (ch:=ch) (λb hb=>?_) (λb o _ _ hc e _=>k b o hc e) (λb o _ _ hc e _=>⟨o.slots,k b o hc e⟩) (λ_ _ _ _ n=>n)
  (λb o hc e=>⟨o,k b o hc e⟩) (λ_ _ e=>e) (λ_ _ _ e=>e) (λb ps e=>⟨#[],by rw[e];simp⟩) (λm hm=>?_) (λb u e=>?_) I.bare
 .obtain⟨f0,f1,f2,f3,f4,f5⟩:=hf b hb;exact⟨f3,f1,f4,f5⟩
 .obtain⟨o,es,ep,ho,r⟩:=hm;exact⟨o,es,ep,k _ o hL ho,r⟩
 .refine(I.hok b u e).stay (λc v hc q=>k c v ?_ q) (λ_ q=>q) λ_ _ q=>q;rcases hc with z|z
  .rw[z];exact nit b u e
  .exact nit c _ z
end
def K3 (K:Faa)(a:Addr):It:=
 ⟨λi H=>∃xs x,A4 K H a xs/\xs[i]?=some x,λi H v H'=>∃x T,(∀xs,A4 K H a xs->xs[i]?=some x)/\H T=none/\v = .ref T/\H'=upd H T (.tup [.int i,x]),λi H=>∃xs,A4 K H a xs/\xs.length<=i⟩
theorem ZU {P:Program}{w:World}{K:Faa}{elts:List Expr}{x1:Nat}{pos:Pos}(a e it:Addr)(hei:e≠it):Hv P w K (.Tuple elts x1 pos) (K3 K a) [e,it] e (λi h=>(∃old,IsEnum h e it i old)/\h.IsListIter it a i) where
 mem:=by simp
 obj:=λi h st b hb=>by
  obtain⟨⟨old,he⟩,hit⟩:=st;rcases Bj.mp hb with rfl|hb
  .exact⟨_,he,λv z=>by cases z⟩
  .have e:b=it:=by simpa using hb
   subst e;obtain⟨o,e,c,d⟩:=hit;exact⟨o,e,λv z=>by rw[d]at z;cases z⟩
 keep:=λi h h' st k=>by
  obtain⟨⟨old,he⟩,hit⟩:=st;exact⟨⟨old,k e (by simp) _ he⟩,hit.at λo e=>k it (by simp) o e⟩
 item:=by
  intro X hP hw hK hc i pins s σ H E I hf st hg;subst hP hw hK;obtain⟨xs,x,hq,hx⟩:=hg;obtain⟨its,rv,p,hz⟩:=I.list hq;obtain⟨u,hu,ru⟩:=rv.get hx;obtain⟨⟨old,he⟩,hit⟩:=st;refine wpAny_pyNext_enum_item he hit p.isList (x:=u) (by simpa using hu) hei λh1 ho hit' hT hsz hk=>⟨_,rfl,?_⟩
  refine wpAny_letOwnedTupleGo_enum ho λh2 he2 hs2=>?_;have hTn:H s.heap.objs.size=none:=I.hok.fresh (Al _);have helt:e<s.heap.objs.size:=B1 he;have hilt:it<s.heap.objs.size:=by obtain⟨_,x,_⟩:=hit;exact B1 x
  have I1:A3 X pins σ (upd H s.heap.objs.size (.tup [.int i,x])) {s with heap:=s.heap.push {cls:=.type "tuple",data:=.seq #[.int i s.toks,u]},toks:=s.toks+1}:=I.laid (t':=s.toks+1) (o:=.tup [.int i,x]) (λb o e=>B2 _ e) (Al _) ⟨Ai rfl,[.int i s.toks,u],.cons ⟨_,rfl⟩ (.cons ru .nil),Fb.new _ _⟩;have I2:A3 X pins σ (upd H s.heap.objs.size (.tup [.int i,x])) {s with heap:=h2,toks:=s.toks+1}:=by
   refine A3.turnedL (s:={s with heap:=s.heap.push {cls:=.type "tuple",data:=.seq #[.int i s.toks,u]},toks:=s.toks+1}) (h':=h2) (ch:=[e,it]) (t':=s.toks+1) I1 (λb o hb q=>?_) (λb hb=>?_)
   .have nbe:b≠e:=λz=>hb (by simp[z]);have nbi:b≠it:=λz=>hb (by simp[z]);show h2.get? b=some o;rw[hs2.2 b nbe];rcases T1 q with⟨rfl,rfl⟩|q
    .exact hT
    .exact hk b o nbe nbi q
   .obtain⟨f0,f1,f2,f3,f4,f5⟩:=hf b hb;have nb:b≠s.heap.objs.size:=by
     rcases Bj.mp hb with rfl|hb
     .exact BQ helt
     .have:b=it:=by simpa using hb
      subst this;exact BQ hilt
    exact⟨by rw[Ak nb];exact f0,f1,f2,f3,f4,f5⟩
  refine⟨.ref s.heap.objs.size,_,I2,rfl,⟨x,_,λys hy=>by rw[I.list_inj hy hq];exact hx,hTn,rfl,rfl⟩,⟨⟨_,by simpa using he2⟩,hit'.at λo y=>(hs2.2 it hei.symm).trans y⟩,λb hb=>?_⟩;obtain⟨f0,f1,f2,f3,f4,f5⟩:=hf b hb;have nb:b≠s.heap.objs.size:=by
   rcases Bj.mp hb with rfl|hb
   .exact BQ helt
   .have:b=it:=by simpa using hb
    subst this;exact BQ hilt
  rw[Ak nb];exact f0
 done:=by
  intro X hP hw hK hc i pins s σ H E I hf st hg;subst hP hw hK;obtain⟨xs,hq,hx⟩:=hg;obtain⟨its,rv,p,hz⟩:=I.list hq;obtain⟨⟨old,he⟩,hit⟩:=st;have hl:=rv.length;refine wpAny_pyNext_enum_end (I.ok.hd hc) he hit p.isList (by simp;lia) λh' eb=>⟨rfl,?_⟩
  exact I.turnedL (ch:=[e,it]) (t':=s.toks) (λb o hb q=>eb b o (λz=>hb (by simp[z])) q) hf
 self:=λ_ _ _ _ _ st h=>by
  obtain⟨⟨old,he⟩,_⟩:=st;exact P0 he h
def bN (K:Faa)(ta:TA):TI:=fun σ H R=>ta σ H λvs H1=>∃a:Addr,vs=[.ref a]/\(∃xs,A4 K H1 a xs)/\R (K3 K a) H1
theorem Kt {X:Cx}{a:Expr}{ta:TA}{p pos:Pos}{elts:List Expr}{x1:Nat}{pos2:Pos}(hg:Gl X "enumerate")(hm:X.mg "enumerate"=none)(ha:PA X [a] ta)(hs:starEach [a] X.env=[(false,eval a X.env)]:=by rfl):PI X (.Tuple elts x1 pos2) (.Call (.Name "enumerate" p) [a] [] pos) (bN X.K ta):=by
 intro pins s σ H R I h;refine Call_ (FW I hg hm boot_enumerate (Jg (Ay (ha pos pins s σ H _ I h) λus s1 zz=>?_) hs rfl));obtain⟨vs,H1,I1,r1,q1⟩:=zz;obtain⟨l,rfl,⟨xs,hq⟩,q⟩:=q1;cases r1 with
 |
  cons r rr=>
  cases rr;cases r;obtain⟨its,rv,pl,hz⟩:=I1.list hq;refine call_enumerate_list pl.isList λh' he hit hsz hk=>?_;refine P0 he ?_;refine⟨_,[s1.heap.objs.size+1,s1.heap.objs.size],_,_,H1,rfl,I1.kept (t':=s1.toks) hk,ZU l _ _ (Fd (HV _)),⟨⟨_,he⟩,hit⟩,λb hb=>?_,q⟩;rcases Bj.mp hb with rfl|hb
  .exact I1.fpOk (FF _) (I1.hok.fresh (FF _))
  .have e:b=s1.heap.objs.size:=by simpa using hb
   subst e;exact I1.fpOk (Al _) (I1.hok.fresh (Al _))
theorem JH {K:Faa}{a:Addr}{xs:List V}{g:TG}{tb:TS}{D:CL}{σ:St}{H:Hp}(Pv:Nat->St->Hp->Prop)(h0:Pv 0 σ H)(hl:∀i σ H,i<=xs.length->Pv i σ H->A4 K H a xs)
  (hs:∀i x T σ H,xs[i]?=some x->Pv i σ H->H T=none->g (.ref T) σ (upd H T (.tup [.int i,x])) fun σ2 H2=>tb {D with nx:=Pv (i+1),ct:=Pv (i+1),bk:=D.nx} σ2 H2) (hd:∀σ H,Pv xs.length σ H->D.nx σ H) :
  ∃W:Nat->Nat->St->Hp->Prop,(∃m,W 0 m σ H)/\∀i m σ H,W i m σ H->
   ((K3 K a).stop i H/\D.nx σ H)\/((K3 K a).go i H/\∃N:St->Hp->Prop,(∀σ' H',N σ' H'->∃m',m'<m/\W (i+1) m' σ' H')/\∀x H',(K3 K a).yld i H x H'->g x σ H' fun σ2 H2=>tb {D with nx:=N,ct:=N,bk:=D.nx} σ2 H2):=by
 refine⟨λi m σ H=>m=xs.length-i/\i<=xs.length/\Pv i σ H,⟨xs.length,by simp,Bv _,h0⟩,?_⟩;rintro i m σ H ⟨rfl,hi,p⟩;have q:=hl i σ H hi p;by_cases hlt:i<xs.length
 .refine .inr ⟨⟨xs,xs[i],q,AA hlt⟩,Pv (i+1),fun σ' H' p'=>⟨xs.length-(i+1),by lia,rfl,hlt,p'⟩,λv H' y=>?_⟩;obtain⟨x,T,hx,hT,rfl,rfl⟩:=y;exact hs i x T σ H (hx xs q) p hT
 .have e:i=xs.length:=by lia
  subst e;exact .inl ⟨⟨xs,q,Al _⟩,hd σ H p⟩
theorem Im {X:Cx}{e:Expr}{t u:TE}(h1:PE X e t)(h2:PE X e u):PE X e (fun σ H Q=>t σ H Q\/u σ H Q):=by
 intro pins s σ H Q I h;exact h.elim (h1 pins s σ H Q I) (h2 pins s σ H Q I)
end L2
namespace Bd
structure Bond where
 x:Nat
 y:Nat
 c:Int
structure Sv where
 v:Nat->Int
 p:Nat->Option Nat
 low:Option Nat
def Cz {α:Type}(f:Nat->α)(i:Nat)(a:α):Nat->α:=λj=>if j=i then a else f j
theorem E2 {α:Type}{f:Nat->α}{i:Nat}{a:α}:Cz f i a i=a:=Av rfl
theorem Er {α:Type}{f:Nat->α}{i j:Nat}{a:α}(h:j≠i):Cz f i a j=f j:=Aw h
def IA (i:Nat)(b:Bond)(s:Sv):Sv:=if s.v b.x>s.v b.y+b.c then⟨Cz s.v b.x (s.v b.y+b.c),Cz s.p b.x (some i),some b.x⟩ else s
def rnd (B:List Bond):Nat->Sv->Sv
 |0,s=>s
 |
  k+1,s=>match B[k]? with
  |some b=>IA k b (rnd B k s)
  |none=>rnd B k s
def D8 (B:List Bond)(s:Sv):Sv:=rnd B B.length {s with low:=none}
def go (B:List Bond):Nat->Sv->Sv ⊕ Sv
 |0,s=>.inr s
 |
  k+1,s=>match (D8 B s).low with
  |none=>.inl (D8 B s)
  |some _=>go B k (D8 B s)
def st0:Sv:=⟨λ_=>0,λ_=>none,none⟩
def pb (B:List Bond)(p:Nat->Option Nat)(x:Nat):Bond:=match p x with
 |some i=>B.getD i ⟨0,0,0⟩
 |none=>⟨0,0,0⟩
def it (B:List Bond)(p:Nat->Option Nat):Nat->Nat->Nat
 |0,x=>x
 |k+1,x=>it B p k (pb B p x).y
def sm (B:List Bond)(p:Nat->Option Nat):Nat->Nat->Int
 |0,_=>0
 |k+1,x=>(pb B p x).c+sm B p k (pb B p x).y
theorem GW (B:List Bond)(p:Nat->Option Nat)(k x:Nat):it B p (k+1) x=(pb B p (it B p k x)).y:=by
 induction k generalizing x with
 |zero=>rfl
 |succ k ih=>exact ih _
theorem EG (B:List Bond)(p:Nat->Option Nat)(j k x:Nat):it B p (j+k) x=it B p k (it B p j x):=by
 induction j generalizing x with
 |zero=>rw[Fh];rfl
 |succ j ih=>rw[Nat.succ_add];exact ih _
theorem Z8 (B:List Bond)(p:Nat->Option Nat)(k x:Nat):sm B p (k+1) x=sm B p k x+(pb B p (it B p k x)).c:=by
 induction k generalizing x with
 |zero=>simp[sm,it]
 |succ k ih=>rw[sm,ih,sm,it];lia
def HE (B:List Bond)(p:Nat->Option Nat)(k x:Nat):Prop := ∀j<k,∃i,p (it B p j x)=some i
theorem HE.tail {B:List Bond}{p:Nat->Option Nat}{k x:Nat}(h:HE B p (k+1) x):HE B p k (pb B p x).y:=λj hj=>h (j+1) (by lia)
structure A3 (B:List Bond)(r j:Nat)(s:Sv)(last:Nat->Nat):Prop where
 le:∀x,last x<=r
 par:∀x i,s.p x=some i->∃b,B[i]?=some b/\b.x=x/\s.v b.y+b.c<=s.v x/\last x<=last b.y+1
 has:∀x,1<=last x->∃i,s.p x=some i
 ok1:∀k<j,∀b,B[k]?=some b->s.v b.x<=s.v b.y+b.c\/r<=last b.y
 ok2:∀k,j<=k->∀b,B[k]?=some b->s.v b.x<=s.v b.y+b.c\/r<=last b.y+1
 neg:∀k x,HE B s.p (k+1) x->it B s.p (k+1) x=x->sm B s.p (k+1) x<0
 lowN:s.low=none->∀x,last x+1<=r
 lowS:∀x,s.low=some x->last x=r
theorem Fv {B:List Bond}{p:Nat->Option Nat}{x i:Nat}{b:Bond}(h:p x=some i)(e:B[i]?=some b):pb B p x=b:=by
 unfold pb;rw[h];simp only[];rw[Bk,e];rfl
theorem av {B:List Bond}{v:Nat->Int}{p:Nat->Option Nat}{i:Nat}{b:Bond}(hb:B[i]?=some b)(hlt:v b.x>v b.y+b.c)
  (par:∀x i,p x=some i->∃b,B[i]?=some b/\b.x=x/\v b.y+b.c<=v x) :
  ∀k x,HE B (Cz p b.x (some i)) k x->v (it B (Cz p b.x (some i)) k x)+sm B (Cz p b.x (some i)) k x<=v x/\
   ((it B (Cz p b.x (some i)) k x=it B p k x/\sm B (Cz p b.x (some i)) k x=sm B p k x/\HE B p k x)\/v (it B (Cz p b.x (some i)) k x)+sm B (Cz p b.x (some i)) k x<v x):=by
 intro k;induction k with
 |zero=>intro x _;exact⟨by simp[it,sm],.inl ⟨rfl,rfl,λj hj=>by lia⟩⟩
 |
  succ k ih=>
  intro x ha;obtain⟨l,hl⟩:=ha 0 (by lia);change Cz p b.x (some i) x=some l at hl;have ha':=ha.tail;by_cases hx:x=b.x
  .have e:pb B (Cz p b.x (some i)) x=b:=Fv (by rw[hx];exact E2) hb;simp only[it,sm];rw[e]at ha' ⊢;obtain⟨h1,_⟩:=ih _ ha';subst hx;exact⟨by lia,.inr (by lia)⟩
  .have hp:Cz p b.x (some i) x=p x:=Er hx;rw[hp]at hl;obtain⟨b',hb',hx',hv⟩:=par _ _ hl;have e:pb B (Cz p b.x (some i)) x=b':=Fv (by rw[hp];exact hl) hb';have e2:pb B p x=b':=Fv hl hb';simp only[it,sm];rw[e]at ha' ⊢;rw[e2];obtain⟨h1,h2⟩:=ih _ ha';refine⟨by lia,?_⟩;rcases h2 with⟨h2,h3,h4⟩|h2
   .refine .inl ⟨h2,by rw[h3],λj hj=>?_⟩;cases j with
    |zero=>exact⟨_,hl⟩
    |
     succ j=>
     show ∃i,p (it B p j (pb B p x).y)=some i;rw[e2];exact h4 j (by lia)
   .exact .inr (by lia)
theorem A3.step {B:List Bond}{r j:Nat}{s:Sv}{last:Nat->Nat}(h:A3 B r j s last){b:Bond}(hb:B[j]?=some b):∃last',A3 B r (j+1) (IA j b s) last':=by
 unfold IA;by_cases c:s.v b.x>s.v b.y+b.c
 .rw[Av c];have hy:r<=last b.y+1:=by
   rcases h.ok2 j (Al _) b hb with g|g
   .lia
   .exact g
  have hv:∀x,Cz s.v b.x (s.v b.y+b.c) x<=s.v x:=λx=>by
   by_cases e:x=b.x
   .rw[e,E2];lia
   .rw[Er e];exact Jk _
  have hl:∀x,last x<=Cz last b.x r x:=λx=>by
   by_cases e:x=b.x
   .rw[e,E2];exact h.le _
   .rw[Er e];exact Al _
  refine⟨Cz last b.x r,⟨λx=>?_,λx i e=>?_,λx e=>?_,λk hk b' hb'=>?_,λk hk b' hb'=>?_,λk x ha e=>?_,λe=>?_,λx e=>?_⟩⟩
  .by_cases e:x=b.x
   .rw[e,E2];exact Al _
   .rw[Er e];exact h.le _
  .by_cases ex:x=b.x
   .subst ex;simp only[]at e ⊢;rw[E2]at e;cases e;refine⟨b,hb,rfl,?_,?_⟩
    .rw[E2];by_cases ey:b.y=b.x
     .rw[ey,E2];rw[ey]at c;lia
     .rw[Er ey];exact Jk _
    .rw[E2];have:=hl b.y;lia
   .simp only[]at e ⊢;rw[Er ex]at e;obtain⟨b',g1,g2,g3,g4⟩:=h.par x i e;refine⟨b',g1,g2,?_,?_⟩
    .rw[Er ex];have:=hv b'.y;lia
    .rw[Er ex];have:=hl b'.y;lia
  .simp only[];by_cases ex:x=b.x
   .rw[ex,E2];exact⟨_,rfl⟩
   .rw[Er ex]at e ⊢;exact h.has x e
  .simp only[];by_cases ey:b'.y=b.x
   .right;rw[ey,E2];exact Al _
   .by_cases ek:k=j
    .subst ek;rw[hb]at hb';cases hb';left;rw[E2,Er ey];exact Jk _
    .rcases h.ok1 k (by lia) b' hb' with g|g
     .left;rw[Er ey];have:=hv b'.x;lia
     .right;have:=hl b'.y;lia
  .simp only[];by_cases ey:b'.y=b.x
   .right;rw[ey,E2];lia
   .rcases h.ok2 k (by lia) b' hb' with g|g
    .left;rw[Er ey];have:=hv b'.x;lia
    .right;have:=hl b'.y;lia
  .have:=av hb c (λx i e=>by obtain⟨b',g1,g2,g3,_⟩:=h.par x i e;exact⟨b',g1,g2,g3⟩) (k+1) x ha;simp only[]at e ⊢;rw[e]at this;obtain⟨_,⟨g1,g2,g3⟩|g⟩:=this
   .rw[g2];exact h.neg k x g3 g1.symm
   .lia
  .cases e
  .cases e;exact E2
 .rw[Aw c];refine⟨last,h.le,h.par,h.has,λk hk b' hb'=>?_,λk hk=>h.ok2 k (by lia),h.neg,h.lowN,h.lowS⟩;by_cases ek:k=j
  .subst ek;rw[hb]at hb';cases hb';left;lia
  .exact h.ok1 k (by lia) b' hb'
theorem A3.rnd {B:List Bond}{r:Nat}{s:Sv}{last:Nat->Nat}(h:A3 B r 0 s last):∀k,k<=B.length->∃last',A3 B r k (Bd.rnd B k s) last'
 |0,_=>⟨last,h⟩
 |
  k+1,hk=>by
  obtain⟨l1,h1⟩:=A3.rnd h k (by lia);have e:B[k]?=some B[k]:=AA (by lia);unfold Bd.rnd;rw[e];exact h1.step e
theorem A3.next {B:List Bond}{r:Nat}{s:Sv}{last:Nat->Nat}(h:A3 B r B.length s last):A3 B (r+1) 0 {s with low:=none} last:=
 ⟨λx=>by have:=h.le x;lia,h.par,h.has,λk hk=>by lia,λk _ b hb=>by
  have:=h.ok1 k (Ax.mp hb).1 b hb;rcases this with g|g
  .exact .inl g
  .right;lia,h.neg,λ_ x=>by have:=h.le x;lia,λx e=>by cases e⟩
theorem A3.start (B:List Bond):A3 B 1 0 {st0 with low:=none} (λ_=>0):=
 ⟨λ_=>Bv _,λx i e=>(by cases e),λx e=>(by lia),λk hk b hb=>(by lia),λk hk b hb=>.inr (Al _),λk x ha=>(by obtain⟨i,hi⟩:=ha 0 (by lia);cases hi),λ_ x=>Al _,λx e=>(by cases e)⟩
theorem A3.holds {B:List Bond}{r:Nat}{s:Sv}{last:Nat->Nat}(h:A3 B r B.length s last)(e:s.low=none):∀b∈B,s.v b.x<=s.v b.y+b.c:=λb hb=>by
 obtain⟨k,hk,rfl⟩:=KD.mp hb;rcases h.ok1 k hk _ (AA hk) with g|g
 .exact g
 .have:=h.lowN e B[k].y;lia
theorem PN {B:List Bond}:∀{k r:Nat} {s:Sv} {last:Nat->Nat},A3 B r 0 {s with low:=none} last->∀{s'},go B k s = .inl s'->∀b∈B,s'.v b.x<=s'.v b.y+b.c
 |0,r,s,last,h,s',e=>by cases e
 |
  k+1,r,s,last,h,s',e=>by
  obtain⟨l1,h1⟩:=h.rnd B.length (Al _);change A3 B r B.length (D8 B s) l1 at h1;unfold go at e;split at e
  .rename_i c;cases e;exact h1.holds c
  .exact PN h1.next e
theorem Sx {B:List Bond}:∀{k r:Nat} {s:Sv} {last:Nat->Nat},A3 B r 0 {s with low:=none} last->∀{s'},go B (k+1) s = .inr s'->∃last x,A3 B (r+k) B.length s' last/\s'.low=some x
 |
  k,r,s,last,h,s',e=>by
  obtain⟨l1,h1⟩:=h.rnd B.length (Al _);change A3 B r B.length (D8 B s) l1 at h1;unfold go at e;split at e
  .cases e
  .rename_i x c;cases k with
   |zero=>cases e;exact⟨l1,x,h1,c⟩
   |
    succ k=>
    obtain⟨l2,x2,g1,g2⟩:=Sx (k:=k) h1.next e;exact⟨l2,x2,by rw[show r+(k+1)=r+1+k by lia];exact g1,g2⟩
theorem nodup_le {α:Type}[DecidableEq α]:∀{l k:List α},l.Nodup->(∀x∈l,x∈k)->l.length<=k.length
 |[],_,_,_=>Bv _
 |
  a::l,k,hn,hs=>by
  have ha:=hs a Cq;have h2:=Ji.mp hn;have:=nodup_le (l:=l) (k:=k.erase a) h2.2 λx hx=>(List.mem_erase_of_ne (show x≠a from λe=>h2.1 (by rw[←e];exact hx))).mpr (hs x (CF _ hx));rw[List.length_erase_of_mem ha]at this;have:0<k.length:=List.length_pos_of_mem ha;simp only[BH];lia
theorem XJ {n:Nat}{u:Nat->Nat}(h:∀i,i<=n->u i<n):∃i j,i<j/\j<=n/\u i=u j:=by
 apply T2;intro c;have hn:((List.range (n+1)).map u).Nodup:=by
  rw[List.nodup_iff_pairwise_ne,T3];refine(T6 (n:=n+1)).imp_of_mem fun{i j} hi hj hij e=>c ⟨i,j,hij,?_,e⟩;have:=DE.mp hj;lia
 have:=nodup_le hn (k:=List.range n) λx hx=>by
  obtain⟨i,hi,rfl⟩:=CY.mp hx;have:=DE.mp hi;exact DE.mpr (h i (by lia))
 simp at this;lia
theorem least {P:Nat->Prop}:∀n,P n->∃m,m<=n/\P m/\∀k<m,¬P k:=by
 intro n;induction n using Nat.strongRecOn with
 |
  ind n ih=>
  intro h;by_cases c:∃k,k<n/\P k
  .obtain⟨k,hk,pk⟩:=c;obtain⟨m,h1,h2,h3⟩:=ih k hk pk;exact⟨m,by lia,h2,h3⟩
  .exact⟨n,Al _,h,λk hk pk=>c ⟨k,hk,pk⟩⟩
structure GX (n:Nat)(B:List Bond)(p:Nat->Option Nat)(x0 m:Nat):Prop where
 walk:∀j<n,∃i b,p (it B p j x0)=some i/\B[i]?=some b/\b.x=it B p j x0
 lt:∀k,k<=n->it B p k x0<n
 pos:0<m
 le:m<=n
 back:it B p m (it B p n x0)=it B p n x0
 least:∀k,0<k->k<m->it B p k (it B p n x0)≠it B p n x0
 alive:∀k,∃i b,p (it B p k (it B p n x0))=some i/\B[i]?=some b/\b.x=it B p k (it B p n x0)
 neg:sm B p m (it B p n x0)<0
theorem A3.ring {B:List Bond}{n:Nat}{s:Sv}{last:Nat->Nat}{x0:Nat}(hn:0<n)(h:A3 B n B.length s last)(e:s.low=some x0)(hB:∀b∈B,b.x<n/\b.y<n):∃m,GX n B s.p x0 m:=by
 have hl:∀k,k<=n->n<=last (it B s.p k x0)+k:=by
  intro k;induction k with
  |zero=>intro _;have:=h.lowS _ e;show n<=last x0+0;lia
  |
   succ k ih=>
   intro hk;have:=ih (by lia);obtain⟨i,hi⟩:=h.has (it B s.p k x0) (by lia);obtain⟨b,g1,g2,g3,g4⟩:=h.par _ _ hi;rw[GW,Fv hi g1];lia
 have hw:HE B s.p n x0:=λj hj=>h.has _ (by have:=hl j (by lia);lia);have hstep:∀x i,s.p x=some i->x<n/\it B s.p 1 x<n:=λx i hi=>by
  obtain⟨b,g1,g2,_⟩:=h.par x i hi;have:=hB b (AY g1);show x<n/\(pb B s.p x).y<n;rw[Fv hi g1];exact⟨g2▸this.1,this.2⟩
 have hlt:∀k,k<=n->it B s.p k x0<n:=λk hk=>by
  by_cases c:k<n
  .obtain⟨i,hi⟩:=hw k c;exact(hstep _ _ hi).1
  .obtain⟨i,hi⟩:=hw (n-1) (by lia);have:=(hstep _ _ hi).2;rw[show k=(n-1)+1 by lia,EG];exact this
 obtain⟨i,j,hij,hj,eij⟩:=XJ (u:=λk=>it B s.p k x0) hlt;change it B s.p i x0=it B s.p j x0 at eij;have hper:it B s.p (j-i) (it B s.p n x0)=it B s.p n x0:=by
  have e1:it B s.p n x0=it B s.p (n-i) (it B s.p i x0):=by rw[←EG];congr 1;lia
  rw[e1,←EG,KC,EG];congr 1;rw[←EG,show i+(j-i)=j by lia,eij]
 obtain⟨m,hm1,⟨hm2,hm3⟩,hm4⟩:=least (P:=λm=>0<m/\it B s.p m (it B s.p n x0)=it B s.p n x0) (j-i) ⟨by lia,hper⟩;have hP:∀q,it B s.p (q*(j-i)) (it B s.p n x0)=it B s.p n x0:=λq=>by
  induction q with
  |zero=>rw[Nat.zero_mul];rfl
  |succ q ih=>rw[OJ,EG,ih];exact hper
 have hback:it B s.p n x0=it B s.p (n-(j-i)) x0:=by
  have e1:it B s.p n x0=it B s.p (n-j) (it B s.p j x0):=by rw[←EG];congr 1;lia
  rw[e1,←eij,←EG];congr 1;lia
 have hat:∀k,∃l,l<n/\it B s.p k (it B s.p n x0)=it B s.p l x0:=λk=>by
  have hp:0<j-i:=by lia
  have hm:=Nat.mod_lt k hp;refine⟨n-(j-i)+k%(j-i),by lia,?_⟩;have e1:it B s.p k (it B s.p n x0)=it B s.p (k%(j-i)) (it B s.p n x0):=by
   have:=Nat.div_add_mod k (j-i)
   conv=>lhs;rw[←this,Nat.mul_comm,EG,hP]
  rw[e1,hback,←EG]
 have hal:∀k,∃i b,s.p (it B s.p k (it B s.p n x0))=some i/\B[i]?=some b/\b.x=it B s.p k (it B s.p n x0):=λk=>by
  obtain⟨l,hl1,hl2⟩:=hat k;obtain⟨i,hi⟩:=hw l hl1;rw[hl2];obtain⟨b,g1,g2,_⟩:=h.par _ _ hi;exact⟨i,b,hi,g1,g2⟩
 refine⟨m,λj hj=>(by obtain⟨i,hi⟩:=hw j hj;obtain⟨b,g1,g2,_⟩:=h.par _ _ hi;exact⟨i,b,hi,g1,g2⟩),hlt,hm2,by lia,hm3,λk k1 k2 e=>hm4 k k2 ⟨k1,e⟩,hal,?_⟩;obtain⟨m',rfl⟩:∃m',m=m'+1:=⟨m-1,by lia⟩
 exact h.neg m' _ (λj _=>by obtain⟨i,b,g,_⟩:=hal j;exact⟨i,g⟩) hm3
def DS (B:List Bond)(p:Nat->Option Nat)(s m:Nat):List Nat:=(List.range m).map λk=>(p (it B p k s)).getD 0
def K8 (B:List Bond)(p:Nat->Option Nat)(s:Nat):Nat->Nat->List Nat
 |0,_=>[]
 |f+1,x=>if x=s then[] else(p x).getD 0::K8 B p s f (pb B p x).y
theorem Ro {B:List Bond}{p:Nat->Option Nat}{s m:Nat}(hb:it B p m s=s)(hl:∀k,0<k->k<m->it B p k s≠s):∀(f j:Nat),0<j->j<=m->m-j<=f->K8 B p s f (it B p j s)=(List.range (m-j)).map λk=>(p (it B p (j+k) s)).getD 0
 |0,j,h0,h1,h2=>by rw[show m-j=0 by lia];rfl
 |
  f+1,j,h0,h1,h2=>by
  unfold K8;by_cases c:j=m
  .subst c;rw[Av hb,DZ];rfl
  .rw[Aw (hl j h0 (by lia)),←GW,Ro hb hl f (j+1) (by lia) (by lia) (by lia)];rw[show m-j=(m-(j+1))+1 by lia,T7,Cr,Gh,Nat.add_zero];congr 1;refine ON λk _=>?_;show(p (it B p (j+1+k) s)).getD 0=(p (it B p (j+(k+1)) s)).getD 0;rw[show j+1+k=j+(k+1) by lia]
def bd0:Bond:=⟨0,0,0⟩
def sumC (B:List Bond):List Nat->Int
 |[]=>0
 |i::R=>(B.getD i bd0).c+sumC B R
theorem Z5 (B:List Bond)(R S:List Nat):sumC B (R++S)=sumC B R+sumC B S:=by
 induction R with
 |nil=>simp[sumC]
 |cons i R ih=>rw[List.cons_append,sumC,sumC,ih];lia
def WF (n:Nat)(B:List Bond):Prop := ∀b∈B,b.x<n/\b.y<n
def Holds (f:Nat->Int)(B:List Bond):Prop := ∀b∈B,f b.x-f b.y<=b.c
structure RingOk (B:List Bond)(R:List Nat)(u:Nat->Nat):Prop where
 pos:0<R.length
 nd:R.Nodup
 bond:∀k i,R[k]?=some i->∃b,B[i]?=some b/\b.x=u k/\b.y=u (k+1)
 back:u R.length=u 0
 neg:sumC B R<0
def ringOf (n:Nat)(B:List Bond)(s:Sv):List Nat:=
 (s.p (it B s.p n (s.low.getD 0))).getD 0::K8 B s.p (it B s.p n (s.low.getD 0)) n (pb B s.p (it B s.p n (s.low.getD 0))).y
theorem RA {B:List Bond}{p:Nat->Option Nat}{e:Nat}(h:∀k,∃i b,p (it B p k e)=some i/\B[i]?=some b/\b.x=it B p k e):∀m,sumC B (DS B p e m)=sm B p m e
 |0=>rfl
 |
  m+1=>by
  have ih:=RA h m;obtain⟨i,b,h1,h2,h3⟩:=h m;unfold DS at ih ⊢;rw[Ic,BA,Z5,ih,Z8,Fv h1 h2];show _+(sumC B [(p (it B p m e)).getD 0])=_;rw[h1];show _+((B.getD i bd0).c+0)=_;rw[Bk,h2];simp
theorem GX.eq {n:Nat}{B:List Bond}{s:Sv}{x0 m:Nat}(r:GX n B s.p x0 m)(e:s.low=some x0):ringOf n B s=DS B s.p (it B s.p n x0) m:=by
 unfold ringOf;rw[e];simp only[T8];have:=Ro r.back r.least n 1 (by lia) r.pos (by have:=r.le;lia);rw[GW]at this;change K8 B s.p (it B s.p n x0) n (pb B s.p (it B s.p n x0)).y=_ at this;rw[this];unfold DS;obtain⟨m',hm⟩:∃m',m=m'+1:=⟨m-1,by have:=r.pos;lia⟩
 subst hm;rw[T7,Cr,Gh];congr 1;refine ON λk _=>?_;show _=(s.p (it B s.p (k+1) (it B s.p n x0))).getD 0;rw[KC 1 k]
theorem GX.ok {n:Nat}{B:List Bond}{s:Sv}{x0 m:Nat}(r:GX n B s.p x0 m)(e:s.low=some x0):RingOk B (ringOf n B s) (λk=>it B s.p k (it B s.p n x0)):=by
 rw[r.eq e];have hlen:(DS B s.p (it B s.p n x0) m).length=m:=by unfold DS;rw[Af,CI]
 refine⟨by rw[hlen];exact r.pos,?_,λk i hk=>?_,?_,?_⟩
 .unfold DS;rw[List.nodup_iff_pairwise_ne,T3];refine(T6 (n:=m)).imp_of_mem fun{i j} hi hj hij ee=>?_;have hi:=DE.mp hi;have hj:=DE.mp hj;obtain⟨i1,b1,g1,g2,g3⟩:=r.alive i;obtain⟨i2,b2,k1,k2,k3⟩:=r.alive j;rw[g1,k1]at ee;simp only[T8]at ee;subst ee;rw[g2]at k2;cases k2;have hij2:it B s.p i (it B s.p n x0)=it B s.p j (it B s.p n x0):=g3.symm.trans k3;have:it B s.p (m-j+i) (it B s.p n x0)=it B s.p n x0:=by
   rw[KC,EG,hij2,←EG,show j+(m-j)=m by lia];exact r.back
  exact r.least (m-j+i) (by lia) (by lia) this
 .unfold DS at hk;rw[Bf]at hk;have hlt:k<m:=by
   cases c:(List.range m)[k]? with
   |none=>rw[c]at hk;cases hk
   |some z=>have:=(Ax.mp c).1;simpa using this
  rw[FI hlt]at hk;obtain⟨i1,b1,g1,g2,g3⟩:=r.alive k;simp only[Option.map_some,g1,T8,Option.some.injEq]at hk;subst hk;refine⟨b1,g2,g3,?_⟩;show b1.y=it B s.p (k+1) (it B s.p n x0);rw[GW,Fv g1 g2]
 .rw[hlen];exact r.back
 .rw[RA r.alive];exact r.neg
theorem go_ok {n:Nat}{B:List Bond}(hn:0<n)(w:WF n B):(∃s,go B n st0 = .inl s/\Holds (λi=>s.v i-s.v 0) B)\/∃s x0 m,go B n st0 = .inr s/\s.low=some x0/\GX n B s.p x0 m:=by
 cases c:go B n st0 with
 |
  inl s=>
  refine .inl ⟨s,rfl,λb hb=>?_⟩;have:=PN (A3.start B) c b hb;simp only[];lia
 |
  inr s=>
  obtain⟨k,rfl⟩:∃k,n=k+1:=⟨n-1,by lia⟩
  obtain⟨last,x,h1,h2⟩:=Sx (A3.start B) c;rw[KC]at h1;obtain⟨m,hm⟩:=h1.ring hn h2 w;exact .inr ⟨s,x,m,rfl,h2,hm⟩
end Bd
namespace L2
open PySem PySem.Spec PyProof.Rows Bd
section
variable {es:List Expr}{env:Env}{p:Pos}
theorem Br {c:Const}{n:Nat}:starEach (.Constant c n p::es) env=(false,eval (.Constant c n p) env)::starEach es env:=rfl
theorem B5 {x:Str}:starEach (.Name x p::es) env=(false,eval (.Name x p) env)::starEach es env:=rfl
theorem Ec {a b:Expr}{o:Operator}:starEach (.BinOp a o b p::es) env=(false,eval (.BinOp a o b p) env)::starEach es env:=rfl
theorem DL {f:Expr}{as:List Expr}{ks:List Keyword}:starEach (.Call f as ks p::es) env=(false,eval (.Call f as ks p) env)::starEach es env:=rfl
theorem CB {a b:Expr}:starEach (.Subscript a b p::es) env=(false,eval (.Subscript a b p) env)::starEach es env:=rfl
theorem Wy {as:List Expr}{n:Nat}:starEach (.Tuple as n p::es) env=(false,eval (.Tuple as n p) env)::starEach es env:=rfl
theorem Vq {as:List Expr}:starEach (.List as p::es) env=(false,eval (.List as p) env)::starEach es env:=rfl
theorem JQ {o:UnaryOp}{a:Expr}:starEach (.UnaryOp o a p::es) env=(false,eval (.UnaryOp o a p) env)::starEach es env:=rfl
theorem RC {a:Expr}{x:Str}:starEach (.Attribute a x p::es) env=(false,eval (.Attribute a x p) env)::starEach es env:=rfl
end
@[irreducible] def FS (X:Cx) (es:List Expr) (t:TA):Prop:=PA X es t
section
variable {X:Cx}{e:Expr}{es:List Expr}{te:TE}{t:TA}{pos:Pos}
theorem Bz:FS X [] Hb:=by unfold FS;exact A2
theorem Ac (ha:PE X e te)(hr:FS X es t)(hs:starEach (e::es) X.env=(false,eval e X.env)::starEach es X.env):FS X (e::es) (L6 te t):=by unfold FS at *;exact A0 ha hr hs
theorem GF (h:FS X es t):PE X (.List es pos) (SA t):=by unfold FS at h;exact By h
theorem C0 {x1:Nat}(h:FS X es t):PE X (.Tuple es x1 pos) (PX t):=by unfold FS at h;exact BS h
end
def Kx:Option Nat->V
 |none=>.non
 |some i=>.int (i:Int)
def rl (n:Nat)(f:Nat->V):List V:=(List.range n).map f
def vl (n:Nat)(f:Nat->Int):List V:=rl n λi=>.int (f i)
def pl (n:Nat)(p:Nat->Option Nat):List V:=rl n λi=>Kx (p i)
theorem IR (n:Nat)(f:Nat->V):(rl n f).length=n:=by unfold rl;rw[Af,CI]
theorem Kj (n:Nat)(f:Nat->Int):(vl n f).length=n:=IR _ _
theorem WI (n:Nat)(f:Nat->Option Nat):(pl n f).length=n:=IR _ _
theorem M1 {n x:Nat}{f:Nat->V}(h:x<n):(rl n f)[x]?=some (f x):=by unfold rl;rw[Bf,FI h];rfl
theorem PM {n x:Nat}{f:Nat->V}(h:x<n):Be (rl n f) (x:Int)=some (f x):=Bg (M1 h)
theorem Nm {n x:Nat}{f:Nat->Int}(h:x<n):Be (vl n f) (x:Int)=some (.int (f x)):=PM h
theorem Og {n x:Nat}{f:Nat->Option Nat}(h:x<n):Be (pl n f) (x:Int)=some (Kx (f x)):=PM h
theorem Pe {n x:Nat}(h:x<n):Dt n (x:Int)=some x:=by
 unfold Dt;rw[Av (by lia),Av (by lia)];rfl
theorem Qp {n x:Nat}{f:Nat->V}{a:V}:(rl n f).set x a=rl n (Cz f x a):=by
 refine T9 λk=>?_;rw[OO];by_cases hk:k<n
 .rw[M1 hk,M1 hk,IR];by_cases e:x=k
  .subst e;rw[Av rfl,Av hk,E2]
  .rw[Aw e,Er (Ne.symm e)]
 .have h1:(rl n f)[k]?=none:=MM (by rw[IR];lia);have h2:(rl n (Cz f x a))[k]?=none:=MM (by rw[IR];lia);rw[h1,h2,IR];by_cases e:x=k
  .subst e;rw[Av rfl,Aw hk]
  .rw[Aw e]
theorem bF {n x:Nat}{f:Nat->Int}{a:Int}:(vl n f).set x (.int a)=vl n (Cz f x a):=by
 unfold vl;rw[Qp];congr 1
 funext j
 unfold Cz;split<;>rfl
theorem Wr {n x:Nat}{f:Nat->Option Nat}{a:Nat}:(pl n f).set x (.int (a:Int))=pl n (Cz f x (some a)):=by
 unfold pl;rw[Qp];congr 1
 funext j
 unfold Cz;split<;>rfl
theorem QT (n:Nat)(a:V):(List.replicate n [a]).flatten=rl n λ_=>a:=by
 unfold rl;induction n with
 |zero=>rfl
 |succ n ih=>rw[List.replicate_succ',List.flatten_concat,ih,Ic,BA];rfl
theorem U5 {L:List Int}{i:Int}(h0:0<=i)(h1:i<(L.length:Int)):∃z∈L,Be (L.map V.int) i=some (.int z):=by
 have e:L[i.toNat]?=some L[i.toNat]:=AA (by lia);refine⟨L[i.toNat],FH _,?_⟩;have h:Be (L.map V.int) ((i.toNat:Nat):Int)=some (.int L[i.toNat]):=Bg (by rw[Bf,e];rfl)
 rwa [MQ h0]at h
theorem NR {L:List Int}{i:Int}(n:Nat)(hn:L.length=n)(h0:0<=i)(h1:i<(n:Int)):∃z∈L,Be (L.map V.int) i=some (.int z):=U5 h0 (by rw[hn];exact h1)
theorem K7 {c:TT}{tb:TS}{D:CL}{σ:St}{H:Hp}(k:Nat)(Pv:Nat->St->Hp->Prop)(h0:Pv 0 σ H)
  (hs:∀i σ H,i<=k->Pv i σ H->c σ H λb H1=>if b=true then i<k/\tb {D with nx:=Pv (i+1),ct:=Pv (i+1),bk:=D.nx} σ H1 else D.nx σ H1)
  (mono:∀σ H Q Q',(∀b H1,Q b H1->Q' b H1)->c σ H Q->c σ H Q'):O6 c tb D σ H:=by
 refine⟨λm σ H=>∃i,i<=k/\m=k-i/\Pv i σ H,⟨_,0,Bv _,rfl,h0⟩,?_⟩;rintro m σ H ⟨i,hi,rfl,p⟩;refine mono σ H _ _ (λb H1 q=>?_) (hs i σ H hi p);cases b with
 |true=>exact⟨Pv (i+1),fun σ' H' p'=>⟨k-(i+1),by have:=q.1;lia,i+1,by have:=q.1;lia,rfl,p'⟩,q.2⟩
 |false=>exact q
def D0 (R:List Nat):List V:=(R.map λi=>((i:Nat):Int)).map V.int
theorem LG (R:List Nat):(D0 R).length=R.length:=by unfold D0;rw[Af,Af]
theorem WB {R:List Nat}{k i:Nat}(h:R[k]?=some i):(D0 R)[k]?=some (.int (i:Int)):=by unfold D0;rw[Bf,Bf,h];rfl
theorem Wz (R:List Nat)(i:Nat):D0 R++[.int (i:Int)]=D0 (R++[i]):=by unfold D0;rw[BA,BA];rfl
def Lh (H:Hp)(v:V)(b:Bond):Prop := ∃t,v = .ref t/\H t=some (.tup [.int (b.x:Int),.int (b.y:Int),.int b.c])
def IP (H:Hp)(vs:List V)(B:List Bond):Prop:=vs.length=B.length/\∀(i:Nat) (v:V) (b:Bond),vs[i]?=some v->B[i]?=some b->Lh H v b
def Hj (H:Hp)(l:Addr)(B:List Bond):Prop := ∃vs,H l=some (.lst vs)/\IP H vs B
theorem Lh.over {H H':Hp}{v:V}{b:Bond}(h:Lh H v b)(e:A8 H H'):Lh H' v b:=by
 obtain⟨t,h1,h2⟩:=h;exact⟨t,h1,e _ _ h2⟩
theorem IP.over {H H':Hp}{vs:List V}{B:List Bond}(h:IP H vs B)(e:A8 H H'):IP H' vs B:=⟨h.1,λi v b x y=>(h.2 i v b x y).over e⟩
theorem Hj.over {H H':Hp}{l:Addr}{B:List Bond}(h:Hj H l B)(e:A8 H H'):Hj H' l B:=by
 obtain⟨vs,h1,h2⟩:=h;exact⟨vs,e _ _ h1,h2.over e⟩
def Od (H H':Hp)(v l:Addr):Prop := ∀a o,H a=some o->a≠v->a≠l->H' a=some o
def Fz (n:Nat)(B:List Bond):V×List V:=match go B n st0 with
 |.inl s=>(.str "values",vl n λi=>s.v i-s.v 0)
 |.inr s=>(.str "ring",D0 (ringOf n B s))
theorem IP.get {H:Hp}{vs:List V}{B:List Bond}(h:IP H vs B){i:Nat}{b:Bond}(hb:B[i]?=some b):∃t,Be vs (i:Int)=some (.ref t)/\H t=some (.tup [.int (b.x:Int),.int (b.y:Int),.int b.c]):=by
 have hi:i<vs.length:=by rw[h.1];exact(Ax.mp hb).1
 obtain⟨t,e,ht⟩:=h.2 i vs[i] b (AA hi) hb;exact⟨t,(Bg (AA hi)).trans (by rw[e]),ht⟩
theorem ae (i:Nat)(f:Nat->Int):vl (i+1) f=vl i f++[.int (f i)]:=by unfold vl rl;rw[Ic,BA];rfl
theorem UW (n:Nat)(f:Nat->Int):vl n f=((List.range n).map f).map V.int:=by unfold vl rl;rw[Gh];rfl
def VE:Sp:=λvs H Q _=>∃(b v l:Addr) (B:List Bond) (n:Nat) (s:Sv),vs=[.ref b,.ref v,.ref l]/\b≠v/\b≠l/\v≠l/\Hj H b B/\WF n B/\H v=some (.lst (vl n s.v))/\H l=some (.lst (pl n s.p))/\
 ∀H',Od H H' v l->H' v=some (.lst (vl n (D8 B s).v))->H' l=some (.lst (pl n (D8 B s).p))->Q (Kx (D8 B s).low) H'
def Xt:Sp:=λvs H Q _=>∃(n:Nat) (b l:Addr) (B:List Bond) (s:Sv) (x0 m:Nat),vs=[.int (n:Int),.ref b,.ref l,.int (x0:Int)]/\Hj H b B/\B.length<=1000/\n<=1000/\H l=some (.lst (pl n s.p))/\s.low=some x0/\GX n B s.p x0 m/\WF n B/\
 ∀(r:Addr) (H':Hp),A8 H H'->H r=none->H' r=some (.lst (D0 (ringOf n B s)))->Q (.ref r) H'
def Vy:Sp:=λvs H Q _=>∃(n:Nat) (b:Addr) (B:List Bond),vs=[.int (n:Int),.ref b]/\Hj H b B/\WF n B/\0<n/\n<=1000/\B.length<=1000/\
 ∀(t l:Addr) (H':Hp),A8 H H'->H l=none->H' t=some (.tup [(Fz n B).1,.ref l])->H' l=some (.lst (Fz n B).2)->Q (.ref t) H'
end L2
namespace Bd
end Bd
namespace L2
open PySem PySem.Spec PyProof.Rows
section
open Bd
theorem QH {tt:TT}{ta tb:TS}{D:CL}{σ:St}{H:Hp}(M:Hp->Prop)(ha:∀H',M H'->ta D σ H')(h:(∀H',M H'->ta D σ H')->IE tt ta tb D σ H):IE tt ta tb D σ H:=h ha
theorem Ra:∀{ns:List Int} {its:List Value},Au (ns.map V.int) its->IntsAre its ns
 |[],_,.nil=>.nil
 |n::ns,_,.cons ⟨t,h⟩ r=>by subst h;exact .cons n t (Ra r)
end
section
open Bd
end
def NA (C:Addr)(fs:List Str):Sp:=λas H Q _=>∃(x dx:Addr) (vs:List V),as = .ref x::vs/\vs.length=fs.length/\H x=some (.ins C dx [])/\∀H',(∀b o,H b=some o->b≠x->H' b=some o)->(∃dx,H' x=some (.ins C dx (fs.zip vs)))->Q .non H'
structure Cs where
 n:Addr
 v:Addr
 c:Addr
 j:Addr
def Rf:Sp:=λvs H Q _=>∃x:V,vs=[x]/\∀(r:Addr) (H':Hp),A8 H H'->H' r=some (.lst [])->Q (.ref r) H'
def Qs (C:Addr):Sp:=λvs H Q _=>∃(x dx:Addr) (z:Str) (v:V),vs=[.ref x]/\H x=some (.ins C dx [("table",.str z),("spots",v)])/\∀(t r:Addr) (H':Hp),A8 H H'->H' t=some (.tup [.str z,v])->H' r=some (.lst [.ref t])->Q (.ref r) H'
theorem A4.updI {K:Faa}{H:Hp}{p x C dx:Addr}{fs:List (Str×V)}{ys:List V}{o:HO}(h:A4 K H p ys)(hx:H x=some (.ins C dx fs)):A4 K (upd H x o) p ys:=by
 rcases h with(h|⟨ob,h⟩)|h
 .refine .inl (.inl ?_);rw[Ak (λe=>by rw[e,hx]at h;cases h)];exact h
 .refine .inl (.inr ⟨ob,?_⟩);rw[Ak (λe=>by rw[e,hx]at h;cases h)];exact h
 .exact .inr h
def Ym (K:Faa)(C:Addr):Sp:=λvs H Q _=>∃(x dx:Addr) (sz:V) (p:Addr) (ys:List V),vs=[.ref x,sz,.ref p]/\H x=some (.ins C dx [])/\A4 K H p ys/\∀(l:Addr) (H':Hp),H l=none->(∀b o,H b=some o->b≠x->H' b=some o)->H' l=some (.lst ys)->(∃dx,H' x=some (.ins C dx [("size",sz),("deeds",.ref l)]))->Q .non H'
end L2
namespace PySem
open Builtin
open AutoSeq1 (wpAny_loadPart')
end PySem
namespace L2
open PySem PySem.Spec PyProof.Rows
section
variable {X:Cx}
end
section
open Bd
abbrev CT:=List (Str×Addr)
inductive CJ (c:Cs)(H:Hp):Nat->V->CT->Prop
 |num {x dx:Addr} (i:Int):H x=some (.ins c.n dx [("n",.int i)])->CJ c H 1 (.ref x) []
 |val {x dx:Addr} (z:Str):H x=some (.ins c.v dx [("name",.str z)])->CJ c H 1 (.ref x) []
 |cel {x dx p:Addr} (z:Str):H x=some (.ins c.c dx [("table",.str z),("spots",.ref p)])->CJ c H 1 (.ref x) [(z,p)]
 |joi {x dx:Addr} {l r:V} {m n:Nat} {rs us:CT} (z:Str):H x=some (.ins c.j dx [("sign",.str z),("left",l),("right",r)])->CJ c H m l rs->CJ c H n r us->CJ c H (m+n) (.ref x) (rs++us)
theorem CJ.over {c:Cs}{H H':Hp}(e:A8 H H'){n:Nat}{x:V}{rs:CT}(h:CJ c H n x rs):CJ c H' n x rs:=by
 induction h with
 |num i h=>exact .num i (e _ _ h)
 |val z h=>exact .val z (e _ _ h)
 |cel z h=>exact .cel z (e _ _ h)
 |joi z h _ _ a b=>exact .joi z (e _ _ h) a b
theorem CJ.pos {c:Cs}{H:Hp}{n:Nat}{x:V}{rs:CT}(h:CJ c H n x rs):1<=n/\rs.length<=n:=by
 induction h with
 |num i h=>exact⟨Al _,Bv _⟩
 |val z h=>exact⟨Al _,Bv _⟩
 |cel z h=>exact⟨Al _,Al _⟩
 |joi z h _ _ a b=>exact⟨by lia,by rw[Ao];lia⟩
def DJ (H:Hp)(f:Str×Addr->List V)(ys:List V)(rs:CT):Prop:=ys.length=rs.length/\∀(i:Nat) (y:V) (r:Str×Addr),ys[i]?=some y->rs[i]?=some r->∃t,y = .ref t/\H t=some (.tup (f r))
theorem DJ.over {H H':Hp}{f:Str×Addr->List V}{ys:List V}{rs:CT}(h:DJ H f ys rs)(e:A8 H H'):DJ H' f ys rs:=⟨h.1,λi y r a b=>by obtain⟨t,x,z⟩:=h.2 i y r a b;exact⟨t,x,e _ _ z⟩⟩
theorem DJ.nil {H:Hp}{f:Str×Addr->List V}:DJ H f [] []:=⟨rfl,λi y r a=>by simp at a⟩
theorem DJ.one {H:Hp}{f:Str×Addr->List V}{t:Addr}{r:Str×Addr}(h:H t=some (.tup (f r))):DJ H f [.ref t] [r]:=⟨rfl,λi y r' a b=>by
 cases i with
 |zero=>cases a;cases b;exact⟨t,rfl,h⟩
 |succ i=>simp at a⟩
theorem DJ.app {H:Hp}{f:Str×Addr->List V}{ys zs:List V}{rs us:CT}(h:DJ H f ys rs)(g:DJ H f zs us):DJ H f (ys++zs) (rs++us):=by
 refine⟨by rw[Ao,Ao,h.1,g.1],λi x c hx hc=>?_⟩;by_cases hi:i<ys.length
 .rw[CH hi]at hx;rw[CH (by rw[←h.1];exact hi)]at hc;exact h.2 i x c hx hc
 .rw[Ck (by lia)]at hx;rw[Ck (by rw[←h.1];lia),←h.1]at hc;exact g.2 _ x c hx hc
def Qu (r:Str×Addr):List V:=[.str r.1,.ref r.2]
def Nl (c:Cs)(n:Nat):Sp:=λvs H Q _=>∃(x dx:Addr) (z:Str) (l r:V) (m k:Nat) (rs us:CT),vs=[.ref x]/\H x=some (.ins c.j dx [("sign",.str z),("left",l),("right",r)])/\CJ c H m l rs/\CJ c H k r us/\m+k<=n+1/\n<=100/\∀(p:Addr) (ys:List V) (H':Hp),A8 H H'->H' p=some (.lst ys)->DJ H' Qu ys (rs++us)->Q (.ref p) H'
theorem dS {x y:Str}(h:x≠y):decide (V.str x=V.str y)=false:=C2 λe=>h (V.str.inj e)
theorem OA {K:Faa}{a:Addr}{xs:List V}{ρ:List (Option Nat)}{g:TG}{tt:TT}{te:TE}{σ:St}{H:Hp}{Q:VK}(Pv:Nat->List V->Hp->Prop)(h0:Pv 0 [] H)(hlen:xs.length<=sizeLine)(hl:∀i ys H,i<=xs.length->Pv i ys H->A4 K H a xs/\ys.length<=i)
  (hs:∀i x ys H,xs[i]?=some x->Pv i ys H->g x (C3 ρ σ) H fun σ2 H3=>IT ρ σ σ2/\tt σ2 H3 λok H4=>if ok=true then te σ2 H4 λv H5=>Pv (i+1) (ys++[v]) H5 else Pv (i+1) ys H4)
  (hd:∀ys H,Pv xs.length ys H->∀p,H p=none->Q (.ref p) (upd H p (.lst ys))):Hn ρ g tt te σ Q (Ht K a) H:=by
 refine⟨λi m ys H=>m=xs.length-i/\i<=xs.length/\Pv i ys H,⟨_,rfl,Bv _,h0⟩,?_⟩;rintro i m ys H ⟨rfl,hi,p⟩;obtain⟨hq,hy⟩:=hl i ys H hi p;by_cases hlt:i<xs.length
 .refine .inr ⟨⟨xs,xs[i],hq,by simp[hlt]⟩,by lia,Pv (i+1),λys' H'' p'=>⟨xs.length-(i+1),by lia,rfl,hlt,p'⟩,λx H' y=>?_⟩;obtain⟨e,y2⟩:=y;subst e;exact hs i x ys _ (y2 xs hq) p
 .have e:i=xs.length:=by lia
  subst e;exact .inl ⟨⟨xs,hq,Al _⟩,by lia,hd ys H p⟩
def Nt (fl:Bool)(r:Str×Addr):List V:=[.bl fl,.str r.1,.ref r.2]
def IH (c:Cs)(C:Addr)(H:Hp)(v:V)(z:Str)(p:Addr)(m:Nat)(rs:CT):Prop := ∃(d dx:Addr) (v1 v2 v3 x v7:V),v = .ref d/\H d=some (.ins C dx [("names",v1),("lows",v2),("highs",v3),("table",.str z),("spots",.ref p),("term",x),("path",v7)])/\CJ c H m x rs
theorem IH.over {c:Cs}{C:Addr}{H H':Hp}{v:V}{z:Str}{p:Addr}{m:Nat}{rs:CT}(h:IH c C H v z p m rs)(e:A8 H H'):IH c C H' v z p m rs:=by
 obtain⟨d,dx,v1,v2,v3,x,v7,rfl,h1,h2⟩:=h;exact⟨d,dx,v1,v2,v3,x,v7,rfl,e _ _ h1,h2.over e⟩
def Os (H:Hp)(l:Addr)(z:Str)(p:Addr)(rs:CT):Prop := ∃(t:Addr) (ys:List V),H l=some (.lst (.ref t::ys))/\H t=some (.tup (Nt true (z,p)))/\DJ H (Nt false) ys rs
def Yx (c:Cs)(C:Addr):Sp:=λvs H Q _=>∃(v:V) (z:Str) (p:Addr) (m:Nat) (rs:CT),vs=[v]/\IH c C H v z p m rs/\m<=100/\∀(l:Addr) (H':Hp),A8 H H'->H l=none->Os H' l z p rs->Q (.ref l) H'
end
theorem TB {M:Model}{A:Around}{E:Value->Shared->Prop}{s:Shared}{β:Type}{f:Nat->β->Sem (ForInStep β)}{n:Nat}{b:β}{Q:β->Shared->Prop}(I:Nat->β->Shared->Prop)(h:I 0 b s)
  (turn:∀i b s,i<n->I i b s->wpAny M A (f i b) (λr s'=>match r with|.yield b'=>I (i+1) b' s'|.done b'=>Q b' s') E s) (fin:∀b s,I n b s->Q b s):wpAny M A (forIn [:n] b f) Q E s:=by
 rw[Std.Legacy.Range.forIn_eq_forIn_range'];have key:∀(k i:Nat) (b:β) (s:Shared),i+k=n->I i b s->wpAny M A (forIn (List.range' i k) b f) Q E s:=by
  intro k;induction k with
  |zero=>intro i b s e hi;rw[List.range'_zero,List.forIn_nil];exact AN (fin _ _ (by rw[←e];exact hi))
  |
   succ k ih=>
   intro i b s e hi;rw[List.range'_succ,OL];refine Ag (Dm (turn i b s (by lia) hi) (λr s' hr=>?_) λ_ _ x=>x);cases r with
   |done b'=>exact AN hr
   |yield b'=>exact ih (i+1) b' s' (by lia) hr
 have e:(Std.Legacy.Range.size [:n])=n:=by simp[Std.Legacy.Range.size]
 rw[e];exact key n 0 b s (by lia) h
section
open PySem.SeqAt
open PySem.AutoSeq1 (wpAny_loadPart')
open PySem.MeetsSeq PySem.MeetsSeq2 PySem.MeetsSeq3
theorem Ww (l:Addr)(items:Array Value)(n:Nat)(dd:Option Addr)(sl:Array (Option Value))(x:Value)(e:Value->Bool)(j:Nat)(hj:j<items.size)(hit:e items[j]=true)(hno:∀m (hm:m<items.size),m<j->e items[m]=false) :
  Meets (Builtin.«tuple.index» ⟨[.ref l,x],[]⟩)
   (λA R s=>s.heap.get? l=some {cls:=.type "tuple",dict:=dd,data:=.seq items n,slots:=sl}/\(∀y,y∈items->EqAt A.in1 s y x (e y))/\R (.ok (.ret (.int j s.toks))) {s with toks:=s.toks+1}):=
 .of_wp λprog w A R s h=>by
  obtain⟨hp,g,d,tk,os⟩:=s;obtain⟨hl,he,h⟩:=h
  wp_walk using wpAny_loadPart' hl
  refine TB (n:=min items.size items.size) (b:=(none,())) (f:=λi _=>match items[i]? with
   |
    some y=>do
    let q ←eqBool y x
    if q=true then do
     let r ←retInt i
     pure (ForInStep.done (some r,()))
    else pure (ForInStep.yield (none,()))
   |_=>pure (ForInStep.yield (none,()))) (λi b s'=>i<=j/\b.1=none/\s'=⟨hp,g,d,tk,os⟩) ⟨Bv _,rfl,rfl⟩ (λi b s' hi hI=>?_) (λb s' hI=>?_)
  .obtain⟨hij,hb,rfl⟩:=hI;have hlt:i<items.size:=by lia
   have ei:items[i]?=some items[i]:=Ta hlt;simp only[ei];refine Ag (he _ (Array.getElem_mem hlt) prog w _ _ ?_);by_cases c:i=j
   .subst c;rw[hit]
    wp_walk
    exact⟨_,rfl,h⟩
   .rw[hno i hlt (by lia)]
    wp_walk
    exact⟨by lia,rfl,rfl⟩
  .obtain⟨hij,_,_⟩:=hI;lia
end
def Uu (z:Str):Value->Bool
 |.str y _=>y==z
 |_=>false
theorem Uk {zs:List Str}{its:List Value}(r:Au (zs.map V.str) its){i:Nat}{u:Value}(h:its[i]?=some u):∃z t,zs[i]?=some z/\u = .str z t:=by
 cases e:(zs.map V.str)[i]? with
 |none=>rw[r.none_of e]at h;cases h
 |
  some v=>
  obtain⟨u',h',ru⟩:=r.get e;rw[h]at h';cases h';rw[Bf]at e;cases ez:zs[i]? with
  |none=>rw[ez]at e;cases e
  |
   some z=>
   rw[ez]at e;cases e;obtain⟨t,ht⟩:=(show ∃t,u=Value.str z t from ru)
   exact⟨z,t,rfl,ht⟩
def Xd (K:Faa):V->List V->Hp->VK->Prop:=λx vs H Q=>∃(p:Addr) (zs:List Str) (z:Str) (j:Nat),x = .ref p/\vs=[.str z]/\A7 K H p (zs.map V.str)/\zs[j]?=some z/\(∀m<j,zs[m]?≠some z)/\Q (.int (j:Int)) H
theorem cI {X:Cx}:K5 X "tuple.index" (Xd X.K):=by
 intro pins s σ H x vs v us Q I rx rv h;obtain⟨p,zs,z,j,rfl,rfl,hq,hj,hno,q⟩:=h;cases rx;obtain⟨u,rfl,ru⟩:=EJ rv;obtain⟨tk,rfl⟩:=(show ∃t,u=Value.str z t from ru)
 obtain⟨its,r,⟨o,e,hc,n,hd⟩,hz⟩:=I.tuple hq;have hl:=r.length;rw[Af]at hl;have hjl:j<its.length:=by have:=(Ax.mp hj).1;lia
 obtain⟨cls,dd,data,sl⟩:=o;simp only at hc hd;subst hc hd;have at':∀m (hm:m<its.toArray.size),∃y t,zs[m]?=some y/\its.toArray[m] = .str y t:=λm hm=>by
  have hm':m<its.length:=by simpa using hm
  obtain⟨y,t,h1,h2⟩:=Uk r (i:=m) (u:=its[m]) (AA hm');exact⟨y,t,h1,by simpa using h2⟩
 refine Js PySem.F.slot_tuple_index ⟨_,e,rfl⟩ PySem.F.entry_tuple_index (PySem.F.args_tuple_index_2 _ _) (Ww p its.toArray n dd sl (.str z tk) (Uu z) j (by simpa using hjl) ?_ ?_) ⟨e,λy hy=>?_,?_⟩
 .obtain⟨y,t,h1,h2⟩:=at' j (by simpa using hjl);rw[hj]at h1;cases h1;rw[h2];exact beq_self_eq_true z
 .intro m hm hmj;obtain⟨y,t,h1,h2⟩:=at' m hm;rw[h2];have:y≠z:=λe=>hno m hmj (by rw[h1,e]);exact MY.mpr this
 .obtain⟨m,hm,rfl⟩:=Array.mem_iff_getElem.mp hy;obtain⟨y,t,h1,h2⟩:=at' m hm;rw[h2];exact PySem.SeqAt.EqAt.str_str y t z tk
 .exact⟨.int (j:Int),H,I.tok _,⟨_,rfl⟩,q⟩
def V1 (r:V->List V->Hp->VK->Prop)(to:TE)(t:TA):TE:=fun σ H Q=>to σ H λx H1=>(∃p xs,x = .ref p/\H1 p=some (.tup xs))/\t σ H1 λxs H2=>r x xs H2 Q
theorem XD {X:Cx}{pins:List (Addr×Obj)}{σ:St}{H:Hp}{s:Shared}{p:Addr}{xs:List V}(I:A3 X pins σ H s)(h:H p=some (.tup xs)):s.TypeIs (.ref p) "tuple"/\∀a,Value.ref p = .ref a->∃ob,s.heap.get? a=some ob/\ob.dict=none:=by
 obtain⟨_,its,_,o,e,c,_,d⟩:=(show Cb X.prog X.w H s.heap p (.tup xs) from I.hok p _ h)
 exact⟨⟨o,e,c⟩,λa z=>by cases z;exact⟨o,e,d⟩⟩
theorem Tq {X:Cx}{o e:Expr}{es:List Expr}{to:TE}{t:TA}{name:Str}{apos cpos:Pos}{id:String}{r:V->List V->Hp->VK->Prop}(slot:Slot "tuple" name id)(hty:typeOf (.builtin id)=pure (.type "method_descriptor"))(hm:K5 X id r)(ho:PE X o to)(ha:PA X (e::es) t)
  (hbase:attributeBase o name X.env (eval o X.env)=eval o X.env:=by rfl)
  (hfew:((backTo cpos (starEach (e::es) X.env)).all (λx=>!x.1)&&(backToKw cpos (keywordEach [] X.env)).all (λx=>x.1.isSome)&&decide ((e::es).length+([]:List Keyword).length+(if([]:List Keyword).isEmpty then 0 else 1)<30))=true:=by rfl)
  (hline:(apos.endLine==cpos.line)=true:=by rfl) (hs:starEach (e::es) X.env=(false,eval e X.env)::starEach es X.env:=by rfl) (hplain:(backTo cpos (starEach es X.env)).any (·.1)=false:=by rfl) :
  PE X (.Call (.Attribute o name apos) (e::es) [] cpos) (V1 r to t):=by
 intro pins s σ H Q I h;refine wpAny_Call_method_late hbase hfew hline rfl (Ay (ho pins s σ H _ I h) λv s1 hx=>?_);obtain⟨x,H1,I1,r1,⟨p,xs,rfl,hp⟩,q1⟩:=hx;cases r1;obtain⟨h1,h2⟩:=XD I1 hp;refine⟨"tuple",id,PySem.F.plainAttrs_tuple,slot,hty,h1,h2,?_⟩;have hA:=ha cpos pins s1 σ H1 _ I1 q1;rw[hs]at hA ⊢;refine Calls.callWith_builtin (by show(false||(backTo cpos (starEach es X.env)).any (·.1))=false;rw[hplain]<;>rfl) (Calls.evalArgs_plain ?_);exact Ay hA λus s2 hy=>by
  obtain⟨vs,H2,I2,r2,q2⟩:=hy;exact hm pins s2 σ H2 (.ref p) vs (.ref p) us Q I2 rfl r2 q2
def FU (n:Nat):List V:=(List.range n).map λi:Nat=>V.int (i:Int)
def Ys (ta:TA):TE:=fun σ H Q=>ta σ H λvs H1=>∃n:Nat,vs=[.int (n:Int)]/\n<=1000000/\∀l,H1 l=none->Q (.ref l) (upd H1 l (.lst (FU n)))
theorem bf {n:Nat}{acc:Array Value}(h:ItemsOf (λi v=>∃t,v = .int (0+(i:Int)*1) t) acc n):Au (FU n) acc.toList:=by
 have key:∀(k:Nat) (l:List Value),(∀(j:Nat) (v:Value),l[j]?=some v->∃t,v=Value.int ((k+j:Nat):Int) t)->Au ((List.range' k l.length).map λi:Nat=>V.int (i:Int)) l:=by
  intro k l;induction l generalizing k with
  |nil=>intro _;exact .nil
  |
   cons x l ih=>
   intro hl;rw[BH,List.range'_succ,Cr];obtain⟨t,ht⟩:=hl 0 x rfl;refine .cons ⟨t,by rw[ht];rfl⟩ (ih (k+1) λj v hj=>?_);obtain⟨t',ht'⟩:=hl (j+1) v (by simpa using hj);exact⟨t',by rw[ht'];congr 1;lia⟩
 have hl:acc.toList.length=n:=by simpa using h.1
 have:=key 0 acc.toList λj v hj=>by
  obtain⟨t,ht⟩:=h.2 j v (by simpa using hj);exact⟨t,by rw[ht];congr 1;lia⟩
 rw[hl]at this;unfold FU;rw[List.range_eq_range'];exact this
theorem Ot {X:Cx}{a:Expr}{ta:TA}{p p2 pos pos2:Pos}(hc:X.calm=true)(hgl:Gl X "list")(hml:X.mg "list"=none)(hg:Gl X "range")(hm:X.mg "range"=none)(ha:PA X [a] ta)
  (hs:starEach [a] X.env=[(false,eval a X.env)]:=by rfl):PE X (.Call (.Name "list" p) [.Call (.Name "range" p2) [a] [] pos2] [] pos) (Ys ta):=by
 intro pins s σ H Q I h;refine Jr (FW I hgl hml Ln ?_ (by decide) (by decide));refine Jg ?_ rfl rfl;show wpAny _ _ (spliced ((false,eval (.Call (.Name "range" p2) [a] [] pos2) X.env)::backTo pos (starEach [] X.env))) _ _ s;refine Calls.spliced_cons ?_;refine Call_ (FW I hg hm boot_range (Jg (Ay (ha pos2 pins s σ H _ I h) λus s1 hx=>?_) hs rfl));obtain⟨vs,H1,I1,r1,n,e,hn,q⟩:=hx;subst e;obtain⟨u,rfl,ru⟩:=EJ r1;obtain⟨t,rfl⟩:=(show ∃t,u=Value.int (n:Int) t from ru)
 refine call_range_1 ?_;refine Calls.spliced_nil ?_;have p62:(2:Int) ^ 62=4611686018427387904:=by decide
 refine call_list_range (n:=n) (I1.ok.hd hc) (IsRange.new ..) (small_one (by decide) (by decide) (by lia) (by lia)) (by rw[rangeSize_one];split<;>lia) (by lia) λh' tk acc c' hk hl hi=>?_;have hsz:(s1.heap.push {cls:=.type "range",data:=.fields #[.int 0 s1.toks,.int (n:Int) t,.int 1 (s1.toks+1)]}).objs.size=s1.heap.objs.size+1:=Jh ..;have hf:H1 (s1.heap.objs.size+1)=none:=I1.hok.fresh (FF _);have hul:(FU n).length<=sizeLine:=by unfold FU;rw[Af,CI];exact Bp hn
 change h'.get? (s1.heap.push {cls:=.type "range",data:=.fields #[.int 0 s1.toks,.int (n:Int) t,.int 1 (s1.toks+1)]}).objs.size=_ at hl;rw[hsz]at hl;refine⟨.ref (s1.heap.objs.size+1),upd H1 (s1.heap.objs.size+1) (.lst (FU n)),I1.laid (t':=tk) (o:=.lst (FU n)) (λb o e=>hk b o (B2 _ e)) (FF _) ⟨hul,acc.toList,c',bf hi,by simpa using hl⟩,?_,q _ hf⟩;show Value.ref _=Value.ref _;rw[←hsz]
def EK (zs:List Str)(z:Str)(first u:Int):Prop:=(z=""/\u=0)\/(z≠""/\∃j:Nat,zs[j]?=some z/\(∀m<j,zs[m]?≠some z)/\u=first+(j:Int))
def Z3:Sp:=λvs H Q _=>∃(t nm:Addr) (z:Str) (n first:Int) (zs:List Str) (u:Int),vs=[.ref t,.ref nm,.int first]/\H t=some (.tup [.str z,.int n])/\H nm=some (.tup (zs.map V.str))/\EK zs z first u/\Q (.int u) H
section
variable {prog:Program}{w:World}{A:Around}{E:Value->Shared->Prop}{s:Shared}
theorem S1 {it t:Addr}{k:Nat}{its:Array Value}{Q:Value->Shared->Prop}(a:s.heap.IsTupleIter it t k)(b:s.heap.IsTuple t its)
  (q:wpAny (model prog w) A.in1 (match its[k]? with
   |some x=>do setField (.ref it) 1 (rawInt (k+1));ret x
   |none=>do rule (toString "tuple_iterator.__next__"++toString ".end");setField (.ref it) 0 .none;Builtin.SmallTypes.stopIteration) (λfin s'=>∃v,fin = .done (.ret v)/\Q v s') E s) :
  wpAny (model prog w) A (Builtin.SmallTypes.nextOf (.ref it)) Q E s:=by
 have ty:=a.typeIs;obtain⟨o,g,c,d⟩:=a;obtain⟨o2,g2,-,n2,d2⟩:=b;unfold Builtin.SmallTypes.nextOf;apply Ag;apply wpAny_callSpecial?_slot (name:=Str.ofString "__next__") ty F.slot_tuple_iterator_next;refine OZ F.slot_tuple_iterator_next ty F.entry_tuple_iterator_next ?_ (F.args_tuple_iterator_next_1 _);unfold Builtin.«tuple_iterator.__next__»
 wp_walk using Fj g d (x:=.ref t) rfl
 rw[d];apply AN;apply AN;apply Ag;apply N2 g2 d2;rw[show Int.toNat (k:Int)=k from rfl];refine Dm q (λfin s' zz=>?_) λ_ _ z=>z;obtain⟨v,e,z⟩:=zz;exact⟨v,e,AN z⟩
theorem V0 {it t:Addr}{k:Nat}{its:Array Value}{x:Value}{Q:Value->Shared->Prop}(a:s.heap.IsTupleIter it t k)(b:s.heap.IsTuple t its)(hx:its[k]?=some x)
  (q:∀h',h'.IsTupleIter it t (k+1)->Heap.SameBut it s.heap h'->Q x {s with heap:=h'}):wpAny (model prog w) A (Builtin.SmallTypes.nextOf (.ref it)) Q E s:=by
 apply S1 a b;obtain⟨o,g,c,d⟩:=a;rw[hx];apply Ag;apply P1 g d (by simp);apply AN;refine⟨x,rfl,q _ ⟨_,MK _ g ?_,?_,?_⟩ (Heap.SameBut.update ..)⟩
 .exact Obj.isFreed_of_fields (Obj.data_mapFields d _)
 .exact(Obj.cls_mapFields ..).trans c
 .rw[Obj.data_mapFields d];rfl
theorem Yi {it t:Addr}{k:Nat}{its:Array Value}{Q:Value->Shared->Prop}(hh:A.handled=none)(a:s.heap.IsTupleIter it t k)(b:s.heap.IsTuple t its)(hx:its[k]?=none)
  (q:∀h' e,Heap.ExtBut it s.heap h'->(∃o,h'.get? e=some o/\o.cls = .type "StopIteration")->E (.ref e) {s with heap:=h'}):wpAny (model prog w) A (Builtin.SmallTypes.nextOf (.ref it)) Q E s:=by
 apply S1 a b;obtain⟨o,g,c,d⟩:=a;rw[hx];apply Ag;apply wpAny_rule;apply Ag;apply P1 g d (by simp);have h1:A.in1.handled=none:=hh
 wp_walk
 unfold raiseNew;apply Ag;apply wpAny_handled;rw[h1];show wpAny _ _ (throw _) _ _ _;apply wpAny_throw;exact q _ _ (((Heap.SameBut.update ..).extBut.push _).push _) ⟨_,CN _ rfl,rfl⟩
theorem IJ (hh:A.handled=none)(it t:Addr)(ne:t≠it)(its:Array Value):Draws prog w A it [it,t] its.size (λi v=>its[i]?=some v) (λi h=>h.IsTupleIter it t i/\h.IsTuple t its) where
 live:=λ_ _ ⟨⟨o,g,_⟩,_⟩=>⟨o,g⟩
 frame:=λ_ _ _ ⟨⟨o,g,r⟩,⟨o2,g2,r2⟩⟩ k=>⟨⟨o,k it (by simp) o g,r⟩,⟨o2,k t (by simp) o2 g2,r2⟩⟩
 item:=λi s Q E lt ⟨a,b⟩ q=>V0 a b (Ta lt) λh' a' sb=>q _ h' s.toks (Ta lt) ⟨a',b.extBut sb.extBut ne⟩ sb
 done:=λs Q E ⟨a,b⟩ q=>Yi hh a b (by simp) q
end
structure ZA (z TI TO i1 i2:Addr)(f g:List Addr):Prop where
 zf:z∉f
 zg:z∉g
 of:TO∉f
 og:TO∉g
 nf:i2∉f
 ng:i1∉g
 Iz:TI≠z
 Oz:TO≠z
 az:i1≠z
 bz:i2≠z
 IO:TI≠TO
 Ia:TI≠i1
 Ib:TI≠i2
 Oa:TO≠i1
 Ob:TO≠i2
theorem mv {prog:Program}{w:World}{A:Around}{it:Addr}{f:List Addr}{n:Nat}{P:Nat->Value->Prop}{S:Nat->Heap->Prop}(D:Draws prog w A it f n P S){k:Nat}{h h':Heap}{a:Addr}(st:S k h)(b:Heap.ExtBut a h h')(na:a∉f):S k h':=
 D.frame k h h' st λc hc o e=>b c o (λq=>na (q▸hc)) e
section
variable {prog:Program}{w:World}{A:Around}{E:Value->Shared->Prop}{s:Shared}
theorem Wh {z TI TO i1 i2:Addr}{f g:List Addr}{m n k:Nat}{P R:Nat->Value->Prop}{S T:Nat->Heap->Prop}(Z:ZA z TI TO i1 i2 f g)(D1:Draws prog w A i1 f m P S)(D2:Draws prog w A i2 g n R T){a b:Value}{Q:Value->Shared->Prop}
  (hz:IsZip s.heap z TI TO .none) (hI:IsPair s.heap TI (.ref i1) (.ref i2)) (hO:IsPair s.heap TO a b) (s1:S k s.heap) (s2:T k s.heap) (le1:k<=m) (le2:k<=n)
  (q:k<m->k<n->∀x y h' tk,P k x->R k y->IsZip h' z TI TO (rawInt s.heap.objs.size)->IsPair h' TO x y->S (k+1) h'->T (k+1) h'->IsPair h' s.heap.objs.size x y->
   (∀c o,c≠z->c≠TO->c≠i1->c≠i2->s.heap.get? c=some o->h'.get? c=some o)->Q (.ref s.heap.objs.size) {s with heap:=h',toks:=tk})
  (qe:(k=m\/k=n)->∀h' e tk,(∀c o,c≠z->c≠TO->c≠i1->c≠i2->s.heap.get? c=some o->h'.get? c=some o)->(∃o,h'.get? e=some o/\o.cls = .type "StopIteration")->E (.ref e) {s with heap:=h',toks:=tk}) :
  wpAny (model prog w) A (Builtin.«zip.__next__» ⟨[.ref z],[]⟩) (λfin s'=>∃v,fin = .done (.ret v)/\Q v s') E s:=by
 change wpAny _ _ (field (.ref z) 2>>=_) _ _ _;apply Ag;apply Fj hz rfl (x:=.bool false) rfl;change wpAny _ _ (field (.ref z) 3>>=_) _ _ _;apply Ag;apply Fj hz rfl (x:=.ref TI) rfl;apply Ag;apply N2 hI rfl;change wpAny _ _ (Builtin.SmallTypes.ownedTupleIsFree (.ref z)>>=_) _ _ _;apply Ag;unfold Builtin.SmallTypes.ownedTupleIsFree;apply Ag;apply Fj hz rfl (x:=.none) rfl;apply AN;simp only[if_true];apply Ag;apply wpAny_rule;apply Ag;apply Fj hz rfl (x:=.ref TO) rfl;apply Ag;apply N3 hz (by simp);intro hA zA bA;have zA':IsZip hA z TI TO .ellipsis:=zA;clear zA;have oA:IsPair hA TO a b:=bA.extBut _ _ Z.Oz hO;have sA:=mv D1 s1 bA.extBut Z.zf;have tA:=mv D2 s2 bA.extBut Z.zg;apply Ag;simp only[List.zipIdx_cons,List.zipIdx_nil,OL,List.forIn_nil];apply Ag;apply Ag;apply wpAny_onRaise;change wpAny _ _ (Builtin.SmallTypes.nextOf (.ref i1)>>=_) _ _ _;apply Ag;rcases Nat.lt_or_eq_of_le le1 with l1|rfl;rotate_left
 .apply D1.done _ _ _ sA;rintro h' e kp ⟨o,ge,ce⟩;have z':IsZip h' z TI TO .ellipsis:=kp _ _ Z.az.symm zA';have ne:e≠z:=λq=>by subst q;rw[z']at ge;cases ge;simp at ce
  apply N3 z' (by simp);intro h2 _ b2;exact qe (.inl rfl) h2 e s.toks (λc o c1 _ c3 _ x=>b2.extBut _ _ c1 (kp _ _ c3 (bA.extBut _ _ c1 x))) ⟨o,b2.extBut _ _ ne ge,ce⟩
 apply D1.item k _ _ _ l1 sA;intro x hB t1 px sB bB;apply AN;have oB:IsPair hB TO a b:=bB.extBut _ _ Z.Oa oA;have zB:IsZip hB z TI TO .ellipsis:=bB.extBut _ _ Z.az.symm zA';have tB:=mv D2 tA bB.extBut Z.ng;apply Ag;apply N2 oB rfl;apply Ag;apply wpAny_updateSeq_pair oB;intro hC oC bC;have oC':IsPair hC TO x b:=oC;clear oC;have zC:IsZip hC z TI TO .ellipsis:=bC.extBut _ _ Z.Oz.symm zB;have sC:=mv D1 sB bC.extBut Z.of;have tC:=mv D2 tB bC.extBut Z.og;apply Ag;apply wpAny_letGo;apply AN;apply Ag;apply Ag;apply wpAny_onRaise;change wpAny _ _ (Builtin.SmallTypes.nextOf (.ref i2)>>=_) _ _ _;apply Ag;have upC:∀c o,c≠z->c≠TO->c≠i1->s.heap.get? c=some o->hC.get? c=some o:=λc o c1 c2 c3 e=>bC.extBut _ _ c2 (bB.extBut _ _ c3 (bA.extBut _ _ c1 e));rcases Nat.lt_or_eq_of_le le2 with l2|rfl;rotate_left
 .apply D2.done _ _ _ tC;rintro h' e kp ⟨o,ge,ce⟩;have z':IsZip h' z TI TO .ellipsis:=kp _ _ Z.bz.symm zC;have ne:e≠z:=λq=>by subst q;rw[z']at ge;cases ge;simp at ce
  apply N3 z' (by simp);intro h2 _ b2;exact qe (.inr rfl) h2 e t1 (λc o c1 c2 c3 c4 x=>b2.extBut _ _ c1 (kp _ _ c4 (upC c o c1 c2 c3 x))) ⟨o,b2.extBut _ _ ne ge,ce⟩
 apply D2.item k _ _ _ l2 tC;intro y hD t2 py tD bD;apply AN;have oD:IsPair hD TO x b:=bD.extBut _ _ Z.Ob oC';have zD:IsZip hD z TI TO .ellipsis:=bD.extBut _ _ Z.bz.symm zC;have sD:=mv D1 sC bD.extBut Z.nf;apply Ag;apply N2 oD rfl;apply Ag;apply wpAny_updateSeq_pair oD;intro hE oE bE;have oE':IsPair hE TO x y:=oE;clear oE;have zE:IsZip hE z TI TO .ellipsis:=bE.extBut _ _ Z.Oz.symm zD;have sE:=mv D1 sD bE.extBut Z.of;have tE:=mv D2 tD bE.extBut Z.og;have upE:∀c o,c≠z->c≠TO->c≠i1->c≠i2->s.heap.get? c=some o->hE.get? c=some o:=λc o c1 c2 c3 c4 e=>bE.extBut _ _ c2 (bD.extBut _ _ c4 (upC c o c1 c2 c3 e));have sz:hE.objs.size=s.heap.objs.size:=by rw[bE.1,bD.1,bC.1,bB.1,bA.1]
 apply Ag;apply wpAny_letGo;apply AN;apply AN;apply Ag;apply N2 oE' rfl;apply Ag;refine wpAny_newTuple ?_;change wpAny _ _ (Builtin.SmallTypes.ownedTupleHandOut (.ref z) (.ref hE.objs.size)>>=_) _ _ _;apply Ag;unfold Builtin.SmallTypes.ownedTupleHandOut;have zF:IsZip (hE.push {cls:=.type "tuple",data:=.seq #[x,y]}) z TI TO .ellipsis:=B2 _ zE;have pF:IsPair (hE.push {cls:=.type "tuple",data:=.seq #[x,y]}) hE.objs.size x y:=CN _ rfl;apply Ag;apply N3 zF (by simp);intro hG zG bG;have zG':IsZip hG z TI TO (rawInt hE.objs.size):=zG;clear zG;apply N3 zG' (by simp);intro hH zH bH;have zH':IsZip hH z TI TO (rawInt hE.objs.size):=zH;clear zH;have far:hE.objs.size≠z:=Fd (B1 zE);have up:Heap.ExtBut z hE hH:=λc o c1 e=>bH.extBut _ _ c1 (bG.extBut _ _ c1 (B2 _ e));have pH:IsPair hH hE.objs.size x y:=bH.extBut _ _ far (bG.extBut _ _ far pF);apply AN;refine⟨_,rfl,?_⟩;have:=q l1 l2 x y hH t2 px py (by rw[←sz];exact zH') (up _ _ Z.Oz oE') (mv D1 sE up Z.zf) (mv D2 tE up Z.zg) (by rw[←sz];exact pH) λc o c1 c2 c3 c4 e=>up c o c1 (upE c o c1 c2 c3 c4 e);rw[←sz]at this;exact this
theorem P4 {z TI TO i1 i2:Addr}{f g:List Addr}{m n k:Nat}{P R:Nat->Value->Prop}{S T:Nat->Heap->Prop}(Z:ZA z TI TO i1 i2 f g)(D1:Draws prog w A.in1 i1 f m P S)(D2:Draws prog w A.in1 i2 g n R T){a b:Value}{Q:Option Value->Shared->Prop}
  (hz:IsZip s.heap z TI TO .none) (hI:IsPair s.heap TI (.ref i1) (.ref i2)) (hO:IsPair s.heap TO a b) (s1:S k s.heap) (s2:T k s.heap) (le1:k<=m) (le2:k<=n)
  (q:k<m->k<n->∀x y h' tk,P k x->R k y->IsZip h' z TI TO (rawInt s.heap.objs.size)->IsPair h' TO x y->S (k+1) h'->T (k+1) h'->IsPair h' s.heap.objs.size x y->
   (∀c o,c≠z->c≠TO->c≠i1->c≠i2->s.heap.get? c=some o->h'.get? c=some o)->Q (some (.ref s.heap.objs.size)) {s with heap:=h',toks:=tk})
  (qe:(k=m\/k=n)->∀h' tk,(∀c o,c≠z->c≠TO->c≠i1->c≠i2->s.heap.get? c=some o->h'.get? c=some o)->Q none {s with heap:=h',toks:=tk}) :
  wpAny (model prog w) A (pyNext (.ref z)) Q E s:=by
 have ty:s.TypeIs (.ref z) "zip":=⟨_,hz,rfl⟩
 unfold pyNext;apply Ag;apply wpAny_attempt;apply wpAny_callSpecial?_slot (name:=Str.ofString "__next__") ty F.slot_zip_next;refine OZ F.slot_zip_next ty F.entry_zip_next (Wh Z D1 D2 hz hI hO s1 s2 le1 le2 ?_ ?_) (F.args_zip_next_1 _)
 .intro l1 l2 x y h' tk a1 a2 a3 a4 a5 a6 a7 a8;exact AN (q l1 l2 x y h' tk a1 a2 a3 a4 a5 a6 a7 a8)
 .rintro l h' e tk kp ⟨o,ge,ce⟩;exact Ag (wpAny_isInstance (T:="StopIteration") (b:=true) ⟨o,ge,ce⟩ isSubtype_stop (AN (qe l h' tk kp)))
end
def Jd (K:Faa)(a b:Addr):It:=
 ⟨λi H=>∃xs ys x y,A7 K H a xs/\A7 K H b ys/\xs[i]?=some x/\ys[i]?=some y,λi H v H'=>∃x y T,(∀xs,A7 K H a xs->xs[i]?=some x)/\(∀ys,A7 K H b ys->ys[i]?=some y)/\H T=none/\v = .ref T/\H'=upd H T (.tup [x,y]),
  λi H=>∃xs ys,A7 K H a xs/\A7 K H b ys/\i<=xs.length/\i<=ys.length/\(i=xs.length\/i=ys.length)⟩
theorem ai {P:Program}{w:World}{K:Faa}{elts:List Expr}{x1:Nat}{pos:Pos}(a b z TI TO i1 i2:Addr)(D:ZA z TI TO i1 i2 [i1,a] [i2,b])(na:a≠i1)(nb:b≠i2) :
  Hv P w K (.Tuple elts x1 pos) (Jd K a b) [z,TI,TO,i1,i2] z (λi h=>IsZip h z TI TO .none/\IsPair h TI (.ref i1) (.ref i2)/\(∃p q,IsPair h TO p q)/\h.IsTupleIter i1 a i/\h.IsTupleIter i2 b i) where
 mem:=by simp
 obj:=λi h st c hc=>by
  obtain⟨hz,hTI,⟨p,q,hTO⟩,h1,h2⟩:=st;simp only[Bj,Ez,or_false]at hc;rcases hc with rfl|rfl|rfl|rfl|rfl
  .exact⟨_,hz,λv z=>by cases z⟩
  .exact⟨_,hTI,λv z=>by cases z⟩
  .exact⟨_,hTO,λv z=>by cases z⟩
  .obtain⟨o,e,c,d⟩:=h1;exact⟨o,e,λv z=>by rw[d]at z;cases z⟩
  .obtain⟨o,e,c,d⟩:=h2;exact⟨o,e,λv z=>by rw[d]at z;cases z⟩
 keep:=λi h h' st k=>by
  obtain⟨hz,hTI,⟨p,q,hTO⟩,h1,h2⟩:=st;exact⟨k z (by simp) _ hz,k TI (by simp) _ hTI,⟨p,q,k TO (by simp) _ hTO⟩,h1.at λo e=>k i1 (by simp) o e,h2.at λo e=>k i2 (by simp) o e⟩
 item:=by
  intro X hP hw hK hc i pins s σ H E I hf st hg;subst hP hw hK;obtain⟨xs,ys,x,y,hq1,hq2,hx,hy⟩:=hg;obtain⟨its1,rv1,p1,_⟩:=I.tuple hq1;obtain⟨its2,rv2,p2,_⟩:=I.tuple hq2;obtain⟨hz,hTI,⟨pa,qa,hTO⟩,h1,h2⟩:=st;have p1':s.heap.IsTuple a its1.toArray:=p1;have p2':s.heap.IsTuple b its2.toArray:=p2;have l1:=rv1.length;have l2:=rv2.length;obtain⟨b1,_⟩:=Ax.1 hx;obtain⟨b2,_⟩:=Ax.1 hy;have hn:X.A.in1.handled=none:=I.ok.hd hc;have d1:=IJ (prog:=X.prog) (w:=X.w) hn i1 a na its1.toArray;have d2:=IJ (prog:=X.prog) (w:=X.w) hn i2 b nb its2.toArray;refine P4 (k:=i) D d1 d2 hz hTI hTO ⟨h1,p1'⟩ ⟨h2,p2'⟩ (by simp;lia) (by simp;lia) (λ_ _ u v hh tk hu hv hz' hTO' h1' h2' hT hk=>⟨_,rfl,?_⟩) λq=>absurd q (by simp;lia);obtain⟨u',hu',ru⟩:=rv1.get hx;obtain⟨v',hv',rv⟩:=rv2.get hy;have eu:u'=u:=by simpa[hu'] using hu
  have ev:v'=v:=by simpa[hv'] using hv
  subst eu ev;refine wpAny_letOwnedTupleGo_zip hz' λh3 hz3 hs3=>?_;have hTn:H s.heap.objs.size=none:=I.hok.fresh (Al _);have lts:∀c∈[z,TI,TO,i1,i2],c<s.heap.objs.size:=λc hc=>by
   simp only[Bj,Ez,or_false]at hc;rcases hc with rfl|rfl|rfl|rfl|rfl
   .exact B1 hz
   .exact B1 hTI
   .exact B1 hTO
   .obtain⟨_,e,_⟩:=h1;exact B1 e
   .obtain⟨_,e,_⟩:=h2;exact B1 e
  have I1:A3 X pins σ (upd H s.heap.objs.size (.tup [x,y])) {s with heap:=s.heap.push {cls:=.type "tuple",data:=.seq #[u',v']}}:=I.laid (t':=s.toks) (o:=.tup [x,y]) (λb o e=>B2 _ e) (Al _) ⟨Ai rfl,[u',v'],.cons ru (.cons rv .nil),Fb.new _ _⟩;have I2:A3 X pins σ (upd H s.heap.objs.size (.tup [x,y])) {s with heap:=h3,toks:=tk}:=by
   refine A3.turnedL (s:={s with heap:=s.heap.push {cls:=.type "tuple",data:=.seq #[u',v']}}) (h':=h3) (ch:=[z,TI,TO,i1,i2]) (t':=tk) I1 (λb o hb q=>?_) (λb hb=>?_)
   .simp only[Bj,Ez,or_false,not_or]at hb;obtain⟨n1,n2,n3,n4,n5⟩:=hb;show h3.get? b=some o;rw[hs3.2 b n1];rcases T1 q with⟨rfl,rfl⟩|q
    .exact hT
    .exact hk b o n1 n3 n4 n5 q
   .obtain⟨f0,f1,f2,f3,f4,f5⟩:=hf b hb;exact⟨by rw[Ak (BQ (lts b hb))];exact f0,f1,f2,f3,f4,f5⟩
  have k3:∀c,c≠z->∀o,hh.get? c=some o->h3.get? c=some o:=λc hc o e=>(hs3.2 c hc).trans e;refine⟨.ref s.heap.objs.size,_,I2,rfl,⟨x,y,_,λzs hy=>by rw[I.tuple_inj hy hq1];exact hx,λzs hy'=>by rw[I.tuple_inj hy' hq2];exact hy,hTn,rfl,rfl⟩,⟨hz3,k3 TI D.Iz _ (hk TI _ D.Iz D.IO D.Ia D.Ib hTI),⟨u',v',k3 TO D.Oz _ hTO'⟩,h1'.1.at (k3 i1 D.az),h2'.1.at (k3 i2 D.bz)⟩,λb hb=>?_⟩;rw[Ak (BQ (lts b hb))];exact(hf b hb).1
 done:=by
  intro X hP hw hK hc i pins s σ H E I hf st hg;subst hP hw hK;obtain⟨xs,ys,hq1,hq2,b1,b2,hl⟩:=hg;obtain⟨its1,rv1,p1,_⟩:=I.tuple hq1;obtain⟨its2,rv2,p2,_⟩:=I.tuple hq2;obtain⟨hz,hTI,⟨pa,qa,hTO⟩,h1,h2⟩:=st;have p1':s.heap.IsTuple a its1.toArray:=p1;have p2':s.heap.IsTuple b its2.toArray:=p2;have l1:=rv1.length;have l2:=rv2.length;have hn:X.A.in1.handled=none:=I.ok.hd hc;have d1:=IJ (prog:=X.prog) (w:=X.w) hn i1 a na its1.toArray;have d2:=IJ (prog:=X.prog) (w:=X.w) hn i2 b nb its2.toArray;refine P4 (k:=i) D d1 d2 hz hTI hTO ⟨h1,p1'⟩ ⟨h2,p2'⟩ (by simp;lia) (by simp;lia) (λe1 e2=>absurd e2 (by simp at e1 ⊢;lia)) λ_ h' tk hk=>⟨rfl,?_⟩
  refine I.turnedL (ch:=[z,TI,TO,i1,i2]) (t':=tk) (λb o hb q=>?_) hf;simp only[Bj,Ez,or_false,not_or]at hb;obtain⟨n1,n2,n3,n4,n5⟩:=hb;exact hk b o n1 n3 n4 n5 q
 self:=λ_ _ _ _ _ st h=>by
  obtain⟨hz,_⟩:=st;exact wpAny_pyIter_zip hz h
theorem UA (a b:Addr)(xs ys:Array Value) :
  Meets (Builtin.«zip.__new__» ⟨[.type "zip",.ref a,.ref b],[]⟩) (λ_ R s=>s.heap.IsTuple a xs/\s.heap.IsTuple b ys/\
   ∀h',IsZip h' (s.heap.objs.size+4) (s.heap.objs.size+2) (s.heap.objs.size+3) .none->IsPair h' (s.heap.objs.size+2) (.ref s.heap.objs.size) (.ref (s.heap.objs.size+1))->IsPair h' (s.heap.objs.size+3) .none .none->
    h'.IsTupleIter s.heap.objs.size a 0->h'.IsTupleIter (s.heap.objs.size+1) b 0->(∀c o,s.heap.get? c=some o->h'.get? c=some o)->R (.ok (.ret (.ref (s.heap.objs.size+4)))) {s with heap:=h'}):=
 .of_wp λprog w A R s h=>by
  obtain⟨hp,g,d,tk,os⟩:=s;obtain⟨t1,t2,h⟩:=h;have hs:=sub_zip;have u1:Heap.IsTuple (Shared.heap ⟨hp,g,d,tk,os⟩) a xs:=t1;have u2:Heap.IsTuple (Shared.heap ⟨hp.push {cls:=.type "tuple_iterator",data:=.fields #[.ref a,.int 0 0]},g,d,tk,os⟩) b ys:=Heap.IsTuple.push t2 _
  wp_walk using N0 u1,N0 u2
  refine⟨_,rfl,?_⟩;have key:∀(n1 n2 n3 n4:Nat) (h':Heap),n1=hp.objs.size+1->n2=hp.objs.size+2->n3=hp.objs.size+3->n4=hp.objs.size+4->IsZip h' n4 n2 n3 .none->IsPair h' n2 (.ref hp.objs.size) (.ref n1)->IsPair h' n3 .none .none->
    h'.IsTupleIter hp.objs.size a 0->h'.IsTupleIter n1 b 0->(∀c o,hp.get? c=some o->h'.get? c=some o)->R (.ok (.ret (.ref n4))) ⟨h',g,d,tk,os⟩:=by
   rintro _ _ _ _ h' rfl rfl rfl rfl;exact h h'
  refine key (hp.push {cls:=.type "tuple_iterator",data:=.fields #[.ref a,.int 0 0]}).objs.size _ _ _ _ ?e1 ?e2 ?e3 ?e4 (CN _ rfl) ?g5 ?g6 ?g7 ?g8 ?g9
  case g5=>exact B2 _ (B2 _ (CN _ rfl))
  case g6=>exact B2 _ (CN _ rfl)
  case g7=>exact⟨_,B2 _ (B2 _ (B2 _ (B2 _ (CN _ rfl)))),rfl,rfl⟩
  case g8=>exact⟨_,B2 _ (B2 _ (B2 _ (CN _ rfl))),rfl,rfl⟩
  case g9=>exact λc o e=>B2 _ (B2 _ (B2 _ (B2 _ (B2 _ e))))
  all_goals simp only[Jh]
def ZE (K:Faa)(ta:TA):TI:=fun σ H R=>ta σ H λvs H1=>∃a b:Addr,vs=[.ref a,.ref b]/\(∃xs,A7 K H1 a xs)/\(∃ys,A7 K H1 b ys)/\R (Jd K a b) H1
theorem QW {X:Cx}{a b:Expr}{ta:TA}{p pos:Pos}{elts:List Expr}{x1:Nat}{pos2:Pos}(hg:Gl X "zip")(hm:X.mg "zip"=none)(ha:PA X [a,b] ta)(hs:starEach [a,b] X.env=[(false,eval a X.env),(false,eval b X.env)]:=by rfl)(hs2:starEach [b] X.env=[(false,eval b X.env)]:=by rfl) :
  PI X (.Tuple elts x1 pos2) (.Call (.Name "zip" p) [a,b] [] pos) (ZE X.K ta):=by
 intro pins s σ H R I h;refine Call_ (FW I hg hm boot_zip (Jg (Ay (ha pos pins s σ H _ I h) λus s1 zz=>?_) (by rw[hs,hs2]) (by rw[hs2];rfl)));obtain⟨vs,H1,I1,r1,q1⟩:=zz;obtain⟨l1,l2,rfl,⟨xs,hq1⟩,⟨ys,hq2⟩,q⟩:=q1;cases r1 with
 |
  cons r rr=>
  cases rr with
  |
   cons r' rr=>
   cases rr;cases r;cases r';obtain⟨its1,rv1,p1,_⟩:=I1.tuple hq1;obtain⟨its2,rv2,p2,_⟩:=I1.tuple hq2;have lt1:l1<s1.heap.objs.size:=p1.lt;have lt2:l2<s1.heap.objs.size:=p2.lt;refine callType_new F.called_zip (by decide) (F.typeCall_zip_2 _ _) (F.newCall_zip_2 _ _) (λobj=>F.args_object_init_3 obj _ _) F.entry_zip_new (UA l1 l2 its1.toArray its2.toArray) ⟨p1,p2,λh' hz hTI hTO h1 h2 hk=>⟨⟨_,hz,rfl⟩,?_⟩⟩;refine wpAny_pyIter_zip hz ?_;refine⟨_,[s1.heap.objs.size+4,s1.heap.objs.size+2,s1.heap.objs.size+3,s1.heap.objs.size,s1.heap.objs.size+1],_,_,H1,rfl,I1.kept (t':=s1.toks) hk,ai l1 l2 _ _ _ _ _ ⟨?_,?_,?_,?_,?_,?_,?_,?_,?_,?_,?_,?_,?_,?_,?_⟩ ?_ ?_,⟨hz,hTI,⟨_,_,hTO⟩,h1,h2⟩,λb hb=>?_,q⟩
   case refine_18=>
    simp only[Bj,Ez,or_false]at hb;have hb':s1.heap.objs.size<=b:=by
     rcases hb with rfl|rfl|rfl|rfl|rfl
     .exact Fi _ 4
     .exact Fi _ 2
     .exact Fi _ 3
     .exact Al _
     .exact Fi _ 1
    exact I1.fpOk hb' (I1.hok.fresh hb')
   all_goals first
    |exact BQ lt1
    |exact BQ (C9 lt2 (Fi _ _))
    |(show(_:Nat)≠_;lia)
    |(
      simp only[Bj,Ez,or_false,not_or];exact⟨by show(_:Nat)≠_;lia,by first
       |exact Fd lt1
       |exact Fd lt2
       |exact Fd (C9 lt1 (Fi _ _))
       |exact Fd (C9 lt2 (Fi _ _))⟩)
theorem Vc {K:Faa}{a b:Addr}{xs ys:List V}{g:TG}{tb:TS}{D:CL}{σ:St}{H:Hp}(hlen:xs.length=ys.length)(Pv:Nat->St->Hp->Prop)(h0:Pv 0 σ H)(hl:∀i σ H,i<=xs.length->Pv i σ H->A7 K H a xs/\A7 K H b ys)
  (hs:∀i x y T σ H,xs[i]?=some x->ys[i]?=some y->Pv i σ H->H T=none->g (.ref T) σ (upd H T (.tup [x,y])) fun σ2 H2=>tb {D with nx:=Pv (i+1),ct:=Pv (i+1),bk:=D.nx} σ2 H2) (hd:∀σ H,Pv xs.length σ H->D.nx σ H) :
  ∃W:Nat->Nat->St->Hp->Prop,(∃m,W 0 m σ H)/\∀i m σ H,W i m σ H->
   ((Jd K a b).stop i H/\D.nx σ H)\/((Jd K a b).go i H/\∃N:St->Hp->Prop,(∀σ' H',N σ' H'->∃m',m'<m/\W (i+1) m' σ' H')/\∀x H',(Jd K a b).yld i H x H'->g x σ H' fun σ2 H2=>tb {D with nx:=N,ct:=N,bk:=D.nx} σ2 H2):=by
 refine⟨λi m σ H=>m=xs.length-i/\i<=xs.length/\Pv i σ H,⟨xs.length,by simp,Bv _,h0⟩,?_⟩;rintro i m σ H ⟨rfl,hi,p⟩;obtain⟨q1,q2⟩:=hl i σ H hi p;by_cases hlt:i<xs.length
 .refine .inr ⟨⟨xs,ys,xs[i],ys[i],q1,q2,AA hlt,AA (by lia)⟩,Pv (i+1),fun σ' H' p'=>⟨xs.length-(i+1),by lia,rfl,hlt,p'⟩,λv H' yy=>?_⟩;obtain⟨x,y,T,hx,hy,hT,rfl,rfl⟩:=yy;exact hs i x y T σ H (hx xs q1) (hy ys q2) p hT
 .have e:i=xs.length:=by lia
  subst e;exact .inl ⟨⟨xs,ys,q1,q2,Al _,by lia,.inl rfl⟩,hd σ H p⟩
def Jx (K:Faa)(a:Addr):It:=
 ⟨λi H=>∃xs x,A7 K H a xs/\xs[i]?=some x,λi H v H'=>∃x T,(∀xs,A7 K H a xs->xs[i]?=some x)/\H T=none/\v = .ref T/\H'=upd H T (.tup [.int i,x]),λi H=>∃xs,A7 K H a xs/\xs.length=i⟩
theorem ZW {P:Program}{w:World}{K:Faa}{elts:List Expr}{x1:Nat}{pos:Pos}(a e it:Addr)(hei:e≠it)(na:a≠it)(ne:e≠a):Hv P w K (.Tuple elts x1 pos) (Jx K a) [e,it] e (λi h=>(∃old,IsEnum h e it i old)/\h.IsTupleIter it a i) where
 mem:=by simp
 obj:=λi h st b hb=>by
  obtain⟨⟨old,he⟩,hit⟩:=st;rcases Bj.mp hb with rfl|hb
  .exact⟨_,he,λv z=>by cases z⟩
  .have e:b=it:=by simpa using hb
   subst e;obtain⟨o,e,c,d⟩:=hit;exact⟨o,e,λv z=>by rw[d]at z;cases z⟩
 keep:=λi h h' st k=>by
  obtain⟨⟨old,he⟩,hit⟩:=st;exact⟨⟨old,k e (by simp) _ he⟩,hit.at λo e=>k it (by simp) o e⟩
 item:=by
  intro X hP hw hK hc i pins s σ H E I hf st hg;subst hP hw hK;obtain⟨xs,x,hq,hx⟩:=hg;obtain⟨its,rv,p,hz⟩:=I.tuple hq;obtain⟨u,hu,ru⟩:=rv.get hx;obtain⟨⟨old,he⟩,hit⟩:=st;have p':s.heap.IsTuple a its.toArray:=p;have hn:X.A.in1.handled=none:=I.ok.hd hc;have d1:=IJ (prog:=X.prog) (w:=X.w) hn it a na its.toArray;have l1:=rv.length;obtain⟨b1,_⟩:=Ax.1 hx;refine wpAny_pyNext_enum_itemD d1 he ⟨hit,p'⟩ (by simp;lia) hei (by simp[hei,ne]) λu' h1 tk hu' ho hit' hT hsz hk=>⟨_,rfl,?_⟩
  have eu:u=u':=by simpa[hu] using hu'
  subst eu;refine wpAny_letOwnedTupleGo_enum ho λh2 he2 hs2=>?_;have hTn:H s.heap.objs.size=none:=I.hok.fresh (Al _);have helt:e<s.heap.objs.size:=B1 he;have hilt:it<s.heap.objs.size:=by obtain⟨_,x,_⟩:=hit;exact B1 x
  have I1:A3 X pins σ (upd H s.heap.objs.size (.tup [.int i,x])) {s with heap:=s.heap.push {cls:=.type "tuple",data:=.seq #[.int i tk,u]},toks:=tk+1}:=I.laid (t':=tk+1) (o:=.tup [.int i,x]) (λb o e=>B2 _ e) (Al _) ⟨Ai rfl,[.int i tk,u],.cons ⟨_,rfl⟩ (.cons ru .nil),Fb.new _ _⟩;have I2:A3 X pins σ (upd H s.heap.objs.size (.tup [.int i,x])) {s with heap:=h2,toks:=tk+1}:=by
   refine A3.turnedL (s:={s with heap:=s.heap.push {cls:=.type "tuple",data:=.seq #[.int i tk,u]},toks:=tk+1}) (h':=h2) (ch:=[e,it]) (t':=tk+1) I1 (λb o hb q=>?_) (λb hb=>?_)
   .have nbe:b≠e:=λz=>hb (by simp[z]);have nbi:b≠it:=λz=>hb (by simp[z]);show h2.get? b=some o;rw[hs2.2 b nbe];rcases T1 q with⟨rfl,rfl⟩|q
    .exact hT
    .exact hk b o nbe nbi q
   .obtain⟨f0,f1,f2,f3,f4,f5⟩:=hf b hb;have nb:b≠s.heap.objs.size:=by
     rcases Bj.mp hb with rfl|hb
     .exact BQ helt
     .have:b=it:=by simpa using hb
      subst this;exact BQ hilt
    exact⟨by rw[Ak nb];exact f0,f1,f2,f3,f4,f5⟩
  refine⟨.ref s.heap.objs.size,_,I2,rfl,⟨x,_,λys hy=>by rw[I.tuple_inj hy hq];exact hx,hTn,rfl,rfl⟩,⟨⟨_,by simpa using he2⟩,hit'.1.at λo y=>(hs2.2 it hei.symm).trans y⟩,λb hb=>?_⟩;obtain⟨f0,f1,f2,f3,f4,f5⟩:=hf b hb;have nb:b≠s.heap.objs.size:=by
   rcases Bj.mp hb with rfl|hb
   .exact BQ helt
   .have:b=it:=by simpa using hb
    subst this;exact BQ hilt
  rw[Ak nb];exact f0
 done:=by
  intro X hP hw hK hc i pins s σ H E I hf st hg;subst hP hw hK;obtain⟨xs,hq,hx⟩:=hg;obtain⟨its,rv,p,hz⟩:=I.tuple hq;obtain⟨⟨old,he⟩,hit⟩:=st;have p':s.heap.IsTuple a its.toArray:=p;have hn:X.A.in1.handled=none:=I.ok.hd hc;have d1:=IJ (prog:=X.prog) (w:=X.w) hn it a na its.toArray;have hl:=rv.length;have e1:its.toArray.size=i:=by simp;lia
  refine wpAny_pyNext_enum_endD d1 he ⟨by rw[e1];exact hit,p'⟩ λh' eb=>⟨rfl,?_⟩
  exact I.turnedL (ch:=[e,it]) (t':=s.toks) (λb o hb q=>eb b o (λz=>hb (by simp[z])) q) hf
 self:=λ_ _ _ _ _ st h=>by
  obtain⟨⟨old,he⟩,_⟩:=st;exact P0 he h
theorem WC (l:Addr)(items:Array Value)(n:Nat)(dd:Option Addr)(sl:Array (Option Value)) :
  Meets (Builtin.«enumerate.__new__» ⟨[.type "enumerate",.ref l],[]⟩) (λ_ R s=>s.heap.get? l=some {cls:=.type "tuple",dict:=dd,data:=.seq items n,slots:=sl}/\
   ∀h',IsEnum h' (s.heap.objs.size+1) s.heap.objs.size 0 .none->h'.IsTupleIter s.heap.objs.size l 0->(∀c o,s.heap.get? c=some o->h'.get? c=some o)->R (.ok (.ret (.ref (s.heap.objs.size+1)))) {s with heap:=h'}):=
 .of_wp λprog w A R s h=>by
  obtain⟨hp,g,d,tk,os⟩:=s;obtain⟨hl,h⟩:=h;have hsub:=sub_enumerate;have hL:Heap.IsTuple (Shared.heap ⟨hp,g,d,tk,os⟩) l items:=⟨_,hl,rfl,n,rfl⟩
  have key:∀(n1:Nat) (h':Heap),n1=hp.objs.size+1->IsEnum h' n1 hp.objs.size 0 .none->h'.IsTupleIter hp.objs.size l 0->(∀c o,hp.get? c=some o->h'.get? c=some o)->R (.ok (.ret (.ref n1))) ⟨h',g,d,tk,os⟩:=by
   rintro _ h' rfl;exact h h'
  wp_walk using AutoSeq1.wpAny_loadPart' hl
  apply wpAny_stack_any;intro st;apply AN;have fin:R (.ok (.ret (.ref (hp.push {cls:=.type "tuple_iterator",data:=.fields #[.ref l,.int 0 0]}).objs.size))) ⟨(hp.push {cls:=.type "tuple_iterator",data:=.fields #[.ref l,.int 0 0]}).push {cls:=.type "enumerate",data:=.fields #[.none,.bool false,.ref hp.objs.size,rawInt 0,.none,.none]},g,d,tk,os⟩:=
   key _ _ (by simp only[Jh]) (CN _ rfl) ⟨_,B2 _ (CN _ rfl),rfl,rfl⟩ λc o e=>B2 _ (B2 _ e)
  split
  .rename_i c _ _ _ _ _;cases (c==Value.type "enumerate")
   all_goals
    wp_walk using AutoSeq1.wpAny_loadPart' hl,N0 hL
    exact⟨_,rfl,fin⟩
  .wp_walk using AutoSeq1.wpAny_loadPart' hl,N0 hL
   exact⟨_,rfl,fin⟩
def XG (K:Faa)(ta:TA):TI:=fun σ H R=>ta σ H λvs H1=>∃a:Addr,vs=[.ref a]/\(∃xs,A7 K H1 a xs)/\R (Jx K a) H1
theorem RM {X:Cx}{a:Expr}{ta:TA}{p pos:Pos}{elts:List Expr}{x1:Nat}{pos2:Pos}(hg:Gl X "enumerate")(hm:X.mg "enumerate"=none)(ha:PA X [a] ta)(hs:starEach [a] X.env=[(false,eval a X.env)]:=by rfl):PI X (.Tuple elts x1 pos2) (.Call (.Name "enumerate" p) [a] [] pos) (XG X.K ta):=by
 intro pins s σ H R I h;refine Call_ (FW I hg hm boot_enumerate (Jg (Ay (ha pos pins s σ H _ I h) λus s1 zz=>?_) hs rfl));obtain⟨vs,H1,I1,r1,q1⟩:=zz;obtain⟨l,rfl,⟨xs,hq⟩,q⟩:=q1;cases r1 with
 |
  cons r rr=>
  cases rr;cases r;obtain⟨its,rv,pl,hz⟩:=I1.tuple hq;have lt1:l<s1.heap.objs.size:=pl.lt;obtain⟨⟨c,dct,dt,sl⟩,hl,hc,n,hd⟩:=pl;have hc':c = .type "tuple":=hc;have hd':dt = .seq its.toArray n:=hd;subst hc' hd';refine callType_new F.called_enumerate (by decide) (F.typeCall_enumerate_1 _) (F.newCall_enumerate_1 _) (λobj=>F.args_object_init_2 obj _) F.entry_enumerate_new (WC l its.toArray n dct sl) ⟨hl,λh' he hit hk=>⟨⟨_,he,rfl⟩,?_⟩⟩;refine P0 he ?_;refine⟨_,[s1.heap.objs.size+1,s1.heap.objs.size],_,_,H1,rfl,I1.kept (t':=s1.toks) hk,ZW l _ _ (Fd (HV _)) (BQ lt1) (Fd (C9 lt1 (Fi _ _))),⟨⟨_,he⟩,hit⟩,λb hb=>?_,q⟩;rcases Bj.mp hb with rfl|hb
  .exact I1.fpOk (FF _) (I1.hok.fresh (FF _))
  .have e:b=s1.heap.objs.size:=by simpa using hb
   subst e;exact I1.fpOk (Al _) (I1.hok.fresh (Al _))
theorem Q0 {K:Faa}{a:Addr}{xs:List V}{g:TG}{tb:TS}{D:CL}{σ:St}{H:Hp}(Pv:Nat->St->Hp->Prop)(h0:Pv 0 σ H)(hl:∀i σ H,i<=xs.length->Pv i σ H->A7 K H a xs)
  (hs:∀i x T σ H,xs[i]?=some x->Pv i σ H->H T=none->g (.ref T) σ (upd H T (.tup [.int i,x])) fun σ2 H2=>tb {D with nx:=Pv (i+1),ct:=Pv (i+1),bk:=D.nx} σ2 H2) (hd:∀σ H,Pv xs.length σ H->D.nx σ H) :
  ∃W:Nat->Nat->St->Hp->Prop,(∃m,W 0 m σ H)/\∀i m σ H,W i m σ H->
   ((Jx K a).stop i H/\D.nx σ H)\/((Jx K a).go i H/\∃N:St->Hp->Prop,(∀σ' H',N σ' H'->∃m',m'<m/\W (i+1) m' σ' H')/\∀x H',(Jx K a).yld i H x H'->g x σ H' fun σ2 H2=>tb {D with nx:=N,ct:=N,bk:=D.nx} σ2 H2):=by
 refine⟨λi m σ H=>m=xs.length-i/\i<=xs.length/\Pv i σ H,⟨xs.length,by simp,Bv _,h0⟩,?_⟩;rintro i m σ H ⟨rfl,hi,p⟩;have q:=hl i σ H hi p;by_cases hlt:i<xs.length
 .refine .inr ⟨⟨xs,xs[i],q,AA hlt⟩,Pv (i+1),fun σ' H' p'=>⟨xs.length-(i+1),by lia,rfl,hlt,p'⟩,λv H' y=>?_⟩;obtain⟨x,T,hx,hT,rfl,rfl⟩:=y;exact hs i x T σ H (hx xs q) p hT
 .have e:i=xs.length:=by lia
  subst e;exact .inl ⟨⟨xs,q,rfl⟩,hd σ H p⟩
abbrev B0:=Int×Int×Int
def Bu (H:Hp)(ys:List V)(B:List B0):Prop:=ys.length=B.length/\∀(i:Nat) (y:V) (b:B0),ys[i]?=some y->B[i]?=some b->∃t,y = .ref t/\H t=some (.tup [.int b.1,.int b.2.1,.int b.2.2])
theorem Bu.over {H H':Hp}{ys:List V}{B:List B0}(h:Bu H ys B)(e:A8 H H'):Bu H' ys B:=⟨h.1,λi y b p q=>by obtain⟨t,x,z⟩:=h.2 i y b p q;exact⟨t,x,e _ _ z⟩⟩
theorem Bu.nil {H:Hp}:Bu H [] []:=⟨rfl,λi y b p=>by simp at p⟩
theorem Bu.snoc {H:Hp}{ys:List V}{B:List B0}{t:Addr}{b:B0}(h:Bu H ys B)(ht:H t=some (.tup [.int b.1,.int b.2.1,.int b.2.2])):Bu H (ys++[.ref t]) (B++[b]):=by
 refine⟨by rw[Ao,Ao,h.1];rfl,λi y c p q=>?_⟩;by_cases l:i<ys.length
 .rw[CH l]at p;rw[CH (by rw[←h.1];exact l)]at q;exact h.2 i y c p q
 .have hi:i=ys.length:=by
   have:=(Ax.mp p).1;rw[Ao,Bi]at this;lia
  subst hi;rw[Ck (Al _),DZ]at p;rw[h.1,Ck (Al _),DZ]at q;cases p;cases q;exact⟨t,rfl,ht⟩
theorem Bu.get {H:Hp}{ys:List V}{B:List B0}{i:Nat}{b:B0}(h:Bu H ys B)(hb:B[i]?=some b):∃t,ys[i]?=some (.ref t)/\H t=some (.tup [.int b.1,.int b.2.1,.int b.2.2]):=by
 have hi:i<ys.length:=by rw[h.1];exact(Ax.mp hb).1
 obtain⟨t,e,ht⟩:=h.2 i _ b (AA hi) hb;exact⟨t,by rw[AA hi,e],ht⟩
theorem Bu.upd {H:Hp}{ys zs xs:List V}{B:List B0}{l:Addr}(h:Bu H ys B)(hl:H l=some (.lst zs)):Bu (upd H l (.lst xs)) ys B:=⟨h.1,λi y b p q=>by
 obtain⟨t,x,z⟩:=h.2 i y b p q;exact⟨t,x,by rw[Ak (Ft z hl (by intro z;cases z))];exact z⟩⟩
def Dg (H:Hp)(p:Addr)(m:Nat)(z:Nat->Str)(n:Nat->Int):Prop := ∃xs:List V,H p=some (.tup xs)/\xs.length=m/\∀(i:Nat) (x:V),xs[i]?=some x->∃t,x = .ref t/\H t=some (.tup [.str (z i),.int (n i)])
theorem Dg.over {H H':Hp}{p:Addr}{m:Nat}{z:Nat->Str}{n:Nat->Int}(h:Dg H p m z n)(e:A8 H H'):Dg H' p m z n:=by
 obtain⟨xs,h1,h2,h3⟩:=h;exact⟨xs,e _ _ h1,h2,λi x hx=>by obtain⟨t,a,b⟩:=h3 i x hx;exact⟨t,a,e _ _ b⟩⟩
def DO (F G:Nat->B0):Nat->List B0
 |0=>[]
 |n+1=>DO F G n++[F n]++[G n]
theorem F8 (F G:Nat->B0)(n:Nat):(DO F G n).length=2*n:=by
 induction n with
 |zero=>rfl
 |succ n ih=>rw[DO,Ao,Ao,ih];simp only[Bi];lia
def br:Sp:=λvs H Q _=>∃(sp nm ot nm2:Addr) (f s:Int) (m:Nat) (z1 z2:Nat->Str) (n1 n2 u w:Nat->Int) (zs zs2:List Str),vs=[.ref sp,.ref nm,.int f,.ref ot,.ref nm2,.int s]/\m<=100/\Dg H sp m z1 n1/\Dg H ot m z2 n2/\H nm=some (.tup (zs.map V.str))/\H nm2=some (.tup (zs2.map V.str))/\(∀i<m,EK zs (z1 i) f (u i))/\(∀i<m,EK zs2 (z2 i) s (w i))/\∀(r:Addr) (ys:List V) (H':Hp),A8 H H'->H' r=some (.lst ys)->Bu H' ys (DO (λi=>(u i,w i,n2 i-n1 i)) (λi=>(w i,u i,n1 i-n2 i)) m)->Q (.ref r) H'
def ZJ:R2:=λx y H Q=>∃(a b:Addr) (xs ys:List V),x = .ref a/\y = .ref b/\H a=some (.tup xs)/\H b=some (.tup ys)/\xs.length+ys.length<=sizeLine/\∀(p:Addr) (H':Hp),A8 H H'->H' p=some (.tup (xs++ys))->Q (.ref p) H'
theorem Je {X:Cx}:BM X (binaryOp .Add) ZJ:=by
 intro pins s σ H x y v u Q I rx ry h;obtain⟨a,b,xs,ys,rfl,rfl,ha,hb,hz,q⟩:=h;by_cases c:xs=[]
 .subst c;cases rx;cases ry;obtain⟨its,r1,p1,_⟩:=I.tuple (A7.of ha);obtain⟨its2,r2,p2,_⟩:=I.tuple (A7.of hb);obtain⟨⟨cls,dd,data,sl⟩,ho,hc,n,hd⟩:=id p1;obtain⟨⟨cls2,dd2,data2,sl2⟩,ho2,hc2,n2,hd2⟩:=id p2;simp only at hc hd hc2 hd2;subst hc hd hc2 hd2;have e:its=[]:=r1.nil_iff.mpr rfl;exact concat_meets ⟨_,ho,rfl⟩ ⟨_,ho2,rfl⟩ Ti seq_tuple_add SW SX (SY _ _)
   (tuple_addW0 a b its.toArray its2.toArray n n2 dd dd2 sl sl2 (by simp[e])) ⟨ho,ho2,.ref b,H,I,rfl,q b H (A8.refl _) hb⟩
 .refine Yz pins s σ H (.ref a) (.ref b) v u Q I rx ry ⟨a,b,xs,ys,rfl,rfl,A7.of ha,A7.of hb,c,hz,λz=>?_,λz p hp=>?_⟩
  .subst z;exact q a H (A8.refl _) (by rw[CK];exact ha)
  .exact q p _ (A9 hp _) A5
end L2
namespace Fo
set_option genInjectivity true in
inductive F (W:Type) where
 |nil:F W
 |leaf (k:Int) (pl:List (Int×Int)) (rest:F W):F W
 |node (cut:Bool) (way:W) (sub rest:F W):F W
structure Bo (W:Type) where
 k:Int
 sh:Nat
 ways:List (Bool×W)
 pl:List (Int×Int)
variable {W L:Type}
def HeadSh (B:List (Bo W))(d:Nat):Prop := ∀c,B.head?=some c->c.sh=d
def Is:F W->List (Bo W)->Nat->Prop
 |.nil,B,_=>B=[]
 |.leaf k pl rest,B,d=>∃b B',B=b::B'/\b.k=k/\b.pl=pl/\b.ways.length=d/\HeadSh B' d/\Is rest B' d
 |.node cut way sub rest,B,d=>∃b G B',B=(b::G)++B'/\b.ways[d]?=some (cut,way)/\(∀c∈G,d<c.sh)/\HeadSh B' d/\Is sub (b::G) (d+1)/\Is rest B' d
section
variable (hdr:Nat->Bool->W->L)(dl:Nat->Int->List (Int×Int)->L)
def shownF:F W->Nat->List L
 |.nil,_=>[]
 |.leaf k pl rest,d=>dl d k pl::shownF rest d
 |.node c w sub rest,d=>hdr d c w::(shownF sub (d+1)++shownF rest d)
def hdrs:Nat->List (Bool×W)->List L
 |_,[]=>[]
 |e,w::ws=>hdr e w.1 w.2::hdrs (e+1) ws
def lin (b:Bo W)(e:Nat):List L:=hdrs hdr e (b.ways.drop e)++[dl b.ways.length b.k b.pl]
def lins (B:List (Bo W)):List L:=B.flatMap λc=>lin hdr dl c c.sh
def Nv:List (Bo W)->Nat->List L
 |[],_=>[]
 |b::B,d=>lin hdr dl b d++lins hdr dl B
theorem lines_head {B:List (Bo W)}{d:Nat}(h:HeadSh B d):Nv hdr dl B d=lins hdr dl B:=by
 cases B with
 |nil=>rfl
 |
  cons b B=>
  have:=h b rfl;subst this;rfl
theorem shown_lines:∀(f:F W) (B:List (Bo W)) (d:Nat),Is f B d->shownF hdr dl f d=Nv hdr dl B d
 |.nil,B,d,h=>by cases (show B=[] from h);rfl
 |
  .leaf k pl rest,B,d,h=>by
  obtain⟨b,B',rfl,rfl,rfl,hl,hh,hr⟩:=h;have ih:=shown_lines rest B' d hr;rw[lines_head hdr dl hh]at ih;show dl d b.k b.pl::shownF hdr dl rest d=lin hdr dl b d++lins hdr dl B';rw[ih];unfold lin;rw[KE (MH hl),hl];rfl
 |
  .node c w sub rest,B,d,h=>by
  obtain⟨b,G,B',rfl,hw,hG,hh,hs,hr⟩:=h;have i1:=shown_lines sub (b::G) (d+1) hs;have i2:=shown_lines rest B' d hr;rw[lines_head hdr dl hh]at i2;show hdr d c w::(shownF hdr dl sub (d+1)++shownF hdr dl rest d)=lin hdr dl b d++lins hdr dl (G++B');rw[i1,i2];have hd:b.ways.drop d=(c,w)::b.ways.drop (d+1):=by
   obtain⟨hl,e⟩:=Ax.mp hw;rw[Jl hl,e]
  unfold Nv lin lins;rw[hd,Tb];simp[hdrs]
end
structure Ok (B:List (Bo W)):Prop where
 sh:∀b∈B,b.sh<=b.ways.length
 ln:∀(i:Nat) (b c:Bo W),B[i]?=some b->B[i+1]?=some c->c.sh<=b.ways.length/\c.ways.take c.sh=b.ways.take c.sh
structure En where
 k:Int
 pl:List (Int×Int)
 path:List Int
def deedsF:F W->List Int->Nat->List En
 |.nil,_,_=>[]
 |.leaf k pl rest,p,j=>⟨k,pl,p++[(j:Int)]⟩::deedsF rest p (j+1)
 |.node _ _ sub rest,p,j=>deedsF sub (p++[(j:Int)]) 0++deedsF rest p (j+1)
theorem deeds_map:∀(f:F W) (B:List (Bo W)) (d:Nat) (p:List Int) (j:Nat),Is f B d->(deedsF f p j).map (λe=>(e.k,e.pl))=B.map λb=>(b.k,b.pl)
 |.nil,B,d,p,j,h=>by cases (show B=[] from h);rfl
 |
  .leaf k pl rest,B,d,p,j,h=>by
  obtain⟨b,B',rfl,rfl,rfl,hl,hh,hr⟩:=h;show(b.k,b.pl)::_=(b.k,b.pl)::_;rw[deeds_map rest B' d p (j+1) hr]
 |
  .node c w sub rest,B,d,p,j,h=>by
  obtain⟨b,G,B',rfl,hw,hG,hh,hs,hr⟩:=h;show List.map _ (deedsF sub (p++[(j:Int)]) 0++deedsF rest p (j+1))=_;rw[BA,deeds_map sub (b::G) (d+1) _ _ hs,deeds_map rest B' d p (j+1) hr,←BA]
theorem deeds_len {f:F W}{B:List (Bo W)}{d:Nat}(p:List Int)(j:Nat)(h:Is f B d):(deedsF f p j).length=B.length:=by
 have:=congrArg List.length (deeds_map f B d p j h)
 rwa [Af,Af]at this
theorem Jf:∀(f:F W) (p:List Int) (j:Nat) (e:En),e∈deedsF f p j->∃(i:Nat) (q:List Int),j<=i/\e.path=p++(i:Int)::q
 |.nil,p,j,e,h=>by cases h
 |
  .leaf k pl rest,p,j,e,h=>by
  rcases Bj.mp h with rfl|h
  .exact⟨j,[],Al _,rfl⟩
  .obtain⟨i,q,h1,h2⟩:=Jf rest p (j+1) e h;exact⟨i,q,by lia,h2⟩
 |
  .node c w sub rest,p,j,e,h=>by
  rcases Cw.mp h with h|h
  .obtain⟨i,q,h1,h2⟩:=Jf sub (p++[(j:Int)]) 0 e h;exact⟨j,(i:Int)::q,Al _,by rw[h2];simp⟩
  .obtain⟨i,q,h1,h2⟩:=Jf rest p (j+1) e h;exact⟨i,q,by lia,h2⟩
def Sep (x y:List Int)(n:Nat):Prop := ∃(c:List Int) (i j:Int) (q r:List Int),x=c++i::q/\y=c++j::r/\c.length=n/\i<j
def Least (B:List (Bo W))(i1 i2 m:Nat):Prop:=(∃j c,i1<j/\j<=i2/\B[j]?=some c/\c.sh=m)/\∀j c,i1<j->j<=i2->B[j]?=some c->m<=c.sh
theorem RK {x y:En}{p:List Int}{i j:Nat}{q r:List Int}(hx:x.path=p++(i:Int)::q)(hy:y.path=p++(j:Int)::r)(h:i<j):Sep x.path y.path p.length:=⟨p,i,j,q,r,hx,hy,rfl,by lia⟩
theorem deeds_sep:∀(f:F W) (B:List (Bo W)) (d:Nat) (p:List Int) (j i1 i2 m:Nat) (x y:En),Is f B d->(∀i c,B[i+1]?=some c->d<=c.sh)->i1<i2->(deedsF f p j)[i1]?=some x->(deedsF f p j)[i2]?=some y->Least B i1 i2 m->d<=m/\Sep x.path y.path (p.length+(m-d))
 |.nil,B,d,p,j,i1,i2,m,x,y,h,hs,hi,hx,hy,hm=>by simp[deedsF]at hx
 |
  .leaf k pl rest,B,d,p,j,i1,i2,m,x,y,h,hs,hi,hx,hy,hm=>by
  obtain⟨b,B',rfl,rfl,rfl,hl,hh,hr⟩:=h;have hs':∀i c,B'[i+1]?=some c->d<=c.sh:=λi c hc=>hs (i+1) c (by simpa using hc);obtain⟨i2,rfl⟩:∃n,i2=n+1:=⟨i2-1,by lia⟩
  change(⟨b.k,b.pl,p++[(j:Int)]⟩::deedsF rest p (j+1))[i1]?=some x at hx;change(⟨b.k,b.pl,p++[(j:Int)]⟩::deedsF rest p (j+1))[i2+1]?=some y at hy;rw[Gi]at hy;cases i1 with
  |
   zero=>
   rw[List.getElem?_cons_zero]at hx;cases hx;obtain⟨n,r,h1,h2⟩:=Jf rest p (j+1) y (AY hy);have hB:0<B'.length:=by
    have:=deeds_len p (j+1) hr;have:=(Ax.mp hy).1;lia
   have h0:B'[0]?=some B'[0]:=AA hB;have hd:(B'[0]).sh=d:=hh _ (by rw[Tc];exact h0);have m1:m<=d:=by
    have:=hm.2 1 B'[0] (by lia) (by lia) (by simpa using h0);lia
   have m2:d<=m:=by
    obtain⟨⟨j',c,a1,a2,a3,a4⟩,_⟩:=hm;have:=hs (j'-1) c (by rw[show j'-1+1=j' by lia];exact a3);lia
   refine⟨m2,?_⟩;rw[show p.length+(m-d)=p.length by lia];exact RK (x:=⟨b.k,b.pl,p++[(j:Int)]⟩) (y:=y) (q:=[]) rfl h2 (by lia)
  |
   succ i1=>
   rw[Gi]at hx;refine deeds_sep rest B' d p (j+1) i1 i2 m x y hr hs' (by lia) hx hy ?_;obtain⟨⟨j',c,a1,a2,a3,a4⟩,a5⟩:=hm;obtain⟨j',rfl⟩:∃n,j'=n+1:=⟨j'-1,by lia⟩
   refine⟨⟨j',c,by lia,by lia,by simpa using a3,a4⟩,λj'' c' b1 b2 b3=>a5 (j''+1) c' (by lia) (by lia) (by simpa using b3)⟩
 |
  .node c w sub rest,B,d,p,j,i1,i2,m,x,y,h,hs,hi,hx,hy,hm=>by
  obtain⟨b,G,B',rfl,hw,hG,hh,hsub,hr⟩:=h;have l1:=deeds_len (p++[(j:Int)]) 0 hsub;have l2:=deeds_len p (j+1) hr;change(deedsF sub (p++[(j:Int)]) 0++deedsF rest p (j+1))[i1]?=some x at hx;change(deedsF sub (p++[(j:Int)]) 0++deedsF rest p (j+1))[i2]?=some y at hy;have hs':∀i c,B'[i+1]?=some c->d<=c.sh:=λi c hc=>hs ((b::G).length+i) c (by
   rw[Ck (by lia),show(b::G).length+i+1-(b::G).length=i+1 by lia];exact hc)
  by_cases c2:i2<(b::G).length
  .rw[CH (by lia)]at hx hy;have g:Least (b::G) i1 i2 m:=by
    obtain⟨⟨j',c',a1,a2,a3,a4⟩,a5⟩:=hm;rw[CH (by lia)]at a3;exact⟨⟨j',c',a1,a2,a3,a4⟩,λj'' c'' b1 b2 b3=>a5 j'' c'' b1 b2 (by rw[CH (by lia)];exact b3)⟩
   obtain⟨q1,q2⟩:=deeds_sep sub (b::G) (d+1) (p++[(j:Int)]) 0 i1 i2 m x y hsub (λi c hc=>hG c (by
    rw[Gi]at hc;exact AY hc)) hi hx hy g
   refine⟨by lia,?_⟩;rw[Ao,Bi]at q2
   rwa [show p.length+(m-d)=p.length+1+(m-(d+1)) by lia]
  .rw[Ck (by lia)]at hy;by_cases c1:i1<(b::G).length
   .rw[CH (by lia)]at hx;obtain⟨n,r,h1,h2⟩:=Jf rest p (j+1) y (AY hy);obtain⟨n',r',h1',h2'⟩:=Jf sub (p++[(j:Int)]) 0 x (AY hx);have hB:0<B'.length:=by
     have:=(Ax.mp hy).1;lia
    have h0:B'[0]?=some B'[0]:=AA hB;have hd:(B'[0]).sh=d:=hh _ (by rw[Tc];exact h0);have m1:m<=d:=by
     have:=hm.2 (b::G).length B'[0] (by lia) (by lia) (by rw[Ck (by lia),DZ];exact h0);lia
    have m2:d<=m:=by
     obtain⟨⟨j',c',a1,a2,a3,a4⟩,_⟩:=hm;have:=hs (j'-1) c' (by rw[show j'-1+1=j' by lia];exact a3);lia
    refine⟨m2,?_⟩;rw[show p.length+(m-d)=p.length by lia];exact RK (x:=x) (y:=y) (i:=j) (q:=(n':Int)::r') (by rw[h2'];simp) h2 (by lia)
   .rw[Ck (by lia)]at hx;rw[l1]at hx hy;refine deeds_sep rest B' d p (j+1) (i1-(b::G).length) (i2-(b::G).length) m x y hr hs' (by lia) hx hy ?_;obtain⟨⟨j',c',a1,a2,a3,a4⟩,a5⟩:=hm;rw[Ck (by lia)]at a3;refine⟨⟨j'-(b::G).length,c',by lia,by lia,a3,a4⟩,λj'' c'' b1 b2 b3=>a5 (j''+(b::G).length) c'' (by lia) (by lia) ?_⟩;rw[Ck (by lia),show j''+(b::G).length-(b::G).length=j'' by lia];exact b3
set_option genInjectivity true in
inductive Ou (W:Type) where
 |deed (k:Int) (pl:List (Int×Int)):Ou W
 |sweep (cut:Bool) (way:W) (sub:F W):Ou W
def itm:F W->Nat->Option (Ou W)
 |.nil,_=>none
 |.leaf k pl _,0=>some (.deed k pl)
 |.leaf _ _ rest,n+1=>itm rest n
 |.node c w sub _,0=>some (.sweep c w sub)
 |.node _ _ _ rest,n+1=>itm rest n
def Down:F W->List Nat->List (Bool×W)->Prop
 |_,[],_=>False
 |f,r::rs,ws=>(∃k pl,itm f r=some (.deed k pl)/\rs=[]/\ws=[])\/(∃c w sub ws',itm f r=some (.sweep c w sub)/\ws=(c,w)::ws'/\Down sub rs ws')
theorem deeds_down:∀(f:F W) (B:List (Bo W)) (d:Nat) (p:List Int) (j i:Nat) (e:En) (b:Bo W),Is f B d->(∀i c,B[i+1]?=some c->d<=c.sh)->Ok B->(∀b∈B,d<=b.ways.length)->(deedsF f p j)[i]?=some e->B[i]?=some b->
  ∃(r:Nat) (rs:List Nat),e.path=p++((j+r:Nat):Int)::rs.map (λn:Nat=>(n:Int))/\Down f (r::rs) (b.ways.drop d)
 |.nil,B,d,p,j,i,e,b,h,hs,hk,hd,he,hb=>by simp[deedsF]at he
 |
  .leaf k pl rest,B,d,p,j,i,e,b,h,hs,hk,hd,he,hb=>by
  obtain⟨b0,B',rfl,rfl,rfl,hl,hh,hr⟩:=h;change(⟨b0.k,b0.pl,p++[(j:Int)]⟩::deedsF rest p (j+1))[i]?=some e at he;cases i with
  |
   zero=>
   rw[List.getElem?_cons_zero]at he hb;cases he;cases hb;exact⟨0,[],rfl,.inl ⟨_,_,rfl,rfl,KE (MH hl)⟩⟩
  |
   succ i=>
   rw[Gi]at he hb;obtain⟨r,rs,h1,h2⟩:=deeds_down rest B' d p (j+1) i e b hr (λi c hc=>hs (i+1) c (by simpa using hc)) ⟨λb hb=>hk.sh b (CF _ hb),λi b c h1 h2=>hk.ln (i+1) b c (by simpa using h1) (by simpa using h2)⟩ (λb hb=>hd b (CF _ hb)) he hb;exact⟨r+1,rs,by rw[h1,show j+1+r=j+(r+1) by lia],h2⟩
 |
  .node c w sub rest,B,d,p,j,i,e,b,h,hs,hk,hd,he,hb=>by
  obtain⟨b0,G,B',rfl,hw,hG,hh,hsub,hr⟩:=h;have l1:=deeds_len (p++[(j:Int)]) 0 hsub;change(deedsF sub (p++[(j:Int)]) 0++deedsF rest p (j+1))[i]?=some e at he;by_cases ci:i<(b0::G).length
  .rw[CH (by lia)]at he hb;have key:∀(n:Nat) (b:Bo W),(b0::G)[n]?=some b->b.ways[d]?=some (c,w):=by
    intro n;induction n with
    |zero=>intro b hb;cases hb;exact hw
    |
     succ n ih=>
     intro b hb;have hn:n<(b0::G).length:=by have:=(Ax.mp hb).1;lia
     have e1:(b0::G)[n]?=some (b0::G)[n]:=AA hn;have hp:=ih _ e1;have hg:d<b.sh:=hG b (by rw[Gi]at hb;exact AY hb);have:=(hk.ln n _ b (by rw[CH hn];exact e1) (by rw[CH (Ax.mp hb).1];exact hb)).2;have h2:=congrArg (λl:List (Bool×W)=>l[d]?) this;simp only[HW hg]at h2;rw[h2];exact hp
   have hb':=key i b hb;obtain⟨hl,eb⟩:=Ax.mp hb';obtain⟨r,rs,h1,h2⟩:=deeds_down sub (b0::G) (d+1) (p++[(j:Int)]) 0 i e b hsub (λi c hc=>hG c (by rw[Gi]at hc;exact AY hc)) ⟨λb hb=>hk.sh b (DF _ hb),λi b c h1 h2=>hk.ln i b c (by rw[CH (Ax.mp h1).1];exact h1) (by rw[CH (Ax.mp h2).1];exact h2)⟩ (λb hb=>by
    obtain⟨n,hn⟩:=DG.mp hb;obtain⟨z,_⟩:=Ax.mp (key n b hn);lia) he hb
   refine⟨0,r::rs,by rw[h1];simp,.inr ⟨c,w,sub,b.ways.drop (d+1),rfl,?_,h2⟩⟩;rw[Jl hl,eb]
  .rw[Ck (by lia)]at he hb;rw[l1]at he;obtain⟨r,rs,h1,h2⟩:=deeds_down rest B' d p (j+1) (i-(b0::G).length) e b hr (λi c hc=>hs ((b0::G).length+i) c (by
    rw[Ck (by lia),show(b0::G).length+i+1-(b0::G).length=i+1 by lia];exact hc)) ⟨λb hb=>hk.sh b (Dj _ hb),λi b c h1 h2=>hk.ln (i+(b0::G).length) b c (by
     rw[Ck (by lia),Td];exact h1) (by
     rw[Ck (by lia),show i+(b0::G).length+1-(b0::G).length=i+1 by lia];exact h2)⟩ (λb hb=>hd b (Dj _ hb)) he hb
   exact⟨r+1,rs,by rw[h1,show j+1+r=j+(r+1) by lia],h2⟩
end Fo
namespace Fo
variable {W L:Type}
def app:F W->F W->F W
 |.nil,g=>g
 |.leaf k pl r,g=>.leaf k pl (app r g)
 |.node c w s r,g=>.node c w s (app r g)
theorem HeadSh.app {B C:List (Bo W)}{d:Nat}(h:HeadSh B d)(g:HeadSh C d):HeadSh (B++C) d:=by
 cases B with
 |nil=>exact g
 |cons b B=>exact h
theorem Is.app:∀(f g:F W) (B C:List (Bo W)) (d:Nat),Is f B d->Is g C d->HeadSh C d->Is (app f g) (B++C) d
 |.nil,g,B,C,d,hf,hg,hh=>by cases (show B=[] from hf);exact hg
 |
  .leaf k pl r,g,B,C,d,hf,hg,hh=>by
  obtain⟨b,B',rfl,h1,h2,h3,h4,h5⟩:=hf;exact⟨b,B'++C,rfl,h1,h2,h3,h4.app hh,Is.app r g B' C d h5 hg hh⟩
 |
  .node c w s r,g,B,C,d,hf,hg,hh=>by
  obtain⟨b,G,B',rfl,h1,h2,h3,h4,h5⟩:=hf;exact⟨b,G,B'++C,by simp,h1,h2,h3.app hh,h4,Is.app r g B' C d h5 hg hh⟩
theorem Is.leaf1 {b:Bo W}{d:Nat}(h:b.ways.length=d):Is (.leaf b.k b.pl .nil) [b] d:=⟨b,[],rfl,rfl,rfl,h,(λc hc=>by cases hc),rfl⟩
theorem Is.node1 {b:Bo W}{G:List (Bo W)}{d:Nat}{s:F W}{c:Bool}{w:W}(hw:b.ways[d]?=some (c,w))(hG:∀c∈G,d<c.sh)(hs:Is s (b::G) (d+1)):Is (.node c w s .nil) (b::G) d:=⟨b,G,[],by simp,hw,hG,(λc hc=>by cases hc),hs,rfl⟩
end Fo
namespace L2
open PySem PySem.Spec PyProof.Rows
def Am {α:Type}(R:V->α->Prop)(xs:List V)(as:List α):Prop:=xs.length=as.length/\∀(i:Nat) (x:V) (a:α),xs[i]?=some x->as[i]?=some a->R x a
theorem Am.nil {α:Type}{R:V->α->Prop}:Am R [] []:=⟨rfl,λi x a h=>by simp at h⟩
theorem Am.mono {α:Type}{R S:V->α->Prop}{xs:List V}{as:List α}(h:Am R xs as)(m:∀x a,R x a->S x a):Am S xs as:=⟨h.1,λi x a p q=>m _ _ (h.2 i x a p q)⟩
theorem Am.get {α:Type}{R:V->α->Prop}{xs:List V}{as:List α}{i:Nat}{a:α}(h:Am R xs as)(ha:as[i]?=some a):∃x,xs[i]?=some x/\R x a:=by
 have hi:i<xs.length:=by rw[h.1];exact(Ax.mp ha).1
 exact⟨_,AA hi,h.2 i _ a (AA hi) ha⟩
theorem Am.get' {α:Type}{R:V->α->Prop}{xs:List V}{as:List α}{i:Nat}{x:V}(h:Am R xs as)(hx:xs[i]?=some x):∃a,as[i]?=some a/\R x a:=by
 have hi:i<as.length:=by rw[←h.1];exact(Ax.mp hx).1
 exact⟨_,AA hi,h.2 i x _ hx (AA hi)⟩
theorem Am.app {α:Type}{R:V->α->Prop}{xs ys:List V}{as bs:List α}(h:Am R xs as)(g:Am R ys bs):Am R (xs++ys) (as++bs):=by
 refine⟨by rw[Ao,Ao,h.1,g.1],λi x a p q=>?_⟩;by_cases l:i<xs.length
 .rw[CH l]at p;rw[CH (by rw[←h.1];exact l)]at q;exact h.2 i x a p q
 .rw[Ck (by lia)]at p;rw[Ck (by have:=h.1;lia)]at q;rw[h.1]at p;exact g.2 _ x a p q
theorem Am.one {α:Type}{R:V->α->Prop}{x:V}{a:α}(h:R x a):Am R [x] [a]:=⟨rfl,λi y b p q=>by
 cases i with
 |zero=>cases p;cases q;exact h
 |succ i=>simp at p⟩
theorem Am.snoc {α:Type}{R:V->α->Prop}{xs:List V}{as:List α}{x:V}{a:α}(h:Am R xs as)(g:R x a):Am R (xs++[x]) (as++[a]):=h.app (.one g)
theorem Am.cons {α:Type}{R:V->α->Prop}{xs:List V}{as:List α}{x:V}{a:α}(g:R x a)(h:Am R xs as):Am R (x::xs) (a::as):=Am.app (.one g) h
theorem Am.drop {α:Type}{R:V->α->Prop}{xs:List V}{as:List α}(h:Am R xs as)(n:Nat):Am R (xs.drop n) (as.drop n):=⟨by rw[FG,FG,h.1],λi x a p q=>by
 rw[MS]at p q;exact h.2 _ x a p q⟩
theorem Am.take {α:Type}{R:V->α->Prop}{xs:List V}{as:List α}(h:Am R xs as)(n:Nat):Am R (xs.take n) (as.take n):=⟨by rw[BE,BE,h.1],λi x a p q=>by
 by_cases l:i<n
 .rw[HW l]at p q;exact h.2 _ x a p q
 .rw[List.getElem?_take_eq_none (by lia)]at p;cases p⟩
abbrev FM:=Bool×Str
abbrev AX:=Fo.Bo Str
abbrev AH:=Fo.F Str
def LC (H:Hp)(x:V)(w:FM):Prop := ∃t,x = .ref t/\H t=some (.tup [.bl w.1,.str w.2])
def E7 (H:Hp)(x:V)(p:Int×Int):Prop := ∃t,x = .ref t/\H t=some (.tup [.int p.1,.int p.2])
theorem LC.over {H H':Hp}{x:V}{w:FM}(h:LC H x w)(e:A8 H H'):LC H' x w:=by obtain⟨t,a,b⟩:=h;exact⟨t,a,e _ _ b⟩
theorem E7.over {H H':Hp}{x:V}{p:Int×Int}(h:E7 H x p)(e:A8 H H'):E7 H' x p:=by obtain⟨t,a,b⟩:=h;exact⟨t,a,e _ _ b⟩
def Ir (H:Hp)(l:Addr)(ws:List FM):Prop := ∃xs,H l=some (.lst xs)/\Am (LC H) xs ws
def HR (H:Hp)(l:Addr)(ps:List (Int×Int)):Prop := ∃xs,H l=some (.lst xs)/\Am (E7 H) xs ps
def EE (H:Hp)(l:Addr)(ps:List (Int×Int)):Prop := ∃xs,H l=some (.tup xs)/\Am (E7 H) xs ps
theorem Ir.over {H H':Hp}{l:Addr}{ws:List FM}(h:Ir H l ws)(e:A8 H H'):Ir H' l ws:=by obtain⟨xs,a,b⟩:=h;exact⟨xs,e _ _ a,b.mono λx w p=>p.over e⟩
theorem HR.over {H H':Hp}{l:Addr}{ps:List (Int×Int)}(h:HR H l ps)(e:A8 H H'):HR H' l ps:=by obtain⟨xs,a,b⟩:=h;exact⟨xs,e _ _ a,b.mono λx w p=>p.over e⟩
theorem EE.over {H H':Hp}{l:Addr}{ps:List (Int×Int)}(h:EE H l ps)(e:A8 H H'):EE H' l ps:=by obtain⟨xs,a,b⟩:=h;exact⟨xs,e _ _ a,b.mono λx w p=>p.over e⟩
def Bb (H:Hp):List V->AH->Prop
 |xs,.nil=>xs=[]
 |xs,.leaf k pl rest=>∃t p ys,xs = .ref t::ys/\H t=some (.tup [.str "deed",.int k,.ref p])/\EE H p pl/\Bb H ys rest
 |xs,.node c w sub rest=>∃t p zs ys,xs = .ref t::ys/\H t=some (.tup [.str "sweep",.bl c,.str w,.ref p])/\H p=some (.tup zs)/\Bb H zs sub/\Bb H ys rest
theorem Bb.over {H H':Hp}(e:A8 H H'):∀{f:AH} {xs:List V},Bb H xs f->Bb H' xs f
 |.nil,xs,h=>h
 |
  .leaf k pl rest,xs,h=>by
  obtain⟨t,p,ys,a,b,c,d⟩:=h;exact⟨t,p,ys,a,e _ _ b,c.over e,Bb.over e d⟩
 |
  .node c w sub rest,xs,h=>by
  obtain⟨t,p,zs,ys,a,b,c,d,g⟩:=h;exact⟨t,p,zs,ys,a,e _ _ b,e _ _ c,Bb.over e d,Bb.over e g⟩
def DA (H:Hp)(p:Addr)(f:AH):Prop := ∃xs,H p=some (.tup xs)/\Bb H xs f
theorem DA.over {H H':Hp}{p:Addr}{f:AH}(h:DA H p f)(e:A8 H H'):DA H' p f:=by obtain⟨xs,a,b⟩:=h;exact⟨xs,e _ _ a,Bb.over e b⟩
def TK (H H':Hp):Prop := ∀(b:Addr) (xs:List V),H b=some (.tup xs)->H' b=some (.tup xs)
theorem TK.trans {H H' H'':Hp}(a:TK H H')(b:TK H' H''):TK H H'':=λx xs h=>b x xs (a x xs h)
theorem A8.tk {H H':Hp}(e:A8 H H'):TK H H':=λb xs h=>e b _ h
theorem TK.upd {H:Hp}{l:Addr}{xs:List V}{o:HO}(hl:H l=some (.lst xs)):TK H (upd H l o):=λb ys hb=>by
 rw[Ak (Ft hb hl (by intro z;cases z))];exact hb
theorem E7.tk {H H':Hp}{x:V}{w:Int×Int}(h:E7 H x w)(e:TK H H'):E7 H' x w:=by obtain⟨t,a,b⟩:=h;exact⟨t,a,e _ _ b⟩
theorem EE.tk {H H':Hp}{l:Addr}{ps:List (Int×Int)}(h:EE H l ps)(e:TK H H'):EE H' l ps:=by obtain⟨xs,a,b⟩:=h;exact⟨xs,e _ _ a,b.mono λx w p=>p.tk e⟩
theorem Bb.tk {H H':Hp}(e:TK H H'):∀{f:AH} {xs:List V},Bb H xs f->Bb H' xs f
 |.nil,xs,h=>h
 |
  .leaf k pl rest,xs,h=>by
  obtain⟨t,p,ys,a,b,c,d⟩:=h;exact⟨t,p,ys,a,e _ _ b,c.tk e,Bb.tk e d⟩
 |
  .node c w sub rest,xs,h=>by
  obtain⟨t,p,zs,ys,a,b,c,d,g⟩:=h;exact⟨t,p,zs,ys,a,e _ _ b,e _ _ c,Bb.tk e d,Bb.tk e g⟩
theorem Bb.app {H:Hp}:∀{f g:AH} {xs ys:List V},Bb H xs f->Bb H ys g->Bb H (xs++ys) (Fo.app f g)
 |.nil,g,xs,ys,h,k=>by cases (show xs=[] from h);exact k
 |
  .leaf k pl rest,g,xs,ys,h,hg=>by
  obtain⟨t,p,zs,rfl,b,c,d⟩:=h;exact⟨t,p,zs++ys,rfl,b,c,Bb.app d hg⟩
 |
  .node c w sub rest,g,xs,ys,h,hg=>by
  obtain⟨t,p,zs,us,rfl,b,c,d,k⟩:=h;exact⟨t,p,zs,us++ys,rfl,b,c,d,Bb.app k hg⟩
def Hs:List Str:=["up","down","any"]
structure Li (b:AX):Prop where
 len:b.ways.length<=6
 pll:b.pl.length=b.ways.length
 shl:b.sh<=b.ways.length
 wy:∀w∈b.ways,w.2∈Hs
 k0:0<=b.k
 k5:b.k<=5
 pr:∀p∈b.pl,0<=p.1/\p.1<=2/\-200000000000000000<=p.2/\p.2<=200000000000000000
def Yy:Sp:=λvs H Q _=>∃c k:Int,vs=[.int c,.int k]/\∀m:Int,0<=m->Q (.int m) H
structure K0 (B:List AX):Prop where
 ok:Fo.Ok B
 fst:∀b,B.head?=some b->b.sh=0
 all:∀b∈B,Li b
 len:B.length<=6
structure FE (B:List AX)(d n:Nat):Prop where
 ok:Fo.Ok B
 sh:∀i c,B[i+1]?=some c->d<=c.sh
 lo:∀b∈B,d<=b.ways.length
 hi:∀b∈B,b.ways.length<=d+n
 pl:∀b∈B,b.pl.length<=6
 len:B.length<=6
theorem FE.of {B:List AX}(h:K0 B):FE B 0 6:=⟨h.ok,λ_ _ _=>Bv _,λ_ _=>Bv _,λb hb=>by have:=(h.all b hb).len;lia,λb hb=>by have:=h.all b hb;have:=this.pll;have:=(h.all b hb).len;lia,h.len⟩
theorem Yr {B:List AX}(h:Fo.Ok B)(i j:Nat):Fo.Ok ((B.drop i).take j):=by
 refine⟨λb hb=>h.sh b (List.mem_of_mem_drop (OP hb)),λn b c h1 h2=>?_⟩;have l2:=(Ax.mp h2).1;rw[BE]at l2;rw[HW (by lia),MS]at h1 h2;exact h.ln (i+n) b c h1 h2
theorem FE.group {B:List AX}{d n at' m:Nat}{b:AX}(h:FE B d (n+1))(hb:B[at']?=some b)(hd:b.ways.length≠d)(hm:at'<m)(hG:∀i c,at'<i->i<m->B[i]?=some c->d<c.sh):FE ((B.drop at').take (m-at')) (d+1) n:=by
 have mem:∀c∈(B.drop at').take (m-at'),c∈B:=λc hc=>List.mem_of_mem_drop (OP hc);refine⟨Yr h.ok _ _,λi c hc=>?_,λc hc=>?_,λc hc=>by have:=h.hi c (mem c hc);lia,λc hc=>h.pl c (mem c hc),?_⟩
 .have l2:=(Ax.mp hc).1;rw[BE]at l2;rw[HW (by lia),MS]at hc;exact hG (at'+(i+1)) c (by lia) (by lia) hc
 .obtain⟨i,hi⟩:=DG.mp hc;have l2:=(Ax.mp hi).1;rw[BE]at l2;rw[HW (by lia),MS]at hi;by_cases z:i=0
  .subst z;rw[Nat.add_zero,hb]at hi;cases hi;have:=h.lo b (AY hb);lia
  .have:=hG (at'+i) c (by lia) (by lia) hi;have:=h.ok.sh c (mem c hc);lia
 .have:=h.len;rw[BE,FG];lia
def SH (d:Nat):Str:=bZ (List.replicate d 32)
def G9 (d:Nat)(c:Bool)(w:Str):Str:=SH d++(if c=true then("cut ":Str) else"whole ")++w
def Yu (p:Int×Int):Str:=if p.2<0 then Str.ofString (toString p.1)++Str.ofString (toString p.2) else Str.ofString (toString p.1)++"+"++Str.ofString (toString p.2)
def GR (d:Nat)(k:Int)(pl:List (Int×Int)):Str:=SH d++"deed "++Txt.join " " (Str.ofString (toString k)::pl.map Yu)
theorem bU (x y:Str):(x++y).length=x.length+y.length:=by rw[←Ma,Yt,Ao,Ma,Ma]
def Vo (p:Int×Int):Prop:=0<=p.1/\p.1<=2/\-200000000000000000<=p.2/\p.2<=200000000000000000
theorem Xr {w:Str}(h:w∈Hs):w.length<=4:=by
 have:∀w∈Hs,w.length<=4:=by decide +kernel
 exact this w h
def Ko:AH->Prop
 |.nil=>True
 |.leaf k pl rest=>(0<=k/\k<=5/\pl.length<=6/\∀p∈pl,Vo p)/\Ko rest
 |.node _ w sub rest=>w.length<=4/\Ko sub/\Ko rest
def BF:AH->Nat
 |.nil=>1
 |.leaf _ _ rest=>BF rest
 |.node _ _ sub rest=>max (1+BF sub) (BF rest)
theorem IW:∀f:AH,1<=BF f
 |.nil=>Al _
 |.leaf _ _ rest=>IW rest
 |.node _ _ sub rest=>by have:=IW sub;unfold BF;lia
theorem GP:∀(f:AH) (B:List AX) (d n:Nat),Fo.Is f B d->(∀b∈B,b.ways.length<=d+n)->BF f<=n+1
 |.nil,B,d,n,h,hn=>by unfold BF;lia
 |
  .leaf k pl rest,B,d,n,h,hn=>by
  obtain⟨b,B',rfl,_,_,_,_,h5⟩:=h;exact GP rest B' d n h5 λb hb=>hn b (CF _ hb)
 |
  .node c w sub rest,B,d,n,h,hn=>by
  obtain⟨b,G,B',rfl,h1,h2,h3,h4,h5⟩:=h;have:=GP rest B' d n h5 λb hb=>hn b (Dj _ hb);have l:=(Ax.mp h1).1;have l2:=hn b (DF _ Cq);obtain⟨n,rfl⟩:∃m,n=m+1:=⟨n-1,by lia⟩
  have:=GP sub (b::G) (d+1) n h4 λb hb=>by have:=hn b (DF _ hb);lia
  unfold BF;lia
theorem LK:∀(f:AH) (B:List AX) (d:Nat),Fo.Is f B d->(∀b∈B,Li b)->Ko f
 |.nil,B,d,h,hn=>True.intro
 |
  .leaf k pl rest,B,d,h,hn=>by
  obtain⟨b,B',rfl,rfl,rfl,_,_,h5⟩:=h;have g:=hn b Cq;refine⟨⟨g.k0,g.k5,by have:=g.pll;have:=g.len;lia,g.pr⟩,LK rest B' d h5 λb hb=>hn b (CF _ hb)⟩
 |
  .node c w sub rest,B,d,h,hn=>by
  obtain⟨b,G,B',rfl,h1,h2,h3,h4,h5⟩:=h;have g:=hn b (DF _ Cq);exact⟨Xr (g.wy (c,w) (AY h1)),LK sub _ _ h4 λb hb=>hn b (DF _ hb),LK rest _ _ h5 λb hb=>hn b (Dj _ hb)⟩
abbrev Le:=Fo.shownF (W:=Str) G9 GR
theorem TQ (e:Nat)(ws:List FM):(Fo.hdrs (W:=Str) G9 e ws).length=ws.length:=by
 induction ws generalizing e with
 |nil=>rfl
 |cons w ws ih=>show(Fo.hdrs (W:=Str) G9 (e+1) ws).length+1=_;rw[ih];rfl
theorem bP {B:List AX}(h:∀b∈B,Li b):(Fo.lins G9 GR B).length<=7*B.length:=by
 unfold Fo.lins;induction B with
 |nil=>exact Bv _
 |
  cons b B ih=>
  rw[List.flatMap_cons,Ao,BH];have:=ih λc hc=>h c (CF _ hc);have g:=(h b Cq).len;have:(Fo.lin G9 GR b b.sh).length<=7:=by
   unfold Fo.lin;rw[Ao,TQ,FG,Bi];lia
  lia
theorem Yb {f:AH}{B:List AX}(h:Fo.Is f B 0)(g:K0 B):Le f 0=Fo.lins G9 GR B/\(Le f 0).length<=42/\Ko f/\BF f<=7:=by
 have e:Le f 0=Fo.lins G9 GR B:=by rw[Le,Fo.shown_lines G9 GR f B 0 h,Fo.lines_head G9 GR (λc hc=>g.fst c hc)]
 have:=bP g.all;have:=g.len;exact⟨e,by rw[e];lia,LK f B 0 h g.all,GP f B 0 6 h λb hb=>by have:=(g.all b hb).len;lia⟩
def ME (t:TE):Prop := ∀(σ:St) (H:Hp) (Q Q':VK),(∀v H1,Q v H1->Q' v H1)->t σ H Q->t σ H Q'
def MT (t:TT):Prop := ∀σ H Q Q',(∀b H1,Q b H1->Q' b H1)->t σ H Q->t σ H Q'
def MA (t:TA):Prop := ∀σ H Q Q',(∀b H1,Q b H1->Q' b H1)->t σ H Q->t σ H Q'
def MR (r:R2):Prop := ∀(x y:V) (H:Hp) (Q Q':VK),(∀v H1,Q v H1->Q' v H1)->r x y H Q->r x y H Q'
def MB (r:List V->Hp->VK->Prop):Prop := ∀(vs:List V) (H:Hp) (Q Q':VK),(∀v H1,Q v H1->Q' v H1)->r vs H Q->r vs H Q'
theorem ME.var (i:Nat):ME (NM i):=fun σ H Q Q' hq zz=>by obtain⟨v,h,k⟩:=zz;exact⟨v,h,hq _ _ k⟩
theorem ME.c (v:V):ME (tC v):=fun σ H Q Q' hq h=>hq _ _ h
theorem ME.op {r:R2}{a b:TE}(hr:MR r)(ha:ME a)(hb:ME b):ME (Ka r a b):=fun σ H Q Q' hq h=>ha _ _ _ _ (λx H1 k=>hb _ _ _ _ (λy H2 k=>hr _ _ _ _ _ hq k) k) h
theorem ME.cb {r:List V->Hp->VK->Prop}{t:TA}(hr:MB r)(h:MA t):ME (NV r t):=fun σ H Q Q' hq k=>h _ _ _ _ (λxs H1 m=>hr _ _ _ _ hq m) k
theorem MA.nil:MA Hb:=fun σ H Q Q' hq h=>hq _ _ h
theorem MA.cons {t:TE}{u:TA}(ht:ME t)(hu:MA u):MA (L6 t u):=fun σ H Q Q' hq h=>ht _ _ _ _ (λx H1 k=>hu _ _ _ _ (λxs H2 m=>hq _ _ m) k) h
theorem MT.test {t:TE}(h:ME t):MT (Sn t):=fun σ H Q Q' hq k=>h _ _ _ _ (λx H1 ⟨b,e,m⟩=>⟨b,e,hq _ _ m⟩) k
theorem MT.and {t u:TT}(h:MT t)(g:MT u):MT (S3 t u):=fun σ H Q Q' hq k=>h _ _ _ _ (λc H1 m=>by
 cases c with
 |true=>exact g _ _ _ _ hq m
 |false=>exact hq _ _ m) k
theorem MR.i0 (g:Int->Int->V):MR (G1 g):=λx y H Q Q' hq zz=>by obtain⟨i,j,a,b,d⟩:=zz;exact⟨i,j,a,b,hq _ _ d⟩
theorem MR.eqX (K:Faa)(n:Bool):MR (FP K n):=λx y H Q Q' hq zz=>by obtain⟨t,u,a,b,c,d,e,f,g⟩:=zz;exact⟨t,u,a,b,c,d,e,f,hq _ _ g⟩
theorem MR.ixL (K:Faa):MR (Kl K):=λx y H Q Q' hq zz=>by obtain⟨p,xs,i,v,a,b,c,d,e⟩:=zz;exact⟨p,xs,i,v,a,b,c,d,hq _ _ e⟩
theorem MR.ixT (K:Faa):MR (FB K):=λx y H Q Q' hq zz=>by obtain⟨p,xs,i,v,a,b,c,d,e⟩:=zz;exact⟨p,xs,i,v,a,b,c,d,hq _ _ e⟩
theorem MB.len {P R:Hp->Addr->List V->Prop}:MB (λxs H Q=>∃p ys,xs=[V.ref p]/\(P H p ys\/R H p ys)/\Q (V.int (ys.length:Int)) H):=λvs H Q Q' hq zz=>by obtain⟨p,ys,a,b,c⟩:=zz;exact⟨p,ys,a,b,hq _ _ c⟩
theorem Jy {K:Faa}{H:Hp}:∀L:List Int,Cp K H (L.map V.int) (L.map λi=>Tr.v (.int i))
 |[]=>.nil
 |x::L=>.cons (.flat rfl) (Jy L)
theorem O0:∀L:List Int,CU (L.map λi=>Tr.v (.int i))=0
 |[]=>rfl
 |x::L=>by rw[Cr,CU,O0 L];rfl
theorem Uy:∀{f:AH} {d:Nat},Fo.Is f [] d->f = .nil
 |.nil,d,h=>rfl
 |.leaf k pl r,d,h=>by obtain⟨b,B',e,_⟩:=h;cases e
 |.node c w s r,d,h=>by obtain⟨b,G,B',e,_⟩:=h;simp at e
theorem QI {f g:AH}{B C:List AX}{d:Nat}(hf:Fo.Is f B d)(hg:Fo.Is g C d)(hh:B≠[]->Fo.HeadSh C d):Fo.Is (Fo.app f g) (B++C) d:=by
 by_cases c:B=[]
 .subst c;rw[Uy hf];exact hg
 .exact Fo.Is.app f g B C d hf hg (hh c)
theorem Y4 {α:Type}(B:List α){i m:Nat}(h:i<=m):B.take i++(B.drop i).take (m-i)=B.take m:=by
 have:B.take i=(B.take m).take i:=by rw[MU,Dv h]
 rw[←List.drop_take,this,List.take_append_drop]
theorem O1 {v:V}{i:Nat}{b:TS}{D:CL}{σ:St}{H:Hp}(h:b D (σ.set i (some v)) H):G8 (JF (tC v) (Ar i)) b D σ H:=h
theorem NB:∀{rs:List Nat} {f:AH} {ws:List FM},Fo.Down f rs ws->rs.length=ws.length+1
 |[],f,ws,h=>h.elim
 |
  r::rs,f,ws,h=>by
  rcases h with⟨k,pl,_,rfl,rfl⟩|⟨c,w,sub,ws',_,rfl,h⟩
  .rfl
  .rw[BH,BH,NB h]
theorem Nr {H:Hp}:∀{f:AH} {r:Nat} {xs:List V} {c:Bool} {w:Str} {sub:AH},Bb H xs f->Fo.itm f r=some (.sweep c w sub)->∃t p zs,xs[r]?=some (.ref t)/\H t=some (.tup [.str "sweep",.bl c,.str w,.ref p])/\H p=some (.tup zs)/\Bb H zs sub
 |.nil,r,xs,c,w,sub,h,e=>by cases e
 |.leaf k pl rest,0,xs,c,w,sub,h,e=>by cases e
 |
  .leaf k pl rest,r+1,xs,c,w,sub,h,e=>by
  obtain⟨t,p,ys,rfl,_,_,hr⟩:=h;obtain⟨t',p',zs,a,b⟩:=Nr (r:=r) hr e;exact⟨t',p',zs,by simpa using a,b⟩
 |
  .node c' w' s rest,0,xs,c,w,sub,h,e=>by
  obtain⟨t,p,zs,ys,rfl,a,b,d,_⟩:=h;cases e;exact⟨t,p,zs,rfl,a,b,d⟩
 |
  .node c' w' s rest,r+1,xs,c,w,sub,h,e=>by
  obtain⟨t,p,zs,ys,rfl,_,_,_,hr⟩:=h;obtain⟨t',p',zs',a,b⟩:=Nr (r:=r) hr e;exact⟨t',p',zs',by simpa using a,b⟩
def Gn (H:Hp)(x:V)(e:Fo.En):Prop := ∃t pl pt cu,x = .ref t/\H t=some (.tup [.int e.k,.ref pl,.ref pt,.ref cu])/\EE H pl e.pl/\H pt=some (.tup (e.path.map V.int))
theorem Gn.tk {H H':Hp}{x:V}{e:Fo.En}(h:Gn H x e)(k:TK H H'):Gn H' x e:=by obtain⟨t,pl,pt,cu,a,b,c,d⟩:=h;exact⟨t,pl,pt,cu,a,k _ _ b,c.tk k,k _ _ d⟩
theorem Gn.over {H H':Hp}{x:V}{e:Fo.En}(h:Gn H x e)(k:A8 H H'):Gn H' x e:=h.tk (A8.tk k)
def Pc (n:Nat):Sp:=λvs H Q _=>∃(it pa cu:Addr) (f:AH) (P:List Int) (cs:List V),vs=[.ref it,.ref pa,.ref cu]/\DA H it f/\H pa=some (.tup (P.map V.int))/\H cu=some (.tup cs)/\BF f<=n/\P.length+n<=100/\cs.length+n<=100/\(Fo.deedsF f P 0).length<=1000/\∀(r:Addr) (ys:List V) (H':Hp),A8 H H'->H' r=some (.lst ys)->Am (Gn H') ys (Fo.deedsF f P 0)->Q (.ref r) H'
def Ze:Sp:=λvs H Q _=>∃(p:Addr) (k:Int) (f:AH) (i:Nat) (e:Fo.En),vs=[.ref p,.int k]/\DA H p f/\BF f<=7/\(Fo.deedsF f [] 0).length<=1000/\(Fo.deedsF f [] 0)[i]?=some e/\e.k=k/\(∀j e',j<i->(Fo.deedsF f [] 0)[j]?=some e'->e'.k≠k)/\∀(r pt pl:Addr) (H':Hp),A8 H H'->H' r=some (.tup [.ref pt,.ref pl])->H' pt=some (.tup (e.path.map V.int))->EE H' pl e.pl->Q (.ref r) H'
structure Rb where
 way:FM
 p:Int×Int
 q:Int×Int
def Kk (H:Hp)(x:V)(r:Rb):Prop := ∃t pt a b,x = .ref t/\H t=some (.tup [.ref pt,.bl r.way.1,.str r.way.2,.ref a,.ref b])/\H a=some (.tup [.int r.p.1,.int r.p.2])/\H b=some (.tup [.int r.q.1,.int r.q.2])
theorem Kk.tk {H H':Hp}{x:V}{r:Rb}(h:Kk H x r)(k:TK H H'):Kk H' x r:=by obtain⟨t,pt,a,b,c,d,e,f⟩:=h;exact⟨t,pt,a,b,c,k _ _ d,k _ _ e,k _ _ f⟩
def Hk (B:List AX)(i j s:Nat):Prop:=(i=j/\∃b,B[i]?=some b/\s=b.ways.length)\/(i<j/\Fo.Least B i j s)\/(j<i/\Fo.Least B j i s)
def DC (b c:AX)(s:Nat):List Rb:=(List.range s).map λe=>⟨b.ways.getD e (false,""),b.pl.getD e (0,0),c.pl.getD e (0,0)⟩
def GQ (H:Hp)(p:Addr)(B:List AX):Prop := ∃f,DA H p f/\Fo.Is f B 0/\K0 B/\(B.map (·.k)).Nodup
theorem GQ.over {H H':Hp}{p:Addr}{B:List AX}(h:GQ H p B)(e:A8 H H'):GQ H' p B:=by obtain⟨f,a,b⟩:=h;exact⟨f,a.over e,b⟩
def bQ:Sp:=λvs H Q _=>∃(p:Addr) (B:List AX) (i j s:Nat) (b c:AX),vs=[.ref p,.int b.k,.int c.k]/\GQ H p B/\B[i]?=some b/\B[j]?=some c/\Hk B i j s/\∀(r:Addr) (ys:List V) (H':Hp),A8 H H'->H r=none->H' r=some (.lst ys)->Am (Kk H') ys (DC b c s)->s<=b.ways.length/\s<=c.ways.length->Q (.ref r) H'
theorem JG {f:AH}{B:List AX}{i:Nat}{b:AX}(h:Fo.Is f B 0)(hb:B[i]?=some b):∃e,(Fo.deedsF f [] 0)[i]?=some e/\e.k=b.k/\e.pl=b.pl:=by
 have l:=Fo.deeds_len [] 0 h;have hi:i<(Fo.deedsF f [] 0).length:=by rw[l];exact(Ax.mp hb).1
 have m:=congrArg (λl:List (Int×List (Int×Int))=>l[i]?) (Fo.deeds_map f B 0 [] 0 h);simp only[Bf,AA hi,hb,Option.map_some]at m;have m:=CV m;exact⟨_,AA hi,congrArg Prod.fst m,congrArg Prod.snd m⟩
theorem Lx {f:AH}{B:List AX}{i:Nat}{b:AX}(h:Fo.Is f B 0)(nd:(B.map (·.k)).Nodup)(hb:B[i]?=some b)(j:Nat)(e':Fo.En)(hj:j<i)(he:(Fo.deedsF f [] 0)[j]?=some e'):e'.k≠b.k:=λz=>by
 have l:=Fo.deeds_len [] 0 h;have hjl:j<B.length:=by have:=(Ax.mp he).1;lia
 obtain⟨e'',g1,g2,_⟩:=JG h (AA hjl);rw[he]at g1;cases g1;obtain⟨l1,a1⟩:=Ax.mp hb;exact MV.mp nd j i (by rw[Af];exact hjl) (by rw[Af];exact l1) hj (by rw[List.getElem_map,List.getElem_map,a1,←z,g2])
theorem TC {f:AH}{B:List AX}{i j s:Nat}{b c:AX}{x y:Fo.En}(h:Fo.Is f B 0)(g:K0 B)(hb:B[i]?=some b)(hc:B[j]?=some c)(hx:(Fo.deedsF f [] 0)[i]?=some x)(hy:(Fo.deedsF f [] 0)[j]?=some y)(hm:Hk B i j s) :
  s<=b.ways.length/\s<=c.ways.length/\(∀e<s,x.path.getD e 0=y.path.getD e 0)/\(s<b.ways.length->s<c.ways.length->x.path.getD s 0≠y.path.getD s 0)/\x.path.length=b.ways.length+1/\y.path.length=c.ways.length+1:=by
 have zero:∀i c,B[i+1]?=some c->0<=c.sh:=λ_ _ _=>Bv _;obtain⟨r1,rs1,e1,d1⟩:=Fo.deeds_down f B 0 [] 0 i x b h zero g.ok (λ_ _=>Bv _) hx hb;obtain⟨r2,rs2,e2,d2⟩:=Fo.deeds_down f B 0 [] 0 j y c h zero g.ok (λ_ _=>Bv _) hy hc;have l1:=NB d1;have l2:=NB d2;rw[OM]at l1 l2;have x1:x.path.length=b.ways.length+1:=by rw[e1,ML,BH,Af,←l1];rfl
 have y1:y.path.length=c.ways.length+1:=by rw[e2,ML,BH,Af,←l2];rfl
 have sep:∀{u v:List Int} {n:Nat},Fo.Sep u v n->n<u.length/\n<v.length/\(∀e<n,u.getD e 0=v.getD e 0)/\u.getD n 0≠v.getD n 0:=fun{u v n} hs=>by
  obtain⟨cc,a,b,q,r,rfl,rfl,rfl,hab⟩:=hs;refine⟨by simp,by simp,λe he=>?_,?_⟩
  .rw[Bk,Bk,CH he,CH he]
  .rw[Bk,Bk,Ck (Al _),Ck (Al _),DZ];show a≠b;lia
 rcases hm with⟨rfl,b',hb',rfl⟩|⟨hij,hl⟩|⟨hij,hl⟩
 .rw[hb]at hb' hc;cases hb';cases hc;rw[hx]at hy;cases hy;exact⟨Al _,Al _,λ_ _=>rfl,λz=>by lia,x1,y1⟩
 .obtain⟨_,hs⟩:=Fo.deeds_sep f B 0 [] 0 i j s x y h zero hij hx hy hl;obtain⟨a1,a2,a3,a4⟩:=sep hs;simp only[MJ,Fh,MN]at a1 a2 a3 a4;exact⟨by lia,by lia,a3,λ_ _=>a4,x1,y1⟩
 .obtain⟨_,hs⟩:=Fo.deeds_sep f B 0 [] 0 j i s y x h zero hij hy hx hl;obtain⟨a1,a2,a3,a4⟩:=sep hs;simp only[MJ,Fh,MN]at a1 a2 a3 a4;exact⟨by lia,by lia,λe he=>(a3 e he).symm,λ_ _ z=>a4 z.symm,x1,y1⟩
def W4 (C:Addr)(H:Hp)(v:V)(n:Int):Prop := ∃(d dx nm:Addr) (xs:List V) (v2 v3 v4 v5 v6 v7:V),v = .ref d/\H d=some (.ins C dx [("names",.ref nm),("lows",v2),("highs",v3),("table",v4),("spots",v5),("term",v6),("path",v7)])/\H nm=some (.tup xs)/\(xs.length:Int)=n
def SC (CP CD:Addr)(H:Hp)(pr:Addr)(D:List Int):Prop := ∃(dx dl:Addr) (v1:V) (xs:List V),H pr=some (.ins CP dx [("size",v1),("deeds",.ref dl)])/\H dl=some (.lst xs)/\Am (W4 CD H) xs D
def Do (beh:Int)(level:Nat)(side:Str)(e:Nat)(r:Rb):List B0:=
 (if e<level/\r.way.1=false then[(1+r.p.1,beh+r.q.1,r.q.2-r.p.2),(beh+r.q.1,1+r.p.1,-(r.q.2-r.p.2))] else[])++(if e=level/\side="more" then[(beh+r.q.1,1+r.p.1,-(r.q.2-r.p.2)-1)] else[])++(if e=level/\side="less" then[(1+r.p.1,beh+r.q.1,r.q.2-r.p.2-1)] else[])
def Da (beh:Int)(level:Nat)(side:Str):Nat->List Rb->List B0
 |_,[]=>[]
 |e,r::R=>Do beh level side e r++Da beh level side (e+1) R
theorem KI (beh:Int)(level:Nat)(side:Str):∀(R:List Rb) (e:Nat) (r:Rb),Da beh level side e (R++[r])=Da beh level side e R++Do beh level side (e+R.length) r
 |[],e,r=>by simp[Da]
 |
  x::R,e,r=>by
  show Do beh level side e x++Da beh level side (e+1) (R++[r])=Do beh level side e x++Da beh level side (e+1) R++Do beh level side (e+(R.length+1)) r;rw[KI beh level side R (e+1) r,CW,show e+1+R.length=e+(R.length+1) by lia]
theorem YD (beh:Int)(level:Nat)(side:Str)(e:Nat)(r:Rb):(Do beh level side e r).length<=4:=by
 unfold Do;rw[Ao,Ao];split<;>split<;>split<;>simp
theorem PK (beh:Int)(level:Nat)(side:Str):∀(R:List Rb) (e:Nat),(Da beh level side e R).length<=4*R.length
 |[],e=>Bv _
 |
  x::R,e=>by
  show(Do beh level side e x++Da beh level side (e+1) R).length<=_;rw[Ao,BH];have:=YD beh level side e x;have:=PK beh level side R (e+1);lia
theorem IL (b c:AX)(s:Nat):(DC b c s).length=s:=by unfold DC;rw[Af,CI]
theorem Yn (b c:AX)(s:Nat):DC b c (s+1)=DC b c s++[⟨b.ways.getD s (false,""),b.pl.getD s (0,0),c.pl.getD s (0,0)⟩]:=by unfold DC;rw[Ic,BA];rfl
def VF (CP CD:Addr):Sp:=λvs H Q _=>∃(pr p:Addr) (B:List AX) (D:List Int) (i j s level:Nat) (side:Str) (b c:AX),vs=[.ref pr,.ref p,.int b.k,.int c.k,.int (level:Int),.str side]/\SC CP CD H pr D/\GQ H p B/\B[i]?=some b/\B[j]?=some c/\Hk B i j s/\b.k.toNat<D.length/\∀(r:Addr) (ys:List V) (H':Hp),A8 H H'->H' r=some (.lst ys)->Bu H' ys (Da (1+D.getD b.k.toNat 0) level side 0 (DC b c s))->Q (.ref r) H'
theorem ba {B:List AX}{i j:Nat}(hi:i<B.length)(hj:j<B.length):∃s,Hk B i j s:=by
 have low:∀(i j:Nat),i<j->j<B.length->∃s,Fo.Least B i j s:=λi j hij hj=>by
  have:∀n,i<n->n<=j->∃s,Fo.Least B i n s:=by
   intro n;induction n with
   |zero=>intro h;lia
   |
    succ n ih=>
    intro h1 h2;have Bn:B[n+1]?=some B[n+1]:=AA (by lia);by_cases c:i<n
    .obtain⟨s,⟨k,b,k1,k2,k3,k4⟩,k5⟩:=ih c (by lia);by_cases d:(B[n+1]).sh<s
     .refine⟨(B[n+1]).sh,⟨n+1,_,h1,Al _,Bn,rfl⟩,λm c' m1 m2 m3=>?_⟩;by_cases z:m=n+1
      .subst z;rw[Bn]at m3;cases m3;exact Al _
      .have:=k5 m c' m1 (by lia) m3;lia
     .refine⟨s,⟨k,b,k1,by lia,k3,k4⟩,λm c' m1 m2 m3=>?_⟩;by_cases z:m=n+1
      .subst z;rw[Bn]at m3;cases m3;lia
      .exact k5 m c' m1 (by lia) m3
    .have:i=n:=by lia
     subst this;refine⟨(B[i+1]).sh,⟨i+1,_,h1,Al _,Bn,rfl⟩,λm c' m1 m2 m3=>?_⟩;have:m=i+1:=by lia
     subst this;rw[Bn]at m3;cases m3;exact Al _
  exact this j hij (Al _)
 rcases OQ i j with c|c|c
 .obtain⟨s,h⟩:=low i j c hj;exact⟨s,.inr (.inl ⟨c,h⟩)⟩
 .exact⟨_,.inl ⟨c,_,AA hi,rfl⟩⟩
 .obtain⟨s,h⟩:=low j i c hi;exact⟨s,.inr (.inr ⟨c,h⟩)⟩
abbrev Sd:=Nat×Str
def Hy (H:Hp)(x:V)(q:Sd):Prop := ∃t,x = .ref t/\H t=some (.tup [.int (q.1:Int),.str q.2])
theorem Hy.tk {H H':Hp}{x:V}{q:Sd}(h:Hy H x q)(k:TK H H'):Hy H' x q:=by obtain⟨t,a,b⟩:=h;exact⟨t,a,k _ _ b⟩
def Gm (w:Str)(e:Nat):List Sd:=(if w≠"up" then[((e,("less":Str)):Sd)] else[])++(if w≠"down" then[((e,("more":Str)):Sd)] else[])
def FD (b:AX):Nat->List Sd
 |0=>[]
 |e+1=>FD b e++Gm (b.ways.getD e (false,"")).2 e
def EN (b:AX)(i j s:Nat):List Sd:=FD b s++(if j<i then[((s,("text":Str)):Sd)] else[])
theorem JR (b:AX):∀e:Nat,(FD b e).length<=2*e
 |0=>Al _
 |
  e+1=>by
  show(FD b e++Gm _ e).length<=_;rw[Ao];have:=JR b e;have:(Gm (b.ways.getD e (false,"")).2 e).length<=2:=by
   unfold Gm;rw[Ao];split<;>split<;>simp
  lia
end L2
namespace HT
open PySem PySem.Spec PyProof.Rows L2
section
variable {prog:Program}{w:World}{A:Around}{E:Value->Shared->Prop}{s:Shared}
theorem getItem_tuple_all {t sl:Addr}{items:Array Value}{vl vu:Value}{lo hi:Option Int}{Q:Value->Shared->Prop}(ht:IsTup s.heap t items)(hs:s.heap.IsSliceOf sl vl vu .none)(pl:IsPart vl lo)(pu:IsPart vu hi)
  (hw:sIx items.size 0 lo=0/\sIx items.size items.size hi=items.size) (h:Q (.ref t) s):wpAny (model prog w) A (getItem (.ref t) (.ref sl)) Q E s:=by
 obtain⟨os,hos,hcs,hds⟩:=id hs;have hTs:s.TypeIs (.ref sl) "slice":=⟨os,hos,hcs⟩
 unfold getItem
 try with_reducible refine GN ?_
 first|refine Ag (AN ?_)|skip
 refine Ag (wpAny_sequenceKey ht.typeIs (by decide) ?_);refine Ag (wpAny_callSpecial?_slot (name:=Str.ofString "__getitem__") ht.typeIs OG
  (OZ OG ht.typeIs entry_tuple_getitem ?_ (args_tuple_getitem _ _)))
 show wpAny _ _ (Builtin.Tuple.tupleItemsOf (.ref t)>>=_) _ _ s;refine Ag (tupleItemsOf_ ht ?_);refine Ag (wpAny_typeOf hTs ?_);rw[Av (by decide)];refine Ag (PB hs pl pu ?_);have hyes:(((sIx items.size 0 lo:Nat):Int)==0&&(1:Int)==1&&(sIx items.size items.size hi-sIx items.size 0 lo)==items.size)=true:=by
  rw[hw.1,hw.2];simp
 show wpAny _ _ (if(((sIx items.size 0 lo:Nat):Int)==0&&(1:Int)==1&&(sIx items.size items.size hi-sIx items.size 0 lo)==items.size)=true then _ else _) _ _ s;rw[Av hyes];show wpAny _ _ (Builtin.Tuple.tupleIsExact (.ref t)>>=_) _ _ s;unfold Builtin.Tuple.tupleIsExact;refine Ag (Ag (wpAny_typeOf ht.typeIs (AN ?_)));rw[Av (by decide)]
 wp_walk
 first
  |exact⟨_,rfl,AN h⟩
  |exact AN ⟨_,rfl,AN h⟩
end
end HT
namespace L2
open PySem PySem.Spec PyProof.Rows
def Qk:V->Option Int->Option Int->Hp->VK->Prop:=λx lo hi H Q=>∃(a:Addr) (xs:List V),x = .ref a/\H a=some (.tup xs)/\∀(p:Addr) (H':Hp),A8 H H'->H' p=some (.tup (BU xs lo hi))->Q (.ref p) H'
theorem K4 {X:Cx}:M3 X Qk:=by
 intro pins s σ H x v vl vu lo hi sl Q I rx hs pl pu h;obtain⟨a,xs,rfl,ha,q⟩:=h;by_cases c:HT.sIx xs.length 0 lo=0/\HT.sIx xs.length xs.length hi=xs.length
 .cases rx;obtain⟨its,r,ht,hz⟩:=I.tuple (A7.of ha);have hlen:its.toArray.size=xs.length:=by rw[Bh];exact r.length.symm
  refine⟨"tuple",_,PyProof.Rows.slot_tuple_getitem.lookup,ht.typeIs,?_⟩;refine HT.getItem_tuple_all ht hs pl pu (by rw[hlen];exact c) ⟨.ref a,H,I,rfl,q a H (A8.refl _) ?_⟩;have:BU xs lo hi=xs:=by
   unfold BU;rw[c.1,c.2];simp
  rw[this];exact ha
 .exact UV pins s σ H (.ref a) v vl vu lo hi sl Q I rx hs pl pu ⟨a,xs,rfl,A7.of ha,c,λp hp=>q p _ (A9 hp _) A5⟩
theorem KR {H:Hp}{bo r:Addr}{zs:List V}{L:List B0}{x y z:Int}(hb:H bo=some (.lst zs))(ht:Bu H zs L)(hr:H r=none) :
  (upd (upd H r (.tup [.int x,.int y,.int z])) bo (.lst (zs++[.ref r]))) bo=some (.lst (zs++[.ref r]))/\Bu (upd (upd H r (.tup [.int x,.int y,.int z])) bo (.lst (zs++[.ref r]))) (zs++[.ref r]) (L++[(x,y,z)])/\∀a o,a≠bo->H a=some o->(upd (upd H r (.tup [.int x,.int y,.int z])) bo (.lst (zs++[.ref r]))) a=some o:=by
 have s1:=A9 hr (.tup [.int x,.int y,.int z]);have nr:r≠bo:=λz=>by rw[z,hb]at hr;cases hr
 refine⟨A5,((ht.over s1).upd (s1 _ _ hb)).snoc (t:=r) (b:=(x,y,z)) (by rw[Ak nr];exact A5),λa o ha h=>by rw[Ak ha];exact s1 _ _ h⟩
theorem Bu.app {H:Hp}{ys zs:List V}{B C:List B0}(h:Bu H ys B)(g:Bu H zs C):Bu H (ys++zs) (B++C):=by
 have a:Am (λx (b:B0)=>∃t,x = .ref t/\H t=some (.tup [.int b.1,.int b.2.1,.int b.2.2])) ys B:=⟨h.1,λi x b p q=>h.2 i x b p q⟩
 have c:Am (λx (b:B0)=>∃t,x = .ref t/\H t=some (.tup [.int b.1,.int b.2.1,.int b.2.2])) zs C:=⟨g.1,λi x b p q=>g.2 i x b p q⟩
 have:=a.app c;exact⟨this.1,λi x b p q=>this.2 i x b p q⟩
set_option genInjectivity true in
inductive Tw where
 |n (i:Int)
 |v (z:Str)
 |c (z:Str) (sp:List (Str×Int))
 |j (z:Str) (l r:Tw)
def nS (i:Int):Str:=Str.ofString (toString i)
def Uw (s:Str×Int):Str:=if s.1="" then nS s.2 else if s.2=0 then s.1 else if 0<s.2 then s.1++"+"++nS s.2 else s.1++nS s.2
def WH (s:Str×Int):Str:="["++Uw s++"]"
def QX (z:Str)(sp:List (Str×Int)):Str:=z++Txt.join "" (sp.map WH)
def Q1 (b:Bool)(x:Str):Str:=if b=true then"("++x++")" else x
def hz (z:Str):Nat:=if z="*" then 2 else 1
namespace Tw
def Pi:Tw->Nat
 |.j z _ _=>hz z
 |_=>3
def wr:Tw->Str
 |.n i=>nS i
 |.v z=>z
 |.c z sp=>QX z sp
 |.j z l r=>Q1 (decide (Pi l<hz z)) (wr l)++z++Q1 (decide (Pi r<=hz z)) (wr r)
end Tw
def DM (H:Hp)(x:V)(s:Str×Int):Prop := ∃t,x = .ref t/\H t=some (.tup [.str s.1,.int s.2])
theorem DM.tk {H H':Hp}{x:V}{s:Str×Int}(k:TK H H')(h:DM H x s):DM H' x s:=by obtain⟨t,e,h⟩:=h;exact⟨t,e,k _ _ h⟩
theorem LB {ys:List V}{x:V}:(ys++[x])[(ys++[x]).length-1]?=some x/\(ys++[x]).dropLast=ys:=by
 refine⟨?_,List.dropLast_concat⟩;rw[Ao,Bi,Td,Ck (Al _),DZ];rfl
section
variable {prog:Program}{w:World}{A:Around}{E:Value->Shared->Prop}{s:Shared}
end
section
variable {prog:Program}{w:World}{A:Around}{E:Value->Shared->Prop}{s:Shared}
end
section
variable {prog:Program}{w:World}{A:Around}{E:Value->Shared->Prop}{s:Shared}
end
section
variable {prog:Program}{w:World}{A:Around}{E:Value->Shared->Prop}{s:Shared}
end
end L2
namespace Pw
structure Dd (T S:Type) where
 loops:List T
 path:List Int
 txt:S
variable {T S:Type}
def Sh (a b:Dd T S)(c:Nat):Prop:=c<=a.loops.length/\c<=b.loops.length/\a.loops.take c=b.loops.take c/\a.path.take c=b.path.take c/\a.path.getD c 0≠b.path.getD c 0
def CC (d:Nat):List (Dd T S)->Prop
 |[]=>True
 |[a]=>d<=a.loops.length
 |a::b::ds=>(∃c,d<=c/\Sh a b c)/\CC d (b::ds)
end Pw
namespace L2
open PySem PySem.Spec PyProof.Rows
structure G4 where
 nm:Str
 lo:Str×Int
 hi:Str×Int
structure Dw where
 loops:List G4
 tbl:Str
 sp:List (Str×Int)
 tm:Tw
 path:List Int
def Dw.txt (D:Dw):Str:=QX D.tbl D.sp++" = "++D.tm.wr
def Dw.dd (D:Dw):Pw.Dd G4 Str:=⟨D.loops,D.path,D.txt⟩
theorem Y1 (z:Str)(l:List Str):Hd (.str z) (l.map V.str)=decide (z∈l):=by
 unfold Hd;induction l with
 |nil=>rfl
 |
  cons y l ih=>
  rw[Cr,KA,ih];have e:DT (.str y) (.str z)=decide (z=y):=by
   show(y==z)=_;rw[Gf];simp only[Gk,Tj];exact⟨λe=>e.symm,λe=>e.symm⟩
  rw[e,Gf];simp
def NL (H H':Hp):Prop := ∀b o,H b=some o->(∀xs,o≠.lst xs)->H' b=some o
theorem NL.tk {H H':Hp}(h:NL H H'):TK H H':=λb xs hb=>h b _ hb (λ_ z=>by cases z)
theorem NL.upd {H:Hp}{l:Addr}{xs:List V}{o:HO}(hl:H l=some (.lst xs)):NL H (upd H l o):=λb ob hb hn=>by
 rw[Ak (λz=>by rw[z,hl]at hb;cases hb;exact hn _ rfl)];exact hb
end L2
namespace Pm
variable {S:Type}[DecidableEq S]
structure T4 (S:Type) where
 k:Nat
 a:Nat
 b:Bool
 z:S
def tk3 (k:Nat):Nat->List (Bool×S)->List (T4 S)
 |_,[]=>[]
 |a,t::L=>⟨k,a,t.1,t.2⟩::tk3 k (a+1) L
def all3:Nat->List (List (Bool×S))->List (T4 S)
 |_,[]=>[]
 |k,L::Ls=>tk3 k 0 L++all3 (k+1) Ls
theorem tk3_len (k:Nat):∀(a:Nat) (L:List (Bool×S)),(tk3 k a L).length=L.length
 |_,[]=>rfl
 |a,t::L=>by show(tk3 k (a+1) L).length+1=L.length+1;rw[tk3_len]
theorem tk3_snoc (k:Nat):∀(a:Nat) (L:List (Bool×S)) (t:Bool×S),tk3 k a (L++[t])=tk3 k a L++[⟨k,a+L.length,t.1,t.2⟩]
 |_,[],t=>rfl
 |
  a,u::L,t=>by
  show _::tk3 k (a+1) (L++[t])=_::(tk3 k (a+1) L++_);rw[tk3_snoc,show a+1+L.length=a+(u::L).length by rw[BH];lia]
theorem all3_snoc:∀(k:Nat) (Ls:List (List (Bool×S))) (L:List (Bool×S)),all3 k (Ls++[L])=all3 k Ls++tk3 (k+Ls.length) 0 L
 |k,[],L=>by show tk3 k 0 L++[]=[]++tk3 (k+0) 0 L;rw[CK,ML,Nat.add_zero]
 |
  k,M::Ls,L=>by
  show tk3 k 0 M++all3 (k+1) (Ls++[L])=tk3 k 0 M++all3 (k+1) Ls++_;rw[all3_snoc,CW,show k+1+Ls.length=k+(M::Ls).length by rw[BH];lia]
theorem all3_len:∀(k:Nat) (Ls:List (List (Bool×S))) (c:Nat),(∀L∈Ls,L.length<=c)->(all3 k Ls).length<=c*Ls.length
 |_,[],c,_=>Bv _
 |
  k,L::Ls,c,h=>by
  have h1:=all3_len (k+1) Ls c λx hx=>h x (CF _ hx);have h2:=h L Cq;show(tk3 k 0 L++all3 (k+1) Ls).length<=_;rw[Ao,tk3_len,BH,Nat.mul_succ];lia
abbrev Q4:=Nat×Nat×Nat×Nat
def ok (x y:T4 S):Bool:=decide (x.z=y.z)&&(x.b||y.b)
def in1 (x:T4 S)(T:List (T4 S)):List Q4:=(T.filter (ok x)).map λy=>(x.k,x.a,y.k,y.a)
def mtF (U T:List (T4 S)):List Q4:=(U.map λx=>in1 x T).flatten
def mt (T:List (T4 S)):List Q4:=mtF T T
theorem in1_snoc (x y:T4 S)(T:List (T4 S)):in1 x (T++[y])=in1 x T++if ok x y=true then[(x.k,x.a,y.k,y.a)] else[]:=by
 unfold in1;rw[List.filter_append,BA];by_cases c:ok x y=true
 .rw[Av c,List.filter_cons_of_pos c];rfl
 .rw[Aw c,List.filter_cons_of_neg c];rfl
theorem mtF_snoc (U T:List (T4 S))(x:T4 S):mtF (U++[x]) T=mtF U T++in1 x T:=by
 unfold mtF;rw[BA,List.flatten_append];show _++(in1 x T++[])=_;rw[CK]
theorem in1_len (x:T4 S)(T:List (T4 S)):(in1 x T).length<=T.length:=by
 unfold in1;rw[Af];exact List.length_filter_le _ _
theorem mtF_len (T:List (T4 S)):∀U:List (T4 S),(mtF U T).length<=U.length*T.length
 |[]=>Bv _
 |
  x::U=>by
  have h1:=mtF_len T U;have h2:=in1_len x T;show(in1 x T++mtF U T).length<=_;rw[Ao,BH,OJ];lia
theorem pref_ex (f g:Nat->Int):∀m:Nat,∃k,k<=m/\(∀e<k,f e=g e)/\(k<m->f k≠g k)
 |0=>⟨0,Al _,λe he=>absurd he (OR _),λh=>absurd h (OR _)⟩
 |
  m+1=>by
  obtain⟨k,h1,h2,h3⟩:=pref_ex f g m;by_cases c:k<m
  .exact⟨k,by lia,h2,λ_=>h3 c⟩
  .have e:k=m:=by lia
   subst e;by_cases d:f k=g k
   .exact⟨k+1,Al _,λe he=>by
    by_cases c2:e=k
    .rw[c2];exact d
    .exact h2 e (by lia),λh=>absurd h (Ea _)⟩
   .exact⟨k,by lia,h2,λ_=>d⟩
end Pm
namespace L2
open PySem PySem.Spec PyProof.Rows
structure R5 where
 n:Nat
 path:List Int
 z:Str
 p:Addr
 m:Nat
 rs:CT
def ED (R:R5):List (Bool×Str):=(true,R.z)::R.rs.map λr=>(false,r.1)
structure R5.Ok (R:R5):Prop where
 n3:R.n<=3
 pl:R.path.length=R.n+1
 ms:R.m<=30
 rl:R.rs.length<=R.m
theorem Ru {R:R5}(h:R.Ok):(ED R).length<=31:=by
 unfold ED;rw[BH,Af];have:=h.rl;have:=h.ms;lia
theorem CJ.nl {c:Cs}{H H':Hp}(e:NL H H'){n:Nat}{x:V}{rs:CT}(h:CJ c H n x rs):CJ c H' n x rs:=by
 induction h with
 |num i h=>exact .num i (e _ _ h (λ_ z=>by cases z))
 |val z h=>exact .val z (e _ _ h (λ_ z=>by cases z))
 |cel z h=>exact .cel z (e _ _ h (λ_ z=>by cases z))
 |joi z h _ _ a b=>exact .joi z (e _ _ h (λ_ z=>by cases z)) a b
def EH (c:Cs)(C:Addr)(H:Hp)(v:V)(R:R5):Prop := ∃(d dx nm pt:Addr) (v2 v3 x:V) (ys:List V),v = .ref d/\H d=some (.ins C dx [("names",.ref nm),("lows",v2),("highs",v3),("table",.str R.z),("spots",.ref R.p),("term",x),("path",.ref pt)])/\H nm=some (.tup ys)/\ys.length=R.n/\H pt=some (.tup (R.path.map V.int))/\CJ c H R.m x R.rs
theorem EH.nl {c:Cs}{C:Addr}{H H':Hp}{v:V}{R:R5}(h:EH c C H v R)(e:NL H H'):EH c C H' v R:=by
 obtain⟨d,dx,nm,pt,v2,v3,x,ys,a,b,f,g,k,l⟩:=h;exact⟨d,dx,nm,pt,v2,v3,x,ys,a,e _ _ b (λ_ z=>by cases z),e _ _ f (λ_ z=>by cases z),g,e _ _ k (λ_ z=>by cases z),l.nl e⟩
theorem A8.nl {H H':Hp}(e:A8 H H'):NL H H':=λb o h _=>e b o h
theorem EH.over {c:Cs}{C:Addr}{H H':Hp}{v:V}{R:R5}(h:EH c C H v R)(e:A8 H H'):EH c C H' v R:=h.nl e.nl
theorem EH.tm {c:Cs}{C:Addr}{H:Hp}{v:V}{R:R5}(h:EH c C H v R):IH c C H v R.z R.p R.m R.rs:=by
 obtain⟨d,dx,nm,pt,v2,v3,x,ys,a,b,f,g,k,l⟩:=h;exact⟨d,dx,_,_,_,x,_,a,b,l⟩
def Gv (CP C:Addr)(c:Cs)(H:Hp)(v:V)(Rs:List R5):Prop := ∃(x dx dl:Addr) (sz:V) (xs:List V),v = .ref x/\H x=some (.ins CP dx [("size",sz),("deeds",.ref dl)])/\H dl=some (.lst xs)/\Am (EH c C H) xs Rs
theorem Gv.over {CP C:Addr}{c:Cs}{H H':Hp}{v:V}{Rs:List R5}(h:Gv CP C c H v Rs)(e:A8 H H'):Gv CP C c H' v Rs:=by obtain⟨x,dx,dl,sz,xs,a,b,d,f⟩:=h;exact⟨x,dx,dl,sz,xs,a,e _ _ b,e _ _ d,f.mono λ_ _ z=>z.over e⟩
def Qv (H:Hp)(y:V)(b:Bool×Str):Prop := ∃u p,y = .ref u/\H u=some (.tup [.bl b.1,.str b.2,.ref p])
theorem WK {H:Hp}{f:Str×Addr->List V}(hf:∀r,f r=[.bl false,.str r.1,.ref r.2]){ys:List V}{rs:CT}(h:DJ H f ys rs):Am (Qv H) ys (rs.map λr=>(false,r.1)):=by
 refine⟨by rw[Af];exact h.1,λi x a hx ha=>?_⟩;rw[Bf]at ha;cases hr:rs[i]? with
 |none=>rw[hr]at ha;cases ha
 |
  some r=>
  rw[hr]at ha;cases ha;obtain⟨t,rfl,ht⟩:=h.2 i x r hx hr;rw[hf]at ht;exact⟨t,r.2,rfl,ht⟩
theorem VD {H:Hp}{l:Addr}{R:R5}(h:Os H l R.z R.p R.rs):∃xs,H l=some (.lst xs)/\Am (Qv H) xs (ED R):=by
 obtain⟨t,ys,h1,h2,h3⟩:=h;exact⟨_,h1,.cons ⟨t,R.p,rfl,h2⟩ (WK (λ_=>rfl) h3)⟩
abbrev T5:=Pm.T4 Str
def FL (H:Hp)(y:V)(x:T5):Prop := ∃t u p,y = .ref t/\H t=some (.tup [.int (x.k:Int),.int (x.a:Int),.ref u])/\H u=some (.tup [.bl x.b,.str x.z,.ref p])
theorem FL.tk {H H':Hp}{y:V}{x:T5}(h:FL H y x)(e:TK H H'):FL H' y x:=by obtain⟨t,u,p,a,b,c⟩:=h;exact⟨t,u,p,a,e _ _ b,e _ _ c⟩
theorem FL.over {H H':Hp}{y:V}{x:T5}(h:FL H y x)(e:A8 H H'):FL H' y x:=h.tk (A8.tk e)
abbrev C7 (Rs:List R5):List T5:=Pm.all3 0 (Rs.map ED)
theorem LV {Rs:List R5}(h:∀R∈Rs,R.Ok)(n:Rs.length<=6):(C7 Rs).length<=186:=by
 have:=Pm.all3_len 0 (Rs.map ED) 31 λL hL=>by
  obtain⟨R,hR,rfl⟩:=CY.mp hL;exact Ru (h R hR)
 rw[Af]at this;have h2:31*Rs.length<=31*6:=Nat.mul_le_mul_left _ n;show(Pm.all3 0 (Rs.map ED)).length<=186;lia
def US (CP C:Addr)(c:Cs):Sp:=λvs H Q _=>∃(v:V) (Rs:List R5),vs=[v]/\Gv CP C c H v Rs/\(∀R∈Rs,R.Ok)/\Rs.length<=6/\∀(r:Addr) (ys:List V) (H':Hp),A8 H H'->H r=none->H' r=some (.lst ys)->Am (FL H') ys (C7 Rs)->Q (.ref r) H'
def Fp (H:Hp)(y:V)(q:Pm.Q4):Prop := ∃t,y = .ref t/\H t=some (.tup [.int (q.1:Int),.int (q.2.1:Int),.int (q.2.2.1:Int),.int (q.2.2.2:Int)])
theorem Fp.tk {H H':Hp}{y:V}{x:Pm.Q4}(h:Fp H y x)(e:TK H H'):Fp H' y x:=by obtain⟨t,a,b⟩:=h;exact⟨t,a,e _ _ b⟩
theorem Fp.over {H H':Hp}{y:V}{x:Pm.Q4}(h:Fp H y x)(e:A8 H H'):Fp H' y x:=h.tk (A8.tk e)
def VV (H:Hp)(l:Addr)(L:List Pm.Q4):Prop := ∃ys,H l=some (.lst ys)/\Am (Fp H) ys L
theorem QJ {T:List T5}(h:T.length<=186):(Pm.mt T).length<=34596:=Ey (Pm.mtF_len T T) (Nat.mul_le_mul h h)
def bJ (CP C:Addr)(c:Cs):Sp:=λvs H Q _=>∃(v:V) (Rs:List R5),vs=[v]/\Gv CP C c H v Rs/\(∀R∈Rs,R.Ok)/\Rs.length<=6/\∀(r:Addr) (H':Hp),A8 H H'->H r=none->VV H' r (Pm.mt (C7 Rs))->Q (.ref r) H'
theorem aG {K:Faa}{H:Hp}{x y:Addr}{t:Tr}{Q:VK}(hx:BO K H (.ref x) t)(hy:BO K H (.ref y) t)(hd:CM t<=60)(h:Q (.bl true) H):FP K false (.ref x) (.ref y) H Q:=by
 refine⟨t,t,hx,hy,⟨_,rfl⟩,⟨_,rfl⟩,R7 t,hd,?_⟩;rw[show(if false=true then !BX t t else BX t t)=true from Ml t hx.ok];exact h
def Ef (R S:R5)(k:Nat):Prop:=k<=R.n/\k<=S.n/\(∀e<k,R.path.getD e 0=S.path.getD e 0)/\(k<min R.n S.n->R.path.getD k 0≠S.path.getD k 0)
theorem Nn (R S:R5):∃k,Ef R S k:=by
 obtain⟨k,h1,h2,h3⟩:=Pm.pref_ex (λe=>R.path.getD e 0) (λe=>S.path.getD e 0) (min R.n S.n);exact⟨k,by lia,by lia,h2,h3⟩
def UT (C:Addr)(c:Cs):Sp:=λvs H Q _=>∃(x y:V) (R S:R5) (k:Nat),vs=[x,y]/\EH c C H x R/\EH c C H y S/\R.Ok/\S.Ok/\Ef R S k/\Q (.int (k:Int)) H
def Dh (k l s:Nat):Nat:=if k<l then s+1 else s
def cB (CP C:Addr)(c:Cs):Sp:=λvs H Q _=>∃(v:V) (Rs:List R5) (k l s:Nat) (R S:R5),vs=[v,.int (k:Int),.int (l:Int)]/\Gv CP C c H v Rs/\(∀R∈Rs,R.Ok)/\Rs[k]?=some R/\Rs[l]?=some S/\Ef R S s/\∀(r:Addr) (H':Hp),A8 H H'->H r=none->H' r=some (.lst ((List.range (Dh k l s)).map λi:Nat=>V.int (i:Int)))->Q (.ref r) H'
structure Lp where
 nm:Str
 lz:Str
 ln:Int
 hz:Str
 hn:Int
 ab:Int
 tn:Int
def Bs (S:List Lp)(z:Str):Prop:=z=""\/∃r∈S,z=r.nm
def AB (S:List Lp):List Str:=S.map (·.nm)
theorem aN {S:List Lp}{i:Nat}{z:Str}(h:Bs (S.take i) z):z=""\/∃j:Nat,j<i/\(AB S)[j]?=some z:=by
 rcases h with h|⟨r,hr,rfl⟩
 .exact .inl h
 .obtain⟨j,hj⟩:=DG.mp hr;have l:=(Ax.mp hj).1;rw[BE]at l;rw[HW (by lia)]at hj;exact .inr ⟨j,by lia,by unfold AB;rw[Bf,hj];rfl⟩
theorem Qq {zs:List Str}{j:Nat}{z:Str}(nd:zs.Nodup)(ne:∀z∈zs,z≠"")(h:zs[j]?=some z)(first:Int):EK zs z first (first+(j:Int)):=by
 refine .inr ⟨ne z (AY h),j,h,λm hm e=>?_,rfl⟩;obtain⟨l1,e1⟩:=Ax.mp h;obtain⟨l2,e2⟩:=Ax.mp e;exact MV.mp nd m j l2 l1 hm (by rw[e1,e2])
def BV (zs:List Str)(W:List Int)(i:Nat)(z:Str)(b:Int):Prop:=(z=""/\b=0)\/(z≠""/\∃j:Nat,j<i/\zs[j]?=some z/\b=W.getD j 0)
def Nb (zs:List Str)(lz hz:Nat->Str)(ln hn:Nat->Int)(W:List Int)(i:Nat):Prop := ∃b b':Int,BV zs W i (lz i) b/\BV zs W i (hz i) b'/\b+ln i<=W.getD i 0/\W.getD i 0<=b'+hn i
def Nk (zs:List Str)(lz:Nat->Str)(m:Nat):Prop := ∀i<m,lz i=""\/(lz i≠""/\∃j:Nat,j<i/\zs[j]?=some (lz i))
def Gx (first:Int)(W:List Int)(x:Int):Int:=if x=0 then 0 else W.getD (x-first).toNat 0
def Sq (first:Int)(W:List Int)(x:Int):Prop:=x=0\/∃j:Nat,j<W.length/\x=first+(j:Int)
def LO (first:Int)(W:List Int)(b:B0):Bool:=decide (Gx first W b.1-Gx first W b.2.1<=b.2.2)
def EV (first:Int)(u ln:Nat->Int)(i:Nat):B0:=(u i,first+(i:Int),-(ln i))
def EC (first:Int)(w hn:Nat->Int)(i:Nat):B0:=(first+(i:Int),w i,hn i)
def U2 (C:Addr):Sp:=λvs H Q _=>∃(d dx nm lo hi:Addr) (v4 v5 v6 v7:V) (first:Int) (zs:List Str) (lz hz:Nat->Str) (ln hn u w:Nat->Int),vs=[.ref d,.int first]/\H d=some (.ins C dx [("names",.ref nm),("lows",.ref lo),("highs",.ref hi),("table",v4),("spots",v5),("term",v6),("path",v7)])/\H nm=some (.tup (zs.map V.str))/\Dg H lo zs.length lz ln/\Dg H hi zs.length hz hn/\zs.length<=100/\(∀i<zs.length,EK zs (lz i) first (u i))/\(∀i<zs.length,EK zs (hz i) first (w i))/\∀(r:Addr) (ys:List V) (H':Hp),A8 H H'->H' r=some (.lst ys)->Bu H' ys (DO (EV first u ln) (EC first w hn) zs.length)->Q (.ref r) H'
theorem RL:∀P:List (Int×Int),CU (P.map λp=>Tr.tup [.v (.int p.1),.v (.int p.2)])<=1
 |[]=>Bv _
 |
  p::P=>by
  rw[Cr,CU];have:=RL P;have:CM (Tr.tup [.v (.int p.1),.v (.int p.2)])=1:=by simp[CM,CU]
  lia
theorem BV.inj {zs:List Str}{W:List Int}{b b':Int}{i:Nat}{z:Str}(nd:zs.Nodup)(h:BV zs W i z b)(g:BV zs W i z b'):b=b':=by
 rcases h with⟨h,rfl⟩|⟨h,j,h1,h2,rfl⟩<;>rcases g with⟨g,rfl⟩|⟨g,k,g1,g2,rfl⟩
 .rfl
 .exact absurd h g
 .exact absurd g h
 .obtain⟨l1,e1⟩:=Ax.mp h2;obtain⟨l2,e2⟩:=Ax.mp g2;have:j=k:=by
   rcases OQ j k with c|c|c
   .exact absurd (by rw[e1,e2]) (MV.mp nd j k l1 l2 c)
   .exact c
   .exact absurd (by rw[e1,e2]) (MV.mp nd k j l2 l1 c)
  rw[this]
end L2
namespace PySem
open Builtin
open AutoSeq1 (wpAny_loadPart')
end PySem
namespace L2
open PySem PySem.Spec PyProof.Rows
def UB (zs:List Str)(lz:Nat->Str)(first:Int)(u:Nat->Int)(i:Nat):Prop:=(lz i=""/\u i=0)\/(lz i≠""/\∃j:Nat,j<i/\zs[j]?=some (lz i)/\u i=first+(j:Int))
theorem b8 {F G:Nat->B0}{m:Nat}{b:B0}(h:b∈DO F G m):∃i,i<m/\(b=F i\/b=G i):=by
 induction m with
 |zero=>cases h
 |
  succ m ih=>
  rw[DO]at h;rcases Cw.mp h with h|h
  .rcases Cw.mp h with h|h
   .obtain⟨i,hi,e⟩:=ih h;exact⟨i,by lia,e⟩
   .rw[Cy]at h;exact⟨m,by lia,.inl h⟩
  .rw[Cy]at h;exact⟨m,by lia,.inr h⟩
theorem Kw {F G:Nat->B0}{p:B0->Bool}{m:Nat}:(DO F G m).all p=true↔∀i<m,p (F i)=true/\p (G i)=true:=by
 induction m with
 |zero=>exact⟨λ_ i hi=>by lia,λ_=>rfl⟩
 |
  succ m ih=>
  rw[DO,Jm,Jm,Du,Du,ih];simp only[List.all_cons,List.all_nil,Bool.and_true];constructor
  .rintro ⟨⟨h,h1⟩,h2⟩ i hi;by_cases c:i<m
   .exact h i c
   .have:i=m:=by lia
    subst this;exact⟨h1,h2⟩
  .intro h;exact⟨⟨λi hi=>h i (by lia),(h m (by lia)).1⟩,(h m (by lia)).2⟩
theorem Pk {zs:List Str}{lz:Nat->Str}{first:Int}{u:Nat->Int}{i:Nat}{W:List Int}(h:UB zs lz first u i)(hi:i<W.length):Sq first W (u i):=by
 rcases h with⟨_,e⟩|⟨_,j,h1,_,e⟩
 .exact .inl e
 .exact .inr ⟨j,by lia,e⟩
theorem Lk {zs:List Str}{lz:Nat->Str}{first:Int}{u:Nat->Int}{i:Nat}{W:List Int}(f1:1<=first)(h:UB zs lz first u i):BV zs W i (lz i) (Gx first W (u i)):=by
 unfold Gx;rcases h with⟨a,e⟩|⟨a,j,h1,h2,e⟩
 .rw[e,Av rfl];exact .inl ⟨a,rfl⟩
 .rw[e,Aw (by lia),show(first+(j:Int)-first).toNat=j by lia];exact .inr ⟨a,j,h1,h2,rfl⟩
theorem GH {zs:List Str}{lz:Nat->Str}{first:Int}{u:Nat->Int}{i:Nat}(nd:zs.Nodup)(ne:∀z∈zs,z≠"")(h:UB zs lz first u i):EK zs (lz i) first (u i):=by
 rcases h with⟨a,e⟩|⟨a,j,h1,h2,e⟩
 .exact .inl ⟨a,e⟩
 .rw[e];exact Qq nd ne h2 first
theorem M5 {zs:List Str}{lz:Nat->Str}{m:Nat}(h:Nk zs lz m)(first:Int):∃u:Nat->Int,∀i<m,UB zs lz first u i:=by
 have ex:∀i,i<m->∃v:Int,(lz i=""/\v=0)\/(lz i≠""/\∃j:Nat,j<i/\zs[j]?=some (lz i)/\v=first+(j:Int)):=λi hi=>by
  rcases h i hi with a|⟨a,j,h1,h2⟩
  .exact⟨0,.inl ⟨a,rfl⟩⟩
  .exact⟨first+(j:Int),.inr ⟨a,j,h1,h2,rfl⟩⟩
 refine⟨λi=>if h:i<m then(ex i h).choose else 0,λi hi=>?_⟩;unfold UB;simp only[dif_pos hi];exact(ex i hi).choose_spec
theorem U3 {zs:List Str}{lz hz:Nat->Str}{ln hn u w:Nat->Int}{W:List Int}{first:Int}{m:Nat}(nd:zs.Nodup)(f1:1<=first)(hu:∀i<m,UB zs lz first u i)(hw:∀i<m,UB zs hz first w i):(DO (EV first u ln) (EC first w hn) m).all (LO first W)=true↔∀i<m,Nb zs lz hz ln hn W i:=by
 rw[Kw];have own:∀i:Nat,Gx first W (first+(i:Int))=W.getD i 0:=λi=>by
  unfold Gx;rw[Aw (by lia),show(first+(i:Int)-first).toNat=i by lia]
 constructor
 .intro h i hi;obtain⟨h1,h2⟩:=h i hi;have h1:=Fk h1;have h2:=Fk h2;simp only[EV,EC,own]at h1 h2;exact⟨_,_,Lk f1 (hu i hi),Lk f1 (hw i hi),by lia,by lia⟩
 .intro h i hi;obtain⟨b,b',h1,h2,h3,h4⟩:=h i hi;have e1:=BV.inj nd h1 (Lk f1 (hu i hi));have e2:=BV.inj nd h2 (Lk f1 (hw i hi));subst e1 e2;constructor
  .refine BB ?_;simp only[EV,own];lia
  .refine BB ?_;simp only[EC,own];lia
def Eb (S:List Lp)(i:Nat):Str:=((S[i]?).map (·.lz)).getD ""
def Eo (S:List Lp)(i:Nat):Str:=((S[i]?).map (·.hz)).getD ""
def G5 (S:List Lp)(i:Nat):Int:=((S[i]?).map (·.ln)).getD 0
def FX (S:List Lp)(i:Nat):Int:=((S[i]?).map (·.hn)).getD 0
end L2
namespace Tn
open Pw
variable {T S:Type}
end Tn
namespace L2
open PySem PySem.Spec PyProof.Rows
def Jc (C:Addr)(H:Hp)(x:V)(D:Dw):Prop := ∃(p dx nm lo hi pt:Addr) (v4 v5 v6:V) (ls hs:List V),x = .ref p/\H p=some (.ins C dx [("names",.ref nm),("lows",.ref lo),("highs",.ref hi),("table",v4),("spots",v5),("term",v6),("path",.ref pt)])/\H nm=some (.tup (D.loops.map λt=>V.str t.nm))/\H lo=some (.tup ls)/\Am (λv t=>DM H v (G4.lo t)) ls D.loops/\H hi=some (.tup hs)/\Am (λv t=>DM H v (G4.hi t)) hs D.loops/\H pt=some (.tup (D.path.map V.int))
theorem Jc.over {C:Addr}{H H':Hp}{x:V}{D:Dw}(h:Jc C H x D)(e:A8 H H'):Jc C H' x D:=by
 obtain⟨p,dx,nm,lo,hi,pt,v4,v5,v6,ls,hs,r,h0,h1,h2,h3,h4,h5,h6⟩:=h;exact⟨p,dx,nm,lo,hi,pt,v4,v5,v6,ls,hs,r,e _ _ h0,e _ _ h1,e _ _ h2,h3.mono λ_ _ z=>z.tk (A8.tk e),e _ _ h4,h5.mono λ_ _ z=>z.tk (A8.tk e),e _ _ h6⟩
def Kb (C:Addr)(H:Hp)(l:Addr)(Ds:List Dw):Prop := ∃xs,H l=some (.lst xs)/\Am (Jc C H) xs Ds
theorem Kb.over {C:Addr}{H H':Hp}{l:Addr}{Ds:List Dw}(h:Kb C H l Ds)(e:A8 H H'):Kb C H' l Ds:=by
 obtain⟨xs,h1,h2⟩:=h;exact⟨xs,e _ _ h1,h2.mono λ_ _ z=>z.over e⟩
def Iy (D:Dw):List Str:=D.loops.map G4.nm
structure Ss (D:Dw):Prop where
 ll:D.loops.length<=3
 pl:D.path.length=D.loops.length+1
 nd:(Iy D).Nodup
 bs:∀(e:Nat) (t:G4),D.loops[e]?=some t->(t.lo.1=("":Str)\/t.lo.1∈(Iy D).take e)/\(t.hi.1=("":Str)\/t.hi.1∈(Iy D).take e)
def V2 (Ds:List Dw):Prop:=(∀D∈Ds,Ss D)/\Ds.length<=10/\Pw.CC 0 (Ds.map Dw.dd)
def Bt (l:Addr)(H H':Hp):Prop := ∀b o,b≠l->H b=some o->H' b=some o
theorem Bt.tk {l:Addr}{H H':Hp}{xs:List V}(h:Bt l H H')(hl:H l=some (.lst xs)):TK H H':=λb ys hb=>h b _ (λe=>by rw[e,hl]at hb;cases hb) hb
theorem Bt.trans {l:Addr}{H H1 H2:Hp}(a:Bt l H H1)(b:Bt l H1 H2):Bt l H H2:=λc o n h=>b c o n (a c o n h)
theorem Bt.same {l:Addr}{H H':Hp}(e:A8 H H'):Bt l H H':=λb o _ h=>e b o h
theorem Bt.put {l:Addr}{H:Hp}{o:HO}:Bt l H (upd H l o):=λb o n h=>by rw[Ak n];exact h
structure R3 where
 S:List Lp
 path:List Int
 z:Str
 p:Addr
 m:Nat
 rs:CT
def HQ (R R':R3):Prop := ∃e,e<=R.S.length/\e<=R'.S.length/\R.S.take e=R'.S.take e/\R.path.take e=R'.path.take e/\R.path.getD e 0<R'.path.getD e 0
theorem Lr {l m:List Int}{j:Nat}(h:j<l.length):(l++m).getD j 0=l.getD j 0:=by
 rw[Bk,CH h,←Bk]
theorem JM {l m:List Int}{x:Int}:(l++x::m).getD l.length 0=x:=by
 rw[Bk,Ck (Al _),DZ];rfl
def Fy (q:Lp):G4:=⟨q.nm,(q.lz,q.ln),(q.hz,q.hn)⟩
def R3.dw (R:R3):Dw:=⟨R.S.map Fy,"",[],.n 0,R.path⟩
theorem S4:∀{Rs:List R3},Rs.Pairwise HQ->Pw.CC 0 ((Rs.map R3.dw).map Dw.dd)
 |[],_=>True.intro
 |[a],_=>Bv _
 |
  a::b::l,h=>by
  obtain⟨h1,h2⟩:=Te.mp h;obtain⟨e,e1,e2,e3,e4,e5⟩:=h1 b Cq;refine⟨⟨e,Bv _,?_,?_,?_,e4,by show a.path.getD e 0≠b.path.getD e 0;lia⟩,S4 h2⟩
  .show e<=(a.S.map Fy).length;rw[Af];exact e1
  .show e<=(b.S.map Fy).length;rw[Af];exact e2
  .show(a.S.map Fy).take e=(b.S.map Fy).take e;rw[←OS,←OS,e3]
theorem YF {α β:Type}{P:V->β->Prop}{f:α->β}{xs:List V}{as:List α}(h:Am (λv q=>P v (f q)) xs as):Am P xs (as.map f):=by
 refine⟨by rw[Af];exact h.1,λi x b hx hb=>?_⟩;rw[Bf]at hb;cases ha:as[i]? with
 |none=>rw[ha]at hb;cases hb
 |
  some q=>
  rw[ha]at hb;cases hb;exact h.2 i x q hx ha
def Rw (Z:Str->Prop)(H:Hp)(vs:List V):Prop := ∀v∈vs,∃(t:Addr) (z:Str) (n:Int),v = .ref t/\H t=some (.tup [.str z,.int n])/\Z z
def QN (Z:Str->Prop)(n:Nat)(H:Hp)(p:Addr):Prop := ∃xs,H p=some (.tup xs)/\xs.length=n/\n<=3/\Rw Z H xs
def G2 (Z:Str->Prop)(M:Str->Int->Prop)(H:Hp)(r:Str×Addr):Prop := ∃n:Nat,M r.1 (n:Int)/\QN Z n H r.2
def R3.tch (R:R3):CT:=(R.z,R.p)::R.rs
def D5 (c:Cs)(C:Addr)(H:Hp)(v:V)(R:R3):Prop := ∃(d dx nm lo hi pt:Addr) (x:V) (ls hs:List V),v = .ref d/\H d=some (.ins C dx [("names",.ref nm),("lows",.ref lo),("highs",.ref hi),("table",.str R.z),("spots",.ref R.p),("term",x),("path",.ref pt)])/\H nm=some (.tup ((AB R.S).map V.str))/\H lo=some (.tup ls)/\Am (λv q=>DM H v (q.lz,q.ln)) ls R.S/\H hi=some (.tup hs)/\Am (λv q=>DM H v (q.hz,q.hn)) hs R.S/\H pt=some (.tup (R.path.map V.int))/\CJ c H R.m x R.rs
theorem D5.over {c:Cs}{C:Addr}{H H':Hp}{v:V}{R:R3}(h:D5 c C H v R)(e:A8 H H'):D5 c C H' v R:=by
 obtain⟨d,dx,nm,lo,hi,pt,x,ls,hs,a,b,f,g,i,j,k,l,m⟩:=h;have tk:=A8.tk e;exact⟨d,dx,nm,lo,hi,pt,x,ls,hs,a,e _ _ b,e _ _ f,e _ _ g,i.mono λ_ _ z=>z.tk tk,e _ _ j,k.mono λ_ _ z=>z.tk tk,e _ _ l,m.over e⟩
def R3.r5 (R:R3):R5:=⟨R.S.length,R.path,R.z,R.p,R.m,R.rs⟩
theorem F6 (S:List Lp):(AB S).length=S.length:=by unfold AB;rw[Af]
theorem D5.d5 {c:Cs}{C:Addr}{H:Hp}{v:V}{R:R3}(h:D5 c C H v R):EH c C H v R.r5:=by
 obtain⟨d,dx,nm,lo,hi,pt,x,ls,hs,a,b,f,g,i,j,k,l,m⟩:=h;exact⟨d,dx,nm,pt,_,_,x,_,a,b,f,by rw[Af,F6];rfl,l,m⟩
theorem Pf {H:Hp}{p:Addr}{ls:List V}{S:List Lp}{f:Lp->Str×Int}(h:H p=some (.tup ls))(a:Am (λv q=>DM H v (f q)) ls S):Dg H p S.length (λi=>((S[i]?).map λq=>(f q).1).getD "") (λi=>((S[i]?).map λq=>(f q).2).getD 0):=by
 refine⟨ls,h,a.1,λi x hx=>?_⟩;obtain⟨q,hq,t,e,ht⟩:=a.get' hx;refine⟨t,e,?_⟩;dsimp only;rw[hq];exact ht
theorem Q2 {H:Hp}{p:Addr}{ls:List V}{S:List Lp}(h:H p=some (.tup ls))(a:Am (λv q=>DM H v (q.lz,q.ln)) ls S):Dg H p S.length (Eb S) (G5 S):=Pf (f:=λq=>(q.lz,q.ln)) h a
theorem RZ {H:Hp}{p:Addr}{ls:List V}{S:List Lp}(h:H p=some (.tup ls))(a:Am (λv q=>DM H v (q.hz,q.hn)) ls S):Dg H p S.length (Eo S) (FX S):=Pf (f:=λq=>(q.hz,q.hn)) h a
theorem SG {H:Hp}{l:Addr}{z:Str}{p:Addr}{rs:CT}(h:Os H l z p rs){a:Nat}{r:Str×Addr}(ha:((z,p)::rs)[a]?=some r):∃(xs:List V) (t:Addr) (fl:Bool),H l=some (.lst xs)/\Be xs (a:Int)=some (.ref t)/\H t=some (.tup [.bl fl,.str r.1,.ref r.2]):=by
 obtain⟨t,ys,h1,h2,h3,h4⟩:=h;cases a with
 |
  zero=>
  cases ha;exact⟨_,t,true,h1,Bg (j:=0) rfl,h2⟩
 |
  succ a=>
  rw[Gi]at ha;have hl:=(Ax.mp ha).1;have hy:ys[a]?=some ys[a]:=AA (by lia);obtain⟨u,e,hu⟩:=h4 a _ r hy ha;exact⟨_,u,false,h1,Bg (j:=a+1) (by rw[Gi,hy,e]),hu⟩
theorem RQ {k:Nat}:∀{a:Nat} {L:List (Bool×Str)} {x:T5},x∈Pm.tk3 k a L->x.k=k/\∃j,x.a=a+j/\L[j]?=some (x.b,x.z)
 |_,[],x,h=>by cases h
 |
  a,t::L,x,h=>by
  rcases Bj.mp h with rfl|h
  .exact⟨rfl,0,rfl,rfl⟩
  .obtain⟨e,j,e1,e2⟩:=RQ h;exact⟨e,j+1,by lia,e2⟩
theorem N6:∀{k:Nat} {Ls:List (List (Bool×Str))} {x:T5},x∈Pm.all3 k Ls->∃i L,x.k=k+i/\Ls[i]?=some L/\L[x.a]?=some (x.b,x.z)
 |_,[],x,h=>by cases h
 |
  k,L::Ls,x,h=>by
  rcases Cw.mp h with h|h
  .obtain⟨e,j,e1,e2⟩:=RQ h;exact⟨0,L,e,rfl,by rw[e1,Fh];exact e2⟩
  .obtain⟨i,L',e,e1,e2⟩:=N6 h;exact⟨i+1,L',by lia,e1,e2⟩
theorem Rt {Rs:List R3}{x:T5}(h:x∈C7 (Rs.map R3.r5)):∃R r,Rs[x.k]?=some R/\R.tch[x.a]?=some r/\r.1=x.z:=by
 obtain⟨i,L,e,e1,e2⟩:=N6 h;rw[Fh]at e;rw[Gh,Bf]at e1;cases hR:Rs[i]? with
 |none=>rw[hR]at e1;cases e1
 |
  some R=>
  rw[hR]at e1;cases e1;refine⟨R,?_⟩;have et:ED R.r5=(true,R.z)::R.rs.map λr=>(false,r.1):=rfl;have e2:((true,R.z)::R.rs.map λr=>(false,r.1))[x.a]?=some (x.b,x.z):=e2;rw[e];cases ha:x.a with
  |
   zero=>
   rw[ha]at e2;exact⟨_,hR,rfl,congrArg Prod.snd (CV e2)⟩
  |
   succ a=>
   rw[ha,Gi,Bf]at e2;cases hr:R.rs[a]? with
   |none=>rw[hr]at e2;cases e2
   |
    some r=>
    rw[hr]at e2;exact⟨r,hR,by unfold R3.tch;rw[Gi];exact hr,congrArg Prod.snd (CV e2)⟩
theorem aj {Rs:List R3}{q:Pm.Q4}(h:q∈Pm.mt (C7 (Rs.map R3.r5))):∃R r R' r',Rs[q.1]?=some R/\R.tch[q.2.1]?=some r/\Rs[q.2.2.1]?=some R'/\R'.tch[q.2.2.2]?=some r'/\r.1=r'.1:=by
 unfold Pm.mt Pm.mtF at h;obtain⟨l,hl,hq⟩:=List.mem_flatten.mp h;obtain⟨x,hx,rfl⟩:=CY.mp hl;unfold Pm.in1 at hq;obtain⟨y,hy,rfl⟩:=CY.mp hq;obtain⟨hy,ok⟩:=OF.mp hy;obtain⟨R,r,a,b,c⟩:=Rt hx;obtain⟨R',r',a',b',c'⟩:=Rt hy;unfold Pm.ok at ok;exact⟨R,r,R',r',a,b,a',b',by rw[c,c'];exact Fk (Du _ _▸ok).1⟩
theorem Nq:∀A B:List Int,F3 (A.map λi=>Tr.v (.int i)) (B.map λi=>Tr.v (.int i))=true
 |[],[]=>rfl
 |[],_::_=>rfl
 |_::_,[]=>rfl
 |a::A,b::B=>by rw[Cr,Cr,F3,Nq A B,Cn];rfl
theorem Mz:∀A B:List Int,Cc (A.map λi=>Tr.v (.int i)) (B.map λi=>Tr.v (.int i))=decide (A=B)
 |[],[]=>rfl
 |[],b::B=>by rw[Cr,Gg,Cc,C2 (by intro h;cases h)]<;>simp
 |a::A,[]=>by rw[Cr,Gg,Cc,C2 (by intro h;cases h)]<;>simp
 |
  a::A,b::B=>by
  rw[Cr,Cr,Cc,Mz A B,BX];by_cases c:a=b
  .subst c;by_cases d:A=B
   .subst d;simp[DT]
   .simp[d,DT]
  .simp[c,DT]
def Oh (R:R3)(W:List Int):Prop := ∀i<R.S.length,Nb (AB R.S) (Eb R.S) (Eo R.S) (G5 R.S) (FX R.S) W i
structure Cd where
 m:Nat
 s:Nat
 u:Nat->Int
 w:Nat->Int
 u':Nat->Int
 w':Nat->Int
 z1:Nat->Str
 z2:Nat->Str
 n1:Nat->Int
 n2:Nat->Int
 x1:Nat->Int
 x2:Nat->Int
structure F2 (R R':R3)(D:Cd):Prop where
 m3:D.m<=3
 hx1:∀i<D.m,EK (AB R.S) (D.z1 i) 1 (D.x1 i)
 hx2:∀i<D.m,EK (AB R'.S) (D.z2 i) (1+(R.S.length:Int)) (D.x2 i)
 hu:∀i<R.S.length,UB (AB R.S) (Eb R.S) 1 D.u i
 hw:∀i<R.S.length,UB (AB R.S) (Eo R.S) 1 D.w i
 hu':∀i<R'.S.length,UB (AB R'.S) (Eb R'.S) (1+(R.S.length:Int)) D.u' i
 hw':∀i<R'.S.length,UB (AB R'.S) (Eo R'.S) (1+(R.S.length:Int)) D.w' i
 pf:Ef R.r5 R'.r5 D.s
def Hh (S:List Lp)(first:Int)(u w:Nat->Int):List B0:=DO (EV first u (G5 S)) (EC first w (FX S)) S.length
def IS (D:Cd):List B0:=DO (λi=>(D.x1 i,D.x2 i,D.n2 i-D.n1 i)) (λi=>(D.x2 i,D.x1 i,D.n1 i-D.n2 i)) D.m
def He (behind:Int)(n:Nat):List B0:=DO (λe=>(1+(e:Int),behind+(e:Int),0)) (λe=>(behind+(e:Int),1+(e:Int),0)) n
def Gd (s case:Nat)(behind:Int):List B0:=He behind case++if case<s then[(1+(case:Int),behind+(case:Int),-1)] else[]
def E3 (R R':R3)(D:Cd)(case:Nat):List B0:=Hh R.S 1 D.u D.w++Hh R'.S (1+(R.S.length:Int)) D.u' D.w'++IS D++Gd D.s case (1+(R.S.length:Int))
def hU (U:List Int)(b:B0):Bool:=decide (U.getD b.1.toNat 0-U.getD b.2.1.toNat 0<=b.2.2)
def Fn (U:List Int)(b:B0):Prop:=0<=b.1/\b.1<(U.length:Int)/\0<=b.2.1/\b.2.1<(U.length:Int)
def ZH:Sp:=λvs H Q _=>∃(s case:Nat) (behind:Int),vs=[.int (s:Int),.int (case:Int),.int behind]/\case<=100/\∀(r:Addr) (ys:List V) (H':Hp),A8 H H'->H' r=some (.lst ys)->Bu H' ys (Gd s case behind)->Q (.ref r) H'
theorem Iq (S:List Lp)(first:Int)(u w:Nat->Int):(Hh S first u w).length=2*S.length:=F8 _ _ _
theorem Z9 {R R':R3}{D:Cd}{case:Nat}(h:R.S.length<=3)(h':R'.S.length<=3)(m3:D.m<=3)(c:case<=3):(E3 R R' D case).length<=100:=by
 unfold E3 Gd;rw[Ao,Ao,Ao,Ao,Iq,Iq];have h1:(IS D).length=2*D.m:=F8 _ _ _;have h2:(He (1+(R.S.length:Int)) case).length=2*case:=F8 _ _ _
 have h3:(if case<D.s then[(1+(case:Int),1+(R.S.length:Int)+(case:Int),(-1:Int))] else[]).length<=1:=by split<;>simp
 lia
theorem Nx {U W:List Int}{first x:Int}(f1:1<=first)(h0:U.getD 0 0=0)(h:∀j:Nat,j<W.length->U.getD (first+(j:Int)).toNat 0=W.getD j 0)(k:Sq first W x):U.getD x.toNat 0=Gx first W x:=by
 unfold Gx;rcases k with rfl|⟨j,hj,rfl⟩
 .rw[Av rfl];exact h0
 .rw[Aw (by lia),h j hj,show(first+(j:Int)-first).toNat=j by lia]
theorem Qd {S:List Lp}{U W:List Int}{first:Int}{u w:Nat->Int}(f1:1<=first)(h0:U.getD 0 0=0)(h:∀j:Nat,j<W.length->U.getD (first+(j:Int)).toNat 0=W.getD j 0)(wl:W.length=S.length)(nd:(AB S).Nodup)(hu:∀i<S.length,UB (AB S) (Eb S) first u i)(hw:∀i<S.length,UB (AB S) (Eo S) first w i):(Hh S first u w).all (hU U)=true↔∀i<S.length,Nb (AB S) (Eb S) (Eo S) (G5 S) (FX S) W i:=by
 rw[←U3 (W:=W) (ln:=G5 S) (hn:=FX S) nd f1 hu hw];unfold Hh;rw[Kw,Kw];have key:∀i<S.length,hU U (EV first u (G5 S) i)=LO first W (EV first u (G5 S) i)/\hU U (EC first w (FX S) i)=LO first W (EC first w (FX S) i):=λi hi=>by
  have k1:=Nx f1 h0 h (Pk (W:=W) (hu i hi) (by lia));have k2:=Nx f1 h0 h (Pk (W:=W) (hw i hi) (by lia));have k3:=Nx f1 h0 h (x:=first+(i:Int)) (.inr ⟨i,by lia,rfl⟩);unfold hU LO EV EC;dsimp only;rw[k1,k2,k3];exact⟨rfl,rfl⟩
 exact⟨λg i hi=>by rw[←(key i hi).1,←(key i hi).2];exact g i hi,λg i hi=>by rw[(key i hi).1,(key i hi).2];exact g i hi⟩
theorem Wi {U:List Int}{behind:Int}{n:Nat}:(He behind n).all (hU U)=true↔∀e<n,U.getD (1+(e:Int)).toNat 0=U.getD (behind+(e:Int)).toNat 0:=by
 unfold He;rw[Kw];unfold hU;constructor
 .intro h e he;obtain⟨a,b⟩:=h e he;have a:=Fk a;have b:=Fk b;dsimp only at a b;lia
 .intro h e he;have:=h e he;exact⟨BB (by dsimp only;lia),BB (by dsimp only;lia)⟩
theorem Vw {U:List Int}{D:Cd}:(IS D).all (hU U)=true↔∀i<D.m,U.getD (D.x1 i).toNat 0+D.n1 i=U.getD (D.x2 i).toNat 0+D.n2 i:=by
 unfold IS;rw[Kw];unfold hU;constructor
 .intro h e he;obtain⟨a,b⟩:=h e he;have a:=Fk a;have b:=Fk b;dsimp only at a b;lia
 .intro h e he;have:=h e he;exact⟨BB (by dsimp only;lia),BB (by dsimp only;lia)⟩
def Di (W W':List Int):List Int:=0::(W++W')
theorem Hz {W W':List Int}{j:Nat}(h:j<W.length):(Di W W').getD (1+(j:Int)).toNat 0=W.getD j 0:=by
 rw[show(1+(j:Int)).toNat=j+1 by lia];show(W++W').getD j 0=_;rw[Bk,Bk,CH h]
theorem Hx {W W':List Int}{j:Nat}:(Di W W').getD (1+(W.length:Int)+(j:Int)).toNat 0=W'.getD j 0:=by
 rw[show(1+(W.length:Int)+(j:Int)).toNat=(W.length+j)+1 by lia];show(W++W').getD (W.length+j) 0=_;rw[Bk,Bk,Ck (by lia),show W.length+j-W.length=j by lia]
theorem IQ {zs:List Str}{z:Str}{first x:Int}{n:Nat}(f1:1<=first)(h:EK zs z first x)(l:zs.length<=n):0<=x/\x<first+(n:Int):=by
 rcases h with⟨_,rfl⟩|⟨_,j,hj,_,rfl⟩
 .lia
 .have:=(Ax.mp hj).1;lia
theorem KN {F G:Nat->B0}{m:Nat}{U:List Int}(h:∀i<m,Fn U (F i)/\Fn U (G i)):∀b∈DO F G m,Fn U b:=λb hb=>by
 obtain⟨i,hi,e|e⟩:=b8 hb
 .rw[e];exact(h i hi).1
 .rw[e];exact(h i hi).2
theorem R9 {Z:Str->Prop}{n:Nat}{H:Hp}{p:Addr}(h:QN Z n H p):∃(z:Nat->Str) (k:Nat->Int),Dg H p n z k/\∀i<n,Z (z i):=by
 obtain⟨xs,a,b,c,d⟩:=h;have ex:∀i:Nat,∃y:Str×Int,∀x,xs[i]?=some x->(∃t,x = .ref t/\H t=some (.tup [.str y.1,.int y.2]))/\Z y.1:=λi=>by
  cases hx:xs[i]? with
  |none=>exact⟨("",0),λx h=>by cases h⟩
  |
   some v=>
   obtain⟨t,z,k,e,ht,hz⟩:=d v (AY hx);exact⟨(z,k),λx h=>by cases h;exact⟨⟨t,e,ht⟩,hz⟩⟩
 refine⟨λi=>(ex i).choose.1,λi=>(ex i).choose.2,⟨xs,a,b,λi x hx=>((ex i).choose_spec x hx).1⟩,λi hi=>?_⟩;exact((ex i).choose_spec _ (AA (by lia))).2
theorem Bu.tk {H H':Hp}{ys:List V}{B:List B0}(h:Bu H ys B)(e:TK H H'):Bu H' ys B:=⟨h.1,λi y b p q=>by obtain⟨t,x,z⟩:=h.2 i y b p q;exact⟨t,x,e _ _ z⟩⟩
theorem D5.tm {c:Cs}{C:Addr}{H:Hp}{v:V}{R:R3}(h:D5 c C H v R):IH c C H v R.z R.p R.m R.rs:=by
 obtain⟨d,dx,nm,lo,hi,pt,x,ls,hs,a,b,f,g,i,j,k,l,m⟩:=h;exact⟨d,dx,_,_,_,x,_,a,b,m⟩
section
variable {X:Cx}{pins:List (Addr×Obj)}{s:Shared}{σ:St}{H:Hp}
end
theorem Wp {K:Faa}{a b:Addr}{xs ys:List V}{ρ:List (Option Nat)}{g:TG}{tt:TT}{te:TE}{σ:St}{H:Hp}{Q:VK}(hlen:xs.length=ys.length)(Pv:Nat->List V->Hp->Prop)(h0:Pv 0 [] H)(hsz:xs.length<=sizeLine)(hl:∀i zs H,i<=xs.length->Pv i zs H->A7 K H a xs/\A7 K H b ys/\zs.length<=i)
  (hs:∀i x y T zs H,xs[i]?=some x->ys[i]?=some y->Pv i zs H->H T=none->g (.ref T) (C3 ρ σ) (upd H T (.tup [x,y])) fun σ2 H3=>IT ρ σ σ2/\tt σ2 H3 λok H4=>if ok=true then te σ2 H4 λv H5=>Pv (i+1) (zs++[v]) H5 else Pv (i+1) zs H4)
  (hd:∀zs H,Pv xs.length zs H->∀p,H p=none->Q (.ref p) (upd H p (.lst zs))):Hn ρ g tt te σ Q (Jd K a b) H:=by
 refine⟨λi m zs H=>m=xs.length-i/\i<=xs.length/\Pv i zs H,⟨_,rfl,Bv _,h0⟩,?_⟩;rintro i m zs H ⟨rfl,hi,p⟩;obtain⟨q1,q2,hz⟩:=hl i zs H hi p;by_cases hlt:i<xs.length
 .refine .inr ⟨⟨xs,ys,xs[i],ys[i],q1,q2,AA hlt,AA (by lia)⟩,by lia,Pv (i+1),λys' H'' p'=>⟨xs.length-(i+1),by lia,rfl,hlt,p'⟩,λv H' yy=>?_⟩;obtain⟨x,y,T,hx,hy,hT,rfl,rfl⟩:=yy;exact hs i x y T zs H (hx xs q1) (hy ys q2) p hT
 .have:i=xs.length:=by lia
  subst this;exact .inl ⟨⟨xs,ys,q1,q2,Al _,by lia,.inl rfl⟩,by lia,hd zs H p⟩
def RI:V->Bool
 |.int _=>true
 |.str _=>true
 |.bl _=>true
 |_=>false
mutual
def CZ (H:Hp):Tr->V->Prop
 |.v y,x=>x=y/\RI y=true
 |.tup l,x=>∃p xs,x = .ref p/\H p=some (.tup xs)/\Cj H l xs
 |.lst _,_=>False
def Cj (H:Hp):List Tr->List V->Prop
 |[],xs=>xs=[]
 |t::l,xs=>∃x xs',xs=x::xs'/\CZ H t x/\Cj H l xs'
end
end L2
namespace Fo
variable {W:Type}
end Fo
namespace PySem
open PySem.Spec PyProof.Rows
open AutoSeq1 (wpAny_loadPart')
end PySem
namespace L2
open PySem PySem.Spec PyProof.Rows
end L2
namespace HU
open PySem PySem.Spec
section
variable {prog:Program}{w:World}{A:Around}{E:Value->Shared->Prop}{s:Shared}
end
end HU
namespace L2
open PySem PySem.Spec PyProof.Rows
mutual
theorem CZ.tr {K:Faa}{H:Hp}:∀{t:Tr} {x:V},CZ H t x->BO K H x t
 |
  .v y,x,h=>by
  rw[CZ]at h;obtain⟨rfl,h⟩:=h;exact .flat (by cases x<;>first|rfl|cases h)
 |
  .tup l,x,h=>by
  rw[CZ]at h;obtain⟨p,xs,rfl,h0,h1⟩:=h;exact .tup (A7.of h0) (Cj.tr h1)
 |.lst l,x,h=>by rw[CZ]at h;exact h.elim
theorem Cj.tr {K:Faa}{H:Hp}:∀{l:List Tr} {xs:List V},Cj H l xs->Cp K H xs l
 |[],xs,h=>by rw[Cj]at h;subst h;exact .nil
 |
  t::l,xs,h=>by
  rw[Cj]at h;obtain⟨x,xs',rfl,h0,h1⟩:=h;exact .cons (CZ.tr h0) (Cj.tr h1)
end
def Ky (P:List (Int×Int)):Tr:=.tup (P.map λp=>Tr.tup [.v (.int p.1),.v (.int p.2)])
theorem S2 {α:Type}{H:Hp}{R:V->α->Prop}{g:α->Tr}(h:∀x a,R x a->CZ H (g a) x):∀{ys:List V} {P:List α},Am R ys P->Cj H (P.map g) ys
 |[],[],_=>by rw[Gg,Cj]
 |[],p::P,z=>by have:=z.1;cases this
 |y::ys,[],z=>by have:=z.1;cases this
 |
  y::ys,p::P,z=>by
  rw[Cr,Cj];exact⟨y,ys,rfl,h y p (z.2 0 y p rfl rfl),S2 h ⟨Nat.succ.inj z.1,λi x a p q=>z.2 (i+1) x a (by simpa using p) (by simpa using q)⟩⟩
theorem Yk {H:Hp}{t:Addr}{P:List (Int×Int)}(h:EE H t P):CZ H (Ky P) (.ref t):=by
 obtain⟨xs,h0,h1⟩:=h;rw[Ky,CZ];refine⟨t,xs,rfl,h0,S2 (λx a z=>?_) h1⟩;obtain⟨u,rfl,hu⟩:=z;rw[CZ];refine⟨u,_,rfl,hu,?_⟩;rw[Cj];refine⟨_,_,rfl,by rw[CZ];exact⟨rfl,rfl⟩,?_⟩;rw[Cj];refine⟨_,_,rfl,by rw[CZ];exact⟨rfl,rfl⟩,?_⟩;rw[Cj]
theorem Ud (P:List (Int×Int)):CM (Ky P)<=2:=by
 rw[Ky,CM];have:=RL P;lia
end L2
namespace Fo
variable {W:Type}
def ownP (m:Nat):List (Int×Int):=(List.range m).map λe:Nat=>((e:Int),0)
def ownB (up:W)(m sh:Nat->Nat)(k:Nat):Bo W:=⟨(k:Int),sh k,List.replicate (m k) (false,up),ownP (m k)⟩
end Fo
namespace L2
open PySem PySem.Spec PyProof.Rows
section
variable {X:Cx}
theorem YE (hc:X.calm=true):Eg X (.builtin "any") (λxs H Q=>∃(p:Addr) (bs:List Bool),xs=[.ref p]/\A4 X.K H p (bs.map V.bl)/\Q (.bl (bs.any id)) H):=by
 intro pins s σ H xs us Q I r h;obtain⟨p,bs,rfl,hq,q⟩:=h;obtain⟨u,rfl,ru⟩:=EJ r;cases ru;obtain⟨its,rv,pl,hz⟩:=I.list hq;have hne:p≠s.heap.objs.size:=by
  obtain⟨o,n,e,_⟩:=pl;exact BQ (B1 e)
 have hl:=rv.length;refine call_any_walk (Th pl.isList ⟨s.heap.objs.size,_,_,its.toArray.size,_,_,λi=>bs.getD i false,rfl,Walks.list (A:=X.A.in1) (show X.A.in1.handled=none from I.ok.hd hc) s.heap.objs.size p hne its.toArray,⟨⟨_,CN _ rfl,rfl,rfl⟩,(pl.isList).push _⟩,?_,λh' tk kk=>?_⟩)
 .intro i v s' Q' E hv hq';have hv':its[i]?=some v:=by simpa using hv
  have hb:∃b,bs[i]?=some b/\v = .bool b:=by
   cases e:(bs.map V.bl)[i]? with
   |
    none=>
    have:=rv.none_of e;rw[hv']at this;cases this
   |
    some y=>
    obtain⟨u,hu,ru⟩:=rv.get e;rw[hv']at hu;cases hu;rw[Bf]at e;cases eb:bs[i]? with
    |none=>rw[eb]at e;cases e
    |
     some b=>
     rw[eb]at e;cases e;exact⟨b,rfl,ru⟩
  obtain⟨b,hb,rfl⟩:=hb;refine KF ?_;have hq2:Q' ((bs[i]?).getD false) s':=hq';rw[hb]at hq2;exact hq2
 .have e:((List.range its.toArray.size).any λi=>bs.getD i false)=bs.any id:=by
   have el:its.toArray.size=bs.length:=by rw[Bh,←hl,Af]
   rw[el];rw[Gf];simp only[SZ,DE];constructor
   .rintro ⟨i,hi,h⟩;refine⟨bs[i],FH hi,?_⟩;rw[Bk,AA hi]at h;exact h
   .rintro ⟨b,hb,h⟩;obtain⟨i,hi,e⟩:=KD.mp hb;refine⟨i,hi,?_⟩;rw[Bk,AA hi,e];exact h
  rw[e];refine⟨.bl (bs.any id),H,I.kept (t':=tk) λb o eb=>kk b o ?_ (B2 _ eb),rfl,q⟩;intro z;have z':b=s.heap.objs.size:=by simpa using z
  exact absurd (B1 eb) (by rw[z'];exact Ea _)
theorem Q6:∀{its:List Value} {ns:List Int},IntsAre its ns->Au (ns.map V.int) its
 |_,_,.nil=>.nil
 |_,_,.cons n t r=>.cons ⟨t,rfl⟩ (Q6 r)
def X0 (K:Faa):List V->Hp->VK->Prop:=λxs H Q=>∃(p:Addr) (ns:List Int),xs=[.ref p]/\A4 K H p (ns.map V.int)/\ns.length<64/\∀(l:Addr) (ns':List Int),H l=none->ns'.Perm ns->ns'.Pairwise (·<=·)->Q (.ref l) (upd H l (.lst (ns'.map V.int)))
theorem S9:Eg X (.builtin "sorted") (X0 X.K):=by
 intro pins s σ H xs us Q I r h;obtain⟨p,ns,rfl,hq,h64,q⟩:=h;obtain⟨u,rfl,ru⟩:=EJ r;cases ru;obtain⟨its,rv,pl,hz⟩:=I.list hq;have hl:=rv.length;rw[Af]at hl;refine sorted_ints pl.isList (Ra rv) (by lia) λout ns' a1 a2 a3=>?_;obtain⟨e,he⟩:=sortedAll_at s.heap its out;have nl:=a2.length_eq;have hle:s.heap.objs.size<=s.heap.objs.size+1:=FF _;obtain⟨out⟩:=out;exact⟨.ref (s.heap.objs.size+1),_,I.laid (t':=s.toks) (o:=.lst (ns'.map V.int)) (λb o e=>sortedAll_old e) hle ⟨Bp (by rw[Af];lia),out,e,Q6 a1,he⟩,rfl,q _ ns' (I.hok.fresh hle) a2 a3⟩
end
def AS (Ds:List Dw)(k:Nat):Nat:=match Ds[k]? with
 |some D=>D.loops.length
 |none=>0
theorem NW {Ds:List Dw}{k:Nat}{D:Dw}(h:Ds[k]?=some D):AS Ds k=D.loops.length:=by unfold AS;rw[h]
theorem ZV (m i:Nat)(h:i<m):(Fo.ownP m).take (i+1)=(Fo.ownP m).take i++[((i:Int),0)]:=by
 refine Ct ?_;unfold Fo.ownP;rw[Bf,FI h];rfl
theorem Ee (m:Nat):(Fo.ownP m).length=m:=by unfold Fo.ownP;rw[Af,CI]
def JD:AH->Prop
 |.nil=>True
 |.leaf _ _ r=>JD r
 |.node _ _ s r=>s≠.nil/\JD s/\JD r
theorem KQ:∀(f:AH) (B:List AX) (d:Nat),Fo.Is f B d->JD f
 |.nil,B,d,h=>True.intro
 |
  .leaf k pl r,B,d,h=>by
  obtain⟨b,B',rfl,_,_,_,_,h5⟩:=h;exact KQ r B' d h5
 |
  .node c w s r,B,d,h=>by
  obtain⟨b,G,B',rfl,_,_,_,h4,h5⟩:=h;refine⟨λz=>?_,KQ s _ _ h4,KQ r _ _ h5⟩;rw[z]at h4;have h4:b::G=[]:=h4;cases h4
def C1:AH->Nat
 |.nil=>0
 |.leaf _ _ r=>C1 r+1
 |.node _ _ s r=>C1 s+C1 r+1
theorem Lo {H:Hp}:∀{f:AH} {xs:List V},Bb H xs f->xs.length<=C1 f
 |.nil,xs,h=>by have h:xs=[]:=h;subst h;exact Al _
 |
  .leaf k pl r,xs,h=>by
  obtain⟨t,p,ys,rfl,_,_,h1⟩:=h;have:=Lo h1;show ys.length+1<=C1 r+1;lia
 |
  .node c w s r,xs,h=>by
  obtain⟨t,p,zs,ys,rfl,_,_,_,h1⟩:=h;have:=Lo h1;show ys.length+1<=C1 s+C1 r+1;lia
def Dr:AH->List Tr
 |.nil=>[]
 |.leaf k pl r=>.tup [.v (.str "deed"),.v (.int k),Ky pl]::Dr r
 |.node c w s r=>.tup [.v (.str "sweep"),.v (.bl c),.v (.str w),.tup (Dr s)]::Dr r
theorem Ke {H:Hp}{y:V}(h:RI y=true):CZ H (.v y) y:=by rw[CZ];exact⟨rfl,h⟩
theorem Lf {H:Hp}:∀{f:AH} {xs:List V},Bb H xs f->Cj H (Dr f) xs
 |.nil,xs,h=>by have h:xs=[]:=h;subst h;rw[Dr,Cj]
 |
  .leaf k pl r,xs,h=>by
  obtain⟨t,p,ys,rfl,h0,h1,h2⟩:=h;rw[Dr,Cj];refine⟨_,_,rfl,?_,Lf h2⟩;rw[CZ];refine⟨t,_,rfl,h0,?_⟩;rw[Cj];refine⟨_,_,rfl,Ke rfl,?_⟩;rw[Cj];refine⟨_,_,rfl,Ke rfl,?_⟩;rw[Cj];exact⟨_,_,rfl,Yk h1,by rw[Cj]⟩
 |
  .node c w s r,xs,h=>by
  obtain⟨t,p,zs,ys,rfl,h0,h1,h2,h3⟩:=h;rw[Dr,Cj];refine⟨_,_,rfl,?_,Lf h3⟩;rw[CZ];refine⟨t,_,rfl,h0,?_⟩;rw[Cj];refine⟨_,_,rfl,Ke rfl,?_⟩;rw[Cj];refine⟨_,_,rfl,Ke rfl,?_⟩;rw[Cj];refine⟨_,_,rfl,Ke rfl,?_⟩;rw[Cj];refine⟨_,_,rfl,?_,by rw[Cj]⟩;rw[CZ];exact⟨p,zs,rfl,h1,Lf h2⟩
theorem VS {H:Hp}{p:Addr}{f:AH}(h:DA H p f):CZ H (.tup (Dr f)) (.ref p):=by
 obtain⟨xs,h0,h1⟩:=h;rw[CZ];exact⟨p,xs,rfl,h0,Lf h1⟩
theorem Lq:∀f:AH,CU (Dr f)<=2*BF f+1
 |.nil=>by rw[Dr,CU];lia
 |
  .leaf k pl r=>by
  have h1:=Lq r;have h2:=Ud pl;have h3:=IW r;rw[Dr,CU];simp only[CM,CU];show _<=2*BF r+1;lia
 |
  .node c w s r=>by
  have h1:=Lq r;have h2:=Lq s;rw[Dr,CU];simp only[CM,CU];unfold BF;lia
def AR:AH->List Int->Nat->List Bool->List (Fo.En×List Bool)
 |.nil,_,_,_=>[]
 |.leaf k pl rest,p,j,cs=>(⟨k,pl,p++[(j:Int)]⟩,cs)::AR rest p (j+1) cs
 |.node c _ sub rest,p,j,cs=>AR sub (p++[(j:Int)]) 0 (cs++[c])++AR rest p (j+1) cs
def GB (H:Hp)(x:V)(e:Fo.En×List Bool):Prop := ∃t pl pt cu,x = .ref t/\H t=some (.tup [.int e.1.k,.ref pl,.ref pt,.ref cu])/\EE H pl e.1.pl/\H cu=some (.tup (e.2.map V.bl))
theorem GB.tk {H H':Hp}{x:V}{e:Fo.En×List Bool}(h:GB H x e)(k:TK H H'):GB H' x e:=by obtain⟨t,pl,pt,cu,a,b,c,d⟩:=h;exact⟨t,pl,pt,cu,a,k _ _ b,c.tk k,k _ _ d⟩
theorem GB.over {H H':Hp}{x:V}{e:Fo.En×List Bool}(h:GB H x e)(k:A8 H H'):GB H' x e:=h.tk (A8.tk k)
def S6 (n:Nat):Sp:=λvs H Q _=>∃(it pa cu:Addr) (f:AH) (P:List Int) (cs:List Bool),vs=[.ref it,.ref pa,.ref cu]/\DA H it f/\H pa=some (.tup (P.map V.int))/\H cu=some (.tup (cs.map V.bl))/\BF f<=n/\P.length+n<=100/\cs.length+n<=100/\(AR f P 0 cs).length<=1000/\∀(r:Addr) (ys:List V) (H':Hp),A8 H H'->H' r=some (.lst ys)->Am (GB H') ys (AR f P 0 cs)->Q (.ref r) H'
def WN (b:AX):Prop:=b.sh<=b.ways.length/\∀w∈b.ways,w.1=false
theorem LI:∀(f:AH) (B:List AX) (d:Nat) (p:List Int) (j:Nat) (cs:List Bool),Fo.Is f B d->(∀b∈B,WN b)->(AR f p j cs).map (λe=>(e.1.k,e.1.pl,e.2))=B.map λb=>(b.k,b.pl,cs++List.replicate (b.ways.length-d) false)
 |
  .nil,B,d,p,j,cs,h,_=>by
  have h:B=[]:=h;subst h;rfl
 |
  .leaf k pl rest,B,d,p,j,cs,h,hB=>by
  obtain⟨b,B',rfl,rfl,rfl,hl,_,hr⟩:=h;have ih:=LI rest B' d p (j+1) cs hr λb hb=>hB b (CF _ hb);show(b.k,b.pl,cs)::_=(b.k,b.pl,cs++List.replicate (b.ways.length-d) false)::_;rw[ih,show b.ways.length-d=0 by lia];simp
 |
  .node c w sub rest,B,d,p,j,cs,h,hB=>by
  obtain⟨b,G,B',rfl,hw,hG,_,hs,hr⟩:=h;have i1:=LI sub (b::G) (d+1) (p++[(j:Int)]) 0 (cs++[c]) hs λb hb=>hB b (DF _ hb);have i2:=LI rest B' d p (j+1) cs hr λb hb=>hB b (Dj _ hb);have hc:c=false:=(hB b (DF _ Cq)).2 (c,w) (AY hw);subst hc;show List.map _ (AR sub (p++[(j:Int)]) 0 (cs++[false])++AR rest p (j+1) cs)=_;rw[BA,i1,i2,BA];congr 1;refine ON λx hx=>?_;have lx:d<x.ways.length:=by
   rcases Bj.mp hx with rfl|hx'
   .exact(Ax.mp hw).1
   .have:=hG x hx';have:=(hB x (DF _ hx)).1;lia
  rw[show x.ways.length-d=(x.ways.length-(d+1))+1 by lia,KB,CW];rfl
theorem JV:∀(f:AH) (B:List AX) (d n:Nat),Fo.Is f B d->(∀b∈B,b.ways.length<=d+n)->C1 f<=(n+1)*B.length
 |.nil,B,d,n,h,_=>Bv _
 |
  .leaf k pl rest,B,d,n,h,hn=>by
  obtain⟨b,B',rfl,_,_,_,_,hr⟩:=h;have:=JV rest B' d n hr λb hb=>hn b (CF _ hb);show C1 rest+1<=(n+1)*(B'.length+1);rw[Nat.mul_add];lia
 |
  .node c w sub rest,B,d,n,h,hn=>by
  obtain⟨b,G,B',rfl,hw,_,_,hs,hr⟩:=h;have l:=(Ax.mp hw).1;have l2:=hn b (DF _ Cq);obtain⟨n,rfl⟩:∃m,n=m+1:=⟨n-1,by lia⟩
  have i1:=JV sub (b::G) (d+1) n hs λb hb=>by have:=hn b (DF _ hb);lia
  have i2:=JV rest B' d (n+1) hr λb hb=>hn b (Dj _ hb);show C1 sub+C1 rest+1<=(n+1+1)*((b::G)++B').length;rw[Ao,Nat.mul_add];have e:(n+1+1)*(b::G).length=(n+1)*(b::G).length+(b::G).length:=OJ _ _;rw[e,BH]at *;lia
theorem Qx:∀{l m:List Int},l.Perm m->l.Pairwise (·<=·)->m.Pairwise (·<=·)->l=m
 |[],m,h,_,_=>(List.nil_perm.mp h).symm
 |a::l,[],h,_,_=>by cases h.length_eq
 |
  a::l,b::m,h,h1,h2=>by
  obtain⟨a1,a2⟩:=Te.mp h1;obtain⟨b1,b2⟩:=Te.mp h2;have e:a=b:=by
   have hb:b∈a::l:=h.symm.subset Cq;have ha:a∈b::m:=h.subset Cq;rcases Bj.mp hb with z|z
   .exact z.symm
   .rcases Bj.mp ha with y|y
    .exact y
    .have:=a1 b z;have:=b1 a y;lia
  subst e;rw[Qx (List.Perm.cons_inv h) a2 b2]
def Cu (n:Nat):List Int:=(List.range n).map λi:Nat=>(i:Int)
theorem WX (n:Nat):(Cu n).Pairwise (·<=·):=by
 unfold Cu;rw[T3];exact List.Pairwise.imp (fun{a b} h=>by lia) (T6 (n:=n))
theorem RF (n:Nat):FU n=(Cu n).map V.int:=by unfold FU Cu;rw[Gh];rfl
abbrev Lu (Ds:List Dw)(sh:Nat->Nat):List AX:=(List.range Ds.length).map (Fo.ownB ("up":Str) (AS Ds) sh)
theorem Sz {ρ:List (Option Nat)}{σ:St}(o o' p p':Option V):IT (none::none::none::none::ρ) σ (o::o'::p::p'::C3 ρ σ):=by
 refine⟨by unfold C3;simp,λj v e=>?_⟩;cases j with
 |zero=>rw[Fl]at e;simp at e
 |
  succ j=>
  rw[Fl,Fl]at e;cases j with
  |zero=>simp at e
  |
   succ j=>
   rw[Fl]at e;cases j with
   |zero=>simp at e
   |
    succ j=>
    rw[Fl]at e;cases j with
    |zero=>simp at e
    |succ j=>simpa using e
theorem MR.isIn (K:Faa)(n:Bool):MR (Oq K n):=λx y H Q Q' hq zz=>by obtain⟨p,xs,a,b,c,d,e⟩:=zz;exact⟨p,xs,a,b,c,d,hq _ _ e⟩
theorem Mt (z:Str)(ns:List Str):Hd (.str z) (ns.map V.str)=true↔z∈ns:=by
 unfold Hd;rw[SZ];constructor
 .rintro ⟨y,hy,e⟩;obtain⟨n,hn,rfl⟩:=CY.mp hy;have e:(n==z)=true:=e;rw[←Gk.mp e];exact hn
 .intro h;exact⟨.str z,CY.mpr ⟨z,h,rfl⟩,beq_self_eq_true z⟩
theorem bK (c:Nat):(⟨#[c]⟩:Str).length=1:=rfl
theorem UD (c:Nat)(n:Int):(Txt.mul ⟨#[c]⟩ n).length=n.toNat:=by rw[←Ma,cA,Dl]
def NI (P:Program)(w:World)(K:Faa)(a:Addr)(kvs:List (CA×V)):Prop:=
 ∀h:Heap,K.In h->∃vs,KV kvs vs/\h.DictOf (Hf P w) a vs
def Zt (P:Program)(w:World)(K:Faa)(td ty:TE):TE:=fun σ H Q=>td σ H λx H1=>ty σ H1 λy H2=>∃a kvs k v,x = .ref a/\NI P w K a kvs/\y=kV k/\F9 kvs k=some v/\Q v H2
theorem Za {X:Cx}{o i:Expr}{pos:Pos}{td ty:TE}(ho:PE X o td)(hi:PE X i ty)(hs:Rc i):PE X (.Subscript o i pos) (Zt X.prog X.w X.K td ty):=by
 intro pins s σ H Q I h;refine ZC PySem.F.slot_dict_getitem.lookup hs (Ay (ho pins s σ H _ I h) λu s1 zz=>?_);obtain⟨x,H1,I1,rx,q1⟩:=zz;refine Ay (hi pins s1 σ H1 _ I1 q1) λiv s2 zz=>?_;obtain⟨y,H2,I2,ry,a,kvs,k,v,ex,g,ey,l,q2⟩:=zz;subst ex ey;obtain rfl:u=Value.ref a:=rx;obtain⟨vs,rel,dd⟩:=g s2.heap I2.kIn;obtain⟨w',hw,rw'⟩:=ES.some_of (v:=v) (o:=valueAt vs k) (by rw[←l];exact rel.val k);exact⟨dd.typeIs,wpAny_getItem_of (QF ry) dd.mapOf hw ⟨v,H2,I2.tok _,rw',q2⟩⟩
theorem ZG {P:Program}{w:World}{K:Faa}{u p0 p1 p2:Addr}{ep:Nat}{x0 x1 x2:Str}{h0 h1 h2:Int}{t0 t1 t2:Tok}
  (q:K.lookup u=some ⟨.type "dict",none,.dict #[⟨h0,.str x0 t0,.ref p0⟩,⟨h1,.str x1 t1,.ref p1⟩,⟨h2,.str x2 t2,.ref p2⟩] ep,#[]⟩) (e0:h0=hashStr w x0) (e1:h1=hashStr w x1) (e2:h2=hashStr w x2)
  (nd:[x0,x1,x2].Nodup):NI P w K u [(.inr x0,.ref p0),(.inr x1,.ref p1),(.inr x2,.ref p2)]:=λh X=>by
 subst e0 e1 e2;have is:∀(x:Str) (t:Tok),(Hf P w).is (.inr x) (.str x t)=true:=λx t=>QF (k:=.inr x) ⟨t,rfl⟩;refine⟨[(.inr x0,.ref p0),(.inr x1,.ref p1),(.inr x2,.ref p2)],.cons ⟨rfl,rfl⟩ (.cons ⟨rfl,rfl⟩ (.cons ⟨rfl,rfl⟩ .nil)),_,_,_,X _ _ q,⟨rfl,rfl,rfl⟩,rfl,λe he=>?_,.cons (is _ _) rfl (.cons (is _ _) rfl (.cons (is _ _) rfl .nil)),?_⟩
 .simp only[List.mem_toArray,Bj,Ez,or_false]at he;rcases he with rfl|rfl|rfl
  .exact⟨.inr x0,is _ _,rfl⟩
  .exact⟨.inr x1,is _ _,rfl⟩
  .exact⟨.inr x2,is _ _,rfl⟩
 .simp only[Cr,Gg,Ji,Bj,Ez,or_false,not_or,Sum.inr.injEq,not_false_eq_true,List.nodup_nil,and_true]at nd ⊢;exact nd
theorem Nz:∀(c:List Int) (i j:Int) (q r:List Int),HT.lexLt (c++i::q) (c++j::r)=if i=j then HT.lexLt q r else decide (i<j)
 |[],i,j,q,r=>rfl
 |
  x::c,i,j,q,r=>by
  show(if x=x then HT.lexLt (c++i::q) (c++j::r) else _)=_;rw[Av rfl];exact Nz c i j q r
theorem PU:∀p:List Int,HT.lexLt p p=false
 |[]=>rfl
 |
  x::p=>by
  show(if x=x then HT.lexLt p p else _)=_;rw[Av rfl];exact PU p
theorem Sa {x y:List Int}{n:Nat}(h:Fo.Sep x y n):HT.lexLt x y=true/\HT.lexLt y x=false:=by
 obtain⟨c,i,j,q,r,rfl,rfl,_,hij⟩:=h;rw[Nz,Nz,Aw (by lia),Aw (by lia)];exact⟨BB hij,C2 (by lia)⟩
theorem Y8 {f:AH}{B:List AX}{i j s:Nat}{x y:Fo.En}(h:Fo.Is f B 0)(hx:(Fo.deedsF f [] 0)[i]?=some x)(hy:(Fo.deedsF f [] 0)[j]?=some y)(hm:Hk B i j s):HT.lexLt y.path x.path=decide (j<i):=by
 have zero:∀i c,B[i+1]?=some c->0<=c.sh:=λ_ _ _=>Bv _;rcases hm with⟨rfl,_⟩|⟨hij,hl⟩|⟨hij,hl⟩
 .rw[hx]at hy;cases hy;rw[PU];exact(C2 (by lia)).symm
 .rw[(Sa (Fo.deeds_sep f B 0 [] 0 i j s x y h zero hij hx hy hl).2).2];exact(C2 (by lia)).symm
 .rw[(Sa (Fo.deeds_sep f B 0 [] 0 j i s y x h zero hij hy hx hl).2).1];exact(BB hij).symm
def FR (w:Str):List Str:=if w="up" then["more"] else if w="down" then["less"] else["less","more"]
theorem bY {w:Str}(h:w∈Hs)(e:Nat):Gm w e=(FR w).map λz=>(e,z):=by
 have h:w="up"\/w="down"\/w="any":=by
  unfold Hs at h;simp only[Bj,Ez,or_false]at h;exact h
 have a1:¬(("down":Str)="up"):=by decide +kernel
 have a2:¬(("any":Str)="up"):=by decide +kernel
 have a3:¬(("any":Str)="down"):=by decide +kernel
 have a4:¬(("up":Str)="down"):=by decide +kernel
 unfold Gm FR;rcases h with rfl|rfl|rfl
 .simp[a4]
 .simp[a1]
 .simp[a2,a3]
theorem QD {e l:Nat}(h:e=l):(e:Int)=(l:Int):=by rw[h]
theorem Nd {e l:Nat}(h:V.int (e:Int)=V.int (l:Int)):e=l:=by have:=V.int.inj h;lia
structure RB (R:R3):Prop where
 len:R.S.length<=3
 nd:(AB R.S).Nodup
 ne:∀z∈AB R.S,z≠""
 bl:Nk (AB R.S) (Eb R.S) R.S.length
 bh:Nk (AB R.S) (Eo R.S) R.S.length
 pl:R.path.length=R.S.length+1
 m3:R.m<=30
theorem X2 {R R':R3}{D:Cd}{W W':List Int}{case:Nat}(g:RB R)(g':RB R')(ok:F2 R R' D)(wl:W.length=R.S.length)(wl':W'.length=R'.S.length)(cs:case<=D.s):(E3 R R' D case).all (hU (Di W W'))=true↔Oh R W/\Oh R' W'/\(∀i<D.m,(Di W W').getD (D.x1 i).toNat 0+D.n1 i=(Di W W').getD (D.x2 i).toNat 0+D.n2 i)/\(∀e<case,W.getD e 0=W'.getD e 0)/\(case<D.s->W.getD case 0<W'.getD case 0):=by
 have h1:=Qd (U:=Di W W') (W:=W) (first:=1) (Jk _) rfl (λj hj=>Hz hj) wl (g.nd) ok.hu ok.hw;have h2:=Qd (U:=Di W W') (W:=W') (first:=1+(R.S.length:Int)) (by lia) rfl (λj hj=>by rw[←wl];exact Hx) wl' (g'.nd) ok.hu' ok.hw';have k1:D.s<=R.S.length:=ok.pf.1;have k2:D.s<=R'.S.length:=ok.pf.2.1;unfold E3 Gd;rw[Jm,Jm,Jm,Jm,Du,Du,Du,Du,h1,h2,Vw,Wi];have e1:(∀e<case,(Di W W').getD (1+(e:Int)).toNat 0=(Di W W').getD (1+(R.S.length:Int)+(e:Int)).toNat 0)↔∀e<case,W.getD e 0=W'.getD e 0:=by
  constructor
  .intro h e he;have:=h e he;rw[Hz (by lia),←wl,Hx]at this;exact this
  .intro h e he;rw[Hz (by lia),←wl,Hx];exact h e he
 have e2:((if case<D.s then[(1+(case:Int),1+(R.S.length:Int)+(case:Int),(-1:Int))] else[]).all (hU (Di W W'))=true)↔(case<D.s->W.getD case 0<W'.getD case 0):=by
  by_cases z:case<D.s
  .rw[Av z];show(decide _&&true)=true↔_;rw[Bool.and_true,decide_eq_true_iff];dsimp only;rw[Hz (by lia),←wl,Hx];exact⟨λh _=>by lia,λh=>by have:=h z;lia⟩
  .rw[Aw z];exact⟨λ_ h=>absurd h z,λ_=>rfl⟩
 rw[e1,e2];unfold Oh;exact⟨fun⟨⟨⟨a,b⟩,c⟩,d,e⟩=>⟨a,b,c,d,e⟩,fun⟨a,b,c,d,e⟩=>⟨⟨⟨a,b⟩,c⟩,d,e⟩⟩
theorem YB {R R':R3}{D:Cd}{W W':List Int}{case:Nat}(g:RB R)(g':RB R')(ok:F2 R R' D)(wl:W.length=R.S.length)(wl':W'.length=R'.S.length)(cs:case<=D.s):∀b∈E3 R R' D case,Fn (Di W W') b:=by
 have ul:((Di W W').length:Int)=1+(R.S.length:Int)+(R'.S.length:Int):=by
  show(((W++W').length+1:Nat):Int)=_;rw[Ao];lia
 have k1:D.s<=R.S.length:=ok.pf.1;have k2:D.s<=R'.S.length:=ok.pf.2.1;have n1:=g.nd;have n2:=g'.nd;have z1:=g.ne;have z2:=g'.ne;have l1:=F6 R.S;have l2:=F6 R'.S;intro b hb;unfold E3 Gd at hb;rcases Cw.mp hb with hb|hb
 .rcases Cw.mp hb with hb|hb
  .rcases Cw.mp hb with hb|hb
   .refine KN (λi hi=>?_) b hb;have a1:=IQ (n:=R.S.length) (Jk _) (GH n1 z1 (ok.hu i hi)) (by lia);have a2:=IQ (n:=R.S.length) (Jk _) (GH n1 z1 (ok.hw i hi)) (by lia);unfold Fn EV EC;dsimp only;lia
   .refine KN (λi hi=>?_) b hb;have a1:=IQ (n:=R'.S.length) (by lia) (GH n2 z2 (ok.hu' i hi)) (by lia);have a2:=IQ (n:=R'.S.length) (by lia) (GH n2 z2 (ok.hw' i hi)) (by lia);unfold Fn EV EC;dsimp only;lia
  .refine KN (λi hi=>?_) b hb;have a1:=IQ (n:=R.S.length) (Jk _) (ok.hx1 i hi) (by lia);have a2:=IQ (n:=R'.S.length) (by lia) (ok.hx2 i hi) (by lia);unfold Fn;dsimp only;lia
 .rcases Cw.mp hb with hb|hb
  .refine KN (λi hi=>?_) b hb;unfold Fn;dsimp only;lia
  .split at hb
   .rw[Cy.mp hb];unfold Fn;dsimp only;lia
   .cases hb
theorem Py {S:List Lp}(nd:(AB S).Nodup)(ne:∀z∈AB S,z≠""){m:Nat}{z:Nat->Str}(h:∀i<m,Bs S (z i))(first:Int):∃x:Nat->Int,∀i<m,EK (AB S) (z i) first (x i):=by
 have ex:∀i,∃x:Int,i<m->EK (AB S) (z i) first x:=λi=>by
  by_cases hi:i<m
  .have:Bs (S.take S.length) (z i):=by rw[E1];exact h i hi
   rcases aN this with e|⟨j,_,hj⟩
   .exact⟨0,λ_=>.inl ⟨e,rfl⟩⟩
   .exact⟨_,λ_=>Qq nd ne hj first⟩
  .exact⟨0,λh=>absurd h hi⟩
 exact⟨λi=>(ex i).choose,λi hi=>(ex i).choose_spec hi⟩
theorem YZ {R R':R3}{M:Str->Int->Prop}(mo:∀{z:Str} {m n:Int},M z m->M z n->m=n)(g:RB R)(g':RB R'){H:Hp}{r r':Str×Addr}(h:G2 (Bs R.S) M H r)(h':G2 (Bs R'.S) M H r')(e:r.1=r'.1):∃D:Cd,Dg H r.2 D.m D.z1 D.n1/\Dg H r'.2 D.m D.z2 D.n2/\F2 R R' D/\(∀i<D.m,Bs R.S (D.z1 i))/\∀i<D.m,Bs R'.S (D.z2 i):=by
 obtain⟨n,m1,s1⟩:=h;obtain⟨n',m2,s2⟩:=h';rw[e]at m1;have en:n'=n:=by have:=mo m1 m2;lia
 subst en;obtain⟨z1,k1,p1,b1⟩:=R9 s1;obtain⟨z2,k2,p2,b2⟩:=R9 s2;obtain⟨x1,hx1⟩:=Py g.nd g.ne b1 1;obtain⟨x2,hx2⟩:=Py g'.nd g'.ne b2 (1+(R.S.length:Int));have q1:=g.bl;have q2:=g.bh;have q3:=g'.bl;have q4:=g'.bh;obtain⟨u,hu⟩:=M5 q1 1;obtain⟨w,hw⟩:=M5 q2 1;obtain⟨u',hu'⟩:=M5 q3 (1+(R.S.length:Int));obtain⟨w',hw'⟩:=M5 q4 (1+(R.S.length:Int));obtain⟨s,pf⟩:=Nn R.r5 R'.r5;obtain⟨_,_,_,n3,_⟩:=s1;exact⟨⟨n',s,u,w,u',w',z1,z2,k1,k2,x1,x2⟩,p1,p2,⟨n3,hx1,hx2,hu,hw,hu',hw',pf⟩,b1,b2⟩
def Hi (R S:R5):Nat:=(Nn R S).choose
theorem Mf (R S:R5):Ef R S (Hi R S):=(Nn R S).choose_spec
theorem Qe {R S:R5}{k l:Nat}(h:Ef R S k)(g:Ef R S l):k=l:=by
 obtain⟨h1,h2,h3,h4⟩:=h;obtain⟨g1,g2,g3,g4⟩:=g;rcases OQ k l with z|z|z
 .exact absurd (g3 k z) (h4 (by lia))
 .exact z
 .exact absurd (h3 l z) (g4 (by lia))
def Jb (Rs:List R5)(k l:Nat):Nat:=match Rs[k]?,Rs[l]? with
 |some R,some S=>Hi R S
 |_,_=>0
theorem QZ {Rs:List R5}{k l:Nat}{R S:R5}(h:Rs[k]?=some R)(g:Rs[l]?=some S):Jb Rs k l=Hi R S:=by unfold Jb;rw[h,g]
abbrev Q5:=Pm.Q4×Nat
def EF (Rs:List R5)(q:Pm.Q4):List Q5:=(List.range (Dh q.1 q.2.2.1 (Jb Rs q.1 q.2.2.1))).map λe=>(q,e)
def G7 (Rs:List R5):List Q5:=(Pm.mt (C7 Rs)).flatMap (EF Rs)
def Gc (H:Hp)(y:V)(d:Q5):Prop := ∃t,y = .ref t/\H t=some (.tup [.int (d.1.1:Int),.int (d.1.2.1:Int),.int (d.1.2.2.1:Int),.int (d.1.2.2.2:Int),.int (d.2:Int)])
theorem Gc.tk {H H':Hp}{y:V}{d:Q5}(h:Gc H y d)(e:TK H H'):Gc H' y d:=by obtain⟨t,a,b⟩:=h;exact⟨t,a,e _ _ b⟩
theorem Gc.over {H H':Hp}{y:V}{d:Q5}(h:Gc H y d)(e:A8 H H'):Gc H' y d:=h.tk (A8.tk e)
theorem UQ {Rs:List R5}{L:List Pm.Q4}{q:Pm.Q4}{i:Nat}(h:L[i]?=some q):(L.take (i+1)).flatMap (EF Rs)=(L.take i).flatMap (EF Rs)++EF Rs q:=by
 rw[Ct h,Tb];exact congrArg _ (CK _)
theorem aJ {Rs:List R5}(ok:∀R∈Rs,R.Ok)(q:Pm.Q4):(EF Rs q).length<=4:=by
 unfold EF;rw[Af,CI];have:Jb Rs q.1 q.2.2.1<=3:=by
  unfold Jb;split
  .rename_i R S h g;have:=(Mf R S).1;have:=(ok R (AY h)).n3;lia
  .lia
 unfold Dh;split<;>lia
theorem NH {Rs:List R5}(ok:∀R∈Rs,R.Ok):∀L:List Pm.Q4,(L.flatMap (EF Rs)).length<=4*L.length
 |[]=>Al _
 |
  q::L=>by
  rw[List.flatMap_cons,Ao,BH];have:=aJ ok q;have:=NH ok L;lia
def Zn (CP C:Addr)(c:Cs):Sp:=λvs H Q _=>∃(v:V) (Rs:List R5),vs=[v]/\Gv CP C c H v Rs/\(∀R∈Rs,R.Ok)/\Rs.length<=6/\∀(r:Addr) (ys:List V) (H':Hp),A8 H H'->H r=none->H' r=some (.lst ys)->Am (Gc H') ys (G7 Rs)->Q (.ref r) H'
abbrev An:=List B0 ⊕ (List Int×List Int)
def Cv (b:B0):Bd.Bond:=⟨b.1.toNat,b.2.1.toNat,b.2.2⟩
def HP (n bh:Nat)(B:List B0):An:=match Bd.go (B.map Cv) n Bd.st0 with
 |.inl s=>.inr ((((List.range n).map λi=>s.v i-s.v 0).drop 1).take (bh-1),((List.range n).map λi=>s.v i-s.v 0).drop bh)
 |.inr s=>.inl ((Bd.ringOf n (B.map Cv) s).map λi=>B.getD i (0,0,0))
def FK (H:Hp)(v:V):An->Prop
 |.inl L=>∃(t r:Addr) (ys:List V),v = .ref t/\H t=some (.tup [.str "ring",.ref r])/\H r=some (.lst ys)/\Bu H ys L
 |.inr W=>∃(t x y:Addr),v = .ref t/\H t=some (.tup [.str "pair",.ref x,.ref y])/\H x=some (.tup (W.1.map V.int))/\H y=some (.tup (W.2.map V.int))
theorem FK.over {H H':Hp}{v:V}{a:An}(h:FK H v a)(e:A8 H H'):FK H' v a:=by
 cases a with
 |inl L=>obtain⟨t,r,ys,a,b,c,d⟩:=h;exact⟨t,r,ys,a,e _ _ b,e _ _ c,d.over e⟩
 |inr W=>obtain⟨t,x,y,a,b,c,d⟩:=h;exact⟨t,x,y,a,e _ _ b,e _ _ c,e _ _ d⟩
structure Pz (B L:List B0):Prop where
 pos:0<L.length
 mem:∀b∈L,b∈B
 ch:∀k,k+1<L.length->(L.getD k (0,0,0)).2.1=(L.getD (k+1) (0,0,0)).1
 bk:(L.getD (L.length-1) (0,0,0)).2.1=(L.getD 0 (0,0,0)).1
 neg:(L.map λb=>b.2.2).sum<0
 le:L.length<=B.length
def QL (B:List B0)(m n:Nat):An->Prop
 |.inl L=>Pz B L
 |.inr W=>W.1.length=m/\W.2.length=n/\B.all (hU (Di W.1 W.2))=true
def El (n:Nat)(b:B0):Prop:=0<=b.1/\b.1<(n:Int)/\0<=b.2.1/\b.2.1<(n:Int)
theorem S0 {n:Nat}{B:List B0}(h:∀b∈B,El n b):Bd.WF n (B.map Cv):=λb hb=>by
 obtain⟨t,ht,rfl⟩:=CY.mp hb;have:=h t ht;unfold El at this;unfold Cv;dsimp only;lia
theorem HG {B:List B0}{i:Nat}{b:Bd.Bond}(h:(B.map Cv)[i]?=some b):∃t,B[i]?=some t/\Cv t=b:=by
 rw[Bf]at h;exact Jn.mp h
theorem V5 {n bh:Nat}{B:List B0}(h:∀b∈B,El n b)(b1:1<=bh)(bn:bh<=n):QL B (bh-1) (n-bh) (HP n bh B):=by
 unfold HP;rcases Bd.go_ok (n:=n) (by lia) (S0 h) with⟨s,e,hv⟩|⟨s,x0,m,e,hl,r⟩
 .rw[e];generalize hf:(λi=>s.v i-s.v 0)=f at hv;have hf0:f 0=0:=by rw[←hf];exact Int.sub_self _
  show QL B (bh-1) (n-bh) (.inr ((((List.range n).map (λi=>s.v i-s.v 0)).drop 1).take (bh-1),((List.range n).map (λi=>s.v i-s.v 0)).drop bh));rw[hf];show _/\_/\_;obtain⟨k,rfl⟩:∃k,n=bh+k:=⟨n-bh,by lia⟩
  obtain⟨j,rfl⟩:∃j,bh=j+1:=⟨bh-1,by lia⟩
  refine⟨by rw[BE,FG,Af,CI];lia,by rw[FG,Af,CI],?_⟩;have eU:Di ((((List.range (j+1+k)).map f).drop 1).take (j+1-1)) (((List.range (j+1+k)).map f).drop (j+1))=(List.range (j+1+k)).map f:=by
   have e0:(List.range (j+1+k)).map f=0::((List.range (j+1+k)).map f).drop 1:=by
    rw[show j+1+k=(j+k)+1 by lia,T7,Cr,hf0];rfl
   unfold Di;rw[Td];have e2:((List.range (j+1+k)).map f).drop (j+1)=(((List.range (j+1+k)).map f).drop 1).drop j:=by rw[List.drop_drop,KC]
   rw[e2,List.take_append_drop];exact e0.symm
  show B.all (hU (Di _ _))=true;rw[eU,Jj];intro b hb;have hi:=h b hb;have hh:=hv (Cv b) (CY.mpr ⟨b,hb,rfl⟩);unfold El at hi;unfold Cv at hh;dsimp only at hh;unfold hU;have gd:∀x:Int,0<=x->x<((j+1+k:Nat):Int)->((List.range (j+1+k)).map f).getD x.toNat 0=f x.toNat:=λx x0 x1=>by
   rw[Bk,Bf,FI (by lia)];rfl
  rw[gd _ hi.1 hi.2.1,gd _ hi.2.2.1 hi.2.2.2];exact BB hh
 .rw[e];obtain⟨u,ok⟩:∃u,Bd.RingOk (B.map Cv) (Bd.ringOf n (B.map Cv) s) u:=⟨_,r.ok hl⟩
  show Pz B _;generalize Bd.ringOf n (B.map Cv) s=L at ok;have gt:∀k,k<L.length->∃t,(L.map λi=>B.getD i (0,0,0)).getD k (0,0,0)=t/\t∈B/\t.1=(u k:Int)/\t.2.1=(u (k+1):Int):=λk hk=>by
   obtain⟨b,hb,e1,e2⟩:=ok.bond k _ (AA hk);obtain⟨t,ht,rfl⟩:=HG hb;have hi:=h t (AY ht);unfold El at hi;unfold Cv at e1 e2;dsimp only at e1 e2;refine⟨t,?_,AY ht,by lia,by lia⟩;rw[Bk,Bf,AA hk];show B.getD L[k] (0,0,0)=t;rw[Bk,ht];rfl
  have pos:=ok.pos;refine⟨by rw[Af];exact pos,λb hb=>?_,λk hk=>?_,?_,?_,?_⟩
  .obtain⟨i,hi,rfl⟩:=CY.mp hb;obtain⟨k,hk⟩:=DG.mp hi;obtain⟨b,hb,_⟩:=ok.bond k i hk;obtain⟨t,ht,_⟩:=HG hb;rw[Bk,ht];exact AY ht
  .rw[Af]at hk;obtain⟨t,e1,_,_,e2⟩:=gt k (by lia);obtain⟨t',e3,_,e4,_⟩:=gt (k+1) hk;rw[e1,e3,e2,e4]
  .rw[Af];obtain⟨t,e1,_,_,e2⟩:=gt (L.length-1) (by lia);obtain⟨t',e3,_,e4,_⟩:=gt 0 pos;rw[e1,e3,e2,e4,show L.length-1+1=L.length by lia,ok.back]
  .have ng:=ok.neg;have:∀M:List Nat,(∀i∈M,i<B.length)->((M.map λi=>B.getD i (0,0,0)).map λb=>b.2.2).sum=Bd.sumC (B.map Cv) M:=by
    intro M;induction M with
    |nil=>intro _;rfl
    |
     cons i M ih=>
     intro hM;have hi:=hM i Cq;rw[Cr,Cr,List.sum_cons,ih λj hj=>hM j (CF _ hj)];show _=((B.map Cv).getD i Bd.bd0).c+Bd.sumC (B.map Cv) M;rw[Bk,Bk,Bf,AA hi];rfl
   rw[this L λi hi=>?_]
   .exact ng
   .obtain⟨k,hk⟩:=DG.mp hi;obtain⟨b,hb,_⟩:=ok.bond k i hk;obtain⟨t,ht,_⟩:=HG hb;exact(Ax.mp ht).1
  .rw[Af];have:=Bd.nodup_le (k:=List.range B.length) ok.nd λi hi=>by
    obtain⟨k,hk⟩:=DG.mp hi;obtain⟨b,hb,_⟩:=ok.bond k i hk;obtain⟨t,ht,_⟩:=HG hb;exact DE.mpr (Ax.mp ht).1
   rwa [CI]at this
theorem Sl {Rs:List R5}{x:T5}(h:x∈C7 Rs):∃R,Rs[x.k]?=some R:=by
 obtain⟨i,L,e,e1,_⟩:=N6 h;rw[Fh]at e;rw[Bf]at e1;obtain⟨R,hR,_⟩:=Jn.mp e1;exact⟨R,by rw[e];exact hR⟩
theorem Wk {Rs:List R5}{q:Pm.Q4}(h:q∈Pm.mt (C7 Rs)):∃R S,Rs[q.1]?=some R/\Rs[q.2.2.1]?=some S:=by
 unfold Pm.mt Pm.mtF at h;obtain⟨l,hl,hq⟩:=List.mem_flatten.mp h;obtain⟨x,hx,rfl⟩:=CY.mp hl;unfold Pm.in1 at hq;obtain⟨y,hy,rfl⟩:=CY.mp hq;obtain⟨hy,ok⟩:=OF.mp hy;obtain⟨R,a⟩:=Sl hx;obtain⟨S,b⟩:=Sl hy;exact⟨R,S,a,b⟩
theorem bO {n:Nat}{H:Hp}{bl:Addr}{bs:List V}{B:List B0}(h:H bl=some (.lst bs))(t:Bu H bs B)(i:∀b∈B,El n b):Hj H bl (B.map Cv):=by
 refine⟨bs,h,by rw[Af];exact t.1,λk v b hv hb=>?_⟩;obtain⟨tr,ht,rfl⟩:=HG hb;obtain⟨a,ea,ha⟩:=t.2 k v tr hv ht;have:=i tr (AY ht);unfold El at this;refine⟨a,ea,?_⟩;unfold Cv;dsimp only;rw[MQ this.1,MQ this.2.2.1];exact ha
def W2 (CP C:Addr)(c:Cs):Sp:=λvs H Q _=>∃(x dx dl:Addr) (sz:V) (xs:List V) (Rs:List R3) (R R':R3) (k l:Nat) (bl:Addr) (bs:List V) (B:List B0),vs=[.ref x,.int (k:Int),.int (l:Int),.ref bl]/\H x=some (.ins CP dx [("size",sz),("deeds",.ref dl)])/\H dl=some (.lst xs)/\Am (D5 c C H) xs Rs/\Rs[k]?=some R/\Rs[l]?=some R'/\R.S.length<=3/\R'.S.length<=3/\H bl=some (.lst bs)/\Bu H bs B/\B.length<=100/\(∀b∈B,El (1+R.S.length+R'.S.length) b)/\∀(v:Addr) (H':Hp),A8 H H'->(∀fo zs,H fo=some (.lst zs)->FK (wo H' fo) (.ref v) (HP (1+R.S.length+R'.S.length) (1+R.S.length) B))->Q (.ref v) H'
def Sk (H:Hp)(Rs:List R3)(q:Pm.Q4)(D:Cd):Prop := ∃(R R':R3) (r r':Str×Addr),Rs[q.1]?=some R/\R.tch[q.2.1]?=some r/\Rs[q.2.2.1]?=some R'/\R'.tch[q.2.2.2]?=some r'/\Dg H r.2 D.m D.z1 D.n1/\Dg H r'.2 D.m D.z2 D.n2/\F2 R R' D
def GT (H:Hp)(Rs:List R3)(Df:Pm.Q4->Cd):Prop := ∀q∈Pm.mt (C7 (Rs.map R3.r5)),Sk H Rs q (Df q)
theorem GT.over {H H':Hp}{Rs:List R3}{Df:Pm.Q4->Cd}(h:GT H Rs Df)(e:A8 H H'):GT H' Rs Df:=λq hq=>by
 obtain⟨R,R',r,r',a,b,c,d,f,g,i⟩:=h q hq;exact⟨R,R',r,r',a,b,c,d,f.over e,g.over e,i⟩
theorem ZZ {Rs:List R5}{d:Q5}(h:d∈G7 Rs):d.1∈Pm.mt (C7 Rs)/\d.2<Dh d.1.1 d.1.2.2.1 (Jb Rs d.1.1 d.1.2.2.1):=by
 unfold G7 at h;obtain⟨q,hq,hd⟩:=List.mem_flatMap.mp h;unfold EF at hd;obtain⟨e,he,rfl⟩:=CY.mp hd;exact⟨hq,DE.mp he⟩
theorem aH {H:Hp}{Rs:List R3}{Df:Pm.Q4->Cd}{d:Q5}(df:GT H Rs Df)(h:d∈G7 (Rs.map R3.r5)):∃(R R':R3) (r r':Str×Addr),Rs[d.1.1]?=some R/\R.tch[d.1.2.1]?=some r/\Rs[d.1.2.2.1]?=some R'/\R'.tch[d.1.2.2.2]?=some r'/\Dg H r.2 (Df d.1).m (Df d.1).z1 (Df d.1).n1/\Dg H r'.2 (Df d.1).m (Df d.1).z2 (Df d.1).n2/\F2 R R' (Df d.1)/\d.2<Dh d.1.1 d.1.2.2.1 (Df d.1).s/\d.2<=(Df d.1).s:=by
 obtain⟨h1,h2⟩:=ZZ h;obtain⟨R,R',r,r',a,b,c,e,f,g,i⟩:=df d.1 h1;have gR:(Rs.map R3.r5)[d.1.1]?=some R.r5:=by rw[Bf,a];rfl
 have gR':(Rs.map R3.r5)[d.1.2.2.1]?=some R'.r5:=by rw[Bf,c];rfl
 rw[QZ gR gR',Qe (Mf _ _) i.pf]at h2;refine⟨R,R',r,r',a,b,c,e,f,g,i,h2,?_⟩;unfold Dh at h2;split at h2<;>lia
theorem QS {R R':R3}{D:Cd}{case:Nat}(g:RB R)(g':RB R')(ok:F2 R R' D)(cs:case<=D.s):∀b∈E3 R R' D case,El (1+R.S.length+R'.S.length) b:=λb hb=>by
 have:=YB g g' ok (W:=List.replicate R.S.length 0) (W':=List.replicate R'.S.length 0) Dl Dl cs b hb;unfold Fn Di at this;rw[BH,Ao,Dl,Dl]at this;unfold El;lia
theorem D5.nl {c:Cs}{C:Addr}{H H':Hp}{v:V}{R:R3}(h:D5 c C H v R)(e:NL H H'):D5 c C H' v R:=by
 obtain⟨d,dx,nm,lo,hi,pt,x,ls,hs,a,b,f,g,i,j,k,l,m⟩:=h;have tk:=e.tk;exact⟨d,dx,nm,lo,hi,pt,x,ls,hs,a,e _ _ b (λ_ z=>by cases z),tk _ _ f,tk _ _ g,i.mono λ_ _ z=>z.tk tk,tk _ _ j,k.mono λ_ _ z=>z.tk tk,tk _ _ l,m.nl e⟩
def YL (c:Cs)(n:Nat)(ta:TE):TE:=fun σ H_1 Q=>LS c.n (Str.ofString "reads") Rf [] E0 ta Hb σ H_1 Q\/LS c.c (Str.ofString "reads") (Qs c.c) [] E0 ta Hb σ H_1 Q\/LS c.j (Str.ofString "reads") (Nl c n) [] E0 ta Hb σ H_1 Q
theorem On {c:Cs}{n:Nat}{ta:TE}{σ:St}{H H1:Hp}{Q:VK}{v:V}{m:Nat}{rs:CT}(hv:c.v=c.n)(ha:∀R:VK,R v H1->ta σ H R)(h:CJ c H1 m v rs)(hm:m<=n+1)(hn:n<=100)
  (q:∀(p:Addr) (ys:List V) (H':Hp),A8 H1 H'->H' p=some (.lst ys)->DJ H' Qu ys rs->Q (.ref p) H'):YL c n ta σ H Q:=by
 cases h with
 |@num x dx i h=>exact .inl (ha _ ⟨x,dx,_,rfl,h,rfl,_,rfl,λr H' e hr=>q r _ H' e hr .nil⟩)
 |@val x dx z h=>rw[hv]at h;exact .inl (ha _ ⟨x,dx,_,rfl,h,rfl,_,rfl,λr H' e hr=>q r _ H' e hr .nil⟩)
 |@cel x dx p z h=>exact .inr (.inl (ha _ ⟨x,dx,_,rfl,h,rfl,x,dx,z,_,rfl,h,λt' r H' e ht' hr=>q r _ H' e hr (.one (r:=(z,p)) ht')⟩))
 |@joi x dx l r m' k ts us z h a b=>exact .inr (.inr (ha _ ⟨x,dx,_,rfl,h,rfl,x,dx,z,l,r,m',k,ts,us,rfl,h,a,b,hm,hn,q⟩))
theorem Am.mapr {α β:Type}{R:V->β->Prop}{f:α->β}{xs:List V}{as:List α}(h:Am (λv a=>R v (f a)) xs as):Am R xs (as.map f):=⟨by rw[Af];exact h.1,λi x b hx hb=>by
 rw[Bf]at hb;obtain⟨a,ha,rfl⟩:=Jn.mp hb;exact h.2 i x a hx ha⟩
theorem D5.wo {c:Cs}{C:Addr}{H:Hp}{v:V}{R:R3}(h:D5 c C H v R):Jc C H v R.dw:=by
 obtain⟨d,dx,nm,lo,hi,pt,x,ls,hs,rfl,h0,h1,h2,h3,h4,h5,h6,_⟩:=h;refine⟨d,dx,nm,lo,hi,pt,_,_,_,ls,hs,rfl,h0,?_,h2,?_,h4,?_,h6⟩
 .rw[h1];unfold R3.dw AB;rw[Gh,Gh];rfl
 .exact h3.mapr (R:=λv t=>DM H v (G4.lo t)) (f:=Fy)
 .exact h5.mapr (R:=λv t=>DM H v (G4.hi t)) (f:=Fy)
theorem Zx {c:Cs}{C:Addr}{H:Hp}{dl:Addr}{xs:List V}{Rs:List R3}(h:H dl=some (.lst xs))(g:Am (D5 c C H) xs Rs):Kb C H dl (Rs.map R3.dw):=⟨xs,h,Am.mapr (f:=R3.dw) (g.mono λ_ _ z=>z.wo)⟩
theorem Vx {R R':R3}{D:Cd}{case:Nat}(h:R.S.length<=3)(h':R'.S.length<=3)(m3:D.m<=3)(c:case<=3):(E3 R R' D case).length<=40:=by
 unfold E3 Gd;rw[Ao,Ao,Ao,Ao,Iq,Iq];have h1:(IS D).length=2*D.m:=F8 _ _ _;have h2:(He (1+(R.S.length:Int)) case).length=2*case:=F8 _ _ _
 have h3:(if case<D.s then[(1+(case:Int),1+(R.S.length:Int)+(case:Int),(-1:Int))] else[]).length<=1:=by split<;>simp
 lia
def FZ (e:Nat):Rb:=⟨(false,"up"),((e:Int),0),((e:Int),0)⟩
def Eu (s:Nat):List Rb:=(List.range s).map FZ
theorem Rh (s:Nat):Eu (s+1)=Eu s++[FZ s]:=by unfold Eu;rw[Ic,BA];rfl
theorem Zz (s:Nat):(Eu s).length=s:=by unfold Eu;rw[Af,CI]
theorem QB {m e:Nat}(h:e<m):(Fo.ownP m).getD e (0,0)=((e:Int),0):=by
 unfold Fo.ownP;rw[Bk,Bf,FI h];rfl
theorem Sb {m e:Nat}{x y:FM}(h:e<m):(List.replicate m x).getD e y=x:=by
 rw[Bk,List.getElem?_replicate,Av h];rfl
theorem U4 {mf sh:Nat->Nat}{k l s:Nat}(h:s<=mf k)(h':s<=mf l):DC (Fo.ownB ("up":Str) mf sh k) (Fo.ownB ("up":Str) mf sh l) s=Eu s:=by
 unfold DC Eu;refine ON λe he=>?_;have he:=DE.mp he;show Rb.mk ((List.replicate (mf k) ((false,("up":Str)):FM)).getD e (false,"")) ((Fo.ownP (mf k)).getD e (0,0)) ((Fo.ownP (mf l)).getD e (0,0))=_;rw[Sb (by lia),QB (by lia),QB (by lia)];rfl
theorem Ow {beh:Int}{level:Nat}{side:Str}{b:B0}:∀{s:Nat},b∈Da beh level side 0 (Eu s)↔∃e,e<s/\b∈Do beh level side e (FZ e)
 |0=>⟨(λh=>nomatch h),fun⟨e,h,_⟩=>absurd h (OR _)⟩
 |
  s+1=>by
  rw[Rh,KI,Zz,Fh,Cw,Ow (s:=s)];constructor
  .rintro (⟨e,h1,h2⟩|h)
   .exact⟨e,by lia,h2⟩
   .exact⟨s,by lia,h⟩
  .rintro ⟨e,h1,h2⟩;rcases EZ e s with h|h
   .exact .inl ⟨e,h,h2⟩
   .obtain rfl:e=s:=by lia
    exact .inr h2
theorem ZF {level s m n:Nat}{side:Str}(h:s<=m)(h':s<=n):∀b∈Da (1+(m:Int)) level side 0 (Eu s),El (1+m+n) b:=λb hb=>by
 obtain⟨e,he,hb⟩:=Ow.mp hb;unfold Do FZ at hb;unfold El;rcases Cw.mp hb with hb|hb
 .rcases Cw.mp hb with hb|hb
  .split at hb
   .rcases Bj.mp hb with rfl|hb
    .dsimp only;lia
    .rw[Cy.mp hb];dsimp only;lia
   .cases hb
  .split at hb
   .rw[Cy.mp hb];dsimp only;lia
   .cases hb
 .split at hb
  .rw[Cy.mp hb];dsimp only;lia
  .cases hb
theorem RS {beh:Int}{level:Nat}{side:Str}:∀s:Nat,(Da beh level side 0 (Eu s)).length<=4*s
 |0=>Al _
 |
  s+1=>by
  rw[Rh,KI,Ao];have:=RS (beh:=beh) (level:=level) (side:=side) s;have:(Do beh level side (0+(Eu s).length) (FZ s)).length<=4:=by
   unfold Do;rw[Ao,Ao];have a1:∀{p:Prop} [Decidable p] {x y:B0},(if p then[x,y] else[]).length<=2:=fun{p _ x y}=>by split<;>simp
   have a2:∀{p:Prop} [Decidable p] {x:B0},(if p then[x] else[]).length<=1:=fun{p _ x}=>by split<;>simp
   exact Nat.add_le_add (Nat.add_le_add a1 a2) a2
  lia
theorem Sw {mf sh:Nat->Nat}{k:Nat}{q:Sd}:∀{s:Nat},s<=mf k->q∈FD (Fo.ownB ("up":Str) mf sh k) s->q.1<s/\q.2="more"
 |0,_,h=>nomatch h
 |
  s+1,hs,h=>by
  rcases Cw.mp h with h|h
  .have:=Sw (s:=s) (by lia) h;exact⟨by lia,this.2⟩
  .have e:((Fo.ownB ("up":Str) mf sh k).ways.getD s (false,"")).2="up":=by
    show((List.replicate (mf k) (false,("up":Str))).getD s (false,"")).2="up"
    rw[Sb (by lia)]
   rw[e]at h;unfold Gm at h;rw[Aw (λz=>z rfl),Av (by decide +kernel)]at h;rw[Cy.mp h];exact⟨HV _,rfl⟩
theorem YM {R R':R3}{D:Cd}{W W':List Int}{case k l:Nat}{mf sh:Nat->Nat}{q:Sd}(g:RB R)(g':RB R')(ok:F2 R R' D)(wl:W.length=R.S.length)(wl':W'.length=R'.S.length)(cs:case<=D.s)(cl:case<Dh k l D.s)(hk:D.s<=mf k)(hq:q∈EN (Fo.ownB ("up":Str) mf sh k) k l D.s) :
  ¬(E3 R R' D case++Da (1+(R.S.length:Int)) q.1 q.2 0 (Eu D.s)).all (hU (Di W W'))=true:=λhall=>by
 rw[Jm,Du]at hall;obtain⟨h1,h2⟩:=hall;obtain⟨_,_,_,heq,hlt⟩:=(X2 g g' ok wl wl' cs).mp h1;have k1:D.s<=R.S.length:=ok.pf.1;have k2:D.s<=R'.S.length:=ok.pf.2.1;have at':∀{e:Nat} {b:B0},e<D.s->b∈Do (1+(R.S.length:Int)) q.1 q.2 e (FZ e)->hU (Di W W') b=true:=fun{e b} he hb=>Jj.mp h2 b (Ow.mpr ⟨e,he,hb⟩);have eqs:∀{e:Nat},e<D.s->e<q.1->W.getD e 0=W'.getD e 0:=fun{e} he hl=>by
  have a1:=at' (b:=(1+(e:Int),1+(R.S.length:Int)+(e:Int),0-0)) he (by unfold Do FZ;rw[Av ⟨hl,rfl⟩];exact DF _ (DF _ Cq));have a2:=at' (b:=(1+(R.S.length:Int)+(e:Int),1+(e:Int),-(0-0))) he (by unfold Do FZ;rw[Av ⟨hl,rfl⟩];exact DF _ (DF _ (CF _ Cq)));have a1:=Fk a1;have a2:=Fk a2;dsimp only at a1 a2;rw[Hz (by lia),←wl,Hx]at a1;rw[Hz (by lia),←wl,Hx]at a2;lia
 have more:q.1<D.s->q.2="more"->W'.getD q.1 0<W.getD q.1 0:=λhl hm=>by
  have a1:=at' (e:=q.1) (b:=(1+(R.S.length:Int)+(q.1:Int),1+(q.1:Int),-(0-0)-1)) hl (by unfold Do FZ;refine DF _ (Dj _ ?_);rw[Av ⟨rfl,hm⟩];exact Cq);have a1:=Fk a1;dsimp only at a1;rw[Hz (by lia),←wl,Hx]at a1;lia
 rcases Cw.mp hq with h|h
 .obtain⟨l1,l2⟩:=Sw hk h;have hm:=more l1 l2;rcases EZ q.1 case with c|c
  .have:=heq q.1 c;lia
  .have hc:case<D.s:=by lia
   have:=hlt hc;rcases EZ case q.1 with d|d
   .have:=eqs hc d;lia
   .obtain rfl:case=q.1:=by lia
    lia
 .split at h
  .rename_i hlk;rw[Cy.mp h]at eqs;have hc:case<D.s:=by
    unfold Dh at cl;rw[Aw (by lia)]at cl;exact cl
   have:=hlt hc;have:=eqs hc hc;lia
  .cases h
def Pl (R R':R3)(e:Nat):Prop:=e<=R.S.length/\e<=R'.S.length/\(∀j<e,R.path.getD j 0=R'.path.getD j 0)/\R.path.getD e 0<R'.path.getD e 0
theorem Pl.pf {R R':R3}{e:Nat}(h:Pl R R' e):Ef R.r5 R'.r5 e:=⟨h.1,h.2.1,h.2.2.1,λ_=>by have:=h.2.2.2;show R.path.getD e 0≠R'.path.getD e 0;lia⟩
theorem Ef.symm {R R':R5}{e:Nat}(h:Ef R R' e):Ef R' R e:=⟨h.2.1,h.1,λj hj=>(h.2.2.1 j hj).symm,λhl z=>h.2.2.2 (by lia) z.symm⟩
theorem Pl.trans {R1 R2 R3':R3}{a b:Nat}(h:Pl R1 R2 a)(g:Pl R2 R3' b):Pl R1 R3' (min a b):=by
 obtain⟨h1,h2,h3,h4⟩:=h;obtain⟨g1,g2,g3,g4⟩:=g;refine⟨by lia,by lia,λj hj=>(h3 j (by lia)).trans (g3 j (by lia)),?_⟩;rcases OQ a b with c|c|c
 .rw[Dv (by lia),←g3 a c];exact h4
 .subst c;rw[Nat.min_self];lia
 .rw[MO (by lia),h3 b c];exact g4
theorem HQ.pl {R R':R3}(h:HQ R R'):∃e,Pl R R' e:=by
 obtain⟨e,e1,e2,_,e4,e5⟩:=h;refine⟨e,e1,e2,λj hj=>?_,e5⟩;have:=congrArg (λl:List Int=>l.getD j 0) e4;have this:(R.path.take e).getD j 0=(R'.path.take e).getD j 0:=this;rw[Bk,Bk,Jo,Jo,Av hj,Av hj]at this;rw[Bk,Bk];exact this
structure C4 (Rs:List R3)(sh:Nat->Nat):Prop where
 n6:Rs.length<=6
 rb:∀R∈Rs,RB R
 par:Rs.Pairwise HQ
 s0:sh 0=0
 pl:∀k R R',Rs[k]?=some R->Rs[k+1]?=some R'->Pl R R' (sh (k+1))
abbrev B7 (Rs:List R3)(sh:Nat->Nat):List AX:=Lu (Rs.map R3.dw) sh
theorem m7 {Rs:List R3}{k:Nat}{R:R3}(h:Rs[k]?=some R):AS (Rs.map R3.dw) k=R.S.length:=by
 rw[NW (D:=R.dw) (by rw[Bf,h];rfl)];exact Af _
theorem ER {Rs:List R3}{sh:Nat->Nat}{k:Nat}(h:k<Rs.length):(B7 Rs sh)[k]?=some (Fo.ownB ("up":Str) (AS (Rs.map R3.dw)) sh k):=by
 unfold B7 Lu;rw[Bf,Af,FI h];rfl
theorem Fm {Rs:List R3}{sh:Nat->Nat}{k:Nat}{b:AX}(h:(B7 Rs sh)[k]?=some b):k<Rs.length/\b=Fo.ownB ("up":Str) (AS (Rs.map R3.dw)) sh k:=by
 have hk:k<Rs.length:=by
  have:=(Ax.mp h).1;rw[Af,CI,Af]at this;exact this
 rw[ER hk]at h;exact⟨hk,(CV h).symm⟩
section
variable {Rs:List R3}{sh:Nat->Nat}
theorem C4.get (h:C4 Rs sh){k:Nat}(hk:k<Rs.length):Rs[k]?=some Rs[k]/\RB Rs[k]:=⟨AA hk,h.rb _ (FH hk)⟩
theorem C4.shm (h:C4 Rs sh){k:Nat}(hk:k<Rs.length):sh k<=AS (Rs.map R3.dw) k:=by
 cases k with
 |zero=>rw[h.s0];exact Bv _
 |
  succ k=>
  have:=h.pl k _ _ (h.get (k:=k) (by lia)).1 (h.get hk).1;rw[m7 (h.get hk).1];exact this.2.1
theorem C4.shp (h:C4 Rs sh){k:Nat}(hk:k+1<Rs.length):sh (k+1)<=AS (Rs.map R3.dw) k:=by
 rw[m7 (h.get (k:=k) (by lia)).1];exact(h.pl k _ _ (h.get (k:=k) (by lia)).1 (h.get hk).1).1
theorem C4.least (h:C4 Rs sh){i:Nat}{R:R3}(hi:Rs[i]?=some R):∀(d:Nat) {R':R3},Rs[i+1+d]?=some R'->∃s,Fo.Least (B7 Rs sh) i (i+1+d) s/\Pl R R' s
 |
  0,R',hj=>by
  have hj:Rs[i+1]?=some R':=hj;have hl:=(Ax.mp hj).1;refine⟨sh (i+1),⟨⟨i+1,_,by lia,Al _,ER hl,rfl⟩,λj c h1 h2 hc=>?_⟩,h.pl i R R' hi hj⟩;obtain rfl:j=i+1:=by lia
  rw[(Fm hc).2];exact Al _
 |
  d+1,R',hj=>by
  have hl:=(Ax.mp hj).1;have hm:=(h.get (k:=i+1+d) (by lia)).1;obtain⟨s,⟨⟨j0,c0,a1,a2,a3,a4⟩,a5⟩,p⟩:=h.least hi d hm;have p2:=h.pl (i+1+d) _ R' hm hj;have p3:=p.trans p2;rcases Nat.le_total s (sh (i+1+d+1)) with c|c
  .rw[Dv c]at p3;refine⟨s,⟨⟨j0,c0,a1,by lia,a3,a4⟩,λj e h1 h2 he=>?_⟩,p3⟩;rcases EZ j (i+1+(d+1)) with z|z
   .exact a5 j e h1 (by lia) he
   .obtain rfl:j=i+1+d+1:=by lia
    rw[(Fm he).2];exact c
  .rw[MO c]at p3;refine⟨sh (i+1+d+1),⟨⟨i+1+d+1,_,by lia,Al _,ER hl,rfl⟩,λj e h1 h2 he=>?_⟩,p3⟩;rcases EZ j (i+1+(d+1)) with z|z
   .exact Ey c (a5 j e h1 (by lia) he)
   .obtain rfl:j=i+1+d+1:=by lia
    rw[(Fm he).2];exact Al _
theorem Yj {B:List AX}{i j s s':Nat}(h:Fo.Least B i j s)(g:Fo.Least B i j s'):s=s':=by
 obtain⟨⟨a,c,a1,a2,a3,rfl⟩,h2⟩:=h;obtain⟨⟨b,d,b1,b2,b3,rfl⟩,g2⟩:=g;have:=h2 b d b1 b2 b3;have:=g2 a c a1 a2 a3;lia
theorem C4.lt (h:C4 Rs sh){i j s:Nat}{R R':R3}(hi:Rs[i]?=some R)(hj:Rs[j]?=some R')(hl:i<j)(hs:Fo.Least (B7 Rs sh) i j s):Pl R R' s:=by
 obtain⟨d,rfl⟩:∃d,j=i+1+d:=⟨j-i-1,by lia⟩
 obtain⟨s',h1,h2⟩:=h.least hi d hj;rw[Yj hs h1];exact h2
theorem C4.many (h:C4 Rs sh){i j s:Nat}{R R':R3}(hi:Rs[i]?=some R)(hj:Rs[j]?=some R')(hm:Hk (B7 Rs sh) i j s):Ef R.r5 R'.r5 s:=by
 rcases hm with⟨rfl,b,hb,rfl⟩|⟨hl,hs⟩|⟨hl,hs⟩
 .rw[hi]at hj;obtain rfl:=CV hj;rw[(Fm hb).2];show Ef R.r5 R.r5 (List.replicate (AS (Rs.map R3.dw) i) (false,("up":Str))).length;rw[Dl,m7 hi];exact⟨Al _,Al _,λ_ _=>rfl,λz=>absurd z (by show ¬R.S.length<min R.S.length R.S.length;lia)⟩
 .exact(h.lt hi hj hl hs).pf
 .exact(h.lt hj hi hl hs).pf.symm
theorem C4.good (h:C4 Rs sh):K0 (B7 Rs sh)/\((B7 Rs sh).map (·.k)).Nodup:=by
 have wl:∀k,(Fo.ownB ("up":Str) (AS (Rs.map R3.dw)) sh k).ways.length=AS (Rs.map R3.dw) k:=λk=>Dl;have mem:∀b∈B7 Rs sh,∃k,k<Rs.length/\b=Fo.ownB ("up":Str) (AS (Rs.map R3.dw)) sh k:=λb hb=>by
  obtain⟨k,hk⟩:=DG.mp hb;exact⟨k,Fm hk⟩
 refine⟨⟨⟨λb hb=>?_,λi b c hb hc=>?_⟩,λb hb=>?_,λb hb=>?_,?_⟩,?_⟩
 .obtain⟨k,hk,rfl⟩:=mem b hb;rw[wl];exact h.shm hk
 .obtain⟨h1,rfl⟩:=Fm hb;obtain⟨h2,rfl⟩:=Fm hc;have s1:=h.shp h2;have s2:=h.shm h2;refine⟨by rw[wl];exact s1,?_⟩;show(List.replicate _ _).take (sh (i+1))=(List.replicate _ _).take (sh (i+1));rw[OT,OT,Dv s1,Dv s2]
 .rw[Tc]at hb;rw[(Fm hb).2];exact h.s0
 .obtain⟨k,hk,rfl⟩:=mem b hb;have n6:=h.n6;have m3:AS (Rs.map R3.dw) k<=3:=by rw[m7 (h.get hk).1];exact(h.get hk).2.len
  refine⟨by rw[wl];lia,?_,by rw[wl];exact h.shm hk,λw hw=>?_,?_,?_,λp hp=>?_⟩
  .rw[wl];exact Ee _
  .rw[(List.mem_replicate.mp hw).2];exact Cq
  .show(0:Int)<=(k:Int)
   lia
  .show(k:Int)<=5;lia
  .obtain⟨e,he,rfl⟩:=CY.mp hp;have he:=DE.mp he;dsimp only;lia
 .rw[Af,CI,Af];exact h.n6
 .unfold B7 Lu;rw[Gh];refine List.Pairwise.map _ (λx y hne e=>hne ?_) List.nodup_range;have e:(x:Int)=(y:Int):=e;lia
theorem RB.ok3 {R:R3}(h:RB R):Ss R.dw:=by
 have nm:Iy R.dw=AB R.S:=by
  unfold Iy R3.dw AB;rw[Gh];rfl
 refine⟨by show(R.S.map Fy).length<=3;rw[Af];exact h.len,by show R.path.length=(R.S.map Fy).length+1;rw[Af];exact h.pl,by rw[nm];exact h.nd,λe t ht=>?_⟩;have ht:(R.S.map Fy)[e]?=some t:=ht;rw[Bf]at ht;obtain⟨q,hq,rfl⟩:=Jn.mp ht;have hl:=(Ax.mp hq).1;have l1:Eb R.S e=q.lz:=by unfold Eb;rw[hq];rfl
 have l2:Eo R.S e=q.hz:=by unfold Eo;rw[hq];rfl
 have key:∀{z:Str},(z=""\/(z≠""/\∃j:Nat,j<e/\(AB R.S)[j]?=some z))->z=("":Str)\/z∈(Iy R.dw).take e:=fun{z} hz=>by
  rcases hz with hz|⟨_,j,hj,hz⟩
  .exact .inl hz
  .refine .inr (AY (i:=j) ?_);rw[nm,Jo,Av hj];exact hz
 refine⟨key ?_,key ?_⟩
 .have:=h.bl e hl;rw[l1]at this;exact this
 .have:=h.bh e hl;rw[l2]at this;exact this
theorem C4.okW (h:C4 Rs sh):V2 (Rs.map R3.dw):=by
 refine⟨λD hD=>?_,by rw[Af];have:=h.n6;lia,S4 h.par⟩;obtain⟨R,hR,rfl⟩:=CY.mp hD;exact(h.rb R hR).ok3
end
def HL (R R':R3)(D:Cd)(case:Nat)(q:Sd):List B0:=E3 R R' D case++Da (1+(R.S.length:Int)) q.1 q.2 0 (Eu D.s)
def KS:An->List B0
 |.inl L=>L
 |.inr _=>[]
def FO:An->Bool
 |.inl _=>true
 |.inr _=>false
def Gq (R R':R3)(D:Cd)(case:Nat):An:=HP (1+R.S.length+R'.S.length) (1+R.S.length) (E3 R R' D case)
def Jw (R R':R3)(D:Cd)(case:Nat)(q:Sd):An:=HP (1+R.S.length+R'.S.length) (1+R.S.length) (HL R R' D case q)
def J0 (R R':R3)(D:Cd)(case:Nat)(q:Sd):List B0:=if FO (Gq R R' D case)=true then KS (Gq R R' D case) else KS (Jw R R' D case q)
theorem Ue {an:An}(h:FO an=true):an = .inl (KS an):=by
 cases an with
 |inl L=>rfl
 |inr W=>cases h
section
variable {R R':R3}{D:Cd}{case k l:Nat}{mf sh:Nat->Nat}{q:Sd}
theorem Qn (g:RB R)(g':RB R')(ok:F2 R R' D)(cs:case<=D.s):∀b∈HL R R' D case q,El (1+R.S.length+R'.S.length) b:=λb hb=>by
 rcases Cw.mp hb with hb|hb
 .exact QS g g' ok cs b hb
 .exact ZF ok.pf.1 ok.pf.2.1 b hb
theorem TF (g:RB R)(g':RB R')(ok:F2 R R' D)(cs:case<=D.s):(HL R R' D case q).length<=100:=by
 have k1:D.s<=R.S.length:=ok.pf.1;have h1:=g.len;have:=Vx (R:=R) (R':=R') (D:=D) (case:=case) g.len g'.len ok.m3 (by lia);have:=RS (beh:=1+(R.S.length:Int)) (level:=q.1) (side:=q.2) D.s;unfold HL;rw[Ao];lia
theorem YS (g:RB R)(g':RB R')(ok:F2 R R' D)(cs:case<=D.s)(cl:case<Dh k l D.s)(hk:D.s<=mf k)(hq:q∈EN (Fo.ownB ("up":Str) mf sh k) k l D.s):FO (Jw R R' D case q)=true:=by
 have h:=V5 (n:=1+R.S.length+R'.S.length) (bh:=1+R.S.length) (Qn (q:=q) g g' ok cs) (by lia) (by lia);unfold Jw;cases ha:HP (1+R.S.length+R'.S.length) (1+R.S.length) (HL R R' D case q) with
 |inl L=>rfl
 |
  inr W=>
  rw[ha]at h;obtain⟨h1,h2,h3⟩:=h;exact absurd h3 (YM g g' ok (by lia) (by lia) cs cl hk hq)
end
abbrev Pp:=Q5×Sd×List B0
def K2 (Rs:List R3)(Df:Pm.Q4->Cd)(sh:Nat->Nat)(d:Q5):List Pp:=match Rs[d.1.1]?,Rs[d.1.2.2.1]? with
 |some R,some R'=>(EN (Fo.ownB ("up":Str) (AS (Rs.map R3.dw)) sh d.1.1) d.1.1 d.1.2.2.1 (Df d.1).s).map λq=>(d,q,J0 R R' (Df d.1) d.2 q)
 |_,_=>[]
theorem Vh {Rs:List R3}{Df:Pm.Q4->Cd}{sh:Nat->Nat}{d:Q5}{R R':R3}(h:Rs[d.1.1]?=some R)(g:Rs[d.1.2.2.1]?=some R'):K2 Rs Df sh d=(EN (Fo.ownB ("up":Str) (AS (Rs.map R3.dw)) sh d.1.1) d.1.1 d.1.2.2.1 (Df d.1).s).map λq=>(d,q,J0 R R' (Df d.1) d.2 q):=by
 unfold K2;rw[h,g]
def Sm (Rs:List R3)(Df:Pm.Q4->Cd)(sh:Nat->Nat):List Pp:=(G7 (Rs.map R3.r5)).flatMap (K2 Rs Df sh)
def IX (H:Hp)(y:V)(p:Pp):Prop := ∃(t r:Addr) (ys:List V),y = .ref t/\H t=some (.tup [.int (p.1.1.1:Int),.int (p.1.1.2.1:Int),.int (p.1.1.2.2.1:Int),.int (p.1.1.2.2.2:Int),.int (p.1.2:Int),.int (p.2.1.1:Int),.str p.2.1.2,.ref r])/\H r=some (.lst ys)/\Bu H ys p.2.2
theorem IX.over {H H':Hp}{y:V}{p:Pp}(h:IX H y p)(e:A8 H H'):IX H' y p:=by
 obtain⟨t,r,ys,a,b,c,d⟩:=h;exact⟨t,r,ys,a,e _ _ b,e _ _ c,d.over e⟩
def bT (CP C:Addr)(c:Cs):Sp:=λvs H Q _=>∃(x dx dl:Addr) (sz:V) (xs:List V) (Rs:List R3) (R R':R3) (r r':Str×Addr) (k a l b case:Nat) (D:Cd),vs=[.ref x,.int (k:Int),.int (a:Int),.int (l:Int),.int (b:Int),.int (case:Int)]/\H x=some (.ins CP dx [("size",sz),("deeds",.ref dl)])/\H dl=some (.lst xs)/\Am (D5 c C H) xs Rs/\Rs[k]?=some R/\Rs[l]?=some R'/\RB R/\RB R'/\R.r5.Ok/\R'.r5.Ok/\R.tch[a]?=some r/\R'.tch[b]?=some r'/\Dg H r.2 D.m D.z1 D.n1/\Dg H r'.2 D.m D.z2 D.n2/\F2 R R' D/\case<=D.s/\∀(q:Addr) (ys:List V) (H':Hp),A8 H H'->H q=none->H' q=some (.lst ys)->Bu H' ys (E3 R R' D case)->Q (.ref q) H'
def VZ:Sp:=λvs H Q _=>∃(pr:V) (p:Addr) (B:List AX) (i j s:Nat) (b c:AX),vs=[pr,.ref p,.int b.k,.int c.k]/\GQ H p B/\B[i]?=some b/\B[j]?=some c/\Hk B i j s/\∀(r:Addr) (ys:List V) (H':Hp),A8 H H'->H r=none->H' r=some (.lst ys)->Am (Hy H') ys (EN b i j s)->Q (.ref r) H'
def Z7 (zs:List Str)(z:Str):Prop:=z=""\/z∈zs
def M7 (z:Str)(m:Int):Prop:=(z="a"/\m=1)\/(z="b"/\m=2)\/(z="c"/\m=3)
theorem M7.one {z:Str}{m n:Int}(h:M7 z m)(g:M7 z n):m=n:=by
 have ab:("a":Str)≠"b":=by decide +kernel
 have ac:("a":Str)≠"c":=by decide +kernel
 have bc:("b":Str)≠"c":=by decide +kernel
 rcases h with⟨rfl,rfl⟩|⟨rfl,rfl⟩|⟨rfl,rfl⟩<;>rcases g with⟨e,rfl⟩|⟨e,rfl⟩|⟨e,rfl⟩<;>first|rfl|exact absurd e ab|exact absurd e.symm ab|exact absurd e ac|exact absurd e.symm ac|exact absurd e bc|exact absurd e.symm bc
def XY:Sp:=λvs H Q _=>∃(nt:Addr) (zs:List Str) (q far:Int),vs=[.ref nt,.int q,.int far]/\H nt=some (.tup (zs.map V.str))/\zs.length<=3/\∀(t:Addr) (z:Str) (n:Int) (H':Hp),A8 H H'->H' t=some (.tup [.str z,.int n])->Z7 zs z->Q (.ref t) H'
def V7:Sp:=λvs H Q _=>∃(nt:Addr) (zs:List Str) (q far:Int),vs=[.ref nt,.int q,.int far]/\H nt=some (.tup (zs.map V.str))/\zs.length<=3/\∀(t p:Addr) (z:Str) (H':Hp),A8 H H'->H' t=some (.tup [.str z,.ref p])->G2 (Z7 zs) M7 H' (z,p)->Q (.ref t) H'
def F0 (H:Hp)(v:V)(q:Lp):Prop := ∃p p1 p2,v = .ref p/\H p=some (.tup [.str q.nm,.ref p1,.ref p2])/\H p1=some (.tup [.str q.lz,.int q.ln])/\H p2=some (.tup [.str q.hz,.int q.hn])
theorem F0.tk {H H':Hp}{v:V}{q:Lp}(h:F0 H v q)(e:TK H H'):F0 H' v q:=by obtain⟨p,p1,p2,a,b,c,d⟩:=h;exact⟨p,p1,p2,a,e _ _ b,e _ _ c,e _ _ d⟩
theorem F0.over {H H':Hp}{v:V}{q:Lp}(h:F0 H v q)(e:A8 H H'):F0 H' v q:=h.tk (A8.tk e)
def Io (zs:List Str)(q:Lp):Prop:=q.nm≠""/\q.nm∉zs/\Z7 zs q.lz/\Z7 zs q.hz
def ID (H:Hp)(v:V):Prop:=v = .non\/∃q,F0 H v q/\q.nm≠""
theorem ID.tk {H H':Hp}{v:V}(h:ID H v)(e:TK H H'):ID H' v:=h.imp id fun⟨q,a,b⟩=>⟨q,a.tk e,b⟩
def bt:Sp:=λvs H Q _=>∃(nl:Addr) (zs:List Str) (q far tn:Int) (la:V),vs=[.ref nl,.int q,.int far,.int tn,la]/\H nl=some (.lst (zs.map V.str))/\zs.length<=3/\ID H la/\∀(r:V) (H':Hp) (l:Lp),A8 H H'->F0 H' r l->Io zs l->Q r H'
def Fs (z:Str):Nat->Str
 |0=>z
 |n+1=>Fs z n++"x"
theorem Lj (z:Str):∀n:Nat,(Fs z n).length=z.length+n
 |0=>rfl
 |
  n+1=>by
  show(Fs z n++"x").length=_;rw[bU,Lj z n,show("x":Str).length=1 from by decide +kernel];lia
theorem YJ {z:Str}{i:Nat}{zs:List Str}(h:∀j<i,Fs z j∈zs):i<=zs.length:=by
 have nd:((List.range i).map (Fs z)).Nodup:=by
  refine List.Pairwise.map _ (λx y hne e=>hne ?_) List.nodup_range;have:=congrArg Str.length e;rw[Lj,Lj]at this;lia
 have:=nodup_le nd (k:=zs) λx hx=>by
  obtain⟨j,hj,rfl⟩:=CY.mp hx;exact h j (DE.mp hj)
 rwa [Af,CI]at this
theorem RV (zs:List Str):(zs.map V.str).all E5=true:=by rw[List.all_map];exact Jj.mpr λ_ _=>rfl
def Ii (H:Hp)(v:V)(r:Str×Addr):Prop := ∃t,v = .ref t/\H t=some (.tup [.str r.1,.ref r.2])
theorem Ii.tk {H H':Hp}{v:V}{r:Str×Addr}(h:Ii H v r)(e:TK H H'):Ii H' v r:=by obtain⟨t,a,b⟩:=h;exact⟨t,a,e _ _ b⟩
def EO (H:Hp)(v:V)(R:R3):Prop := ∃(r u1 u2 u3 u4 u5:Addr) (ls hs rs:List V),v = .ref r/\H r=some (.tup [.ref u1,.ref u2,.ref u3,.str R.z,.ref R.p,.ref u5,.ref u4])/\H u1=some (.tup ((AB R.S).map V.str))/\H u2=some (.tup ls)/\Am (λv q=>DM H v (q.lz,q.ln)) ls R.S/\H u3=some (.tup hs)/\Am (λv q=>DM H v (q.hz,q.hn)) hs R.S/\H u4=some (.tup (R.path.map V.int))/\H u5=some (.tup rs)/\Am (Ii H) rs R.rs/\R.m=R.rs.length+1
theorem EO.tk {H H':Hp}{v:V}{R:R3}(h:EO H v R)(e:TK H H'):EO H' v R:=by
 obtain⟨r,u1,u2,u3,u4,u5,ls,hs,rs,a,b,c,d,f,g,i,j,k,l,m⟩:=h;exact⟨r,u1,u2,u3,u4,u5,ls,hs,rs,a,e _ _ b,e _ _ c,e _ _ d,f.mono λ_ _ z=>z.tk e,e _ _ g,i.mono λ_ _ z=>z.tk e,e _ _ j,e _ _ k,l.mono λ_ _ z=>z.tk e,m⟩
def FY (H:Hp)(R:R3):Prop := ∀t∈R.tch,G2 (Bs R.S) M7 H t
theorem JK {Z:Str->Prop}{M:Str->Int->Prop}{H H':Hp}{r:Str×Addr}(h:G2 Z M H r)(e:TK H H'):G2 Z M H' r:=by
 obtain⟨n,a,xs,b,c,d,f⟩:=h;exact⟨n,a,xs,e _ _ b,c,d,λv hv=>let ⟨t,z,k,x,y,w⟩:=f v hv;⟨t,z,k,x,e _ _ y,w⟩⟩
theorem FY.tk {H H':Hp}{R:R3}(h:FY H R)(e:TK H H'):FY H' R:=λt ht=>JK (h t ht) e
theorem TV {S:List Lp}{z:Str}(h:Z7 (AB S) z):Bs S z:=h.imp id λh=>by
 obtain⟨q,hq,rfl⟩:=CY.mp h;exact⟨q,hq,rfl⟩
theorem Qz {S:List Lp}{H:Hp}{r:Str×Addr}(h:G2 (Z7 (AB S)) M7 H r):G2 (Bs S) M7 H r:=by
 obtain⟨n,a,xs,b,c,d,f⟩:=h;exact⟨n,a,xs,b,c,d,λv hv=>let ⟨t,z,k,x,y,w⟩:=f v hv;⟨t,z,k,x,y,TV w⟩⟩
def aV:Sp:=λvs H Q _=>∃(st pa:Addr) (cell far lim:Int) (S:List Lp) (P:List Int) (sv:List V),vs=[.ref st,.ref pa,.int cell,.int far,.int lim]/\H st=some (.lst sv)/\Am (F0 H) sv S/\S.length<=3/\H pa=some (.lst (P.map V.int))/\P.length<=10/\1<=lim/\lim<=6/\∀(r:Addr) (H':Hp) (R:R3),A8 H H'->EO H' (.ref r) R->R.S=S->R.path=P->FY H' R->R.m<=30->Q (.ref r) H'
def DN (S:List Lp):Prop:=S.length<=3/\∀(i:Nat) (q:Lp),S[i]?=some q->Io (AB (S.take i)) q
theorem DN.snoc {S:List Lp}{q:Lp}(h:DN S)(l:S.length<3)(g:Io (AB S) q):DN (S++[q]):=by
 refine⟨by rw[Ao,Bi];lia,λi r hr=>?_⟩;rcases EZ i S.length with c|c
 .rw[CH c]at hr;rw[EA (by lia)];exact h.2 i r hr
 .have il:=(Ax.mp hr).1;rw[Ao,Bi]at il;obtain rfl:i=S.length:=by lia
  rw[Ck (Al _),DZ]at hr;cases hr;rw[List.take_left];exact g
theorem DN.init {S:List Lp}{q:Lp}(h:DN (S++[q])):DN S/\Io (AB S) q:=by
 have l:=h.1;rw[Ao,Bi]at l;refine⟨⟨by lia,λi r hr=>?_⟩,?_⟩
 .have il:=(Ax.mp hr).1;have:=h.2 i r (by rw[CH il];exact hr)
  rwa [EA (by lia)]at this
 .have:=h.2 S.length q (by rw[Ck (Al _),DZ];rfl)
  rwa [List.take_left]at this
theorem DN.nd:∀{n:Nat} {S:List Lp},S.length=n->DN S->(AB S).Nodup/\∀z∈AB S,z≠""
 |0,S,l,h=>by rw[OU l];exact⟨List.nodup_nil,λz hz=>nomatch hz⟩
 |
  n+1,S,l,h=>by
  obtain⟨S',q,rfl,l'⟩:=Jz l;obtain⟨h1,h2⟩:=h.init;obtain⟨n1,n2⟩:=DN.nd l' h1;unfold AB;rw[BA];refine⟨List.nodup_append.mpr ⟨n1,List.pairwise_singleton _ _,λx hx y hy e=>?_⟩,λz hz=>?_⟩
  .have hy:y∈[q.nm]:=hy;rw[Cy.mp hy]at e;exact h2.2.1 (e▸hx)
  .rcases Cw.mp hz with hz|hz
   .exact n2 z hz
   .have hz:z∈[q.nm]:=hz;rw[Cy.mp hz];exact h2.1
theorem DN.bn {S:List Lp}(h:DN S){f:Lp->Str}(hf:∀zs q,Io zs q->Z7 zs (f q)){i:Nat}(hi:i<S.length):f S[i]=""\/(f S[i]≠""/\∃j:Nat,j<i/\(AB S)[j]?=some (f S[i])):=by
 rcases Classical.em (f S[i]="") with e|e
 .exact .inl e
 .refine .inr ⟨e,?_⟩;rcases hf _ _ (h.2 i _ (AA hi)) with z|z
  .exact absurd z e
  .obtain⟨j,hj⟩:=DG.mp z;unfold AB at hj ⊢;rw[Bf]at hj;obtain⟨q,hq,eq⟩:=Jn.mp hj;rw[Jo]at hq;split at hq
   .rename_i c;exact⟨j,c,by rw[Bf,hq];exact congrArg some eq⟩
   .cases hq
theorem DN.rb {R:R3}(h:DN R.S)(pl:R.path.length=R.S.length+1)(m:R.m<=30):RB R:=by
 obtain⟨n1,n2⟩:=DN.nd rfl h;refine⟨h.1,n1,n2,λi hi=>?_,λi hi=>?_,pl,m⟩
 .have:=h.bn (f:=Lp.lz) (λ_ _ g=>g.2.2.1) hi
  rwa [show Eb R.S i=R.S[i].lz from by unfold Eb;rw[AA hi];rfl]
 .have:=h.bn (f:=Lp.hz) (λ_ _ g=>g.2.2.2) hi
  rwa [show Eo R.S i=R.S[i].hz from by unfold Eo;rw[AA hi];rfl]
structure D7 (Rs:List R3)(S:List Lp)(P:List Int):Prop where
 so:DN S
 pl:P.length=S.length+1
 ah:∀R∈Rs,∃e,e<=R.S.length/\e<=S.length/\R.S.take e=S.take e/\R.path.take e=P.take e/\R.path.getD e 0<P.getD e 0
 pr:Rs.Pairwise HQ
 rb:∀R∈Rs,RB R
 z0:Rs=[]->∀x∈P,x=0
theorem D7.nil:D7 [] [] [0]:=⟨⟨Bv _,λi q h=>by cases h⟩,rfl,(λ_ h=>nomatch h),List.Pairwise.nil,(λ_ h=>nomatch h),λ_ x hx=>Cy.mp hx⟩
theorem D7.opn {Rs:List R3}{S:List Lp}{P:List Int}{q:Lp}(h:D7 Rs S P)(l:S.length<3)(g:Io (AB S) q):D7 Rs (S++[q]) (P++[0]):=by
 refine⟨h.so.snoc l g,by rw[Ao,Ao,h.pl];rfl,λR hR=>?_,h.pr,h.rb,λe x hx=>?_⟩
 .obtain⟨e,e1,e2,e3,e4,e5⟩:=h.ah R hR;have:=h.pl;refine⟨e,e1,by rw[Ao];lia,?_,?_,?_⟩
  .rw[EA e2];exact e3
  .rw[EA (by lia)];exact e4
  .rw[Lr (by lia)];exact e5
 .rcases Cw.mp hx with hx|hx
  .exact h.z0 e x hx
  .exact Cy.mp hx
theorem P3 {P:List Int}{x:Int}{a:Int}{e:Nat}(he:e<=P.length)(h:a<(P++[x]).getD e 0):a<(P++[x+1]).getD e 0:=by
 rcases EZ e P.length with c|c
 .rw[Lr c]at h ⊢;exact h
 .obtain rfl:e=P.length:=by lia
  rw[JM]at h ⊢;lia
theorem D7.row {Rs:List R3}{S:List Lp}{P:List Int}{x:Int}{R:R3}(h:D7 Rs S (P++[x]))(hS:R.S=S)(hP:R.path=P++[x])(m:R.m<=30):D7 (Rs++[R]) S (P++[x+1]):=by
 have pl:=h.pl;rw[Ao,Bi]at pl;have rb:RB R:=DN.rb (by rw[hS];exact h.so) (by rw[hS,hP];exact h.pl) m;refine⟨h.so,by rw[Ao,Bi];lia,λR0 hR0=>?_,List.pairwise_append.mpr ⟨h.pr,List.pairwise_singleton _ _,λa ha b hb=>?_⟩,λR0 hR0=>?_,λe=>?_⟩
 .rcases Cw.mp hR0 with hR0|hR0
  .obtain⟨e,e1,e2,e3,e4,e5⟩:=h.ah R0 hR0;refine⟨e,e1,e2,e3,?_,P3 (by lia) e5⟩;rw[e4,EA (by lia),EA (by lia)]
  .rw[Cy.mp hR0];refine⟨S.length,by rw[hS];exact Al _,Al _,by rw[hS],?_,?_⟩
   .rw[hP,EA (by lia),EA (by lia)]
   .rw[hP];rw[show S.length=P.length from by lia,JM,JM];lia
 .rw[Cy.mp hb];obtain⟨e,e1,e2,e3,e4,e5⟩:=h.ah a ha;exact⟨e,e1,by rw[hS];exact e2,by rw[hS];exact e3,by rw[hP];exact e4,by rw[hP];exact e5⟩
 .rcases Cw.mp hR0 with hR0|hR0
  .exact h.rb R0 hR0
  .rw[Cy.mp hR0];exact rb
 .have:=congrArg List.length e;rw[Ao]at this;exact absurd this (by simp)
theorem D7.cls {Rs:List R3}{S:List Lp}{P:List Int}{x y:Int}{q:Lp}(h:D7 Rs (S++[q]) (P++[x]++[y]))(ne:Rs≠[]):D7 Rs S (P++[x+1]):=by
 have pl:=h.pl;rw[Ao,Ao,Ao,Bi,Bi,Bi]at pl;refine⟨h.so.init.1,by rw[Ao,Bi];lia,λR hR=>?_,h.pr,h.rb,λe=>absurd e ne⟩;obtain⟨e,e1,e2,e3,e4,e5⟩:=h.ah R hR;rw[Ao,Bi]at e2;rcases EZ e (S.length+1) with c|c
 .refine⟨e,e1,by lia,?_,?_,P3 (x:=x) (by lia) ?_⟩
  .rw[e3,EA (by lia)]
  .rw[e4,CW,EA (by lia),EA (by lia)]
  .rw[Lr (by rw[Ao,Bi];lia)]at e5;exact e5
 .obtain rfl:e=S.length+1:=by lia
  have pS:P.length=S.length:=by lia
  refine⟨S.length,by lia,Al _,?_,?_,?_⟩
  .have:=congrArg (List.take S.length) e3;rw[MU,MU,Dv (by lia),EA (Al _)]at this;exact this
  .have:=congrArg (List.take S.length) e4;rw[MU,MU,Dv (by lia),CW,EA (by lia)]at this;rw[EA (by lia)];exact this
  .have:=congrArg (λl:List Int=>l.getD S.length 0) e4;have this:(R.path.take (S.length+1)).getD S.length 0=((P++[x]++[y]).take (S.length+1)).getD S.length 0:=this;rw[Bk,Bk,Jo,Jo,Av (by lia),Av (by lia),←Bk,←Bk,Lr (by rw[Ao,Bi];lia),←pS,JM]at this;rw[←pS,this,JM];lia
structure W7 (H:Hp)(st pa ro la:Addr)(Rs:List R3)(S:List Lp)(P:List Int)(sv rv lv:List V):Prop where
 hst:H st=some (.lst sv)
 aS:Am (F0 H) sv S
 hpa:H pa=some (.lst (P.map V.int))
 hro:H ro=some (.lst rv)
 aR:Am (EO H) rv Rs
 tz:∀R∈Rs,FY H R
 hla:H la=some (.lst lv)
 ll:lv.length=3
 ls:∀v∈lv,ID H v
section
variable {H H':Hp}{st pa ro la:Addr}{Rs:List R3}{S:List Lp}{P:List Int}{sv rv lv:List V}
theorem W7.over (h:W7 H st pa ro la Rs S P sv rv lv)(e:A8 H H'):W7 H' st pa ro la Rs S P sv rv lv:=
 ⟨e _ _ h.hst,h.aS.mono λ_ _ z=>z.over e,e _ _ h.hpa,e _ _ h.hro,h.aR.mono λ_ _ z=>z.tk (A8.tk e),λR hR=>(h.tz R hR).tk (A8.tk e),e _ _ h.hla,h.ll,λv hv=>(h.ls v hv).tk (A8.tk e)⟩
structure N7 (st pa ro la:Addr):Prop where
 a:st≠pa
 b:st≠ro
 c:st≠la
 d:pa≠ro
 e:pa≠la
 f:ro≠la
theorem W7.pst (n:N7 st pa ro la)(h:W7 H st pa ro la Rs S P sv rv lv){sv':List V}{S':List Lp}(g:Am (F0 H) sv' S'):W7 (upd H st (.lst sv')) st pa ro la Rs S' P sv' rv lv:=by
 have k:=TK.upd (o:=.lst sv') h.hst;exact⟨A5,g.mono λ_ _ z=>z.tk k,by rw[Ak (Ne.symm n.a)];exact h.hpa,by rw[Ak (Ne.symm n.b)];exact h.hro,h.aR.mono λ_ _ z=>z.tk k,λR hR=>(h.tz R hR).tk k,by rw[Ak (Ne.symm n.c)];exact h.hla,h.ll,λv hv=>(h.ls v hv).tk k⟩
theorem W7.ppa (n:N7 st pa ro la)(h:W7 H st pa ro la Rs S P sv rv lv){P':List Int}:W7 (upd H pa (.lst (P'.map V.int))) st pa ro la Rs S P' sv rv lv:=by
 have k:=TK.upd (o:=.lst (P'.map V.int)) h.hpa;exact⟨by rw[Ak n.a];exact h.hst,h.aS.mono λ_ _ z=>z.tk k,A5,by rw[Ak (Ne.symm n.d)];exact h.hro,h.aR.mono λ_ _ z=>z.tk k,λR hR=>(h.tz R hR).tk k,by rw[Ak (Ne.symm n.e)];exact h.hla,h.ll,λv hv=>(h.ls v hv).tk k⟩
theorem W7.pro (n:N7 st pa ro la)(h:W7 H st pa ro la Rs S P sv rv lv){r:V}{R:R3}(g:EO H r R)(t:FY H R):W7 (upd H ro (.lst (rv++[r]))) st pa ro la (Rs++[R]) S P sv (rv++[r]) lv:=by
 have k:=TK.upd (o:=.lst (rv++[r])) h.hro;refine⟨by rw[Ak n.b];exact h.hst,h.aS.mono λ_ _ z=>z.tk k,by rw[Ak n.d];exact h.hpa,A5,(h.aR.mono λ_ _ z=>z.tk k).snoc (g.tk k),λx hx=>?_,by rw[Ak (Ne.symm n.f)];exact h.hla,h.ll,λv hv=>(h.ls v hv).tk k⟩;rcases Cw.mp hx with hx|hx
 .exact(h.tz x hx).tk k
 .rw[Cy.mp hx];exact t.tk k
theorem W7.pla (n:N7 st pa ro la)(h:W7 H st pa ro la Rs S P sv rv lv){v:V}{j:Nat}(g:ID H v):W7 (upd H la (.lst (lv.set j v))) st pa ro la Rs S P sv rv (lv.set j v):=by
 have k:=TK.upd (o:=.lst (lv.set j v)) h.hla;refine⟨by rw[Ak n.c];exact h.hst,h.aS.mono λ_ _ z=>z.tk k,by rw[Ak n.e];exact h.hpa,by rw[Ak n.f];exact h.hro,h.aR.mono λ_ _ z=>z.tk k,λR hR=>(h.tz R hR).tk k,A5,by rw[I0];exact h.ll,λx hx=>?_⟩;rcases List.mem_or_eq_of_mem_set hx with hx|rfl
 .exact(h.ls x hx).tk k
 .exact g.tk k
def Kq (st pa ro la:Addr)(H H':Hp):Prop := ∀b o,H b=some o->b≠st->b≠pa->b≠ro->b≠la->H' b=some o
theorem Kq.same {H'':Hp}(h:Kq st pa ro la H H')(e:A8 H' H''):Kq st pa ro la H H'':=λb o hb a1 a2 a3 a4=>e _ _ (h b o hb a1 a2 a3 a4)
theorem Kq.put (h:Kq st pa ro la H H'){x:Addr}{u:HO}(c:x=st\/x=pa\/x=ro\/x=la):Kq st pa ro la H (upd H' x u):=λb o hb a1 a2 a3 a4=>by
 rw[Ak (show b≠x from by rcases c with rfl|rfl|rfl|rfl<;>assumption)];exact h b o hb a1 a2 a3 a4
end
theorem P5 {P:List Int}{x y:Int}:((P++[x]).map V.int).set P.length (.int y)=(P++[y]).map V.int:=by
 rw[BA,BA,List.set_append_right _ _ (by rw[Af];exact Al _),Af,DZ];rfl
theorem RT {P:List Int}{x:Int}:Dt ((P++[x]).map V.int).length (-1)=some P.length:=by
 rw[Af,Ao,Bi];unfold Dt;rw[Aw (by decide),Av (by lia)];congr 1;lia
theorem Iu {tt:TT}{ta tb:TS}{D:CL}{σ:St}{H:Hp}(M:Hp->Prop)(hb:∀H',M H'->tb D σ H')(h:(∀H',M H'->tb D σ H')->IE tt ta tb D σ H):IE tt ta tb D σ H:=h hb
theorem X5 {α:Type}{R:V->α->Prop}{xs:List V}{as:List α}{a:α}(h:Am R xs (as++[a])):∃ys x,xs=ys++[x]/\Am R ys as/\R x a:=by
 have hl:=h.1;rw[Ao,Bi]at hl;obtain⟨ys,x,rfl,yl⟩:=Jz hl;refine⟨ys,x,rfl,⟨yl,λi y b hy hb=>h.2 i y b ?_ ?_⟩,h.2 as.length x a ?_ ?_⟩
 .rw[CH (Ax.mp hy).1];exact hy
 .rw[CH (Ax.mp hb).1];exact hb
 .rw[←yl,Ck (Al _),DZ];rfl
 .rw[Ck (Al _),DZ];rfl
def VM (c:Cs):Sp:=λvs H Q _=>∃(u:Addr) (rv:List V) (rs:CT),vs=[.ref u]/\H u=some (.tup rv)/\Am (Ii H) rv rs/\rs.length<=29/\∀(x:V) (H':Hp),A8 H H'->CJ c H' (rs.length+1) x rs->Q x H'
def TJ (CP C:Addr)(c:Cs):Sp:=λvs H Q _=>∃(l:Addr) (xs:List V) (Rs:List R3),vs=[.ref l]/\H l=some (.lst xs)/\Am (EO H) xs Rs/\Rs.length<=6/\(∀R∈Rs,R.m<=30)/\∀(x dx dl:Addr) (ys:List V) (H':Hp),A8 H H'->H' x=some (.ins CP dx [("size",.int 1000003),("deeds",.ref dl)])->H dl=none->H' dl=some (.lst ys)->Am (D5 c C H') ys Rs->Q (.ref x) H'
def YY:Sp:=λvs H Q _=>∃(x y:V) (R R':R3) (s:Nat),vs=[x,y]/\EO H x R/\EO H y R'/\RB R/\RB R'/\Pl R R' s/\∀H',A8 H H'->Q (.int (s:Int)) H'
theorem MB.min7:MB (λxs H Q=>∃i j:Int,xs=[V.int i,V.int j]/\Q (V.int (if j<i then j else i)) H):=λvs H Q Q' hq zz=>by obtain⟨i,j,a,b⟩:=zz;exact⟨i,j,a,hq _ _ b⟩
theorem ME.sl7 {to a:TE}(h:ME to)(g:ME a):ME (Pd Qk to RU (S7 a)):=fun σ H Q Q' hq k=>h _ _ _ _ (λx H1 k1=>g _ _ _ _ (λy H2 ⟨i,e,p,xs,a1,a2,a3⟩=>⟨i,e,p,xs,a1,a2,λp' H' s t=>hq _ _ (a3 p' H' s t)⟩) k1) k
theorem Wq {K:Faa}{H:Hp}{x y:Addr}{A B:List Int}{Q:VK}(hx:H x=some (.tup (A.map V.int)))(hy:H y=some (.tup (B.map V.int)))(h:Q (.bl (decide (A=B))) H):FP K false (.ref x) (.ref y) H Q:=by
 refine⟨.tup (A.map λi=>Tr.v (.int i)),.tup (B.map λi=>Tr.v (.int i)),.tup (A7.of hx) (Jy _),.tup (A7.of hy) (Jy _),⟨_,rfl⟩,⟨_,rfl⟩,?_,by rw[CM,O0];decide,?_⟩
 .rw[Cn];exact Nq A B
 .show Q (.bl (BX _ _)) H;rw[BX,Mz];exact h
theorem VQ {R R':R3}{s i:Nat}(p:R.path.length=R.S.length+1)(p':R'.path.length=R'.S.length+1)(h:Pl R R' s)(hi:i<=s):(R.path.take (i+1)=R'.path.take (i+1))↔i<s:=by
 obtain⟨h1,h2,h3,h4⟩:=h;have gt:∀{l:List Int} {j:Nat},j<=i->(l.take (i+1)).getD j 0=l.getD j 0:=fun{l j} hj=>by
  rw[Bk,Bk,Jo,Av (by lia)]
 constructor
 .intro e;rcases EZ i s with c|c
  .exact c
  .obtain rfl:i=s:=by lia
   have:=congrArg (λl:List Int=>l.getD i 0) e;have this:(R.path.take (i+1)).getD i 0=(R'.path.take (i+1)).getD i 0:=this;rw[gt (Al _),gt (Al _)]at this;lia
 .intro c;refine List.ext_getElem (by rw[BE,BE];lia) λj a b=>?_;rw[BE]at a b;have:=h3 j (by lia);rw[List.getElem_take,List.getElem_take];rw[Bk,Bk,AA (by lia),AA (by lia)]at this;exact this
def Hg (H:Hp)(x:V)(b:AX):Prop := ∃t w p,x = .ref t/\H t=some (.lst [.int b.k,.int (b.sh:Int),.ref w,.ref p])/\Ir H w b.ways/\HR H p b.pl
theorem Hg.over {H H':Hp}{x:V}{b:AX}(h:Hg H x b)(e:A8 H H'):Hg H' x b:=by obtain⟨t,w,p,a,b,c,d⟩:=h;exact⟨t,w,p,a,e _ _ b,c.over e,d.over e⟩
def GD (H:Hp)(l:Addr)(B:List AX):Prop := ∃xs,H l=some (.lst xs)/\Am (Hg H) xs B
theorem GD.over {H H':Hp}{l:Addr}{B:List AX}(h:GD H l B)(e:A8 H H'):GD H' l B:=by obtain⟨xs,a,b⟩:=h;exact⟨xs,e _ _ a,b.mono λx w p=>p.over e⟩
theorem Wb {H:Hp}{bo t w p:Addr}{ys:List V}{b:AX}(hb:H bo=some (.lst ys))(nt:t≠bo)(nw:w≠bo)(np:p≠bo)(h:H t=some (.lst [.int b.k,.int (b.sh:Int),.ref w,.ref p]))(hw:Ir H w b.ways)(hp:HR H p b.pl):Hg (wo H bo) (.ref t) b:=by
 obtain⟨xs,h1,a1⟩:=hw;obtain⟨zs,h2,a2⟩:=hp;refine⟨t,w,p,rfl,by rw[E8 nt];exact h,⟨xs,by rw[E8 nw];exact h1,a1.mono λ_ _ z=>?_⟩,⟨zs,by rw[E8 np];exact h2,a2.mono λ_ _ z=>?_⟩⟩
 .obtain⟨u,e,hu⟩:=z;exact⟨u,e,by rw[E8 (λc=>by rw[c,hb]at hu;cases hu)];exact hu⟩
 .obtain⟨u,e,hu⟩:=z;exact⟨u,e,by rw[E8 (λc=>by rw[c,hb]at hu;cases hu)];exact hu⟩
def QY (n:Nat):Sp:=λvs H Q _=>∃(l:Addr) (d m:Nat) (B:List AX),vs=[.ref l,.int (d:Int)]/\GD H l B/\FE B d m/\m<n/\d+m<=10/\∀(r:Addr) (H':Hp) (f:AH),A8 H H'->DA H' r f->Fo.Is f B d->Q (.ref r) H'
def c7:Sp:=λvs H Q _=>∃(l:Addr) (xs:List V) (Rs:List R3) (sh:Nat->Nat),vs=[.ref l]/\H l=some (.lst xs)/\Am (EO H) xs Rs/\C4 Rs sh/\∀(r:Addr) (H':Hp),A8 H H'->GD H' r (B7 Rs sh)->Q (.ref r) H'
theorem Ah {G:Prop}(h:∀G':Prop,(G->G')->G'):G:=h G id
def vO (Q:V->Prop):Option V->Prop
 |some v=>Q v
 |none=>False
def NO:St->Nat->(V->Prop)->Prop
 |[],_,_=>False
 |x::_,0,Q=>vO Q x
 |_::l,n+1,Q=>NO l n Q
theorem Qb:∀{σ:St} {i:Nat} {Q:V->Prop},NO σ i Q->∃v,σ[i]?=some (some v)/\Q v
 |[],_,_,h=>h.elim
 |some v::_,0,_,h=>⟨v,rfl,h⟩
 |none::_,0,_,h=>h.elim
 |_::l,n+1,Q,h=>Qb (σ:=l) (i:=n) (Q:=Q) h
def tV (i:Nat)(σ:St)(H:Hp)(Q:VK):Prop:=NO σ i λv=>Q v H
theorem pw {X:Cx}(i:Nat){x:Str}{pos:Pos}(hN:X.N[i]?=some x:=by rfl)(hv:J6 X.env.scope x:=by first|exact Or.inl rfl|exact Or.inr (.inl rfl)|exact Or.inr (.inr rfl))(hd:(x==("__debug__":Str))=false:=by decide)
 (hcd:(x==("__classdict__":Str))=false:=by decide):PE X (.Name x pos) (tV i):=λpins s σ H Q I h=>pv i hN hv hd hcd pins s σ H Q I (Qb h)
def Xf (g:Int->Int->V)(x y:V)(H:Hp)(Q:VK):Prop:=match x,y with
 |.int i,.int j=>Q (g i j) H
 |_,_=>False
def rJ (C:Int->Int->Prop)(g:Int->Int->V)(x y:V)(H:Hp)(Q:VK):Prop:=match x,y with
 |.int i,.int j=>C i j/\Q (g i j) H
 |_,_=>False
theorem B3 {X:Cx}{f:Value->Value->Sem Value}{g:Int->Int->V}(h:BM X f (G1 g)):BM X f (Xf g):=λpins s σ H x y v u Q I rx ry k=>h pins s σ H x y v u Q I rx ry (by
 cases x<;>first|exact k.elim|(cases y<;>first|exact k.elim|exact⟨_,_,rfl,rfl,k⟩))
theorem oJ {X:Cx}{f:Value->Value->Sem Value}{C:Int->Int->Prop}{g:Int->Int->V}(h:BM X f (rI C g)):BM X f (rJ C g):=λpins s σ H x y v u Q I rx ry k=>h pins s σ H x y v u Q I rx ry (by
 cases x<;>first|exact k.elim|(cases y<;>first|exact k.elim|exact⟨_,_,rfl,rfl,k⟩))
def gC (t:TG)(u:FT)(vs:List V)(σ:St)(H:Hp)(Q:St->Hp->Prop):Prop:=match vs with
 |v::r=>t v σ H fun σ' H'=>u r σ' H' Q
 |[]=>False
theorem B9 {X:Cx}{e:Expr}{es:List Expr}{t:TG}{u:FT}(h1:PG X e t)(h2:J9 X es u)
  (hs:(assignEach (e::es) X.env).map (·.2)=assign e X.env::(assignEach es X.env).map (·.2):=by rfl):J9 X (e::es) (gC t u):=λpins s σ H vs us Q I r h=>O4 h1 h2 hs pins s σ H vs us Q I r (by
 cases vs with
 |nil=>exact h.elim
 |cons v l=>exact⟨v,l,rfl,h⟩)
theorem IG {l:List V}{n:Nat}(h:l.length=n+1):∃a m,l=a::m/\m.length=n:=by
 cases l with
 |nil=>cases h
 |cons a m=>exact⟨a,m,rfl,Nat.succ.inj h⟩
theorem UI {Rs:List R3}(n6:Rs.length<=6)(rb:∀R∈Rs,RB R)(par:Rs.Pairwise HQ):∃sh,C4 Rs sh:=by
 have ex:∀k,∃e,∀R R',Rs[k]?=some R->Rs[k+1]?=some R'->Pl R R' e:=λk=>by
  by_cases hk:k+1<Rs.length
  .have h1:Rs[k]?=some (Rs[k]'(by lia)):=AA (by lia);have h2:Rs[k+1]?=some (Rs[k+1]'hk):=AA hk;obtain⟨e,he⟩:=(MV.mp par k (k+1) (by lia) hk (HV _)).pl;exact⟨e,λR R' a b=>by rw[h1]at a;rw[h2]at b;cases a;cases b;exact he⟩
  .exact⟨0,λR R' _ b=>absurd (Ax.mp b).1 hk⟩
 exact⟨λk=>match k with|0=>0|k+1=>(ex k).choose,n6,rb,par,rfl,λk=>(ex k).choose_spec⟩
theorem LP {Rs:List R3}{sh:Nat->Nat}(h:C4 Rs sh):FE (B7 Rs sh) 0 3:=by
 have f:=FE.of h.good.1;refine⟨f.ok,f.sh,f.lo,λb hb=>?_,f.pl,f.len⟩;obtain⟨k,hb⟩:=DG.mp hb;obtain⟨hk,rfl⟩:=Fm hb;have:=(h.get hk).2.len;rw[show(Fo.ownB ("up":Str) (AS (Rs.map R3.dw)) sh k).ways.length=AS (Rs.map R3.dw) k from Dl,m7 (h.get hk).1];lia
theorem UG {H:Hp}{v:V}{R:R3}(o:RB R)(h:EO H v R):R.r5.Ok:=by
 obtain⟨r,u1,u2,u3,u4,u5,ls,hs,rs,a,b,c,d,f,g,i,j,k,l,m⟩:=h;exact⟨o.len,o.pl,o.m3,by show R.rs.length<=R.m;lia⟩
theorem aA {H:Hp}{Rs:List R3}(rb:∀R∈Rs,RB R)(tz:∀R∈Rs,FY H R):∃Df,GT H Rs Df:=by
 have ex:∀q:Pm.Q4,∃D,q∈Pm.mt (C7 (Rs.map R3.r5))->Sk H Rs q D:=λq=>by
  by_cases hq:q∈Pm.mt (C7 (Rs.map R3.r5))
  .obtain⟨R,r,R',r',a,b,c,d,e⟩:=aj hq;obtain⟨D,s1,s2,cd,_,_⟩:=YZ (M:=M7) (λa b=>M7.one a b) (rb R (AY a)) (rb R' (AY c)) (tz R (AY a) r (AY b)) (tz R' (AY c) r' (AY d)) e;exact⟨D,λ_=>⟨R,R',r,r',a,b,c,d,s1,s2,cd⟩⟩
  .exact⟨⟨0,0,λ_=>0,λ_=>0,λ_=>0,λ_=>0,λ_=>"",λ_=>"",λ_=>0,λ_=>0,λ_=>0,λ_=>0⟩,λh=>absurd h hq⟩
 exact⟨λq=>(ex q).choose,λq hq=>(ex q).choose_spec hq⟩
theorem Nf {x y z k:Int}(h:k=0\/k=1\/k=2):∃n:Int,Be [V.int x,V.int y,V.int z] k=some (V.int n)/\(n=x\/n=y\/n=z):=by
 rcases h with rfl|rfl|rfl
 .exact⟨x,rfl,.inl rfl⟩
 .exact⟨y,rfl,.inr (.inl rfl)⟩
 .exact⟨z,rfl,.inr (.inr rfl)⟩
end L2
namespace EX
open PySem PySem.Spec PyProof.Rows
def Cm (h:Heap)(e:Addr)(C:Value)(d:Option Addr)(tb:Value):Prop := ∃oe vs,h.get? e=some oe/\oe.cls=C/\oe.dict=d/\oe.data = .fields vs/\vs[1]?=some tb
def GI (h:Heap)(T:Addr)(fl:Value):Prop := ∃oT ts,h.get? T=some oT/\oT.data = .fields ts/\ts[3]?=some fl
def ET (fs ch:List Addr)(h h':Heap):Prop := ∀b o,h.get? b=some o->b∉ch->(b∉fs->h'.get? b=some o)/\∃sl,h'.get? b=some {o with slots:=sl}
theorem ET.mono {fs fs' ch ch':List Addr}{h h1:Heap}(a:ET fs ch h h1)(f:∀b∈fs,b∈fs')(c:∀b∈ch,b∈ch'):ET fs' ch' h h1:=λx o e hc=>
 let ⟨p,q⟩:=a x o e λz=>hc (c x z)
 ⟨λhf=>p λz=>hf (f x z),q⟩
section
variable {M:Model}{A:Around}{E:Value->Shared->Prop}{s:Shared}
theorem PL {base h:Heap}{l:List Env}{b:Addr}{o:Obj}{vs:Array Value}(hl:h.FunFrames base l)(ho:h.get? b=some o)(hd:o.data = .fields vs):b∉l.filterMap (·.frame):=λhm=>by
 obtain⟨_,o',ho',hn⟩:=hl.mem hm;rw[ho]at ho';cases ho';exact hn vs hd
theorem QP {base:Heap}{env:Env}{outer:List Env}{L e:Addr}{C:Value}{d:Option Addr}{head tb:Value}{hadNext:Bool}{Q:Unit->Shared->Prop}
  (hfr:A.frames=some (env::outer)) (hl:s.heap.FunFrames base (env::outer)) (hf:env.frame=some L) (hx:Cm s.heap e C d tb)
  (h:∀h' T,s.heap.objs.size<=T->ET ((env::outer).filterMap (·.frame)) [e] s.heap h'->Cm h' e C d (.ref T)->GI h' T (rawInt L)->T≠e->Q () {s with heap:=h'}) :
  wpAny M A (do let a ←frameOf env;let pl ←entryPlaceOf L hadNext;let b ←EntryCells.newEntry head a .none (rawInt L) .none pl;setField (.ref e) 1 b) Q E s:=by
 obtain⟨oe,vs,he,hc,hdc,hd,h1⟩:=hx;have hsz:1<vs.size:=(Tf.mp h1).1;have hne:=PL hl he hd;refine Ag (wpAny_frameOf_fun hfr hl hf λh₁ hs₁=>?_);refine Ag (wpAny_entryPlaceOf λpl hpl=>?_);unfold EntryCells.newEntry newFields;refine Ag (KH ?_ (hpl.sizeOk5 _ _ _ _ _));have he₁:h₁.get? e=some oe:=(hs₁.2.1 e hne).trans he;generalize hob:({cls:=.type "traceback",dict:=none,data:=.fields ([head,.ref L,.none,rawInt L,.none]++(if pl.isEmpty then List.replicate 6 Value.none else pl)).toArray}:Obj)=ob;have hobd:ob.data = .fields ([head,.ref L,.none,rawInt L,.none]++(if pl.isEmpty then List.replicate 6 Value.none else pl)).toArray:=by rw[←hob]
 have he₂:=B2 (h:=h₁) ob he₁;have nf:ob.isFreed=false:=Obj.isFreed_of_fields hobd;refine P1 he₂ hd hsz ?_;have hTe:h₁.objs.size≠e:=Fd (B1 he₁);have hd₃:=Obj.data_mapFields hd (·.setIfInBounds 1 (Value.ref h₁.objs.size));refine h _ h₁.objs.size (by rw[hs₁.1];exact Al _) (λb o hb hc=>?_) ?_ ?_ hTe
 .have hbe:b≠e:=λz=>hc (by rw[z];exact Cy.mpr rfl);rw[GK _ _ (Ne.symm hbe)];refine⟨λhn=>B2 _ ((hs₁.2.1 b hn).trans hb),?_⟩;obtain⟨sl,q⟩:=hs₁.2.2 b o hb;exact⟨sl,B2 _ q⟩
 .exact⟨_,_,MK _ he₂ (Obj.isFreed_of_fields hd₃),by rw[Obj.cls_mapFields];exact hc,by obtain⟨c0,d0,dt,sl⟩:=oe;cases dt<;>exact hdc,hd₃,by simp[hsz]⟩
 .refine⟨ob,_,?_,hobd,by simp⟩;rw[GK _ _ (Ne.symm hTe)];exact CN h₁ nf
theorem Pb {base:Heap}{env:Env}{outer:List Env}{L e:Addr}{C:Value}{d:Option Addr}{Q:Unit->Shared->Prop}
  (hfr:A.frames=some (env::outer)) (hl:s.heap.FunFrames base (env::outer)) (hf:env.frame=some L) (hx:Cm s.heap e C d .none)
  (h:∀h' T,s.heap.objs.size<=T->ET ((env::outer).filterMap (·.frame)) [e] s.heap h'->Cm h' e C d (.ref T)->GI h' T (rawInt L)->T≠e->Q () {s with heap:=h'}) :
  wpAny M A (noteFrame (.ref e) env) Q E s:=by
 obtain⟨oe,vs,he,hc,hdc,hd,h1⟩:=id hx;unfold noteFrame;simp only[hf];refine Ag (Fj he hd h1 ?_);rw[Aw (by decide)];exact QP hfr hl hf hx h
theorem aa {base:Heap}{env:Env}{outer:List Env}{L e T0:Addr}{C:Value}{d:Option Addr}{Q:Unit->Shared->Prop}
  (hfr:A.frames=some (env::outer)) (hl:s.heap.FunFrames base (env::outer)) (hf:env.frame=some L) (hx:Cm s.heap e C d (.ref T0)) (ht:GI s.heap T0 .none) (hne:T0≠e)
  (h:∀h' T,s.heap.objs.size<=T->ET ((env::outer).filterMap (·.frame)) [e,T0] s.heap h'->Cm h' e C d (.ref T)->GI h' T (rawInt L)->T≠e->Q () {s with heap:=h'}) :
  wpAny M A (noteFrame (.ref e) env) Q E s:=by
 obtain⟨oe,vs,he,hc,hdc,hd,h1⟩:=id hx;obtain⟨oT,ts,hT,hdT,h3⟩:=ht;unfold noteFrame;simp only[hf];refine Ag (Fj he hd h1 ?_);rw[Av (show(Value.ref T0 != Value.none)=true from by simp)];refine Ag (Fj hT hdT h3 ?_);rw[Aw (show ¬((Value.none==rawInt L)=true) from by simp[rawInt])];refine Ag (P1 hT hdT (Tf.mp h3).1 ?_);have other:∀b,b≠T0->(s.heap.update T0 (Obj.mapFields (·.setIfInBounds 3 Value.none))).get? b=s.heap.get? b:=λb hb=>GK _ _ (Ne.symm hb);have hTf:=PL hl hT hdT;refine QP (s:={s with heap:=s.heap.update T0 (Obj.mapFields (·.setIfInBounds 3 Value.none))}) hfr (hl.of_keeps λb o hb hnf=>⟨o,(other b λq=>by rw[q,hT]at hb;cases hb;exact hnf ts hdT).trans hb,rfl⟩) hf ⟨oe,vs,(other e (Ne.symm hne)).trans he,hc,hdc,hd,h1⟩ λh' T hT0 hb hx' ht' hTe=>?_;have hTn:s.heap.objs.size<=T:=by simpa[Heap.size_update] using hT0
 refine h h' T hTn (λb o q hc=>?_) hx' ht' hTe;have hbe:b∉[e]:=λz=>hc (Bj.mpr (.inl (Cy.mp z)));have hbT:b≠T0:=λz=>hc (by rw[z];exact CF _ Cq);exact hb b o ((other b hbT).trans q) hbe
theorem Kf {e T:Addr}{C:Value}{d:Option Addr}{fl:Value}{Q:Unit->Shared->Prop}(hx:Cm s.heap e C d (.ref T))(ht:GI s.heap T fl)(hne:T≠e)
  (h:∀h',ET [] [T] s.heap h'->Cm h' e C d (.ref T)->GI h' T .none->Q () {s with heap:=h'}):wpAny M A (setFlight (.ref e) none) Q E s:=by
 obtain⟨oe,vs,he,hc,hdc,hd,h1⟩:=id hx;obtain⟨oT,ts,hT,hdT,h3⟩:=ht;have hsz:3<ts.size:=(Tf.mp h3).1;have other:∀b,b≠T->(s.heap.update T (Obj.mapFields (·.setIfInBounds 3 Value.none))).get? b=s.heap.get? b:=λb hb=>GK _ _ (Ne.symm hb);refine wpAny_setFlight_none he hd h1 hT hdT hsz (h _ (λb o q hc=>?_) ⟨oe,vs,(other e (Ne.symm hne)).trans he,hc,hdc,hd,h1⟩ ⟨_,_,MK _ hT (Obj.isFreed_of_fields (Obj.data_mapFields hdT _)),Obj.data_mapFields hdT _,by simp[hsz]⟩);have hbT:b≠T:=λz=>hc (by rw[z];exact Cq);exact⟨λ_=>(other b hbT).trans q,o.slots,(other b hbT).trans q⟩
theorem VY {e:Addr}{C:Value}{d:Option Addr}{Q:Unit->Shared->Prop}(hx:Cm s.heap e C d .none)(h:Q () s):wpAny M A (setFlight (.ref e) none) Q E s:=by
 obtain⟨oe,vs,he,hc,hdc,hd,h1⟩:=id hx;unfold setFlight;refine Ag (Fj he hd h1 ?_);rw[Aw (by decide)];exact AN h
end
end EX
namespace EX
open PySem PySem.Spec PyProof.Rows
def JP (h:Heap)(C:Addr)(bm:List Value):Prop := ∃nm q N bs hdct sn sub ab col dd k0 k1 k2 k3 k5 newId,h.get? C=some (excClassObj nm q C N bs bm hdct sn sub ab col dd k0 k1 k2 k3 k5 newId)
section
variable {M:Model}{A:Around}{E:Value->Shared->Prop}{s:Shared}{env:Env}
theorem XZ {x:Sem Value}{Q:Flow->Shared->Prop}(hh:A.handled=none)
  (h:wpAny M A x (λv s₁=>∃e d C bm,v = .ref e/\JP s₁.heap C bm/\bm.contains (.type "BaseException")=true/\Cm s₁.heap e (.ref C) d .none/\E (.ref e) s₁) E s) :
  wpAny M A (raiseStmt env (some x) none) Q E s:=by
 unfold raiseStmt;refine Ag (Dm h (λv s₁ h₁=>?_) λ_ _ x=>x);obtain⟨e,d,C,bm,rfl,⟨nm,q,N,bs,hdct,sn,sub,ab,col,dd,k0,k1,k2,k3,k5,newId,hC⟩,hbase,hx,hE⟩:=h₁;have hcB:(Value.ref C::bm).contains (.type "BaseException")=true:=by rw[List.contains_cons,hbase,OV]
 obtain⟨⟨c0,d0,dt,sl⟩,vs,he,hc,hdc,hd,h1⟩:=id hx;obtain rfl:c0 = .ref C:=hc;obtain rfl:dt = .fields vs:=hd;obtain⟨hp,g,dr,tk,os⟩:=s₁
 repeat (first|with_reducible refine Jt he ?_|with_reducible refine Jt hC ?_|(with_reducible refine P2 hC ?_;rw[hcB])|(refine Ag (VY hx ?_))|wp_step)
 exact wpAny_raiseNew_none hh hE
theorem Vk {e:Expr}{pos:Pos}{Q:Flow->Shared->Prop}(hh:A.handled=none)
  (h:wpAny M A (eval e env) (λv s₁=>∃a d C bm,v = .ref a/\JP s₁.heap C bm/\bm.contains (.type "BaseException")=true/\Cm s₁.heap a (.ref C) d .none/\E (.ref a) s₁) E s) :
  wpAny M A (exec (.Raise (some e) none pos) env) Q E s:=by
 rw[arm_exec_Raise];simp only[evalOpt,Option.map];refine Ag (KG (XZ hh (Ag (Dm h (λv s₁ h₁=>Ag (KG (AN h₁))) λ_ _ x=>x))))
theorem Sf {h:Heap}{g:Array GenState}{dr:Drawn}{t:Nat}{os:OsState}{e C D:Addr}{bm bd:List Value}{d:Option Addr}{tb:Value}{Q:Bool->Shared->Prop}
  (kC:JP h C bm) (kD:JP h D bd) (hD:bd.contains (.type "BaseException")=true) (hx:Cm h e (.ref C) d tb)
  (hq:Q ((Value.ref C::bm).contains (.ref D)) ⟨h,g,dr,t,os⟩):wpAny M A (excMatches (.ref e) (.ref D)) Q E ⟨h,g,dr,t,os⟩:=by
 obtain⟨nm,q,N,bs,hdct,sn,sub,ab,col,dd,k0,k1,k2,k3,k5,newId,hC⟩:=kC;obtain⟨nm',q',N',bs',hdct',sn',sub',ab',col',dd',k0',k1',k2',k3',k5',newId',hDc⟩:=kD;obtain⟨oe,vs,he,hcls,hdc,hd,h1⟩:=hx;have hcB:(Value.ref D::bd).contains (.type "BaseException")=true:=by rw[List.contains_cons,hD,OV]
 have f:=tc_notTuple;unfold excMatches;generalize hb:(Value.ref C::bm).contains (.ref D)=b at hq
 repeat (any_goals (first|assumption|(with_reducible refine Jt he ?_;rw[hcls])|with_reducible refine Jt hDc ?_|(with_reducible refine P2 hDc ?_;rw[hcB])|(with_reducible refine P2 hC ?_;rw[hb])|wp_step))
 cases b<;>(wp_walk;exact hq)
end
end EX
namespace EX
open PySem PySem.Spec PySem.Calls PyProof.Rows
abbrev JZ (C t:Addr):Obj:={cls:=.ref C,data:=.fields #[.ref t,.none,.none,.none,.bool false,.none]}
abbrev Rm (vs:List Value):Obj:={cls:=.type "tuple",data:=.seq vs.toArray}
section
variable {prog:Program}{w:World}{A:Around}{h:Heap}{g:Array GenState}{d:Drawn}{t:Nat}{os:OsState}{R:Result->Shared->Prop}
variable {nm q:Str}{C N:Addr}{bs bm bmB:List Value}{hdct:Bool}{sn:List Str}{sub:List Value}{ab:Bool}{col:Option Bool}{dd:Option Addr}{k0 k1 k2 k3 k5:Option Value}{B newId initId:String}
end
end EX
namespace EX
open PySem PySem.Spec PySem.Calls PyProof.Rows PySem.W PySem.Builtin PySem.Builtin.ObjectAttr
section
variable {prog:Program}{w:World}{A:Around}{E:Value->Shared->Prop}{s:Shared}{K:Frag}{x C:Addr}{ox:Obj}{od:Option Obj}{name:Str}{expr:Bool}
theorem aK:builtinKind "BaseException.__getattribute__"=some .slot:=by decide +kernel
theorem UM:splitId "BaseException.__getattribute__"=some ("BaseException","__getattribute__"):=by decide +kernel
abbrev bmVE:List Value:=[.type "ValueError",.type "Exception",.type "BaseException",.type "object"]
def RE:List Value->List Value
 |.ref _::r=>RE r
 |l=>l
def mroTail (K:Frag)(C:Addr):Bool:=(clsIn K C).any λcd=>RE cd.mro==bmVE
def ClsT (h:Heap)(C N:Addr)(bm:List Value):Prop := ∃nm q bs hdct sn sub ab col dd k0 k1 k2 k3 k5,h.get? C=some (excClassObj nm q C N bs bm hdct sn sub ab col dd k0 k1 k2 k3 k5 "ValueError.__new__")/\OwnTail h bmVE bm
theorem ClsT.at {h:Heap}{C N:Addr}{bm:List Value}(x:ClsT h C N bm):JP h C bm:=by
 obtain⟨nm,q,bs,hdct,sn,sub,ab,col,dd,k0,k1,k2,k3,k5,e,_⟩:=x;exact⟨nm,q,N,bs,hdct,sn,sub,ab,col,dd,k0,k1,k2,k3,k5,_,e⟩
structure XC (K:Frag)(C:Addr):Prop where
 ga:findIn K (.ref C) "__getattribute__"=some (some (.builtin "BaseException.__getattribute__"))
 gh:findIn K (.ref C) "__getattr__"=some none
 be:mroIn K C (.type "BaseException")=some true
 sa:findIn K (.ref C) "__setattr__"=some (some (.builtin "object.__setattr__"))
 hd:hasDictIn K C=true
 mt:mroTail K C=true
 ob:mroIn K C (.type "object")=some true
 ct:∃N bm,∀h,K.In h->ClsT h C N bm
end
end EX
namespace EX
open PySem PySem.Spec PySem.Calls PyProof.Rows PySem.W PySem.Builtin PySem.Builtin.ObjectAttr
section
variable {prog:Program}{w:World}{A:Around}{E:Value->Shared->Prop}{s:Shared}{K:Frag}{x C:Addr}{ox:Obj}{od:Option Obj}
theorem WQ {Q:Option Value->Shared->Prop}(X:K.In s.heap)(I:InstAt s.heap x ox C od)(c:XC K C)(ha:findIn K (.ref C) "__class__"=some (some (.builtin "object.__class__")))
  (hn:specialIn K (.builtin "object.__class__") "__get__"=some (some (.builtin "getset_descriptor.__get__"))) (htk:takesIn K (.builtin "object.__class__")=some true)
  (h:Q (some (.ref C)) {s with toks:=s.toks+1}):wpAny (model prog w) A (getAttr? (.ref x) "__class__") Q E s:=by
 have hf:findObj K C od "__class__"=some (.bind (.builtin "getset_descriptor.__get__") (.builtin "object.__class__")):=by
  obtain⟨cd,hc,_⟩:=any_some c.hd;unfold findObj;rw[hc,ha];simp only[Option.bind_some,hn,htk]
 obtain⟨hp,g,d,t,os⟩:=s;have L0:=I.type (M:=model prog w);have L1:=looks_findIn (M:=model prog w) X c.ga;have L2:=looks_findIn (M:=model prog w) X c.gh;have L3:=looks_find (M:=model prog w) X I hf;have hx2:(Value.builtin "BaseException.__getattribute__"==Value.builtin "object.__getattribute__")=false:=by decide +kernel
 have hx1:(onTheHeap (Value.ref C)&&Value.builtin "BaseException.__getattribute__"==Value.builtin "object.__getattribute__")=false:=by rw[hx2];rfl
 have hx0:(false&&onTheHeap (Value.builtin "BaseException.__getattribute__"))=false:=rfl;unfold getAttr? getAttrBy? getAttrBy;refine Ag (wpAny_mkText (Ag (wpAny_attempt (GN (Ag (L0.at (Ag (L1.at ?_))))))));dsimp only;rw[hx1];simp only[Bool.false_eq_true,if_false];unfold getAttrByItsOwn hookBefore;rw[Av (show onTheHeap (Value.ref C)=true from rfl)];refine Ag (L2.at ?_);refine Ag (wpAny_attempt ?_);refine GN ?_;unfold callGetattribute;rw[hx0];simp only[Bool.false_eq_true,if_false];unfold boundAndCalled;rw[F.attr_ValueError.ga.bind];refine Ag (AN ?_);have sub:Looks (model prog w) hp (isInstance (.ref x) (.type "BaseException")) true:=L0.andThen (looks_mroIn X c.be);refine Jq (codeAny_call_builtin F.attr_ValueError.ga.plain F.entry_bexc_ga (@check_slot (model prog w) _ _ ⟨hp,g,d,t+1,os⟩ "BaseException.__getattribute__" "BaseException" "__getattribute__" (.ref x) [.str "__class__" t] [] _ aK UM sub (F.args_bexc_ga (.ref x) (.str "__class__" t)) ?_));unfold Builtin.«object.__getattribute__»;refine Ag (AN ?_);refine Ag (AN ?_);refine Ag (L0.at (Ag (L3.at ?_)));show wpAny _ _ (bindTo _ _ _ _) _ _ _;show wpAny _ _ (holding [Value.builtin "object.__class__"] (call (.builtin "getset_descriptor.__get__") [.builtin "object.__class__",.ref x,.ref C])>>=ret) _ _ _;refine Ag (GN (Jq (class_get (s:=⟨hp,g,d,t+1,os⟩) (ox:=ox) (od:=od) X I c.ob ?_)));refine AN ?_;refine handed_on rfl ?_;exact AN h
end
end EX
namespace EX
open PySem PySem.Spec PyProof.Rows
theorem Cm.one {h:Heap}{a:Addr}{C C':Addr}{d d':Option Addr}{t t':Value}(x:Cm h a (.ref C) d t)(y:Cm h a (.ref C') d' t'):C'=C/\d'=d:=by
 obtain⟨oe,vs,h0,h1,h2,_⟩:=x;obtain⟨oe',vs',g0,g1,g2,_⟩:=y;rw[h0]at g0;cases g0;exact⟨OW (g1.symm.trans h1),g2.symm.trans h2⟩
theorem ET.then {fs ch:List Addr}{h h1 h2:Heap}{T:Addr}(a:ET fs ch h h1)(hT:h.objs.size<=T)(b:ET [] [T] h1 h2):ET fs ch h h2:=λx o e hc=>by
 obtain⟨p,sl,q⟩:=a x o e hc;have nT:x∉[T]:=λz=>absurd (B1 e) (by rw[Cy.mp z];exact Nat.not_lt.mpr hT);exact⟨λhf=>(b x o (p hf) nT).1 (by simp),(b x _ q nT).2⟩
theorem Cm.there {h:Heap}{a:Addr}{C:Value}{d:Option Addr}{t:Value}(x:Cm h a C d t):∃u,h.get? a=some u:=by obtain⟨oe,_,e,_⟩:=x;exact⟨oe,e⟩
end EX
namespace L2
open PySem PySem.Spec PyProof.Rows EX
def IY (h:Heap)(a:Addr)(C:Value)(d:Option Addr):Prop := ∃oe vs t0,h.get? a=some oe/\oe.cls=C/\oe.dict=d/\oe.data = .fields vs/\vs[0]?=some (.ref t0)/\vs[1]?=some .none
theorem IY.at {h:Heap}{a:Addr}{C:Value}{d:Option Addr}(x:IY h a C d):Cm h a C d .none:=by obtain⟨oe,vs,_,h0,h1,h2,h3,_,h5⟩:=x;exact⟨oe,vs,h0,h1,h2,h3,h5⟩
def GJ (a C:Addr)(d:Option Addr):HO:=.ext λh=>IY h a (.ref C) d
def DK (a C:Addr)(d:Option Addr):HO:=.ext λh=>∃tb,Cm h a (.ref C) d tb
section
variable {P:Program}{w:World}{H:Hp}{h:Heap}{a C:Addr}{d:Option Addr}
theorem Wm (x:IY h a (.ref C) d):Cb P w H h a (GJ a C d):=by
 obtain⟨oe,vs,t0,h0,h1⟩:=x;exact⟨⟨oe,vs,t0,h0,h1⟩,⟨oe,h0⟩,λg1 g2 ⟨oe',vs',t0',z0,z⟩ k=>⟨oe',vs',t0',k _ z0,z⟩⟩
theorem JB {tb:Value}(x:Cm h a (.ref C) d tb):Cb P w H h a (DK a C d):=by
 obtain⟨oe,vs,h0,h1⟩:=x;exact⟨⟨tb,oe,vs,h0,h1⟩,⟨oe,h0⟩,λg1 g2 ⟨tb',oe',vs',z0,z⟩ k=>⟨tb',oe',vs',k _ z0,z⟩⟩
theorem LU (x:BR P w H h)(e:H a=some (GJ a C d)):IY h a (.ref C) d:=(show Cb P w H h a (GJ a C d) from x a _ e).1
theorem NG (x:BR P w H h)(e:H a=some (DK a C d)):∃tb,Cm h a (.ref C) d tb:=(show Cb P w H h a (DK a C d) from x a _ e).1
end
theorem NY {H:Hp}{a:Addr}{o:HO}(h:H a=some o):upd H a o=H:=by
 funext b
 unfold upd;split
 .rename_i e;rw[e,h]
 .rfl
def IB (P:Program)(w:World):Ej:=λouter H s E e s'=>∃(a C:Addr) (d:Option Addr) (T:Addr) (H':Hp),e = .ref a/\s'.os=s.os/\AllBare s'.gens/\Un (DV outer) [] H H' s.heap s'.heap/\BR P w H' s'.heap/\H' a=some (DK a C d)/\
 Cm s'.heap a (.ref C) d (.ref T)/\GI s'.heap T .none/\T≠a/\H' T=none/\s.heap.objs.size<=T/\E (.ref a) none H'
section
variable {X:Cx}{pins:List (Addr×Obj)}{σ:St}{H:Hp}{s:Shared}{a C:Addr}{d:Option Addr}
def NC (X:Cx)(pins:List (Addr×Obj))(H:Hp)(T:Addr):Prop:=H T=none/\X.s₀.heap.objs.size<=T/\T≠X.env.locals/\(∀x c,X.env.cells.lookup x=some c->c≠T)/\∀p∈X.pn++pins,p.1≠T
theorem A3.tok_new (I:A3 X pins σ H s){T:Addr}(hT:s.heap.objs.size<=T):NC X pins H T:=
 ⟨I.hok.fresh hT,Ey I.sz hT,Fd (C9 I.lt hT),λx c e z=>by
  obtain⟨v,o,ho,_⟩:=I.cell x c e;exact absurd (B1 ho) (by rw[z];exact Nat.not_lt.mpr hT),λp hp z=>by
  have:=(I.pin p hp).1;exact absurd (B1 this) (by rw[z];exact Nat.not_lt.mpr hT)⟩
theorem A3.fly {ch:List Addr}{h':Heap}{o:HO}{φ:Heap->Prop}(I:A3 X pins σ H s)(hb:ET (DV X.stack) (a::ch) s.heap h')(ha:H a=some (.ext φ))(new:Cb X.prog X.w (upd H a o) h' a o)(ho:∃u,h'.get? a=some u)
  (hch:∀b∈ch,NC X pins H b):A3 X pins σ (upd H a o) {s with heap:=h'}:=by
 have nea:∀b,H b=none->b≠a:=λb n z=>by rw[z,ha]at n;cases n
 have nof:∀b u,H b=some u->(∀ψ,u≠.ext ψ)->b≠a:=λb u e n z=>by rw[z,ha]at e;cases e;exact n φ rfl
 refine I.call' (s':={s with heap:=h'}) (ch:=ch) rfl ⟨λb ob q n hf hc=>?_,λb ob q n hf hc=>?_,λb ob q n hc=>?_,λb ob q hc=>?_,λb xs q=>?_,λb ob u q=>?_,λb ps q=>⟨#[],?_⟩⟩ (λb u e=>?_) I.bare λb hm=>?_
 .exact(hb b ob q λz=>(Bj.mp z).elim (nea b n) hc).1 hf
 .exact(hb b ob q λz=>(Bj.mp z).elim (nea b n) hc).2
 .rw[Ak (nea b n)];exact n
 .by_cases z:b=a
  .rw[z];exact ho
  .obtain⟨_,sl,q'⟩:=hb b ob q λy=>(Bj.mp y).elim z hc;exact⟨_,q'⟩
 .rw[Ak (nof b _ q fun ψ y=>by cases y)];exact q
 .rw[Ak (nof b _ q fun ψ y=>by cases y)];exact q
 .rw[Ak (nof b _ q fun ψ y=>by cases y),q];simp
 .by_cases z:b=a
  .subst z;rw[A5]at e;cases e;exact new
  .rw[Ak z]at e;have kp:∀c v,H c≠none->c≠a->s.heap.get? c=some v->h'.get? c=some v:=λc v n1 n2 q=>
    (hb c v q λy=>(Bj.mp y).elim n2 λm=>n1 (hch c m).1).1 λm=>n1 (I.stkFree c m)
   refine(I.hok b u e).stay (λc v hc q=>?_) (λc q=>?_) λc xs q=>?_
   .rcases hc with rfl|hc
    .exact kp c v (by rw[e];simp) z q
    .exact kp c v (by rw[hc];simp) (nof c _ hc fun ψ y=>by cases y) q
   .rw[Ak (nof c _ q fun ψ y=>by cases y)];exact q
   .rw[Ak (nof c _ q fun ψ y=>by cases y)];exact q
 .obtain⟨_,h2,h3,h4,h5⟩:=hch b hm;exact⟨.inr h2,h3,h4,h5⟩
end
section
variable {X:Cx}
def NQ (X:Cx)(Ek:St->XK):Prop := ∀(pins:List (Addr×Obj)) (σ:St) (H:Hp) (s:Shared) (a C:Addr) (d:Option Addr),A3 X pins σ H s->H a=some (GJ a C d)->Ek σ (.ref a) none (upd H a (DK a C d))->X.xe (.ref a) s
def Ng (X:Cx)(Ek:St->XK):Prop := ∀(pins:List (Addr×Obj)) (σ:St) (H:Hp) (s:Shared) (e:Value) (s':Shared),A3 X pins σ H s->IB X.prog X.w X.stack H s (Ek σ) e s'->X.xe e s'
variable {P:Program}{w:World}{K:Faa}{mg:Str->Option Value}{base:Heap}{N:List Str}{qual:Str}{scope:Scope}{f:Addr}{cd:Value}{A:Around}{outer:List Env}{s₀:Shared}{H₀:Hp}{E:XK}
theorem Yw:NQ (GG (IB P w) P w K mg base N qual scope f cd A outer s₀ H₀ E) (λ_=>E):=by
 intro pins σ H s a C d I ha hE;have x:=LU I.hok ha;show wpAny _ _ (leaving _ (.ref a)) _ _ s;unfold leaving;refine Ag (Pb (base:=base) (L:=s₀.heap.objs.size) I.ok.frames I.stack rfl x.at λh1 T hT b1 x1 t1 ne=>?_);refine Kf (s:={s with heap:=h1}) x1 t1 ne λh2 b2 x2 t2=>?_;have J:=I.fly (o:=DK a C d) (ch:=[]) (h':=h2) (b1.then hT b2) ha (JB x2) x2.there (λb z=>absurd z (by simp));exact⟨a,C,d,T,_,rfl,J.os,J.bare,J.base,J.hok,A5,x2,t2,ne,by rw[Ak ne];exact I.hok.fresh hT,Ey I.sz hT,hE⟩
end
section
variable {P:Program}{w:World}{K:Faa}{mg:Str->Option Value}{base:Heap}
theorem AQ.okX {x qual:Str}{st:Stmt}{f:Addr}{fd:FuncData}{N ps:List Str}{k:Nat}{sp:Sp}(F:AQ K x qual st f fd)(S:AV N ps (AC st))(len:∀vs H Q E,sp vs H Q E->vs.length=ps.length)
  (hbody:∀(cdv:Value) (A:Around) (outer:List Env) (s:Shared) (H:Hp) (vs:List V) (Q:VK) (E:XK),Cg k (A.deeper (envOfC qual (AC st) s.heap.objs.size f cdv))->sp vs H Q E->
   ∃t,Dx (GG (IB P w) P w K mg base N qual (AC st) f cdv A outer s H E) (HN st) t/\t {nx:=λ_ H'=>Q .non H',rt:=Q} (start N vs) H):AM P w K mg base (IB P w) (k+1) f fd ps sp:=by
 obtain⟨oc,od,kV,doc,pm,an,cdv,ct,osl,rfl,lk,hcd⟩:=F.ex;exact RP lk hcd S len λA outer s H vs Q E hr hsp=>hbody cdv A outer s H vs Q E hr hsp
end
section
variable {X:Cx}{Ek:St->XK}{e:Expr}{te:TE}{pos:Pos}
def UH (K:Faa)(Ek:St->XK)(te:TE):TS:=λ_ σ H=>te σ H λv H1=>∃a C d,v = .ref a/\H1 a=some (GJ a C d)/\XC K C/\Ek σ (.ref a) none (upd H1 a (DK a C d))
theorem To (hc:X.calm=true)(hr:NQ X Ek)(he:PE X e te):PS X (.Raise (some e) none pos) (UH X.K Ek te):=by
 intro pins s σ H D I h;refine Vk (I.ok.hd hc) (Ay (he pins s σ H _ I h) λu s1 q=>?_);obtain⟨v,H1,I1,r,a,C,d,rfl,ha,xc,q⟩:=q;obtain rfl:u = .ref a:=r;obtain⟨N,bm,ct⟩:=xc.ct;have c1:=ct _ I1.kIn;obtain⟨_,_,_,_,_,_,_,_,_,_,_,_,_,_,_,T⟩:=id c1;exact⟨a,d,C,bm,rfl,c1.at,T.hasType (by decide),(LU I1.hok ha).at,hr pins σ H1 s1 a C d I1 ha q⟩
end
end L2
namespace EX
open PySem PySem.Spec PyProof.Rows
theorem ClsT.base {h:Heap}{C N:Addr}{bm:List Value}(x:ClsT h C N bm):bm.contains (.type "BaseException")=true:=by
 obtain⟨_,_,_,_,_,_,_,_,_,_,_,_,_,_,_,T⟩:=x;exact T.hasType (by decide)
end EX
namespace L2
open PySem PySem.Spec PyProof.Rows EX
abbrev Cx.tried (X:Cx)(pn:List (Addr×Obj))(xe:Value->Shared->Prop):Cx:={X with pn:=pn,xe:=xe}
abbrev Cx.held (X:Cx)(a:Addr):Cx:={X with A:=X.A.mark (some (.ref a)),calm:=false,xe:=λ_ _=>False}
section
variable {X:Cx}{pins pins':List (Addr×Obj)}{σ:St}{H:Hp}{s:Shared}{a:Addr}{xe:Value->Shared->Prop}{pn:List (Addr×Obj)}
theorem Cx.Ok.tried (ok:X.Ok):(X.tried pn xe).Ok:=⟨ok.mod,ok.kind,ok.glob,ok.blt,ok.above,ok.inj,ok.has,ok.cab,ok.hd,ok.frames,ok.stk,ok.exf,ok.bs,ok.bsz,ok.noex,ok.exfs,ok.funs,ok.frf⟩
theorem Cx.Ok.untried (ok:(X.tried pn xe).Ok):X.Ok:=⟨ok.mod,ok.kind,ok.glob,ok.blt,ok.above,ok.inj,ok.has,ok.cab,ok.hd,ok.frames,ok.stk,ok.exf,ok.bs,ok.bsz,ok.noex,ok.exfs,ok.funs,ok.frf⟩
theorem Cx.Ok.held (ok:X.Ok):(X.held a).Ok:=⟨ok.mod,ok.kind,ok.glob,ok.blt,ok.above,ok.inj,ok.has,ok.cab,(λz=>nomatch z),ok.frames,ok.stk,ok.exf,ok.bs,ok.bsz,ok.noex,ok.exfs,ok.funs,ok.frf⟩
theorem A3.tried (I:A3 X pins σ H s):A3 (X.tried (X.pn++pins) xe) [] σ H s:=⟨I.ok.tried,I.os,I.bare,I.base,I.loc,I.cell,I.free,I.freeC,λp hp=>I.pin p (by simpa using hp),I.hok,I.len⟩
theorem A3.untried (I:A3 (X.tried (X.pn++pins) xe) pins' σ H s):A3 X pins σ H s:=⟨I.ok.untried,I.os,I.bare,I.base,I.loc,I.cell,I.free,I.freeC,λp hp=>I.pin p (DF _ hp),I.hok,I.len⟩
theorem A3.held (I:A3 X pins σ H s):A3 (X.held a) pins σ H s:=⟨I.ok.held,I.os,I.bare,I.base,I.loc,I.cell,I.free,I.freeC,I.pin,I.hok,I.len⟩
theorem A3.unheld (ok:X.Ok)(I:A3 (X.held a) pins σ H s):A3 X pins σ H s:=⟨ok,I.os,I.bare,I.base,I.loc,I.cell,I.free,I.freeC,I.pin,I.hok,I.len⟩
theorem SP.untried {D:CL}{f:Flow}{s':Shared}(h:SP (X.tried (X.pn++pins) xe) pins' D f s'):SP X pins D f s':=by
 cases f with
 |next=>obtain⟨σ',H',I,q⟩:=h;exact⟨σ',H',I.untried,q⟩
 |brk=>obtain⟨σ',H',I,q⟩:=h;exact⟨σ',H',I.untried,q⟩
 |cont=>obtain⟨σ',H',I,q⟩:=h;exact⟨σ',H',I.untried,q⟩
 |ret u=>obtain⟨v,σ',H',I,r,q⟩:=h;exact⟨v,σ',H',I.untried,r,q⟩
theorem SP.unheld (ok:X.Ok){D:CL}{f:Flow}{s':Shared}(h:SP (X.held a) pins D f s'):SP X pins D f s':=by
 cases f with
 |next=>obtain⟨σ',H',I,q⟩:=h;exact⟨σ',H',I.unheld ok,q⟩
 |brk=>obtain⟨σ',H',I,q⟩:=h;exact⟨σ',H',I.unheld ok,q⟩
 |cont=>obtain⟨σ',H',I,q⟩:=h;exact⟨σ',H',I.unheld ok,q⟩
 |ret u=>obtain⟨v,σ',H',I,r,q⟩:=h;exact⟨v,σ',H',I.unheld ok,r,q⟩
end
def PH (X:Cx)(hs:List ExceptHandler)(th:Addr->Addr->Option Addr->TS):Prop:=
 ∀(pins:List (Addr×Obj)) (s:Shared) (σ:St) (H:Hp) (D:CL) (a C:Addr) (d:Option Addr) (T:Addr),A3 X pins σ H s->H a=some (DK a C d)->Cm s.heap a (.ref C) d (.ref T)->GI s.heap T .none->T≠a->NC X pins H T->
  th a C d D σ H->wpAny (model X.prog X.w) X.A (handleBy (.ref a) X.env hs) (SP X pins D) X.xe s
def ZN (K:Faa)(Dc:Addr)(ts:Addr->TS)(th:Addr->Addr->Option Addr->TS):Addr->Addr->Option Addr->TS:=λa C d D σ H=>
 ∃N bm b,(∀h,K.In h->ClsT h C N bm)/\(Value.ref C::bm).contains (.ref Dc)=b/\if b=true then ts a D σ H else th a C d D σ H
section
variable {X:Cx}{x n:Str}{np pos:Pos}{Dc:Addr}{b₀:Stmt}{suite:List Stmt}{rest:List ExceptHandler}{ts:Addr->TS}{th:Addr->Addr->Option Addr->TS}
theorem YX (hg:Gl X x)(hm:X.mg x=some (.ref Dc))(xd:XC X.K Dc)(hs:∀a,Dx (X.held a) (b₀::suite) (ts a))(hr:PH X rest th)(hdb:(x==("__debug__":Str))=false:=by decide) :
  PH X (.ExceptHandler (some (.Name x np)) none (b₀::suite) pos::rest) (ZN X.K Dc ts th):=by
 intro pins s σ H D a C d T I ha hx ht hne hT h;obtain⟨N,bm,b,ct,hb,h⟩:=h;obtain⟨N',bd,cd⟩:=xd.ct;have I':A3 (X.held a) pins σ H s:=I.held;refine wpAny_handleBy_cons (codeAny_handlers_test (HF I' hg hm ?_ hdb)) (by intro q;cases q);obtain⟨hp,g,dr,t,os⟩:=s;refine Sf (ct hp I.kIn).at (cd hp I.kIn).at (cd hp I.kIn).base hx ?_;rw[hb];cases b with
 |
  false=>
  rw[Aw (by simp)]at h;exact hr pins _ σ H D a C d T I ha hx ht hne hT h
 |
  true=>
  rw[Av rfl]at h;refine codeAny_handlers_suite (Kf hx ht hne λh2 b2 x2 t2=>?_);have J:=I.fly (o:=DK a C d) (ch:=[T]) (h':=h2) (b2.mono (λb z=>by cases z) λb z=>CF _ z) ha (JB x2) x2.there (λb z=>by rw[Cy.mp z];exact hT);rw[NY ha]at J;exact Dm (hs a pins _ σ H D J.held h) (λf s2 q=>q.unheld I.ok) λ_ _ z=>z.elim
end
def V3 (tb:(St->XK)->TS)(th:Addr->Addr->Option Addr->TS):TS:=λD σ H=>tb (fun σ' v _ H'=>∃a C d,v = .ref a/\H' a=some (DK a C d)/\th a C d D σ' H') D σ H
theorem SI {X:Cx}{body:List Stmt}{h₀:ExceptHandler}{hs:List ExceptHandler}{pos:Pos}{tb:(St->XK)->TS}{th:Addr->Addr->Option Addr->TS}
  (hb:∀pn xe Ek,Ng (X.tried pn xe) Ek->NQ (X.tried pn xe) Ek->Dx (X.tried pn xe) body (tb Ek)) (hh:PH X (h₀::hs) th) (hst:X.stack=X.env::X.outer:=by rfl) (hfr:X.env.frame=some X.env.locals:=by rfl) :
  PS X (.Try body (h₀::hs) [] [] pos) (V3 tb th):=by
 intro pins s σ H D I h;rw[arm_exec_Try];refine Ag (KG (wpAny_tryStmt_except ?_));refine Dm (hb (X.pn++pins) (λe s₁=>wpAny (model X.prog X.w) X.A (noteFrame e X.env) (λ_ s₂=>wpAny (model X.prog X.w) X.A (setFlight e none) (λ_ s₃=>wpAny (model X.prog X.w) X.A (handleBy e X.env (h₀::hs)) (SP X pins D) X.xe s₃) X.xe s₂) X.xe s₁)
  (fun σ' v _ H'=>∃a C d,v = .ref a/\H' a=some (DK a C d)/\th a C d D σ' H') ?_ ?_ [] s σ H D I.tried h) (λf s1 q=>?_) (λ_ _ z=>z)
 .intro pins' σ' H1 s1 e s' I1 hc;obtain⟨a,C,d,T0,H',rfl,os,bare,un,hok,ha,x0,t0,ne0,hT0,sT0,a',C',d',ea,ha',hth⟩:=hc;obtain rfl:a=a':=OW ea;have J1:A3 X pins σ' H1 s1:=I1.untried;have J:=J1.call' (ch:=[]) os un hok bare (λb z=>absurd z (by simp));obtain⟨tb',y⟩:=NG J.hok ha';obtain⟨rfl,rfl⟩:=Cm.one x0 y;have tk:=J1.tok_new sT0;refine aa (base:=X.base) (L:=X.env.locals) (env:=X.env) (outer:=X.outer) (by rw[←hst];exact J.ok.frames) (by rw[←hst];exact J.stack) hfr x0 t0 ne0 λh1 T hT b1 x1 t1 ne=>?_;refine Kf (s:={s' with heap:=h1}) x1 t1 ne λh2 b2 x2 t2=>?_;rw[←hst]at b1;have J2:=J.fly (o:=DK a C' d') (ch:=[T0]) (h':=h2) (b1.then hT b2) ha (JB x2) x2.there (λb z=>by rw[Cy.mp z];exact⟨hT0,tk.2⟩);rw[NY ha]at J2;exact hh pins _ σ' H' D a C' d' T J2 ha x2 t2 ne (J.tok_new hT) hth
 .intro pins' σ' H1 s1 a C d I1 ha hE;obtain⟨a',C',d',ea,ha',hth⟩:=hE;obtain rfl:a=a':=OW ea;have J:A3 X pins σ' H1 s1:=I1.untried;have x:=LU J.hok ha;refine Pb (base:=X.base) (L:=X.env.locals) (env:=X.env) (outer:=X.outer) (by rw[←hst];exact J.ok.frames) (by rw[←hst];exact J.stack) hfr x.at λh1 T hT b1 x1 t1 ne=>?_;refine Kf (s:={s1 with heap:=h1}) x1 t1 ne λh2 b2 x2 t2=>?_;rw[←hst]at b1;have J2:=J.fly (o:=DK a C d) (ch:=[]) (h':=h2) (b1.then hT b2) ha (JB x2) x2.there (λb z=>absurd z (by simp));obtain⟨tb',y⟩:=NG J2.hok ha';obtain⟨rfl,rfl⟩:=Cm.one x2 y;have tk:=J.tok_new hT;exact hh pins _ σ' _ D a C' d' T J2 ha' x2 t2 ne ⟨by rw[Ak ne];exact tk.1,tk.2⟩ hth
 .have q:=q.untried;cases f with
  |next=>exact MZ q
  |_=>exact q
section
variable {X:Cx}{k:Nat}{f C:Addr}{fd:FuncData}{ps:List Str}{sp:Sp}{dvs:List V}{ds:List Value}{Ek:St->XK}{x:Str}{p pos:Pos}{e:Expr}{es:List Expr}{t:TA}
def cG (sp:Sp)(dvs:List V)(Ek:St->XK)(t:TA):TE:=fun σ H Q=>t σ H λvs H1=>sp (vs++dvs) H1 Q (Ek σ)
theorem NZ (F:AM X.prog X.w X.K X.mg X.base (IB X.prog X.w) k f fd ps sp)(hr:Cg k X.A)(hg:Gl X x)(hm:X.mg x=some (.ref f))(hk:PySem.W.keepIn X.K (.ref f)=true)(hb:AO X.K fd ps ds)(hd:Au dvs ds)(hx:Ng X Ek)
  (ha:PA X (e::es) t) (hdb:(x==("__debug__":Str))=false:=by decide) (he:starEach (e::es) X.env=(false,eval e X.env)::starEach es X.env:=by rfl) (hpl:(backTo pos (starEach es X.env)).any (·.1)=false:=by rfl) :
  PE X (.Call (.Name x p) (e::es) [] pos) (cG sp dvs Ek t):=by
 intro pins s σ H Q I h;refine Jr (HF I hg hm ?_ hdb);refine SU (h₀:=X.base) I.ok.mod.kin hk (Ay (ha pos pins s σ H _ I h) λus s1 zz=>?_) he hpl;obtain⟨vs,H1,I1,r,q⟩:=zz;refine⟨I1.kIn,?_⟩;have r2:Au (vs++dvs) (us++ds):=r.append hd;have hl:(us++ds).length=ps.length:=by rw[←r2.length];exact F.len _ _ _ _ q
 refine Jq (N1 (F.run X.A X.stack s1 H1 ⟨us,[]⟩ (us++ds) (vs++dvs) Q (Ek σ) hr I1.env0 (hb s1 us I1.kIn hl) r2 q) λr s' hq=>?_);cases r with
 |error e=>exact hx pins σ H1 s1 e s' I1 hq
 |
  ok fl=>
  cases fl with
  |ret u=>exact I1.after hq
  |next=>exact False.elim hq
  |brk=>exact False.elim hq
  |cont=>exact False.elim hq
end
end L2
namespace EX
open PySem PySem.Spec PySem.Calls PyProof.Rows PySem.W
section
variable {prog:Program}{w:World}{A:Around}{h:Heap}{g:Array GenState}{d:Drawn}{t:Nat}{os:OsState}{R:Result->Shared->Prop}{C N:Addr}{bm:List Value}
theorem cx {E:Value->Shared->Prop}{Q:PySem.Fin->Shared->Prop}(ct:ClsT h C N bm)(hL:Looks (model prog w) h (typeLookup (.ref C) "__init__") (some (.builtin "ValueError.__init__")))
  (hq:∀h',(∀b o,h.get? b=some o->h'.get? b=some o)->h'.get? (h.objs.size+1)=some (JZ C (h.objs.size+2))->Q (.done (.ret (.ref (h.objs.size+1)))) ⟨h',g,d,t,os⟩) :
  wpAny (model prog w) A (Builtin.«type.__call__» ⟨[.ref C],[]⟩) Q E ⟨h,g,d,t,os⟩:=by
 obtain⟨nm,q,bs,hdct,sn,sub,ab,col,dd,k0,k1,k2,k3,k5,hC,T⟩:=ct
 repeat (first|with_reducible refine Jt hC ?_|with_reducible refine wpAny_madeBy_exc hC ?_|wp_step)
 refine codeAny_call_builtin_code (Code.quiet_builtin _ F.excBase_ValueError.quiet) (wpAny_check_new_subT F.excBase_ValueError T hC ?_);refine codeAny_exc_new_subT F.excBase_ValueError T hC ?_ (Bv _);show wpAny _ _ _ _ _ _;have k:∀b o,h.get? b=some o->((h.push (Rm [])).push (JZ C h.objs.size)).get? b=some o:=λb o e=>B2 _ (B2 _ e);have hC₁:=k _ _ hC;have T₁:=T.keeps k;have hget:((h.push (Rm [])).push (JZ C h.objs.size)).get? (h.objs.size+1)=some (JZ C h.objs.size):=by heap_get
 have hcC:(Value.ref C::bm).contains (.ref C)=true:=by simp
 unfold isInstance
 repeat (first|with_reducible refine Jt hget ?_|(with_reducible refine P2 hC₁ ?_;rw[hcC])|wp_step)
 show wpAny _ _ (typeLookup (.ref C) _) _ _ _;refine(hL.keeps k).at ?_;refine GN (Ag (wpAny_of_eq (F.excBase_ValueError.init.bind _) ?_));refine Ag (Jq (codeAny_call_builtin F.excBase_ValueError.init.plain F.excBase_ValueError.initEntry (wpAny_check_init_subT F.excBase_ValueError T₁ hC₁ hget rfl ?_)))
 wp_walk
 refine hq _ (λb o hb=>?_) ?_
 .rw[GK _ _ (Fd (Nat.lt_succ_of_lt (B1 hb)))];exact B2 _ (B2 _ (B2 _ hb))
 .rw[MK _ (B2 _ hget) rfl];simp only[Jh];rfl
theorem WJ (ct:ClsT h C N bm)(hL:Looks (model prog w) h (typeLookup (.ref C) "__init__") (some (.builtin "ValueError.__init__")))
  (hq:∀h',(∀b o,h.get? b=some o->h'.get? b=some o)->h'.get? (h.objs.size+1)=some (JZ C (h.objs.size+2))->R (.ok (.ret (.ref (h.objs.size+1)))) ⟨h',g,d,t,os⟩) :
  codeAny (model prog w) A (.call (.ref C) ⟨[],[]⟩) R ⟨h,g,d,t,os⟩:=by
 have f1:=tc_lookup;have f2:=tc_bind (.ref C);obtain⟨nm,q,bs,hdct,sn,sub,ab,col,dd,k0,k1,k2,k3,k5,hC,T⟩:=id ct;have hT:(⟨h,g,d,t,os⟩:Shared).TypeIs (.ref C) "type":=⟨_,hC,rfl⟩
 refine codeAny_of_tree ?_;show wpAny _ _ (callAny (.ref C) _) _ _ _
 repeat (any_goals (first|assumption|with_reducible refine Jt hC ?_|wp_step))
 refine⟨rfl,?_⟩;exact codeAny_call_builtin_at (Code.quiet_builtin _ (by decide +kernel)) entry_typeCall (wpAny_check_type_call_sub hC (cx ct hL hq))
end
end EX
namespace L2
open PySem PySem.Spec PyProof.Rows
section
open EX
section
variable {X:Cx}{pins:List (Addr×Obj)}{σ:St}{H:Hp}{s:Shared}{M:Model}{A:Around}{E:Value->Shared->Prop}
theorem ak {i:Nat}{n:Str}{v:V}{Q:Unit->Shared->Prop}(I:A3 X pins σ H s)(hN:X.N.Nodup)(hi:X.N[i]?=some n)(hl:X.env.scope.names.lookup n=some .local)(hv:σ[i]?=some (some v))
  (h:∀s',A3 X pins (σ.set i none) H s'->Q () s'):wpAny M A (unbindName X.env n) Q E s:=by
 obtain⟨m,hn,hloc⟩:=id I.loc;have hcls:(X.env.scope.kind == .class||(X.env.scope.kind == .module&&X.env.locals != X.env.globals))=false:=by rw[I.ok.kind];rfl
 have cne:=I.cne;obtain⟨u,r,q⟩:=hloc i n v hi hv (.inl hl);have hk:X.env.kindOf n=some .local:=hl;rcases q with⟨_,hm⟩|⟨hk2|hk2,_⟩;rotate_left
 .rw[hk]at hk2;cases hk2
 .rw[hk]at hk2;cases hk2
 obtain⟨oL,_,_,hoL,_⟩:=id hn;refine wpAny_unbindName_local hk hn hm hcls λh' u' hn' hs=>h _ ⟨I.ok,I.os,I.bare,⟨λb o e n hb hx=>?_,λb o e n hb hx=>?_,I.base.free,λb o e hx=>?_,I.base.tups,I.base.frzs,I.base.tbls⟩,⟨_,hn',λj y v' e1 e2 e3=>?_⟩,λy c e=>?_,I.free,I.freeC,λp hp=>?_,λb ob e=>?_,by simpa using I.len⟩
 .exact(hs.2 b (BQ (C9 (B1 e) I.ok.above))).trans (I.base.keep b o e n hb hx)
 .obtain⟨sl,e1⟩:=I.base.slot b o e n hb hx;exact⟨sl,(hs.2 b (BQ (C9 (B1 e) I.ok.above))).trans e1⟩
 .obtain⟨o',e1⟩:=I.base.there b o e hx;exact⟨o',(hs.2 b (BQ (C9 (B1 e) I.ok.above))).trans e1⟩
 .have hiσ:i<σ.length:=by rw[I.len];exact(Ax.mp hi).1
  by_cases hj:j=i
  .subst hj;rw[MG hiσ]at e2;cases e2
  .rw[SO (Ne.symm hj)]at e2;obtain⟨u',r',q⟩:=hloc j y v' e1 e2 e3;refine⟨u',r',?_⟩;rcases q with⟨k,e⟩|⟨k,c,e,z⟩
   .refine .inl ⟨k,?_⟩;have:y≠n:=λe=>hj (NS hN e1 (e▸hi));simp[this,e]
   .exact .inr ⟨k,c,e,z.sameBut hs (cne y c e)⟩
 .obtain⟨w',z⟩:=I.cell y c e;exact⟨w',z.sameBut hs (cne y c e)⟩
 .obtain⟨e,n,ne,nf,d⟩:=I.pin p hp;exact⟨(hs.2 p.1 ne).trans e,n,ne,nf,d⟩
 .refine(I.hok b ob e).stay (λc w' hc q=>(hs.2 c ?_).trans q) (λ_ q=>q) λ_ _ q=>q;rintro rfl;rcases hc with rfl|hc
  .rw[I.free]at e;cases e
  .rw[I.free]at hc;cases hc
end
def PR (i:Nat)(D:CL):CL:={nx:=fun σ H=>D.nx (σ.set i none) H,rt:=D.rt,bk:=fun σ H=>D.bk (σ.set i none) H,ct:=fun σ H=>D.ct (σ.set i none) H}
def Wu (K:Faa)(i:Nat)(Dc:Addr)(ts:Addr->TS)(th:Addr->Addr->Option Addr->TS):Addr->Addr->Option Addr->TS:=λa C d D σ H=>
 ∃N bm b,(∀h,K.In h->ClsT h C N bm)/\(Value.ref C::bm).contains (.ref Dc)=b/\if b=true then ts a (PR i D) (σ.set i (some (.ref a))) H else th a C d D σ H
section
variable {X:Cx}{x n:Str}{np pos:Pos}{Dc:Addr}{b₀:Stmt}{suite:List Stmt}{rest:List ExceptHandler}{ts:Addr->TS}{th:Addr->Addr->Option Addr->TS}{i:Nat}
theorem X1 {pins:List (Addr×Obj)}{D:CL}{f:Flow}{s:Shared}{a:Addr}(ok:X.Ok)(hN:X.N.Nodup)(hi:X.N[i]?=some n)(hl:X.env.scope.names.lookup n=some .local)(q:SP (X.held a) pins (PR i D) f s) :
  wpAny (model X.prog X.w) X.A (do bindName X.env n .none;unbindBehindTheSuite X.env n pos) (λ_ s₅=>SP X pins D f s₅) X.xe s:=by
 have go:∀{σ:St} {H:Hp} {Q:Unit->Shared->Prop},A3 (X.held a) pins σ H s->(∀s',A3 X pins (σ.set i none) H s'->Q () s')->wpAny (model X.prog X.w) X.A (do bindName X.env n .none;unbindBehindTheSuite X.env n pos) Q X.xe s:=by
  intro σ H Q I hq;have I:=I.unheld ok;have hiσ:i<σ.length:=by rw[I.len];exact(Ax.mp hi).1
  refine Ag (wpAny_bindName (IZ (v:=.non) I hN hi (.inl hl) rfl (λs5 I5=>?_) (.inr hl)));unfold unbindBehindTheSuite;refine wpAny_onRaise (ak (v:=.non) I5 hN hi hl (MG hiσ) λs6 I6=>hq s6 ?_);rw[List.set_set]at I6;exact I6
 cases f with
 |next=>obtain⟨σ',H',I,q⟩:=q;exact go I λs' I'=>⟨_,_,I',q⟩
 |brk=>obtain⟨σ',H',I,q⟩:=q;exact go I λs' I'=>⟨_,_,I',q⟩
 |cont=>obtain⟨σ',H',I,q⟩:=q;exact go I λs' I'=>⟨_,_,I',q⟩
 |ret u=>obtain⟨v,σ',H',I,r,q⟩:=q;exact go I λs' I'=>⟨v,_,_,I',r,q⟩
theorem bI (hN:X.N.Nodup)(hi:X.N[i]?=some n)(hl:X.env.scope.names.lookup n=some .local)(hg:Gl X x)(hm:X.mg x=some (.ref Dc))(xd:XC X.K Dc)(hs:∀a,Dx (X.held a) (b₀::suite) (ts a))(hr:PH X rest th)(hdb:(x==("__debug__":Str))=false:=by decide) :
  PH X (.ExceptHandler (some (.Name x np)) (some n) (b₀::suite) pos::rest) (Wu X.K i Dc ts th):=by
 intro pins s σ H D a C d T I ha hx ht hne hT h;obtain⟨N,bm,b,ct,hb,h⟩:=h;obtain⟨N',bd,cd⟩:=xd.ct;have I':A3 (X.held a) pins σ H s:=I.held;refine wpAny_handleBy_cons (codeAny_handlers_test (HF I' hg hm ?_ hdb)) (by intro q;cases q);obtain⟨hp,g,dr,t,os⟩:=s;refine Sf (ct hp I.kIn).at (cd hp I.kIn).at (cd hp I.kIn).base hx ?_;rw[hb];cases b with
 |
  false=>
  rw[Aw (by simp)]at h;exact hr pins _ σ H D a C d T I ha hx ht hne hT h
 |
  true=>
  rw[Av rfl]at h;refine codeAny_handlers_suite_as (Kf hx ht hne λh2 b2 x2 t2=>?_);have J:=I.fly (o:=DK a C d) (ch:=[T]) (h':=h2) (b2.mono (λb z=>by cases z) λb z=>CF _ z) ha (JB x2) x2.there (λb z=>by rw[Cy.mp z];exact hT);rw[NY ha]at J;refine IZ (X:=X.held a) (v:=.ref a) J.held hN hi (.inl hl) rfl (λs3 I3=>?_) (.inr hl);exact Dm (hs a pins _ _ H _ I3 h) (λf s4 q=>X1 I.ok hN hi hl q) λ_ _ z=>z.elim
end
section
variable {X:Cx}{k:Nat}{f C:Addr}{fd:FuncData}{ps:List Str}{sp:Sp}{CX:Ej}{E:XK}{x:Str}{p pos:Pos}{e:Expr}{es:List Expr}{t:TA}
structure IK (K:Faa)(C:Addr):Prop where
 xc:XC K C
 init:PySem.W.findIn K (.ref C) "__init__"=some (some (.builtin "ValueError.__init__"))
 kp:PySem.W.keepIn K (.ref C)=true
def WY (C:Addr):TE:=λ_ H Q=>∀a,H a=none->Q (.ref a) (upd H a (GJ a C none))
theorem Vn (M:IK X.K C)(hg:Gl X x)(hm:X.mg x=some (.ref C))(hdb:(x==("__debug__":Str))=false:=by decide):PE X (.Call (.Name x p) [] [] pos) (WY C):=by
 intro pins s σ H Q I h;refine Jr (HF I hg hm ?_ hdb);refine PySem.W.callWith_K0 I.kIn M.kp ?_;obtain⟨hp,g,d,tk,os⟩:=s;obtain⟨N,bm,ct⟩:=M.xc.ct;refine Jq (WJ (ct hp I.kIn) (PySem.W.looks_findIn I.kIn M.init) λh' kk hx=>?_);have nx:IY h' (hp.objs.size+1) (.ref C) none:=⟨_,_,_,hx,rfl,rfl,rfl,rfl,rfl⟩
 exact⟨.ref (hp.objs.size+1),_,I.laid (t':=tk) (o:=GJ (hp.objs.size+1) C none) kk (FF _) (Wm nx),rfl,h _ (I.hok.fresh (FF _))⟩
end
end
section
open EX
structure XI (K:Faa)(C:Addr):Prop where
 xc:XC K C
 ca:PySem.W.findIn K (.ref C) "__class__"=some (some (.builtin "object.__class__"))
 cg:PySem.W.specialIn K (.builtin "object.__class__") "__get__"=some (some (.builtin "getset_descriptor.__get__"))
 ck:PySem.W.takesIn K (.builtin "object.__class__")=some true
theorem ao {K:Faa}{x C:Addr}{ox:Obj}{od:Option Obj}(c:XI K C):PySem.W.KitX K (.ref x) (.ref C) (λh=>PySem.W.InstAt h x ox C od) where
 ty:=λ_ _ _ I=>I.type
 it:=λ_ _ X _=>by
  obtain⟨cdD,hcD,_⟩:=SS c.xc.hd;unfold PySem.W.clsIn at hcD;split at hcD
  .rename_i c' d' cd' sl' ho;intro A' Q' E' s' k q;unfold isType loadHead;exact Ag (wpAny_loadPart (k _ _ (X _ _ ho)) (AN q))
  .cases hcD
 ne:=λh tp dd its n sl X htp=>by
  obtain⟨cdD,hcD,_⟩:=SS c.xc.hd;refine Bool.eq_false_iff.mpr λq=>?_;have e:C=tp:=OW (Gk.mp q);subst e;unfold PySem.W.clsIn at hcD;split at hcD
  .rename_i c' d' cd' sl' ho;have z:=(X _ _ ho).symm.trans htp;cases z
  .cases hcD
 ca:=λX I k=>WQ X I c.xc c.ca c.cg c.ck k
def GU (H:Hp)(a C:Addr)(d:Option Addr):Prop:=(H a=some (GJ a C d)\/H a=some (DK a C d))/\(d=none\/∃dx fs,d=some dx/\H dx=some (.xd fs))
theorem GU.at {P:Program}{w:World}{H:Hp}{h:Heap}{a C:Addr}{d:Option Addr}(x:GU H a C d)(ok:BR P w H h):∃tb,Cm h a (.ref C) d tb:=by
 rcases x.1 with e|e
 .exact⟨_,(LU ok e).at⟩
 .exact NG ok e
theorem GU.inst {P:Program}{w:World}{H:Hp}{h:Heap}{a C:Addr}{d:Option Addr}(x:GU H a C d)(ok:BR P w H h):∃ox od,PySem.W.InstAt h a ox C od:=by
 obtain⟨tb,oe,vs,h0,h1,h2,h3,_⟩:=x.at ok;have no:PySem.W.notCls oe=true:=by unfold PySem.W.notCls;rw[h3]
 rcases x.2 with e|⟨dx,fs,e,hd⟩
 .exact⟨oe,none,h0,h1,no,by rw[h2,e];exact True.intro⟩
 .obtain⟨mA,⟨o,_,_,ho,_⟩,_⟩:=(show Cb P w H h dx (.xd fs) from ok dx _ hd)
  exact⟨oe,some o,h0,h1,no,by rw[h2,e];exact ho⟩
section
variable {X:Cx}{e o:Expr}{ta tv:TE}{f x:Str}{pos pos' p apos:Pos}
theorem Ju:Eg X (.builtin "isinstance") (λxs H Q=>∃a C d c cv b,xs=[.ref a,c]/\N8 c=some cv/\GU H a C d/\XI X.K C/\PySem.W.kitOne X.K (.ref C) cv=some b/\Q (.bl b) H):=by
 intro pins s σ H xs us Q I r h;obtain⟨a,C,d,c,cv,b,rfl,hc,hx,xi,ek,q⟩:=h;obtain⟨u1,r1,rfl,ra,rr⟩:∃u1 r1,us=u1::r1/\AK (.ref a) u1/\Au [c] r1:=by cases r with|cons a b=>exact⟨_,_,rfl,a,b⟩
 obtain⟨u2,rfl,rc⟩:=EJ rr;obtain rfl:u1 = .ref a:=ra;have ec:u2=cv:=by
  cases c<;>first|(cases hc;done)|skip
  all_goals (simp only[N8,Option.some.injEq]at hc;rw[←hc];exact rc)
 subst ec;obtain⟨ox,od,J⟩:=hx.inst I.hok;exact Fe (ao xi) I.kIn J ek (λz=>nomatch z) λtk=>⟨.bl b,H,I.tok _,rfl,q⟩
structure XB (K:Faa)(D:Addr):Prop where
 ga:PySem.W.specialIn K (.ref D) "__getattribute__"=some (some (.builtin "type.__getattribute__"))
 rd:PySem.W.readsIn K D (.type "type")=true
 fc:PySem.W.findCls K (.ref D) (.type "type") "__init__"=some (.val (.builtin "ValueError.__init__"))
end
end
section
open EX
section
variable {P:Program}{w:World}{K:Faa}{mg:Str->Option Value}{base:Heap}
end
section
variable {X:Cx}{k:Nat}{f:Addr}{fd:FuncData}{ps:List Str}{sp:Sp}{x:Str}{p pos:Pos}{e:Expr}{es:List Expr}{t:TA}
end
end
section
open EX
def Hu (K:Faa)(C:Addr)(own:List Addr):Bool:=match K.lookup C with
 |
  some ⟨.type "type",_,.cls cd,sl⟩=>(match cd.mro,sl.toList with
  |.ref C'::bm,[_,_,_,_,some (.builtin n),_]=>C'==C&&n=="ValueError.__new__"&&!cd.hasDel&&bm==own.map Value.ref++bmVE&&PySem.W.tailIn K bmVE bm
  |_,_=>false)
 |_=>false
theorem DU {K:Faa}{C:Addr}{own:List Addr}(q:Hu K C own=true):∃N,∀h,K.In h->ClsT h C N (own.map Value.ref++bmVE):=by
 unfold Hu at q;split at q
 .rename_i dd cd sl ho;split at q
  .rename_i C' bm k0 k1 k2 k3 n k5 hm hs;simp only[Du,Gk,Bool.not_eq_true']at q;obtain⟨⟨⟨⟨rfl,rfl⟩,hdel⟩,hb⟩,ht⟩:=q;obtain⟨nm,bs,mro,ns,qn,hd,sn,sub,ab,col,del⟩:=cd;dsimp only at hm hdel;subst hm hdel;have hsl:sl = #[k0,k1,k2,k3,some (.builtin "ValueError.__new__"),k5]:=by
    obtain⟨l⟩:=sl;simp only at hs;rw[hs]
   subst hsl;rw[←hb];exact⟨ns,λh X=>⟨nm,qn,bs,hd,sn,sub,ab,col,dd,k0,k1,k2,k3,k5,X _ _ ho,PySem.W.tail_of_in X ht⟩⟩
  .cases q
 .cases q
def VX:Addr->Addr->Option Addr->TS:=λ_ _ _ _ _ _=>False
theorem Q7 {X:Cx}:PH X [] VX:=λ_ _ _ _ _ _ _ _ _ _ _ _ _ _ _ h=>h.elim
theorem Rp {C:Addr}{own:List Addr}{D:Addr}:(Value.ref C::(own.map Value.ref++bmVE)).contains (.ref D)=decide (D=C\/D∈own):=by
 rw[Gf,List.contains_iff_mem,decide_eq_true_iff];simp[bmVE]
end
def Ci:AH->Bool
 |.nil=>false
 |.leaf _ _ r=>Ci r
 |.node _ _ .nil r=>true
 |.node _ _ s r=>Ci s||Ci r
def EM:AH->List Bool
 |.nil=>[]
 |.leaf _ _ r=>false::EM r
 |.node _ _ .nil r=>true::EM r
 |.node _ _ s r=>Ci s::EM r
theorem LY:∀f:AH,(EM f).any id=Ci f
 |.nil=>rfl
 |.leaf k pl r=>by show(false::EM r).any id=Ci r;rw[KA,LY r];rfl
 |.node c w .nil r=>rfl
 |
  .node c w (.leaf k pl s) r=>by
  show(Ci (.leaf k pl s)::EM r).any id=(Ci (.leaf k pl s)||Ci r)
  rw[KA,LY r];rfl
 |
  .node c w (.node c' w' s' s) r=>by
  show(Ci (.node c' w' s' s)::EM r).any id=(Ci (.node c' w' s' s)||Ci r)
  rw[KA,LY r];rfl
theorem IU:∀f:AH,JD f->Ci f=false
 |.nil,_=>rfl
 |.leaf k pl r,h=>IU r h
 |.node c w .nil r,h=>absurd rfl h.1
 |
  .node c w (.leaf k pl s) r,h=>by
  show(Ci (.leaf k pl s)||Ci r)=false;rw[IU _ h.2.1,IU _ h.2.2];rfl
 |
  .node c w (.node c' w' s' s) r,h=>by
  show(Ci (.node c' w' s' s)||Ci r)=false;rw[IU _ h.2.1,IU _ h.2.2];rfl
def RJ (n:Nat):Sp:=λvs H Q _=>∃(p:Addr) (f:AH),vs=[.ref p]/\DA H p f/\BF f<=n/\C1 f<=1000/\n<=20/\∀H',A8 H H'->Q (.bl (Ci f)) H'
def CO:List (Int×Int)->List Bool->List Int
 |p::pl,c::cs=>if c then CO pl cs else p.1::CO pl cs
 |_,_=>[]
theorem Pg:∀(pl:List (Int×Int)) (cs:List Bool) (p:Int×Int) (c:Bool),pl.length=cs.length->CO (pl++[p]) (cs++[c])=CO pl cs++(if c then[] else[p.1])
 |[],[],p,c,_=>by cases c<;>rfl
 |[],_::_,p,c,h=>by cases h
 |_::_,[],p,c,h=>by cases h
 |
  q::pl,d::cs,p,c,h=>by
  have ih:=Pg pl cs p c (by simpa using h);show(if d then CO (pl++[p]) (cs++[c]) else q.1::CO (pl++[p]) (cs++[c]))=(if d then CO pl cs else q.1::CO pl cs)++_;rw[ih];cases d<;>rfl
theorem OD:∀(pl:List (Int×Int)) (cs:List Bool),(CO pl cs).length<=pl.length
 |[],_=>by cases ‹List Bool› <;> exact Al _
 |_::_,[]=>Bv _
 |
  p::pl,c::cs=>by
  have:=OD pl cs;show(if c then CO pl cs else p.1::CO pl cs).length<=_;rw[BH];split
  .lia
  .rw[BH];lia
def Ox (m:Nat)(p:Int×Int):Prop:=0<=p.1/\p.1<(m:Int)/\-1000000000000000000<=p.2/\p.2<=1000000000000000000
def F5 (m:Nat)(pl:List (Int×Int))(cs:List Bool):Prop:=pl.length=cs.length/\pl.length<=6/\(∀p∈pl,Ox m p)/\(CO pl cs).Perm (Cu m)
open Classical in
def GE (m:Nat)(pl:List (Int×Int))(cs:List Bool):Bool:=decide (F5 m pl cs)
open Classical in
theorem R8 {m:Nat}{pl:List (Int×Int)}{cs:List Bool}(h:F5 m pl cs):GE m pl cs=true:=by unfold GE;exact BB h
open Classical in
theorem Nu {m:Nat}{pl:List (Int×Int)}{cs:List Bool}(h:¬F5 m pl cs):GE m pl cs=false:=by unfold GE;exact C2 h
def U1 (C:Addr):Sp:=λvs H Q _=>∃(x:V) (pl cu:Addr) (D:Dw) (ps:List (Int×Int)) (cs:List Bool),vs=[x,.ref pl,.ref cu]/\Jc C H x D/\D.loops.length<=3/\EE H pl ps/\H cu=some (.tup (cs.map V.bl))/\ps.length<=60/\∀H',A8 H H'->Q (.bl (GE D.loops.length ps cs)) H'
def E6 (f:AH):List Int:=(AR f [] 0 []).map (·.1.k)
def HM (Ds:List Dw)(f:AH):Prop:=(E6 f).Perm (Cu Ds.length)/\Ci f=false/\∀e∈AR f [] 0 [],∀(k:Nat) (D:Dw),e.1.k=(k:Int)->Ds[k]?=some D->F5 D.loops.length e.1.pl e.2
open Classical in
def J3 (Ds:List Dw)(f:AH):Bool:=decide (HM Ds f)
open Classical in
theorem S8 {Ds:List Dw}{f:AH}(h:HM Ds f):J3 Ds f=true:=by unfold J3;exact BB h
open Classical in
theorem Oj {Ds:List Dw}{f:AH}(h:¬HM Ds f):J3 Ds f=false:=by unfold J3;exact C2 h
def Y2 (CP C:Addr):Sp:=λvs H Q _=>∃(x dx dl:Addr) (sz:V) (pt:Addr) (Ds:List Dw) (f:AH),vs=[.ref x,.ref pt]/\H x=some (.ins CP dx [("size",sz),("deeds",.ref dl)])/\Kb C H dl Ds/\Ds.length<=10/\(∀D∈Ds,D.loops.length<=3)/\DA H pt f/\BF f<=13/\C1 f<=900/\(AR f [] 0 []).length<=60/\(∀e∈AR f [] 0 [],e.1.pl.length<=60)/\∀H',A8 H H'->Q (.bl (J3 Ds f)) H'
theorem Se {K:Faa}{H:Hp}{x y:Addr}{A B:List Int}{neg:Bool}{Q:VK}(hx:H x=some (.lst (A.map V.int)))(hy:H y=some (.lst (B.map V.int)))(h:Q (.bl (if neg then !decide (A=B) else decide (A=B))) H):FP K neg (.ref x) (.ref y) H Q:=by
 refine⟨.lst (A.map λi=>Tr.v (.int i)),.lst (B.map λi=>Tr.v (.int i)),.lst (A4.of hx) (Jy _),.lst (A4.of hy) (Jy _),⟨_,rfl⟩,⟨_,rfl⟩,by rw[Cn];exact Nq A B,by rw[CM,O0];decide,?_⟩;have:BX (.lst (A.map λi=>Tr.v (.int i))) (.lst (B.map λi=>Tr.v (.int i)))=decide (A=B):=by
  rw[BX];by_cases c:A=B
  .subst c;rw[Mz,BB rfl]
  .rw[Mz,C2 c]
 rw[this];exact h
theorem Mm {ns ns':List Int}{n:Nat}(pm:ns'.Perm ns)(so:ns'.Pairwise (·<=·)):(ns'=Cu n)↔ns.Perm (Cu n):=by
 refine⟨λh=>by rw[←h];exact pm.symm,λh=>Qx (pm.trans h) so (WX n)⟩
theorem Z0 {l:List Int}{n:Nat}(h:l.Perm (Cu n)){x:Int}(hx:x∈l):∃k:Nat,x=(k:Int)/\k<n:=by
 have:=h.subset hx;unfold Cu at this;obtain⟨k,hk,rfl⟩:=CY.mp this;exact⟨k,rfl,DE.mp hk⟩
structure IM (Ds:List Dw)(f:AH):Prop where
 no:¬HM Ds f
 dp:BF f<=13
 fc:C1 f<=900
 dl:(AR f [] 0 []).length<=60
 pl:∀e∈AR f [] 0 [],e.1.pl.length<=60
theorem Lg:∀f g:AH,BF (Fo.app f g)<=max (BF f) (BF g)
 |.nil,g=>Nat.le_max_right _ _
 |.leaf k pl r,g=>Lg r g
 |
  .node c w s r,g=>by
  have:=Lg r g;show max (1+BF s) (BF (Fo.app r g))<=max (max (1+BF s) (BF r)) (BF g);lia
theorem KL:∀f g:AH,C1 (Fo.app f g)=C1 f+C1 g
 |.nil,g=>(Fh _).symm
 |
  .leaf k pl r,g=>by
  have:=KL r g;show C1 (Fo.app r g)+1=C1 r+1+C1 g;lia
 |
  .node c w s r,g=>by
  have:=KL r g;show C1 s+C1 (Fo.app r g)+1=C1 s+C1 r+1+C1 g;lia
theorem Lc:∀f g:AH,Ci g=true->Ci (Fo.app f g)=true
 |.nil,g,h=>h
 |.leaf k pl r,g,h=>Lc r g h
 |.node c w .nil r,g,h=>rfl
 |
  .node c w (.leaf k pl s) r,g,h=>by
  show(Ci (.leaf k pl s)||Ci (Fo.app r g))=true;rw[Lc r g h,OV]
 |
  .node c w (.node c' w' s' s) r,g,h=>by
  show(Ci (.node c' w' s' s)||Ci (Fo.app r g))=true;rw[Lc r g h,OV]
theorem M0:∀(f g:AH) (p:List Int) (j:Nat) (cs:List Bool),∃j',AR (Fo.app f g) p j cs=AR f p j cs++AR g p j' cs
 |.nil,g,p,j,cs=>⟨j,rfl⟩
 |
  .leaf k pl r,g,p,j,cs=>by
  obtain⟨j',e⟩:=M0 r g p (j+1) cs;exact⟨j',by show _::AR (Fo.app r g) p (j+1) cs=_::AR r p (j+1) cs++_;rw[e];rfl⟩
 |
  .node c w s r,g,p,j,cs=>by
  obtain⟨j',e⟩:=M0 r g p (j+1) cs;exact⟨j',by show _++AR (Fo.app r g) p (j+1) cs=(_++AR r p (j+1) cs)++_;rw[e,CW]⟩
theorem Pa:∀(pl:List (Int×Int)) (n:Nat),pl.length=n->CO pl (List.replicate n false)=pl.map (·.1)
 |[],n,h=>by cases h;rfl
 |p::pl,0,h=>by cases h
 |
  p::pl,n+1,h=>by
  show p.1::CO pl (List.replicate n false)=p.1::pl.map (·.1);rw[Pa pl n (by simpa using h)]
theorem Yc (m:Nat):CO (Fo.ownP m) (List.replicate m false)=Cu m:=by
 rw[Pa _ _ (Ee m)];unfold Fo.ownP Cu;rw[Gh];rfl
def wB (Rs:List R3)(sh:Nat->Nat)(p:Nat)(k:Int)(pl:List (Int×Int)):AX:=⟨k,sh p,List.replicate (AS (Rs.map R3.dw) p) (false,("up":Str)),pl⟩
section
variable {Rs:List R3}{sh:Nat->Nat}
theorem HK (own:C4 Rs sh){p:Nat}(hp:p<Rs.length){k:Int}{pl:List (Int×Int)}{i:Nat}{b:AX}(h:((B7 Rs sh).set p (wB Rs sh p k pl))[i]?=some b):i<Rs.length/\b.sh=sh i/\b.ways=List.replicate (AS (Rs.map R3.dw) i) (false,("up":Str))/\(i≠p->b.k=(i:Int)/\b.pl=Fo.ownP (AS (Rs.map R3.dw) i))/\(i=p->b.k=k/\b.pl=pl):=by
 rw[OO]at h;split at h
 .subst i;split at h
  .cases h;exact⟨hp,rfl,rfl,λc=>absurd rfl c,λ_=>⟨rfl,rfl⟩⟩
  .cases h
 .obtain⟨h1,rfl⟩:=Fm h;exact⟨h1,rfl,rfl,λ_=>⟨rfl,rfl⟩,λc=>absurd c.symm ‹_›⟩
theorem Ge:(B7 Rs sh).length=Rs.length:=by unfold B7 Lu;rw[Af,CI,Af]
theorem RX (own:C4 Rs sh){p:Nat}(hp:p<Rs.length){k:Int}{pl:List (Int×Int)}(hl:pl.length<=6):FE ((B7 Rs sh).set p (wB Rs sh p k pl)) 0 3:=by
 have f:=LP own;have m3:∀i,i<Rs.length->AS (Rs.map R3.dw) i<=3:=λi hi=>by rw[m7 (own.get hi).1];exact(own.get hi).2.len
 have mem:∀b∈(B7 Rs sh).set p (wB Rs sh p k pl),∃i,((B7 Rs sh).set p (wB Rs sh p k pl))[i]?=some b:=λb hb=>DG.mp hb;refine⟨⟨λb hb=>?_,λi b c hb hc=>?_⟩,λ_ _ _=>Bv _,λ_ _=>Bv _,λb hb=>?_,λb hb=>?_,by rw[I0,Ge];exact own.n6⟩
 .obtain⟨i,hi⟩:=mem b hb;obtain⟨h1,h2,h3,_⟩:=HK own hp hi;rw[h2,h3,Dl];exact own.shm h1
 .obtain⟨h1,h2,h3,_⟩:=HK own hp hb;obtain⟨g1,g2,g3,_⟩:=HK own hp hc;have s1:=own.shp g1;have s2:=own.shm g1;refine⟨by rw[g2,h3,Dl];exact s1,?_⟩;rw[g2,h3,g3,OT,OT,Dv s1,Dv s2]
 .obtain⟨i,hi⟩:=mem b hb;obtain⟨h1,h2,h3,_⟩:=HK own hp hi;rw[h3,Dl];have:=m3 i h1;lia
 .obtain⟨i,hi⟩:=mem b hb;obtain⟨h1,h2,h3,h4,h5⟩:=HK own hp hi;by_cases c:i=p
  .rw[(h5 c).2];exact hl
  .rw[(h4 c).2,Ee];have:=m3 i h1;lia
theorem RN (own:C4 Rs sh){p:Nat}(hp:p<Rs.length){k:Int}{pl:List (Int×Int)}{f:AH}(hI:Fo.Is f ((B7 Rs sh).set p (wB Rs sh p k pl)) 0):(AR f [] 0 []).map (λe=>(e.1.k,e.1.pl,e.2))=((B7 Rs sh).set p (wB Rs sh p k pl)).map λb=>(b.k,b.pl,List.replicate b.ways.length false):=by
 refine(LI f _ 0 [] 0 [] hI λb hb=>?_).trans rfl;obtain⟨i,hi⟩:=DG.mp hb;obtain⟨h1,h2,h3,_⟩:=HK own hp hi;refine⟨by rw[h2,h3,Dl];exact own.shm h1,λw hw=>?_⟩;rw[h3]at hw;rw[Tg hw]
theorem Ut (own:C4 Rs sh){p:Nat}(hp:p<Rs.length){k:Int}{pl:List (Int×Int)}(hl:pl.length<=6){f:AH}(hI:Fo.Is f ((B7 Rs sh).set p (wB Rs sh p k pl)) 0)(hb:k≠(p:Int)\/(k=(p:Int)/\¬F5 (AS (Rs.map R3.dw) p) pl (List.replicate (AS (Rs.map R3.dw) p) false))):IM (Rs.map R3.dw) f:=by
 have fr:=RX own hp (k:=k) hl;have ds:=RN own hp hI;have n6:=own.n6;have len:(AR f [] 0 []).length=Rs.length:=by
  have:=congrArg List.length ds
  rwa [Af,Af,I0,Ge]at this
 have at':∀{i:Nat} {b:AX},((B7 Rs sh).set p (wB Rs sh p k pl))[i]?=some b->∃e,(AR f [] 0 [])[i]?=some e/\e.1.k=b.k/\e.1.pl=b.pl/\e.2=List.replicate b.ways.length false:=fun{i b} h=>by
  have:=congrArg (λl=>l[i]?) ds;simp only[Bf,h]at this;cases he:(AR f [] 0 [])[i]? with
  |none=>rw[he]at this;cases this
  |
   some e=>
   rw[he]at this;have:=CV this;exact⟨e,rfl,(Gj this).1,(Gj (Gj this).2).1,(Gj (Gj this).2).2⟩
 have bk:∀{i:Nat} {e:Fo.En×List Bool},(AR f [] 0 [])[i]?=some e->∃b,((B7 Rs sh).set p (wB Rs sh p k pl))[i]?=some b/\e.1.k=b.k/\e.1.pl=b.pl:=fun{i e} h=>by
  have hi:=(Ax.mp h).1;have hb:((B7 Rs sh).set p (wB Rs sh p k pl))[i]?=some (((B7 Rs sh).set p (wB Rs sh p k pl))[i]'(by rw[I0,Ge];lia)):=AA _;obtain⟨e',he',a1,a2,_⟩:=at' hb;rw[h]at he';cases he';exact⟨_,hb,a1,a2⟩
 have hbp:((B7 Rs sh).set p (wB Rs sh p k pl))[p]?=some (wB Rs sh p k pl):=by rw[MG (by rw[Ge];exact hp)]
 refine⟨λz=>?_,?_,?_,by lia,λe he=>?_⟩
 .rcases hb with c|⟨c,nw⟩
  .have hm:(p:Int)∈Cu (Rs.map R3.dw).length:=by
    unfold Cu;exact CY.mpr ⟨p,DE.mpr (by rw[Af];exact hp),rfl⟩
   have hm:=z.1.symm.subset hm;unfold E6 at hm;obtain⟨e,he,ek⟩:=CY.mp hm;obtain⟨i,hi⟩:=DG.mp he;obtain⟨b,hb,e1,_⟩:=bk hi;obtain⟨_,_,_,h4,h5⟩:=HK own hp hb;by_cases ci:i=p
   .exact c (by rw[←ek,e1,(h5 ci).1])
   .rw[e1,(h4 ci).1]at ek;exact ci (by lia)
  .obtain⟨e,he,e1,e2,e3⟩:=at' hbp;have hD:(Rs.map R3.dw)[p]?=some (Rs[p]).dw:=by rw[Bf,AA hp];rfl
   have:=z.2.2 e (AY he) p _ (by rw[e1];exact c) hD;rw[e2,e3,←NW hD]at this;refine nw ?_
   rwa [show(wB Rs sh p k pl).ways.length=AS (Rs.map R3.dw) p from Dl]at this
 .have:=GP f _ 0 3 hI fr.hi;lia
 .have:=JV f _ 0 3 hI fr.hi;have:=fr.len;lia
 .obtain⟨i,hi⟩:=DG.mp he;obtain⟨b,hb,_,e2⟩:=bk hi;rw[e2];have:=fr.pl b (AY hb);lia
theorem Qr (own:C4 Rs sh){p:Nat}(hp:p<Rs.length):(B7 Rs sh).set p (wB Rs sh p (p:Int) (Fo.ownP (AS (Rs.map R3.dw) p)))=B7 Rs sh:=by
 refine T9 λi=>?_;rw[OO];split
 .subst i;rw[Av (by rw[Ge];exact hp),ER hp];rfl
 .rfl
theorem KO (own:C4 Rs sh)(n0:0<Rs.length){f:AH}(hI:Fo.Is f (B7 Rs sh) 0):HM (Rs.map R3.dw) f/\BF f<=4/\C1 f<=30/\(AR f [] 0 []).length=Rs.length/\∀e∈AR f [] 0 [],e.1.pl.length<=3:=by
 have fr:=LP own;have n6:=own.n6;rw[←Qr own n0]at hI;have ds:=RN own n0 hI;rw[Qr own n0]at ds hI;have len:(AR f [] 0 []).length=Rs.length:=by
  have:=congrArg List.length ds
  rwa [Af,Af,Ge]at this
 have bk:∀{i:Nat} {e:Fo.En×List Bool},(AR f [] 0 [])[i]?=some e->i<Rs.length/\e.1.k=(i:Int)/\e.1.pl=Fo.ownP (AS (Rs.map R3.dw) i)/\e.2=List.replicate (AS (Rs.map R3.dw) i) false:=fun{i e} h=>by
  have hi:=(Ax.mp h).1;rw[len]at hi;have:=congrArg (λl=>l[i]?) ds;simp only[Bf,h,ER (sh:=sh) hi]at this;have:=CV this;refine⟨hi,(Gj this).1,(Gj (Gj this).2).1,(Gj (Gj this).2).2.trans ?_⟩;rw[show(Fo.ownB ("up":Str) (AS (Rs.map R3.dw)) sh i).ways.length=AS (Rs.map R3.dw) i from Dl]
 have m3:∀i,i<Rs.length->AS (Rs.map R3.dw) i<=3:=λi hi=>by rw[m7 (own.get hi).1];exact(own.get hi).2.len
 have hks:E6 f=Cu (Rs.map R3.dw).length:=by
  refine T9 λi=>?_;unfold E6 Cu;rw[Bf,Bf,Af];by_cases hi:i<Rs.length
  .have he:(AR f [] 0 [])[i]?=some ((AR f [] 0 [])[i]'(by lia)):=AA _;obtain⟨_,h2,_⟩:=bk he;rw[he,FI hi];exact congrArg some h2
  .rw[MM (by lia),MM (by rw[CI];lia)];rfl
 refine⟨⟨by rw[hks],IU f (KQ f _ 0 hI),λe he k D ek hD=>?_⟩,GP f _ 0 3 hI fr.hi,?_,len,λe he=>?_⟩
 .obtain⟨i,hi⟩:=DG.mp he;obtain⟨h1,h2,h3,h4⟩:=bk hi;have:i=k:=by lia
  subst this;rw[h3,h4,←NW hD];have:=m3 i h1;generalize AS (Rs.map R3.dw) i=m at *;refine⟨by rw[Ee,Dl],by rw[Ee];lia,λq hq=>?_,?_⟩
  .obtain⟨e,he,rfl⟩:=CY.mp hq;have he:=DE.mp he;exact⟨by show(0:Int)<=(e:Int);lia,by show(e:Int)<(m:Int);lia,by show -1000000000000000000<=(0:Int);decide,by show(0:Int)<=1000000000000000000;decide⟩
  .rw[Yc]
 .have:=JV f _ 0 3 hI fr.hi;have:=fr.len;lia
 .obtain⟨i,hi⟩:=DG.mp he;obtain⟨h1,_,h3,_⟩:=bk hi;rw[h3,Ee];exact m3 i h1
theorem Y3 (own:C4 Rs sh)(n0:0<Rs.length){f:AH}(hI:Fo.Is f (B7 Rs sh) 0){k:Int}{pl:List (Int×Int)}(hl:pl.length<=6):IM (Rs.map R3.dw) (Fo.app f (.leaf k pl .nil)):=by
 obtain⟨_,h1,h2,h3,h4⟩:=KO own n0 hI;have n6:=own.n6;obtain⟨j',e⟩:=M0 f (.leaf k pl .nil) [] 0 [];have l:(AR (Fo.app f (.leaf k pl .nil)) [] 0 []).length=Rs.length+1:=by rw[e,Ao,h3];rfl
 refine⟨λz=>?_,?_,?_,by lia,λe' he=>?_⟩
 .have:=z.1.length_eq;unfold E6 Cu at this;rw[Af,l,Af,CI,Af]at this;lia
 .have:=Lg f (.leaf k pl .nil);have:BF (.leaf k pl .nil)=1:=rfl;lia
 .rw[KL,show C1 (.leaf k pl .nil)=1 from rfl];lia
 .rw[e]at he;rcases Cw.mp he with c|c
  .have:=h4 e' c;lia
  .rw[Cy.mp c];show pl.length<=60;lia
theorem X8 (own:C4 Rs sh)(n0:0<Rs.length){f:AH}(hI:Fo.Is f (B7 Rs sh) 0):IM (Rs.map R3.dw) (Fo.app f (.node false ("up":Str) .nil .nil)):=by
 obtain⟨_,h1,h2,h3,h4⟩:=KO own n0 hI;have n6:=own.n6;obtain⟨j',e⟩:=M0 f (.node false ("up":Str) .nil .nil) [] 0 [];have e:AR (Fo.app f (.node false ("up":Str) .nil .nil)) [] 0 []=AR f [] 0 []:=by rw[e];exact CK _
 refine⟨λz=>?_,?_,?_,by rw[e];lia,λe' he=>?_⟩
 .have:=z.2.1;rw[Lc f _ rfl]at this;cases this
 .have:=Lg f (.node false ("up":Str) .nil .nil);have:BF (.node false ("up":Str) .nil .nil)=2:=rfl;lia
 .rw[KL,show C1 (.node false ("up":Str) .nil .nil)=1 from rfl];lia
 .rw[e]at he;have:=h4 e' he;lia
end
theorem Qw {m:Nat}{pl:List (Int×Int)}(h:pl.length≠m):¬F5 m pl (List.replicate m false):=λz=>h (by rw[z.1,Dl])
theorem Zk (m:Nat):Fo.ownP (m+1)=Fo.ownP m++[((m:Int),0)]:=by
 unfold Fo.ownP;rw[Ic,BA];rfl
theorem Ux (m:Nat)(pl:List (Int×Int)):¬F5 (m+1) (pl++[((m:Int)+1,0)]) (List.replicate (m+1) false):=λz=>by
 have:=(z.2.2.1 _ (Dj _ Cq)).2.1;have this:(m:Int)+1<((m+1:Nat):Int):=this;lia
theorem Ub (m:Nat):¬F5 (m+2) [((1:Int),0),(1,0)] (List.replicate (m+2) false):=λz=>by
 have l:=z.1;rw[Dl]at l;have l:2=m+2:=l;have:m=0:=by lia
 subst this;have h0:(0:Int)∈Cu (0+2):=by decide
 have:=z.2.2.2.symm.subset h0;have this:(0:Int)∈([1,1]:List Int):=this;simp at this
def YT (K:Faa):Sp:=λvs H Q _=>∃(cl:Addr) (cs:List Int) (lim far:Int),vs=[.ref cl,.int lim,.int far]/\A4 K H cl (cs.map V.int)/\cs.length<=63/\1<=lim/\lim<=6/\∀(r:Addr) (rv:List V) (H':Hp) (Rs:List R3),A8 H H'->H r=none->H' r=some (.lst rv)->Am (EO H') rv Rs->(∀R∈Rs,RB R/\FY H' R)->Rs.Pairwise HQ->Rs≠[]->Rs.length<=6->Q (.ref r) H'
def Q3:Sp:=λvs H Q _=>∃(l:Addr) (p:Nat) (x:V) (B:List AX) (b:AX),vs=[.ref l,.int (p:Int),x]/\GD H l B/\p<B.length/\Hg H x b/\FE (B.set p b) 0 3/\∀(r:Addr) (H':Hp) (f:AH),A8 H H'->DA H' r f->Fo.Is f (B.set p b) 0->Q (.ref r) H'
def Yp:Sp:=λvs H Q _=>∃(l:Addr) (kind:Int) (p:Nat) (Rs:List R3) (sh:Nat->Nat),vs=[.ref l,.int kind,.int (p:Int)]/\GD H l (B7 Rs sh)/\C4 Rs sh/\p<Rs.length/\∀(r:Addr) (H':Hp) (f:AH),A8 H H'->DA H' r f->IM (Rs.map R3.dw) f->Q (.ref r) H'
def Zq (X CP C:Addr)(c:Cs):Sp:=λvs H Q E=>∃(x dx dl p:Addr) (sz:V) (xs:List V) (Rs:List R3) (Df:Pm.Q4->Cd) (sh:Nat->Nat) (f:AH),vs=[.ref x,.ref p]/\H x=some (.ins CP dx [("size",sz),("deeds",.ref dl)])/\H dl=some (.lst xs)/\Am (D5 c C H) xs Rs/\(∀R∈Rs,R.r5.Ok)/\C4 Rs sh/\GT H Rs Df/\0<Rs.length/\DA H p f/\
 (
  (IM (Rs.map R3.dw) f/\∀(e:Addr) (H':Hp),A8 H H'->H' e=some (DK e X none)->E (.ref e) none H')\/
  (Fo.Is f (B7 Rs sh) 0/\∀(v r:Addr) (ys:List V) (H':Hp),A8 H H'->H r=none->H' v=some (.tup [.str "good",.ref r])->H' r=some (.lst ys)->Am (IX (wo H' r)) ys (Sm Rs Df sh)->Q (.ref v) H'))
def Pr (CP C:Addr)(c:Cs):Sp:=λvs H Q _=>∃(x dx dl p:Addr) (sz:V) (xs:List V) (Rs:List R3) (Df:Pm.Q4->Cd) (sh:Nat->Nat) (f:AH),vs=[.ref x,.ref p]/\H x=some (.ins CP dx [("size",sz),("deeds",.ref dl)])/\H dl=some (.lst xs)/\Am (D5 c C H) xs Rs/\(∀R∈Rs,R.r5.Ok)/\C4 Rs sh/\GT H Rs Df/\0<Rs.length/\DA H p f/\IM (Rs.map R3.dw) f/\∀H',A8 H H'->Q (.bl true) H'
theorem cj {X:Cx}:Ng X (λ_=>E0):=λ_ _ _ _ _ _ _ h=>by
 obtain⟨_,_,_,_,_,_,_,_,_,_,_,_,_,_,_,_,z⟩:=h;exact z.elim
theorem aZ:bootBuiltins "ValueError"=some (.type "ValueError"):=by decide +kernel
theorem TL {xs:List V}{k:Nat}(h:k<=xs.length):BU xs none (some (k:Int))=xs.take k:=by
 unfold BU;rw[HT.sIx_none,HT.sIx_nat,OM,MN,Dv h]
theorem YA (xs:List V)(k:Nat):BU xs (some (k:Int)) none=xs.drop k:=by
 unfold BU;rw[HT.sIx_none,HT.sIx_nat];rcases Nat.le_total k xs.length with c|c
 .rw[Dv c];exact EY (by rw[FG];exact Al _)
 .rw[MO c,KE c,DZ,MP]
theorem Va {α:Type}{R:V->α->Prop}{xs:List V}{as:List α}(h:Am R xs as){p:Nat}(hp:p<as.length){x:V}{a:α}(hx:R x a):Am R (xs.take p++[x]++xs.drop (p+1)) (as.set p a):=by
 have hl:=h.1;have e:xs.take p++[x]++xs.drop (p+1)=xs.set p x:=by
  rw[List.set_eq_take_append_cons_drop,Av (by lia),CW];rfl
 rw[e];refine⟨by rw[I0,I0];exact hl,λi y b hy hb=>?_⟩;rw[OO]at hy hb;by_cases c:p=i
 .rw[Av c,Av (by lia)]at hy hb;cases hy;cases hb;exact hx
 .rw[Aw c]at hy hb;exact h.2 i y b hy hb
theorem aq {xs:List V}{p:Nat}(h1:1<xs.length)(hp:p<xs.length):∃p':Nat,p'<xs.length/\p'≠p/\Be xs ((p:Int)-1)=xs[p']?:=by
 cases p with
 |
  zero=>
  refine⟨xs.length-1,by lia,by lia,?_⟩;unfold Be Dt;rw[Aw (by decide),Av (by show -(xs.length:Int)<=((0:Nat):Int)-1;lia)];show xs[((0:Nat)-1+(xs.length:Int):Int).toNat]?=_;rw[show(((0:Nat):Int)-1+(xs.length:Int)).toNat=xs.length-1 by lia]
 |
  succ p=>
  refine⟨p,by lia,by lia,?_⟩;rw[show((p+1:Nat):Int)-1=(p:Int) by lia];have:xs[p]?=some xs[p]:=AA (by lia);rw[this];exact Bg this
theorem W8 {xs:List V}(h1:0<xs.length):Be xs (-1)=xs[xs.length-1]?:=by
 unfold Be Dt;rw[Aw (by decide),Av (by lia)];show xs[(-1+(xs.length:Int)).toNat]?=_;rw[show(-1+(xs.length:Int)).toNat=xs.length-1 by lia]
theorem PQ (xs:List V):BU xs none (some (-1))=xs.dropLast:=by
 rcases List.eq_nil_or_concat xs with rfl|⟨l,x,rfl⟩
 .rfl
 .rw[List.concat_eq_append,List.dropLast_concat];exact Zo l [x] (Nat.succ_pos _) rfl
theorem Q9 {K:Faa}{H:Hp}:∀{xs:List V} {P:List (Int×Int)},Am (E7 H) xs P->Cp K H xs (P.map λp=>Tr.tup [.v (.int p.1),.v (.int p.2)])
 |[],[],_=>.nil
 |[],q::L,h=>by have:=h.1;cases this
 |y::ys,[],h=>by have:=h.1;cases this
 |
  y::ys,q::L,h=>by
  obtain⟨t,rfl,ht⟩:=h.2 0 y q rfl rfl;exact .cons (.tup (A7.of ht) (.cons (.flat rfl) (.cons (.flat rfl) .nil))) (Q9 ⟨Nat.succ.inj h.1,λi x a p q=>h.2 (i+1) x a (by simpa using p) (by simpa using q)⟩)
theorem RH:∀P:List (Int×Int),CU (P.map λp=>Tr.tup [.v (.int p.1),.v (.int p.2)])<=1
 |[]=>by rw[Gg,CU];exact Bv _
 |
  p::P=>by
  rw[Cr,CU];have:=RH P;simp only[CM,CU];lia
theorem SK {K:Faa}{H:Hp}{p z:Addr}{xs:List V}{P:List (Int×Int)}{Q:VK}(hp:H p=some (.lst xs))(ax:Am (E7 H) xs P)(hz:H z=some (.lst []))(h:Q (.bl (!P.isEmpty)) H):FP K true (.ref p) (.ref z) H Q:=by
 refine⟨_,.lst [],.lst (A4.of hp) (Q9 ax),.lst (A4.of hz) .nil,⟨_,rfl⟩,⟨_,rfl⟩,?_,by rw[CM];have:=RH P;lia,?_⟩
 .cases P<;>rfl
 .cases P<;>exact h
end L2
namespace Fw
open PySem L2 Bd
def B8 (i:Nat):Stmt:=PySem.Challenge.pw_furrow_k78_plans_that_do_not_fit.main.body.getD i (.Pass ⟨0,0,0,0⟩)
abbrev LH:Stmt:=Gs (B8 3) 0
abbrev LM:Stmt:=Gs (B8 4) 0
abbrev Mb:Stmt:=Gs (B8 5) 0
abbrev LN:Stmt:=Gs (B8 3) 2
abbrev Mv:Stmt:=Gs (B8 4) 2
abbrev Mi:Stmt:=Gs (B8 5) 2
abbrev Mo:Stmt:=Gs (B8 7) 0
abbrev LW:Stmt:=Gs (B8 8) 0
abbrev Mj:Stmt:=B8 9
abbrev M6:Stmt:=B8 10
abbrev Il:Stmt:=B8 14
abbrev LF:Stmt:=B8 15
abbrev Kd:Stmt:=B8 16
abbrev JO:Stmt:=B8 17
abbrev MF:Stmt:=B8 20
abbrev KM:Stmt:=B8 21
abbrev M4:Stmt:=B8 24
abbrev LA:Stmt:=B8 25
abbrev Kv:Stmt:=B8 34
abbrev Mx:Stmt:=B8 35
abbrev Mp:Stmt:=B8 36
abbrev Kc:Stmt:=B8 38
abbrev Lb:Stmt:=B8 39
abbrev KZ:Stmt:=B8 40
abbrev L7:Stmt:=B8 41
abbrev La:Stmt:=B8 43
abbrev Lz:Stmt:=B8 44
abbrev Mc:Stmt:=B8 45
abbrev Lv:Stmt:=B8 46
abbrev KY:Stmt:=B8 47
abbrev Lw:Stmt:=B8 48
abbrev Kn:Stmt:=B8 49
abbrev Mn:Stmt:=B8 61
abbrev Ms:Stmt:=B8 64
abbrev Ly:Stmt:=B8 65
abbrev Ld:Stmt:=B8 66
abbrev Mg:Stmt:=B8 67
abbrev L8:Stmt:=B8 68
abbrev GO:Stmt:=B8 69
abbrev Jv:Stmt:=B8 70
abbrev LR:Stmt:=B8 71
abbrev Mh:Stmt:=B8 72
abbrev LD:Stmt:=B8 73
abbrev L9:Stmt:=B8 74
abbrev Ki:Stmt:=B8 75
abbrev KW:Stmt:=B8 76
abbrev LZ:Stmt:=B8 77
abbrev L4:Stmt:=B8 78
abbrev MC:Stmt:=B8 79
abbrev JA:Stmt:=B8 80
theorem B4 {N P:List Str}{sc:Scope}(a:sc.kind = .function:=by rfl)(b:sc.isCoroutine=false:=by rfl)(c:sc.isGenerator=false:=by rfl)(d:N.Nodup:=by decide +kernel)(e:N.take P.length=P:=by rfl)(f:∀x∈P,sc.names.lookup x=some .local\/sc.names.lookup x=some .cell:=by decide +kernel)(g:∀y∈sc.names,y.2≠.free:=by decide +kernel):AV N P sc:=⟨a,b,c,d,e,f,g⟩
theorem Ul:AV ["self","n"] ["self","n"] (AC LH):=B4
theorem W6:AV ["self","table","spots"] ["self","table","spots"] (AC LM):=B4
theorem Vl:AV ["self","sign","left","right"] ["self","sign","left","right"] (AC Mb):=B4
theorem Vf:AV ["self"] ["self"] (AC LN):=B4
theorem XT:AV ["self"] ["self"] (AC Mv):=B4
theorem ZO:AV ["self"] ["self"] (AC Mi):=B4
theorem WZ:AV ["self","names","lows","highs","table","spots","term","path"] ["self","names","lows","highs","table","spots","term","path"] (AC Mo):=B4
theorem XN:AV ["self","size","deeds"] ["self","size","deeds"] (AC LW):=B4
theorem YK:AV ["one","other"] ["one","other"] (AC Mj):=B4
theorem Rq:AV ["path","other","most","e"] ["path","other","most"] (AC M6):=B4
theorem P7:AV ["program","plan","stood"] ["program","plan"] (AC Il):=B4
theorem FA:AV ["items","path","cuts","found","number","item","here"] ["items","path","cuts"] (AC LF):=B4
theorem Yd:AV ["items"] ["items"] (AC Kd):=B4
theorem Ku:AV ["deed","places","cuts","many","loop","shift","whole"] ["deed","places","cuts"] (AC JO):=B4
theorem JS:AV ["plan","k","number","places","path","cuts"] ["plan","k"] (AC MF):=B4
theorem GC:AV ["plan","k","l","one","other","found","items","level","item"] ["plan","k","l"] (AC KM):=B4
theorem Ig:AV ["program","plan","k","l","both","found","level","sweep","side"] ["program","plan","k","l"] (AC M4):=B4
theorem GA:AV ["program","plan","k","l","level","side","behind","bonds","number","sweep","u","w","above"] ["program","plan","k","l","level","side"] (AC LA):=B4
theorem IV:AV ["count","bonds","values","lowered_by","lowered","lap"] ["count","bonds"] (AC Kv):=B4
theorem IF:AV ["bonds","values","lowered_by","lowered","number","bond","top"] ["bonds","values","lowered_by"] (AC Mx):=B4
theorem Hc:AV ["count","bonds","lowered_by","lowered","start","lap","ring","at"] ["count","bonds","lowered_by","lowered"] (AC Mp):=B4
theorem RW:AV ["deed","reads"] ["deed"] (AC Kc):=B4
theorem JY:AV ["deed","first","bonds","e","low","high"] ["deed","first"] (AC Lb):=B4
theorem Ja:AV ["spots","names","first","others","other_names","other_first","bonds","spot","other","u","w"] ["spots","names","first","others","other_names","other_first"] (AC KZ):=B4
theorem UC:AV ["spot","names","first"] ["spot","names","first"] (AC L7):=B4
theorem G0:AV ["program","touched","found","k","a","touch","l","b","other"] ["program"] (AC La):=B4
theorem J5:AV ["program","found","k","deed","a","touch"] ["program"] (AC Lz):=B4
theorem NT:AV ["program","k","l","many"] ["program","k","l"] (AC Mc):=B4
theorem GV:AV ["program","k","a","l","b","case","one","other","behind","spots","others","bonds"] ["program","k","a","l","b","case"] (AC Lv):=B4
theorem Of:AV ["many","case","behind","bonds","e"] ["many","case","behind"] (AC KY):=B4
theorem Hq:AV ["program","found","k","a","l","b","case"] ["program"] (AC Lw):=B4
theorem Ol:AV ["program","k","l","bonds","behind","answer"] ["program","k","l","bonds"] (AC Kn):=B4
theorem Ep:AV ["program","plan","rings","k","a","l","b","case","bonds","answer","bare","level","side"] ["program","plan"] (AC Mn):=B4
theorem aQ:AV ["_law_script","_law_k"] ["_law_script","_law_k"] (AC Ms):=B4
theorem RD:AV ["_law_cell","_law_k","_law_number"] ["_law_cell","_law_k"] (AC Ly):=B4
theorem QV:AV ["_law_names","_law_q","_law_far","_law_n"] ["_law_names","_law_q","_law_far"] (AC Ld):=B4
theorem Ry:AV ["_law_names","_law_q","_law_far","_law_spots"] ["_law_names","_law_q","_law_far"] (AC Mg):=B4
theorem Gr:AV ["_law_names","_law_q","_law_far","_law_turn","_law_last","_law_letter","_law_name","_law_low","_law_high"] ["_law_names","_law_q","_law_far","_law_turn","_law_last"] (AC L8):=B4
theorem HS:AV ["_law_stack","_law_path","_law_cell","_law_far","_law_limit","_law_names","_law_reads","_law_k","_law_own","_law_lows","_law_highs"] ["_law_stack","_law_path","_law_cell","_law_far","_law_limit"] (AC GO):=B4
theorem Gy:AV ["_law_cells","_law_limit","_law_far","_law_stack","_law_path","_law_rows_here","_law_last","_law_cell","_law_q","_law_depth"] ["_law_cells","_law_limit","_law_far"] (AC Jv):=B4
theorem Mw:AV ["_law_reads","_law_term_here","_law_seen"] ["_law_reads"] (AC LR):=B4
theorem Nh:AV ["_law_rows_here","_law_deeds","_law_row_here"] ["_law_rows_here"] (AC Mh):=B4
theorem O9:AV ["_law_one","_law_other","_law_e"] ["_law_one","_law_other"] (AC LD):=B4
theorem Hr:AV ["_law_boughs","_law_depth","_law_items_here","_law_at","_law_upto","_law_way"] ["_law_boughs","_law_depth"] (AC L9):=B4
theorem Ik:AV ["_law_rows_here","_law_boughs","_law_k","_law_depth","_law_share"] ["_law_rows_here"] (AC Ki):=B4
theorem UF:AV ["_law_boughs","_law_p","_law_bough"] ["_law_boughs","_law_p","_law_bough"] (AC KW):=B4
theorem Mr:AV ["_law_boughs","_law_kind","_law_p","_law_k","_law_pairs","_law_more"] ["_law_boughs","_law_kind","_law_p"] (AC LZ):=B4
theorem LJ:AV ["_law_program_here","_law_plan","_law_kinds","_law_e"] ["_law_program_here","_law_plan"] (AC L4):=B4
theorem OE:AV ["_law_program_here","_law_plan","_law_refused_here"] ["_law_program_here","_law_plan"] (AC MC):=B4
theorem Hl:AV ["_law_script","_law_many","_law_rows_here","_law_boughs","_law_plan","_law_program_here","_law_found"] ["_law_script"] (AC JA):=B4
theorem WO:Dy (Em [(".0",.local),("table",.local),("spots",.local)]) (AC Kc)  ["deed","reads"] ["table","spots"] [none,none]=true:=by decide +kernel
theorem Qy:(["table","spots"]:List Str).Nodup:=by decide +kernel
theorem UR:Dy (Em [(".0",.local),("value",.local),("values",.free)]) (AC Kv)  ["count","bonds","values","lowered_by","lowered","lap"] ["value","values"] [none,some 2]=true:=by decide +kernel
theorem ZP:(["value","values"]:List Str).Nodup:=by decide +kernel
theorem YI:Dy (Em [(".0",.local),("number",.local),("bonds",.free)]) (AC Kn)  ["program","k","l","bonds","behind","answer"] ["number","bonds"] [none,some 3]=true:=by decide +kernel
theorem UE:(["number","bonds"]:List Str).Nodup:=by decide +kernel
theorem We:Dy (Em [(".0",.local),("item",.local),("has_bare_sweep",.globalImplicit)]) (AC Kd)  ["items"] ["item"] [none]=true:=by decide +kernel
theorem ag:(["item"]:List Str).Nodup:=by decide +kernel
theorem V6:Dy (Em [(".0",.local),("place",.local),("cut",.local)]) (AC JO)  ["deed","places","cuts","many","loop","shift","whole"] ["place","cut"] [none,none]=true:=by decide +kernel
theorem PV:(["place","cut"]:List Str).Nodup:=by decide +kernel
theorem Vz:Dy (Em [(".0",.local),("k",.local),("places",.local),("path",.local),("cuts",.local)]) (AC Il)  ["program","plan","stood"] ["k","places","path","cuts"] [none,none,none,none]=true:=by decide +kernel
theorem M8:(["k","places","path","cuts"]:List Str).Nodup:=by decide +kernel
theorem bj:Dy (Em [(".0",.local),("k",.local),("places",.local),("path",.local),("cuts",.local),("well_placed",.globalImplicit),("program",.free)]) (AC Il)  ["program","plan","stood"] ["k","places","path","cuts","program"] [none,none,none,none,some 0]=true:=by decide +kernel
theorem M9:(["k","places","path","cuts","program"]:List Str).Nodup:=by decide +kernel
theorem c8:Dy (Em [(".0",.local),("_law_one",.local)]) (AC GO)  ["_law_stack","_law_path","_law_cell","_law_far","_law_limit","_law_names","_law_reads","_law_k","_law_own","_law_lows","_law_highs"] ["_law_one"] [none]=true:=by decide +kernel
theorem VJ:(["_law_one"]:List Str).Nodup:=by decide +kernel
theorem bM:Dy (Em [(".0",.local),("_law_one",.local)]) (AC GO)  ["_law_stack","_law_path","_law_cell","_law_far","_law_limit","_law_names","_law_reads","_law_k","_law_own","_law_lows","_law_highs"] ["_law_one"] [none]=true:=by decide +kernel
theorem Wx:(["_law_one"]:List Str).Nodup:=by decide +kernel
theorem aM:Dy (Em [(".0",.local),("_law_one",.local)]) (AC GO)  ["_law_stack","_law_path","_law_cell","_law_far","_law_limit","_law_names","_law_reads","_law_k","_law_own","_law_lows","_law_highs"] ["_law_one"] [none]=true:=by decide +kernel
theorem TH:(["_law_one"]:List Str).Nodup:=by decide +kernel
theorem Yv:Dy (Em [(".0",.local),("_law_one",.local)]) (AC Jv)  ["_law_cells","_law_limit","_law_far","_law_stack","_law_path","_law_rows_here","_law_last","_law_cell","_law_q","_law_depth"] ["_law_one"] [none]=true:=by decide +kernel
theorem WS:(["_law_one"]:List Str).Nodup:=by decide +kernel
theorem ZY:Dy (Em [(".0",.local),("_law_e",.local)]) (AC Ki)  ["_law_rows_here","_law_boughs","_law_k","_law_depth","_law_share"] ["_law_e"] [none]=true:=by decide +kernel
theorem Xc:(["_law_e"]:List Str).Nodup:=by decide +kernel
theorem aI:Dy (Em [(".0",.local),("_law_k",.local),("_law_cell_at",.globalImplicit),("_law_script",.free)]) (AC JA)  ["_law_script","_law_many","_law_rows_here","_law_boughs","_law_plan","_law_program_here","_law_found"] ["_law_k","_law_script"] [none,some 0]=true:=by decide +kernel
theorem UZ:(["_law_k","_law_script"]:List Str).Nodup:=by decide +kernel
structure Bw (K:Faa)(x:Str)(st:Stmt)(f:Addr)(d:FuncData):Prop where
 a:PySem.W.nsIn K mainGlobals x=some (some (.ref f))
 F:AQ K x x st f d
structure Gp (K:Faa)(C:Addr)(x q:Str)(st:Stmt)(f:Addr)(d:FuncData):Prop where
 a:PySem.W.findIn K (.ref C) x=some (some (.ref f))
 i:PySem.W.isFn K (.ref f)=true
 F:AQ K x q st f d
structure ClA (K:Faa)(C:Addr)(x:Str):Prop where
 a:PySem.W.nsIn K mainGlobals x=some (some (.ref C))
 pg:PySem.W.plainGet K C Str.empty=true
 hd:PySem.W.hasDictIn K C=true
 po:PySem.W.plainOver K C=true
 sa:PySem.W.findIn K (.ref C) "__setattr__"=some (some (.builtin "object.__setattr__"))
 mi:PySem.W.makesIn K C=true
 kc:PySem.W.keepIn K (.ref C)=true
abbrev B6 (x q:Str)(st:Stmt)(ps:List Str):Prop := ∀(kV doc pm:Value) (an:Option Addr) (cdv ct:Value) (us:List Value),us.length=ps.length->bindArgs (PySem.W.fnOf x q (Kh st) (HN st) (AC st) .none kV doc pm an cdv ct) ⟨us,[]⟩=pure (ps.zip us)
structure Ad where
 f_T:Addr
 d_T:FuncData
 f_U:Addr
 d_U:FuncData
 f_V:Addr
 d_V:FuncData
 f_r:Addr
 d_r:FuncData
 f_s:Addr
 d_s:FuncData
 f_t:Addr
 d_t:FuncData
 f_W:Addr
 d_W:FuncData
 f_X:Addr
 d_X:FuncData
 f_k:Addr
 d_k:FuncData
 f_l:Addr
 d_l:FuncData
 f_u:Addr
 d_u:FuncData
 f_c:Addr
 d_c:FuncData
 f_m:Addr
 d_m:FuncData
 f_v:Addr
 d_v:FuncData
 f_d:Addr
 d_d:FuncData
 f_n:Addr
 d_n:FuncData
 f_w:Addr
 d_w:FuncData
 f_x:Addr
 d_x:FuncData
 f_y:Addr
 d_y:FuncData
 f_z:Addr
 d_z:FuncData
 f_A:Addr
 d_A:FuncData
 f_i:Addr
 d_i:FuncData
 f_o:Addr
 d_o:FuncData
 f_B:Addr
 d_B:FuncData
 f_e:Addr
 d_e:FuncData
 f_C:Addr
 d_C:FuncData
 f_D:Addr
 d_D:FuncData
 f_E:Addr
 d_E:FuncData
 f_F:Addr
 d_F:FuncData
 f_G:Addr
 d_G:FuncData
 f_H:Addr
 d_H:FuncData
 f_p:Addr
 d_p:FuncData
 f_h:Addr
 d_h:FuncData
 f_g:Addr
 d_g:FuncData
 f_f:Addr
 d_f:FuncData
 f_j:Addr
 d_j:FuncData
 f_q:Addr
 d_q:FuncData
 f_I:Addr
 d_I:FuncData
 f_J:Addr
 d_J:FuncData
 f_K:Addr
 d_K:FuncData
 f_L:Addr
 d_L:FuncData
 f_M:Addr
 d_M:FuncData
 f_N:Addr
 d_N:FuncData
 f_b:Addr
 d_b:FuncData
 f_O:Addr
 d_O:FuncData
 f_a:Addr
 d_a:FuncData
 f_P:Addr
 d_P:FuncData
 f_Q:Addr
 d_Q:FuncData
 f_R:Addr
 d_R:FuncData
 f_S:Addr
 d_S:FuncData
 c_Term:Addr
 c_Number:Addr
 c_Cell:Addr
 c_Joined:Addr
 c_Deed:Addr
 c_Program:Addr
 c_FurrowError:Addr
 c_NoPlan:Addr
 c_TooMany:Addr
 c_BadPlan:Addr
 c_NoTurning:Addr
 u_MOST_PAIRS:Value
 u_MOST_SHIFT:Value
 u_SIDES:Addr
 u_SIDES0:Addr
 u_SIDES1:Addr
 u_SIDES2:Addr
structure Tx (w:World)(K:Faa)(mg:Str->Option Value)(a:Ad):Prop where
 F_T:AQ K "__init__" "Number.__init__" LH a.f_T a.d_T
 b_T:AO K a.d_T ["self","n"] []
 F_U:AQ K "__init__" "Cell.__init__" LM a.f_U a.d_U
 b_U:AO K a.d_U ["self","table","spots"] []
 F_V:AQ K "__init__" "Joined.__init__" Mb a.f_V a.d_V
 b_V:AO K a.d_V ["self","sign","left","right"] []
 F_r:AQ K "reads" "Number.reads" LN a.f_r a.d_r
 b_r:AO K a.d_r ["self"] []
 F_s:AQ K "reads" "Cell.reads" Mv a.f_s a.d_s
 b_s:AO K a.d_s ["self"] []
 F_t:AQ K "reads" "Joined.reads" Mi a.f_t a.d_t
 b_t:AO K a.d_t ["self"] []
 F_W:AQ K "__init__" "Deed.__init__" Mo a.f_W a.d_W
 b_W:AO K a.d_W ["self","names","lows","highs","table","spots","term","path"] []
 F_X:AQ K "__init__" "Program.__init__" LW a.f_X a.d_X
 b_X:AO K a.d_X ["self","size","deeds"] []
 F_k:AQ K "shared" "shared" Mj a.f_k a.d_k
 b_k:AO K a.d_k ["one","other"] []
 m_k:mg "shared"=some (.ref a.f_k)
 F_l:AQ K "alike_numbers" "alike_numbers" M6 a.f_l a.d_l
 b_l:AO K a.d_l ["path","other","most"] []
 m_l:mg "alike_numbers"=some (.ref a.f_l)
 F_u:AQ K "fits" "fits" Il a.f_u a.d_u
 b_u:AO K a.d_u ["program","plan"] []
 m_u:mg "fits"=some (.ref a.f_u)
 F_c:AQ K "deeds_within" "deeds_within" LF a.f_c a.d_c
 b_c:AO K a.d_c ["items","path","cuts"] []
 m_c:mg "deeds_within"=some (.ref a.f_c)
 F_m:AQ K "has_bare_sweep" "has_bare_sweep" Kd a.f_m a.d_m
 b_m:AO K a.d_m ["items"] []
 m_m:mg "has_bare_sweep"=some (.ref a.f_m)
 F_v:AQ K "well_placed" "well_placed" JO a.f_v a.d_v
 b_v:AO K a.d_v ["deed","places","cuts"] []
 m_v:mg "well_placed"=some (.ref a.f_v)
 F_d:AQ K "stand" "stand" MF a.f_d a.d_d
 b_d:AO K a.d_d ["plan","k"] []
 m_d:mg "stand"=some (.ref a.f_d)
 F_n:AQ K "round_both" "round_both" KM a.f_n a.d_n
 b_n:AO K a.d_n ["plan","k","l"] []
 m_n:mg "round_both"=some (.ref a.f_n)
 F_w:AQ K "sides" "sides" M4 a.f_w a.d_w
 b_w:AO K a.d_w ["program","plan","k","l"] []
 m_w:mg "sides"=some (.ref a.f_w)
 F_x:AQ K "side_bonds" "side_bonds" LA a.f_x a.d_x
 b_x:AO K a.d_x ["program","plan","k","l","level","side"] []
 m_x:mg "side_bonds"=some (.ref a.f_x)
 F_y:AQ K "settled" "settled" Kv a.f_y a.d_y
 b_y:AO K a.d_y ["count","bonds"] []
 m_y:mg "settled"=some (.ref a.f_y)
 F_z:AQ K "lowered_in_a_round" "lowered_in_a_round" Mx a.f_z a.d_z
 b_z:AO K a.d_z ["bonds","values","lowered_by"] []
 m_z:mg "lowered_in_a_round"=some (.ref a.f_z)
 F_A:AQ K "ring_behind" "ring_behind" Mp a.f_A a.d_A
 b_A:AO K a.d_A ["count","bonds","lowered_by","lowered"] []
 m_A:mg "ring_behind"=some (.ref a.f_A)
 F_i:AQ K "touches" "touches" Kc a.f_i a.d_i
 b_i:AO K a.d_i ["deed"] []
 m_i:mg "touches"=some (.ref a.f_i)
 F_o:AQ K "loop_bonds" "loop_bonds" Lb a.f_o a.d_o
 b_o:AO K a.d_o ["deed","first"] []
 m_o:mg "loop_bonds"=some (.ref a.f_o)
 F_B:AQ K "like_bonds" "like_bonds" KZ a.f_B a.d_B
 b_B:AO K a.d_B ["spots","names","first","others","other_names","other_first"] []
 m_B:mg "like_bonds"=some (.ref a.f_B)
 F_e:AQ K "unknown_of" "unknown_of" L7 a.f_e a.d_e
 b_e:AO K a.d_e ["spot","names","first"] []
 m_e:mg "unknown_of"=some (.ref a.f_e)
 F_C:AQ K "meets" "meets" La a.f_C a.d_C
 b_C:AO K a.d_C ["program"] []
 m_C:mg "meets"=some (.ref a.f_C)
 F_D:AQ K "all_touches" "all_touches" Lz a.f_D a.d_D
 b_D:AO K a.d_D ["program"] []
 m_D:mg "all_touches"=some (.ref a.f_D)
 F_E:AQ K "cases" "cases" Mc a.f_E a.d_E
 b_E:AO K a.d_E ["program","k","l"] []
 m_E:mg "cases"=some (.ref a.f_E)
 F_F:AQ K "case_bonds" "case_bonds" Lv a.f_F a.d_F
 b_F:AO K a.d_F ["program","k","a","l","b","case"] []
 m_F:mg "case_bonds"=some (.ref a.f_F)
 F_G:AQ K "order_bonds" "order_bonds" KY a.f_G a.d_G
 b_G:AO K a.d_G ["many","case","behind"] []
 m_G:mg "order_bonds"=some (.ref a.f_G)
 F_H:AQ K "cases_met" "cases_met" Lw a.f_H a.d_H
 b_H:AO K a.d_H ["program"] []
 m_H:mg "cases_met"=some (.ref a.f_H)
 F_p:AQ K "answer_of" "answer_of" Kn a.f_p a.d_p
 b_p:AO K a.d_p ["program","k","l","bonds"] []
 m_p:mg "answer_of"=some (.ref a.f_p)
 F_h:AQ K "looked" "looked" Mn a.f_h a.d_h
 b_h:AO K a.d_h ["program","plan"] []
 m_h:mg "looked"=some (.ref a.f_h)
 F_g:AQ K "_law_cell_at" "_law_cell_at" Ms a.f_g a.d_g
 b_g:AO K a.d_g ["_law_script","_law_k"] []
 m_g:mg "_law_cell_at"=some (.ref a.f_g)
 F_f:AQ K "_law_mixed" "_law_mixed" Ly a.f_f a.d_f
 b_f:AO K a.d_f ["_law_cell","_law_k"] []
 m_f:mg "_law_mixed"=some (.ref a.f_f)
 F_j:AQ K "_law_spot" "_law_spot" Ld a.f_j a.d_j
 b_j:AO K a.d_j ["_law_names","_law_q","_law_far"] []
 m_j:mg "_law_spot"=some (.ref a.f_j)
 F_q:AQ K "_law_touch" "_law_touch" Mg a.f_q a.d_q
 b_q:AO K a.d_q ["_law_names","_law_q","_law_far"] []
 m_q:mg "_law_touch"=some (.ref a.f_q)
 F_I:AQ K "_law_loop" "_law_loop" L8 a.f_I a.d_I
 b_I:AO K a.d_I ["_law_names","_law_q","_law_far","_law_turn","_law_last"] []
 m_I:mg "_law_loop"=some (.ref a.f_I)
 F_J:AQ K "_law_row" "_law_row" GO a.f_J a.d_J
 b_J:AO K a.d_J ["_law_stack","_law_path","_law_cell","_law_far","_law_limit"] []
 m_J:mg "_law_row"=some (.ref a.f_J)
 F_K:AQ K "_law_rows" "_law_rows" Jv a.f_K a.d_K
 b_K:AO K a.d_K ["_law_cells","_law_limit","_law_far"] []
 m_K:mg "_law_rows"=some (.ref a.f_K)
 F_L:AQ K "_law_term" "_law_term" LR a.f_L a.d_L
 b_L:AO K a.d_L ["_law_reads"] []
 m_L:mg "_law_term"=some (.ref a.f_L)
 F_M:AQ K "_law_program" "_law_program" Mh a.f_M a.d_M
 b_M:AO K a.d_M ["_law_rows_here"] []
 m_M:mg "_law_program"=some (.ref a.f_M)
 F_N:AQ K "_law_common" "_law_common" LD a.f_N a.d_N
 b_N:AO K a.d_N ["_law_one","_law_other"] []
 m_N:mg "_law_common"=some (.ref a.f_N)
 F_b:AQ K "_law_items" "_law_items" L9 a.f_b a.d_b
 b_b:AO K a.d_b ["_law_boughs","_law_depth"] []
 m_b:mg "_law_items"=some (.ref a.f_b)
 F_O:AQ K "_law_own_boughs" "_law_own_boughs" Ki a.f_O a.d_O
 b_O:AO K a.d_O ["_law_rows_here"] []
 m_O:mg "_law_own_boughs"=some (.ref a.f_O)
 F_a:AQ K "_law_with" "_law_with" KW a.f_a a.d_a
 b_a:AO K a.d_a ["_law_boughs","_law_p","_law_bough"] []
 m_a:mg "_law_with"=some (.ref a.f_a)
 F_P:AQ K "_law_spoilt" "_law_spoilt" LZ a.f_P a.d_P
 b_P:AO K a.d_P ["_law_boughs","_law_kind","_law_p"] []
 m_P:mg "_law_spoilt"=some (.ref a.f_P)
 F_Q:AQ K "_law_refused" "_law_refused" L4 a.f_Q a.d_Q
 b_Q:AO K a.d_Q ["_law_program_here","_law_plan"] []
 m_Q:mg "_law_refused"=some (.ref a.f_Q)
 F_R:AQ K "_law_refused_by_any" "_law_refused_by_any" MC a.f_R a.d_R
 b_R:AO K a.d_R ["_law_program_here","_law_plan"] []
 m_R:mg "_law_refused_by_any"=some (.ref a.f_R)
 F_S:AQ K "law" "law" JA a.f_S a.d_S
 b_S:AO K a.d_S ["_law_script"] []
 m_S:mg "law"=some (.ref a.f_S)
 cl_Term:DX K a.c_Term
 mc_Term:mg "Term"=some (.ref a.c_Term)
 cl_Number:DX K a.c_Number
 mc_Number:mg "Number"=some (.ref a.c_Number)
 mk_Number:Mk K a.c_Number a.f_T
 me_Number_reads:JL K a.c_Number "reads" a.f_r
 n_Number_n:CS K a.c_Number "n"
 cl_Cell:DX K a.c_Cell
 mc_Cell:mg "Cell"=some (.ref a.c_Cell)
 mk_Cell:Mk K a.c_Cell a.f_U
 me_Cell_reads:JL K a.c_Cell "reads" a.f_s
 n_Cell_table:CS K a.c_Cell "table"
 n_Cell_spots:CS K a.c_Cell "spots"
 cl_Joined:DX K a.c_Joined
 mc_Joined:mg "Joined"=some (.ref a.c_Joined)
 mk_Joined:Mk K a.c_Joined a.f_V
 me_Joined_reads:JL K a.c_Joined "reads" a.f_t
 n_Joined_sign:CS K a.c_Joined "sign"
 n_Joined_left:CS K a.c_Joined "left"
 n_Joined_right:CS K a.c_Joined "right"
 cl_Deed:DX K a.c_Deed
 mc_Deed:mg "Deed"=some (.ref a.c_Deed)
 mk_Deed:Mk K a.c_Deed a.f_W
 n_Deed_names:CS K a.c_Deed "names"
 n_Deed_lows:CS K a.c_Deed "lows"
 n_Deed_highs:CS K a.c_Deed "highs"
 n_Deed_table:CS K a.c_Deed "table"
 n_Deed_spots:CS K a.c_Deed "spots"
 n_Deed_term:CS K a.c_Deed "term"
 n_Deed_path:CS K a.c_Deed "path"
 cl_Program:DX K a.c_Program
 mc_Program:mg "Program"=some (.ref a.c_Program)
 mk_Program:Mk K a.c_Program a.f_X
 n_Program_size:CS K a.c_Program "size"
 n_Program_deeds:CS K a.c_Program "deeds"
 mc_FurrowError:mg "FurrowError"=some (.ref a.c_FurrowError)
 xi_FurrowError:XI K a.c_FurrowError
 ct_FurrowError:∃N,∀h,K.In h->EX.ClsT h a.c_FurrowError N (([]:List Addr).map Value.ref++EX.bmVE)
 xm_FurrowError:IK K a.c_FurrowError
 is_FurrowError_FurrowError:PySem.W.kitOne K (.ref a.c_FurrowError) (.ref a.c_FurrowError)=some true
 is_FurrowError_NoPlan:PySem.W.kitOne K (.ref a.c_FurrowError) (.ref a.c_NoPlan)=some false
 is_FurrowError_TooMany:PySem.W.kitOne K (.ref a.c_FurrowError) (.ref a.c_TooMany)=some false
 is_FurrowError_BadPlan:PySem.W.kitOne K (.ref a.c_FurrowError) (.ref a.c_BadPlan)=some false
 is_FurrowError_NoTurning:PySem.W.kitOne K (.ref a.c_FurrowError) (.ref a.c_NoTurning)=some false
 kv_FurrowError:PySem.W.kitOne K (.ref a.c_FurrowError) (.type "ValueError")=some true
 mc_NoPlan:mg "NoPlan"=some (.ref a.c_NoPlan)
 xi_NoPlan:XI K a.c_NoPlan
 ct_NoPlan:∃N,∀h,K.In h->EX.ClsT h a.c_NoPlan N (([a.c_FurrowError]:List Addr).map Value.ref++EX.bmVE)
 xm_NoPlan:IK K a.c_NoPlan
 is_NoPlan_FurrowError:PySem.W.kitOne K (.ref a.c_NoPlan) (.ref a.c_FurrowError)=some true
 is_NoPlan_NoPlan:PySem.W.kitOne K (.ref a.c_NoPlan) (.ref a.c_NoPlan)=some true
 is_NoPlan_TooMany:PySem.W.kitOne K (.ref a.c_NoPlan) (.ref a.c_TooMany)=some false
 is_NoPlan_BadPlan:PySem.W.kitOne K (.ref a.c_NoPlan) (.ref a.c_BadPlan)=some false
 is_NoPlan_NoTurning:PySem.W.kitOne K (.ref a.c_NoPlan) (.ref a.c_NoTurning)=some false
 kv_NoPlan:PySem.W.kitOne K (.ref a.c_NoPlan) (.type "ValueError")=some true
 mc_TooMany:mg "TooMany"=some (.ref a.c_TooMany)
 xi_TooMany:XI K a.c_TooMany
 ct_TooMany:∃N,∀h,K.In h->EX.ClsT h a.c_TooMany N (([a.c_FurrowError]:List Addr).map Value.ref++EX.bmVE)
 xm_TooMany:IK K a.c_TooMany
 is_TooMany_FurrowError:PySem.W.kitOne K (.ref a.c_TooMany) (.ref a.c_FurrowError)=some true
 is_TooMany_NoPlan:PySem.W.kitOne K (.ref a.c_TooMany) (.ref a.c_NoPlan)=some false
 is_TooMany_TooMany:PySem.W.kitOne K (.ref a.c_TooMany) (.ref a.c_TooMany)=some true
 is_TooMany_BadPlan:PySem.W.kitOne K (.ref a.c_TooMany) (.ref a.c_BadPlan)=some false
 is_TooMany_NoTurning:PySem.W.kitOne K (.ref a.c_TooMany) (.ref a.c_NoTurning)=some false
 kv_TooMany:PySem.W.kitOne K (.ref a.c_TooMany) (.type "ValueError")=some true
 mc_BadPlan:mg "BadPlan"=some (.ref a.c_BadPlan)
 xi_BadPlan:XI K a.c_BadPlan
 ct_BadPlan:∃N,∀h,K.In h->EX.ClsT h a.c_BadPlan N (([a.c_FurrowError]:List Addr).map Value.ref++EX.bmVE)
 xm_BadPlan:IK K a.c_BadPlan
 is_BadPlan_FurrowError:PySem.W.kitOne K (.ref a.c_BadPlan) (.ref a.c_FurrowError)=some true
 is_BadPlan_NoPlan:PySem.W.kitOne K (.ref a.c_BadPlan) (.ref a.c_NoPlan)=some false
 is_BadPlan_TooMany:PySem.W.kitOne K (.ref a.c_BadPlan) (.ref a.c_TooMany)=some false
 is_BadPlan_BadPlan:PySem.W.kitOne K (.ref a.c_BadPlan) (.ref a.c_BadPlan)=some true
 is_BadPlan_NoTurning:PySem.W.kitOne K (.ref a.c_BadPlan) (.ref a.c_NoTurning)=some false
 kv_BadPlan:PySem.W.kitOne K (.ref a.c_BadPlan) (.type "ValueError")=some true
 mc_NoTurning:mg "NoTurning"=some (.ref a.c_NoTurning)
 xi_NoTurning:XI K a.c_NoTurning
 ct_NoTurning:∃N,∀h,K.In h->EX.ClsT h a.c_NoTurning N (([a.c_FurrowError]:List Addr).map Value.ref++EX.bmVE)
 xm_NoTurning:IK K a.c_NoTurning
 is_NoTurning_FurrowError:PySem.W.kitOne K (.ref a.c_NoTurning) (.ref a.c_FurrowError)=some true
 is_NoTurning_NoPlan:PySem.W.kitOne K (.ref a.c_NoTurning) (.ref a.c_NoPlan)=some false
 is_NoTurning_TooMany:PySem.W.kitOne K (.ref a.c_NoTurning) (.ref a.c_TooMany)=some false
 is_NoTurning_BadPlan:PySem.W.kitOne K (.ref a.c_NoTurning) (.ref a.c_BadPlan)=some false
 is_NoTurning_NoTurning:PySem.W.kitOne K (.ref a.c_NoTurning) (.ref a.c_NoTurning)=some true
 kv_NoTurning:PySem.W.kitOne K (.ref a.c_NoTurning) (.type "ValueError")=some true
 xnd:([a.c_FurrowError,a.c_NoPlan,a.c_TooMany,a.c_BadPlan,a.c_NoTurning]:List Addr).Nodup
 xb:XB K a.c_FurrowError
 z_ValueError:mg "ValueError"=none
 z_abs:mg "abs"=none
 z_all:mg "all"=none
 z_any:mg "any"=none
 z_enumerate:mg "enumerate"=none
 z_int:mg "int"=none
 z_isinstance:mg "isinstance"=none
 z_len:mg "len"=none
 z_list:mg "list"=none
 z_min:mg "min"=none
 z_range:mg "range"=none
 z_sorted:mg "sorted"=none
 z_tuple:mg "tuple"=none
 z_zip:mg "zip"=none
 g_MOST_PAIRS:mg "MOST_PAIRS"=some a.u_MOST_PAIRS
 r_MOST_PAIRS:AK (.int 6) a.u_MOST_PAIRS
 g_MOST_SHIFT:mg "MOST_SHIFT"=some a.u_MOST_SHIFT
 r_MOST_SHIFT:AK (.int 1000000000000000000) a.u_MOST_SHIFT
 g_SIDES:mg "SIDES"=some (.ref a.u_SIDES)
 r_SIDES:AK (.ref a.u_SIDES) (.ref a.u_SIDES)
 q_SIDES0:∀H:Hp,A7 K H a.u_SIDES0 [.str "more"]
 q_SIDES1:∀H:Hp,A7 K H a.u_SIDES1 [.str "less"]
 q_SIDES2:∀H:Hp,A7 K H a.u_SIDES2 [.str "less",.str "more"]
 d_SIDES:∀P:Program,NI P w K a.u_SIDES [(.inr "up",.ref a.u_SIDES0),(.inr "down",.ref a.u_SIDES1),(.inr "any",.ref a.u_SIDES2)]
def CQ (a:Ad):Cs:=⟨a.c_Number,a.c_Number,a.c_Cell,a.c_Joined⟩
section
variable {P:Program}{w:World}{K:Faa}{mg:Str->Option Value}{base:Heap}{a:Ad}
theorem XW (T:Tx w K mg a):AM P w K mg base AW 1 a.f_T a.d_T ["self","n"] (NA a.c_Number ["n"]):=by
 refine T.F_T.ok Ul (λvs H Q E h=>?_) (λcdv A outer s H vs Q E hr h=>?_)
 .obtain⟨_,_,vs,rfl,hl,_⟩:=h;rw[BH,hl];rfl
 obtain⟨x,dx,vs,rfl,hl,hx,q⟩:=h;obtain⟨n,r1,rfl,l1⟩:=IG (n:=0) hl;obtain rfl:=OU l1;refine⟨_,(Ae (DR (pv 0) (pv 1) rfl)),?_⟩;exact⟨_,rfl,_,rfl,x,_,dx,_,rfl,hx,T.cl_Number,T.n_Number_n,(by show 0<1000;decide),q _ (λb o e hb=>by rw[Ak hb];exact e) ⟨dx,A5⟩⟩
theorem Zi (T:Tx w K mg a):AM P w K mg base AW 1 a.f_U a.d_U ["self","table","spots"] (NA a.c_Cell ["table","spots"]):=by
 refine T.F_U.ok W6 (λvs H Q E h=>?_) (λcdv A outer s H vs Q E hr h=>?_)
 .obtain⟨_,_,vs,rfl,hl,_⟩:=h;rw[BH,hl];rfl
 refine Ah λ_ zA=>?_;obtain⟨x,dx,vs,rfl,hl,hx,q⟩:=h;obtain⟨n,r1,rfl,l1⟩:=IG (n:=1) hl;obtain⟨m,r2,rfl,l2⟩:=IG (n:=0) l1;obtain rfl:=OU l2;refine zA ?_;refine⟨_,(Ab (DR (pv 0) (pv 1) rfl)
  (Ae (DR (pv 0) (pv 2) rfl))),?_⟩
 refine⟨_,rfl,_,rfl,x,_,dx,_,rfl,hx,T.cl_Cell,T.n_Cell_table,(by show 0<1000;decide),?_⟩;refine⟨_,rfl,_,rfl,x,_,dx,_,rfl,A5,T.cl_Cell,T.n_Cell_spots,(by show 1<1000;decide),?_⟩;exact q _ (λb o e hb=>by
   repeat rw[Ak hb]
   exact e) ⟨dx,A5⟩
theorem Y7 (T:Tx w K mg a):AM P w K mg base AW 1 a.f_V a.d_V ["self","sign","left","right"] (NA a.c_Joined ["sign","left","right"]):=by
 refine T.F_V.ok Vl (λvs H Q E h=>?_) (λcdv A outer s H vs Q E hr h=>?_)
 .obtain⟨_,_,vs,rfl,hl,_⟩:=h;rw[BH,hl];rfl
 refine Ah λ_ zB=>?_;obtain⟨x,dx,vs,rfl,hl,hx,q⟩:=h;obtain⟨n,r1,rfl,l1⟩:=IG (n:=2) hl;obtain⟨m,r2,rfl,l2⟩:=IG (n:=1) l1;obtain⟨o,r3,rfl,l3⟩:=IG (n:=0) l2;obtain rfl:=OU l3;refine zB ?_;refine⟨_,(Ab (DR (pv 0) (pv 1) rfl)
  (Ab (DR (pv 0) (pv 2) rfl)
  (Ae (DR (pv 0) (pv 3) rfl)))),?_⟩
 refine⟨_,rfl,_,rfl,x,_,dx,_,rfl,hx,T.cl_Joined,T.n_Joined_sign,(by show 0<1000;decide),?_⟩;refine⟨_,rfl,_,rfl,x,_,dx,_,rfl,A5,T.cl_Joined,T.n_Joined_left,(by show 1<1000;decide),?_⟩;refine⟨_,rfl,_,rfl,x,_,dx,_,rfl,A5,T.cl_Joined,T.n_Joined_right,(by show 2<1000;decide),?_⟩;exact q _ (λb o e hb=>by
   repeat rw[Ak hb]
   exact e) ⟨dx,A5⟩
theorem QE (T:Tx w K mg a):AM P w K mg base AW 1 a.f_r a.d_r ["self"] Rf:=by
 refine T.F_r.ok Vf (λvs H Q E h=>?_) (λcdv A outer s H vs Q E hr h=>?_)
 .obtain⟨_,rfl,_⟩:=h;rfl
 obtain⟨x,rfl,q⟩:=h;refine⟨_,(Ae (AI (By A2))),?_⟩;exact⟨Ai rfl,λr hr=>q r _ (A9 hr _) A5⟩
theorem SF (T:Tx w K mg a):AM P w K mg base AW 1 a.f_s a.d_s ["self"] (Qs a.c_Cell):=by
 refine T.F_s.ok XT (λvs H Q E h=>?_) (λcdv A outer s H vs Q E hr h=>?_)
 .obtain⟨_,_,_,_,rfl,_⟩:=h;rfl
 refine Ah λ_ zA=>?_;obtain⟨x,dx,z,v,rfl,hx,q⟩:=h;refine zA ?_;refine⟨_,(Ae (AI (By (A0 (BS (A0 (BD (pv 0) rfl) (A0 (BD (pv 0) rfl) A2))) A2)))),?_⟩;refine⟨_,rfl,x,_,dx,_,_,rfl,hx,T.cl_Cell,T.n_Cell_table,rfl,_,rfl,x,_,dx,_,_,rfl,hx,T.cl_Cell,T.n_Cell_spots,rfl,Ai rfl,λt ht=>⟨Ai rfl,λr hr=>?_⟩⟩;exact q t r _ ((A9 ht _).trans (A9 hr _)) (A9 hr _ _ _ A5) A5
theorem QQ (T:Tx w K mg a):∀n:Nat,AM P w K mg base AW (n+1) a.f_t a.d_t ["self"] (Nl (CQ a) n)
 |
  0=>by
  have no:∀vs H Q E,¬Nl (CQ a) 0 vs H Q E:=λvs H Q E h=>by
   obtain⟨_,_,_,_,_,m,k,_,_,_,_,h1,h2,hn,_⟩:=h;have:=h1.pos;have:=h2.pos;lia
  exact⟨λvs H Q E h=>absurd h (no vs H Q E),λA outer s H args us vs Q E _ _ _ _ h=>absurd h (no vs H Q E)⟩
 |
  n+1=>by
  have G_r :=@QE P w K mg base a T;have G_s :=@SF P w K mg base a T;have G_t:=QQ T n;refine T.F_t.ok ZO (λvs H Q E h=>?_) (λcdv A outer s H vs Q E hr h=>?_)
  .obtain⟨_,_,_,_,_,_,_,_,_,rfl,_⟩:=h;rfl
  refine Ah λ_ zB=>?_;obtain⟨x,dx,z,l,r,m,k,ts,us,rfl,hx,h1,h2,hn,hb,q⟩:=h;refine zB ?_;refine⟨_,(Ae (AI (Aj Ei (Im (FV (BD (pv 0) rfl) T.cl_Number T.me_Number_reads G_r (hr.mono (by lia)) T.b_r .nil As) (Im (FV (BD (pv 0) rfl) T.cl_Cell T.me_Cell_reads G_s (hr.mono (by lia)) T.b_s .nil As) (FV (BD (pv 0) rfl) T.cl_Joined T.me_Joined_reads G_t (hr.mono (by lia)) T.b_t .nil As))) (Im (FV (BD (pv 0) rfl) T.cl_Number T.me_Number_reads G_r (hr.mono (by lia)) T.b_r .nil As) (Im (FV (BD (pv 0) rfl) T.cl_Cell T.me_Cell_reads G_s (hr.mono (by lia)) T.b_s .nil As) (FV (BD (pv 0) rfl) T.cl_Joined T.me_Joined_reads G_t (hr.mono (by lia)) T.b_t .nil As)))))),?_⟩;have p1:=h1.pos;have p2:=h2.pos;refine On (c:=CQ a) (n:=n) (v:=l) rfl (λR hR=>⟨_,rfl,x,_,dx,_,_,rfl,hx,T.cl_Joined,T.n_Joined_left,rfl,hR⟩) h1 (by lia) (by lia) (λa1 ys1 H1 e1 g1 t1=>?_);refine On (c:=CQ a) (n:=n) (v:=r) rfl (λR hR=>⟨_,rfl,x,_,dx,_,_,rfl,e1 _ _ hx,T.cl_Joined,T.n_Joined_right,rfl,hR⟩) (h2.over e1) (by lia) (by lia) (λa2 ys2 H2 e2 g2 t2=>?_);have l1:=t1.1;have l2:=t2.1;refine⟨a1,a2,ys1,ys2,rfl,rfl,e2 _ _ g1,g2,Bp (by lia),λp hp=>?_⟩;exact q p _ _ ((e1.trans e2).trans (A9 hp _)) A5 (((t1.over e2).app t2).over (A9 hp _))
theorem Zv (T:Tx w K mg a):AM P w K mg base AW 1 a.f_W a.d_W ["self","names","lows","highs","table","spots","term","path"] (a9 a.c_Deed):=by
 refine T.F_W.ok WZ (λvs H Q E h=>?_) (λcdv A outer s H vs Q E hr h=>?_)
 .obtain⟨_,_,_,_,_,_,_,_,_,rfl,_⟩:=h;rfl
 obtain⟨x,dx,v1,v2,v3,v4,v5,v6,v7,rfl,hx,q⟩:=h;refine⟨_,(Ab (DR (pw 0) (pw 1) rfl)
  (Ab (DR (pw 0) (pw 2) rfl)
  (Ab (DR (pw 0) (pw 3) rfl)
  (Ab (DR (pw 0) (pw 4) rfl)
  (Ab (DR (pw 0) (pw 5) rfl)
  (Ab (DR (pw 0) (pw 6) rfl)
  (Ae (DR (pw 0) (pw 7) rfl)))))))),?_⟩
 refine⟨x,_,dx,_,rfl,hx,T.cl_Deed,T.n_Deed_names,(by show 0<1000;decide),?_⟩;refine⟨x,_,dx,_,rfl,A5,T.cl_Deed,T.n_Deed_lows,(by show 1<1000;decide),?_⟩;refine⟨x,_,dx,_,rfl,A5,T.cl_Deed,T.n_Deed_highs,(by show 2<1000;decide),?_⟩;refine⟨x,_,dx,_,rfl,A5,T.cl_Deed,T.n_Deed_table,(by show 3<1000;decide),?_⟩;refine⟨x,_,dx,_,rfl,A5,T.cl_Deed,T.n_Deed_spots,(by show 4<1000;decide),?_⟩;refine⟨x,_,dx,_,rfl,A5,T.cl_Deed,T.n_Deed_term,(by show 5<1000;decide),?_⟩;refine⟨x,_,dx,_,rfl,A5,T.cl_Deed,T.n_Deed_path,(by show 6<1000;decide),?_⟩;exact q _ (λb o e hb=>by
   repeat rw[Ak hb]
   exact e) ⟨dx,A5⟩
theorem Ur (T:Tx w K mg a):AM P w K mg base AW 1 a.f_X a.d_X ["self","size","deeds"] (Ym K a.c_Program):=by
 refine T.F_X.ok XN (λvs H Q E h=>?_) (λcdv A outer s H vs Q E hr h=>?_)
 .obtain⟨_,_,_,_,_,rfl,_⟩:=h;rfl
 obtain⟨x,dx,sz,p,ys,rfl,hx,hp,q⟩:=h;refine⟨_,(Ab (DR (pw 0) (pw 1) rfl)
  (Ae (DR (pw 0) (E9 Nw (by rfl) T.z_list Ln (A0 (pw 2) A2)) rfl))),?_⟩
 refine⟨x,_,dx,_,rfl,hx,T.cl_Program,T.n_Program_size,(by show 0<1000;decide),?_⟩;refine⟨p,ys,rfl,.inl (A4.updI hp hx),λl hl=>?_⟩;have nxl:x≠l:=λe=>by rw[e,A5]at hl;cases hl
 have hlH:H l=none:=by rw[Ak (Ne.symm nxl)]at hl;exact hl
 refine⟨x,_,dx,_,rfl,(by rw[Ak nxl];exact A5),T.cl_Program,T.n_Program_deeds,(by show 1<1000;decide),?_⟩;refine q l _ hlH (λb o e hb=>?_) ?_ ⟨dx,A5⟩
 .rw[Ak hb,Ak (AF e hlH),Ak hb];exact e
 .rw[Ak (Ne.symm nxl)];exact A5
theorem RY (T:Tx w K mg a):AM P w K mg base AW 102 a.f_i a.d_i ["deed"] (Yx (CQ a) a.c_Deed):=by
 have G_r :=@QE P w K mg base a T;have G_s :=@SF P w K mg base a T;have G_t :=@QQ P w K mg base a T 100;refine T.F_i.ok RW (λvs H Q E h=>?_) (λcdv A outer s H vs Q E hr h=>?_)
 .obtain⟨_,_,_,_,_,rfl,_⟩:=h;rfl
 obtain⟨v,z,p,m,rs,rfl,⟨d,dx,v1,v2,v3,x,v7,rfl,hd,hto⟩,hm,q⟩:=h;refine⟨_,(Ab (Sr (i:=1) ["table","spots"] [none,none] RW.nd rfl (.inl rfl) (by rfl) (Dp (Im (FV (BD (pw 0) rfl) T.cl_Number T.me_Number_reads G_r (hr.mono (by lia)) T.b_r .nil As) (Im (FV (BD (pw 0) rfl) T.cl_Cell T.me_Cell_reads G_s (hr.mono (by lia)) T.b_s .nil As) (FV (BD (pw 0) rfl) T.cl_Joined T.me_Joined_reads G_t (hr.mono (by lia)) T.b_t .nil As)))) WO (λ_ _ _ _ _ _=>⟨(show PG _ _ (Kp K 2 _) from(D9 rfl (B9 (AD (i:=0) Qy rfl (.inl rfl)) (B9 (AD (i:=1) Qy rfl (.inl rfl)) D6)))),EL,(C0 (Ac DI (Ac (pw 0) (Ac (pw 1) Bz B5) B5) Br))⟩))
  (Ae (AI (Aj Ei (By (A0 (C0 (Ac DI (Ac (BD (pw 0) rfl) (Ac (BD (pw 0) rfl) Bz RC) RC) Br)) A2)) (pw 1))))),?_⟩
 refine On (c:=CQ a) (n:=100) (v:=x) rfl (λR hR=>⟨d,_,dx,_,_,rfl,hd,T.cl_Deed,T.n_Deed_term,rfl,hR⟩) hto (by lia) (by lia) (λa1 ys1 H1 e1 g1 t1=>?_);refine⟨a1,rfl,⟨_,A4.of g1⟩,?_⟩;have l1:=t1.1;have hp:=hto.pos;refine OA (xs:=ys1) (λi ys H'=>A8 H1 H'/\DJ H' (Nt false) ys (rs.take i)) ⟨A8.refl _,.nil⟩ (Bp (by lia)) (λi ys H' hi pp=>⟨A4.of (pp.1 _ _ g1),by rw[pp.2.1,BE];lia⟩) (λi y ys H' hy pp=>?_) (λys H' pp r hr'=>?_)
 .obtain⟨e2,hR⟩:=pp;refine Ah λ_ zA=>?_;have hi:i<rs.length:=by have:=(Ax.mp hy).1;lia
  have er:rs[i]?=some rs[i]:=AA hi;obtain⟨t,rfl,ht⟩:=t1.2 i y _ hy er;refine zA ?_;refine⟨t,_,rfl,A7.of (e2 _ _ ht),rfl,rfl,Sg (ρ:=[]) _ _,?_⟩;refine⟨Ai rfl,λt2 ht2=>?_⟩;have s3:=A9 ht2 (.tup [V.bl false,.str rs[i].1,.ref rs[i].2]);refine⟨e2.trans s3,?_⟩;rw[Ct er];exact(hR.over s3).app (.one A5)
 obtain⟨e2,hR⟩:=pp;rw[l1,E1]at hR;have s3:=A9 hr' (.lst ys);have e3:=e1.trans (e2.trans s3);have hd3:=e3 _ _ hd;have hl3:=hR.1;dsimp only[Ar];refine⟨d,_,dx,_,_,rfl,hd3,T.cl_Deed,T.n_Deed_table,rfl,d,_,dx,_,_,rfl,hd3,T.cl_Deed,T.n_Deed_spots,rfl,Ai rfl,λt5 ht5=>⟨Ai rfl,λl5 hl5=>?_⟩⟩;have s5:=A9 ht5 (.tup [V.bl true,.str z,.ref p]);have s6:=A9 hl5 (.lst [V.ref t5]);refine⟨l5,r,_,_,rfl,rfl,A5,s6 _ _ (s5 _ _ A5),Bp (by simp only[Bi];lia),λl7 hl7=>?_⟩;have s7:=A9 hl7 (.lst ([V.ref t5]++ys));have e57:=s5.trans (s6.trans s7);refine q l7 _ (e3.trans e57) ((e3.trans (s5.trans s6)).free hl7) ⟨t5,ys,A5,s7 _ _ (s6 _ _ A5),hR.over (s3.trans e57)⟩
theorem Qi (T:Tx w K mg a):AM P w K mg base AW 1 a.f_l a.d_l ["path","other","most"] Zw:=by
 refine T.F_l.ok Rq (λvs H Q E h=>?_) (λcdv A outer s H vs Q E hr h=>?_)
 .obtain⟨_,_,_,_,_,_,rfl,_⟩:=h;rfl
 obtain⟨p1,p2,xs,ys,m,k,rfl,hp1,hp2,hm1,hm2,hm3,hkm,ke,kn,q⟩:=h;refine⟨_,(Ab (Ca PassesOwn.never rfl (FC (by rfl) T.z_range (A0 (pw 2) A2)) (AD (i:=3) Rq.nd rfl (.inl rfl))
  (Ae (Bx (AL Ni (Aa Ap (pw 0) (pw 3) (λ_ _=>rfl)) (Aa Ap (pw 1) (pw 3) (λ_ _=>rfl)) (AG _))
  (Ae (AI (pw 3)))
  BJ)))
  (Ae (AI (pw 2)))),?_⟩
 refine⟨_,rfl,by lia,by lia,?_⟩;refine Gz (lo:=0) (n:=m) (λi σ' H'=>H'=H/\(∃o,σ'=[some (.ref p1),some (.ref p2),some (.int (m:Int)),o])/\i<=k) ⟨rfl,⟨_,rfl⟩,Bv _⟩ (λi σ' H' hi p=>?_) (fun σ' H' p=>?_)
 .obtain⟨rfl,⟨o,rfl⟩,hik⟩:=p;have a1:Be (xs.map V.int) (0+(i:Int))=some (.int (xs.getD i 0)):=by
   have:=Ny (ns:=xs) (k:=0+(i:Int)) (by lia) (by lia)
   rwa [show(0+(i:Int)).toNat=i by rw[GM];rfl]at this
  have a2:Be (ys.map V.int) (0+(i:Int))=some (.int (ys.getD i 0)):=by
   have:=Ny (ns:=ys) (k:=0+(i:Int)) (by lia) (by lia)
   rwa [show(0+(i:Int)).toNat=i by rw[GM];rfl]at this
  refine⟨p1,_,_,_,rfl,rfl,A7.of hp1,a1,?_⟩;refine⟨p2,_,_,_,rfl,rfl,A7.of hp2,a2,rfl,_,rfl,?_⟩;by_cases hk:i<k
  .refine Bc (KP (congrArg V.int (ke i hk))) (BW ?_);exact⟨rfl,⟨_,rfl⟩,hk⟩
  .have e:i=k:=by lia
   subst e;refine Bc (KU (λz=>kn hi (V.int.inj z))) (BL ?_);exact by rw[GM];exact q
 .obtain⟨rfl,⟨o,rfl⟩,hik⟩:=p;have e:m=k:=by lia
  subst e;exact q
theorem Qg (T:Tx w K mg a):AM P w K mg base AW 2 a.f_k a.d_k ["one","other"] (UT a.c_Deed (CQ a)):=by
 have G_l :=@Qi P w K mg base a T;refine T.F_k.ok YK (λvs H Q E h=>?_) (λcdv A outer s H vs Q E hr h=>?_)
 .obtain⟨_,_,_,_,_,rfl,_⟩:=h;rfl
 obtain⟨x,y,R,S,k,rfl,hx,hy,oR,oS,⟨k1,k2,ke,kn⟩,q⟩:=h;refine⟨_,(Ae (AI (Az G_l (hr.mono (by lia)) (by rfl) T.m_l T.F_l.kp T.b_l .nil As (A0 (BD (pw 0) rfl) (A0 (BD (pw 1) rfl) (A0 (AZ (LQ rfl) (by rfl) T.z_min Mu (A0 (AZ BI (by rfl) T.z_len BK (A0 (BD (pw 0) rfl) A2)) (A0 (AZ BI (by rfl) T.z_len BK (A0 (BD (pw 1) rfl) A2)) A2))) A2)))))),?_⟩;refine Ah λ_ zA=>?_;obtain⟨d1,dx1,nm1,pt1,_,_,_,xs1,rfl,hd1,hn1,l1,hp1,_⟩:=hx;obtain⟨d2,dx2,nm2,pt2,_,_,_,xs2,rfl,hd2,hn2,l2,hp2,_⟩:=hy;refine zA ?_;have p1:=oR.pl;have p2:=oS.pl;have q1:=oR.n3;have q2:=oS.n3;have hm:(if((xs2.length:Nat):Int)<((xs1.length:Nat):Int) then((xs2.length:Nat):Int) else((xs1.length:Nat):Int))=((min R.n S.n:Nat):Int):=by split<;>lia
 refine⟨d1,_,dx1,_,_,rfl,hd1,T.cl_Deed,T.n_Deed_path,rfl,d2,_,dx2,_,_,rfl,hd2,T.cl_Deed,T.n_Deed_path,rfl,?_⟩;refine⟨d1,_,dx1,_,_,rfl,hd1,T.cl_Deed,T.n_Deed_names,rfl,nm1,_,rfl,.inr (A7.of hn1),?_⟩;refine⟨d2,_,dx2,_,_,rfl,hd2,T.cl_Deed,T.n_Deed_names,rfl,nm2,_,rfl,.inr (A7.of hn2),?_⟩;refine⟨_,_,rfl,?_⟩;rw[hm];exact⟨pt1,pt2,R.path,S.path,min R.n S.n,k,rfl,hp1,hp2,by lia,by lia,by lia,by lia,ke,kn,q⟩
theorem ZT (T:Tx w K mg a):AM P w K mg base AW 3 a.f_E a.d_E ["program","k","l"] (cB a.c_Program a.c_Deed (CQ a)):=by
 have G_k :=@Qg P w K mg base a T;refine T.F_E.ok NT (λvs H Q E h=>?_) (λcdv A outer s H vs Q E hr h=>?_)
 .obtain⟨_,_,_,_,_,_,_,rfl,_⟩:=h;rfl
 obtain⟨v,Rs,k,l,n,R,S,rfl,⟨x,dx,dl,sz,xs,rfl,hx,hdl,ax⟩,ok,hR,hS,pf,q⟩:=h;refine⟨_,(Ab (Aq (i:=3) NT.nd rfl (.inl rfl) (Az G_k (hr.mono (by lia)) (by rfl) T.m_k T.F_k.kp T.b_k .nil As (A0 (Aa AE (BD (pw 0) rfl) (pw 1) (λ_ _=>rfl)) (A0 (Aa AE (BD (pw 0) rfl) (pw 2) (λ_ _=>rfl)) A2))))
  (Ab (Bx (AL (B3 Eh) (pw 1) (pw 2) (AG _))
  (Ae (bV (i:=3) NT.nd rfl (.inl rfl) A1 UN))
  BJ)
  (Ae (AI (Ot rfl (by rfl) T.z_list (by rfl) T.z_range (A0 (pw 3) A2)))))),?_⟩
 refine Ah λ_ zA=>?_;obtain⟨y1,hy1,d1⟩:=ax.get hR;obtain⟨y2,hy2,d2⟩:=ax.get hS;refine zA ?_;have oR:=ok R (AY hR);have k1:=pf.1;have k3:=oR.n3;refine⟨x,_,dx,_,_,rfl,hx,T.cl_Program,T.n_Program_deeds,rfl,dl,_,_,_,rfl,rfl,A4.of hdl,Bg hy1,x,_,dx,_,_,rfl,hx,T.cl_Program,T.n_Program_deeds,rfl,dl,_,_,_,rfl,rfl,A4.of hdl,Bg hy2,y1,y2,R,S,n,rfl,d1,d2,oR,ok S (AY hS),pf,?_⟩;dsimp only[Ar];refine Dq (fun σ' H'=>H'=H/\σ'=[some (.ref x),some (.int (k:Int)),some (.int (l:Int)),some (.int ((Dh k l n:Nat):Int))]) (fun σ' H' pp=>?_) (λnx=>?_)
 .obtain⟨rfl,rfl⟩:=pp;have c4:Dh k l n<=4:=by unfold Dh;split<;>lia
  exact⟨Dh k l n,rfl,by lia,λr hr=>q r _ (A9 hr _) hr A5⟩
 refine⟨_,rfl,Bq (λc=>?_) (λc=>?_)⟩
 .have c:=dT c;have:Dh k l n=n+1:=Av (by lia);exact⟨_,rfl,_,_,rfl,rfl,nx _ _ ⟨rfl,by rw[this];rfl⟩⟩
 .have c:=dF c;have:Dh k l n=n:=Aw (by lia);exact nx _ _ ⟨rfl,by rw[this];rfl⟩
theorem Pn (T:Tx w K mg a):AM P w K mg base AW 1 a.f_e a.d_e ["spot","names","first"] Z3:=by
 refine T.F_e.ok UC (λvs H Q E h=>?_) (λcdv A outer s H vs Q E hr h=>?_)
 .obtain⟨_,_,_,_,_,_,_,rfl,_⟩:=h;rfl
 obtain⟨t,nm,z,n,first,zs,u,rfl,ht,hn,hw,q⟩:=h;refine⟨_,(Ab (Bx (AL C6 (Aa Ap (pw 0) A1 (λ_ _=>rfl)) BY (AG _))
  (Ae (AI A1))
  BJ)
  (Ae (AI (Aj (B3 BC) (pw 2) (Tq PySem.F.slot_tuple_index PySem.F.type_tuple_index cI (pw 1) (A0 (Aa Ap (pw 0) A1 (λ_ _=>rfl)) A2)))))),?_⟩
 refine⟨t,_,0,_,rfl,rfl,A7.of ht,rfl,rfl,_,rfl,?_⟩;rcases hw with⟨rfl,rfl⟩|⟨hz,j,hj,hno,rfl⟩
 .exact Bc (v:=true) (BB rfl) (BL q)
 .refine Bc (v:=false) (dS hz) (BW ?_);exact⟨⟨nm,_,rfl,hn⟩,t,_,0,_,rfl,rfl,A7.of ht,rfl,nm,zs,z,j,rfl,rfl,A7.of hn,hj,hno,q⟩
theorem XU (T:Tx w K mg a):AM P w K mg base AW 2 a.f_o a.d_o ["deed","first"] (U2 a.c_Deed):=by
 have G_e :=@Pn P w K mg base a T;refine T.F_o.ok JY (λvs H Q E h=>?_) (λcdv A outer s H vs Q E hr h=>?_)
 .obtain⟨_,_,_,_,_,_,_,_,_,_,_,_,_,_,_,_,_,rfl,_⟩:=h;rfl
 obtain⟨d,dx,nm,lo,hh,v4,v5,v6,v7,f,zs,lz,hz,ln,hn,u,w2,rfl,hd,hnm,hlo,hhi,zl,hu,hw,q⟩:=h;refine⟨_,(Ab (Aq (i:=2) JY.nd rfl (.inl rfl) (By A2))
  (Ab (Ca PassesOwn.never rfl (FC (by rfl) T.z_range (A0 (AZ BI (by rfl) T.z_len BK (A0 (BD (pw 0) rfl) A2)) A2)) (AD (i:=3) JY.nd rfl (.inl rfl))
  (Ab (Aq (i:=4) JY.nd rfl (.inl rfl) (Aa Ap (BD (pw 0) rfl) (pw 3) (λ_ _=>rfl)))
  (Ab (Aq (i:=5) JY.nd rfl (.inl rfl) (Aa Ap (BD (pw 0) rfl) (pw 3) (λ_ _=>rfl)))
  (Ab (BG (BP BN Ce Cf C8 (pw 2) (A0 (C0 (Ac (Az G_e (hr.mono (by lia)) (by rfl) T.m_e T.F_e.kp T.b_e .nil As (A0 (pw 4) (A0 (BD (pw 0) rfl) (A0 (pw 1) A2)))) (Ac (Aj (B3 BC) (pw 1) (pw 3)) (Ac (Dz DD (Aa Ap (pw 4) A1 (λ_ _=>rfl))) Bz JQ) Ec) DL)) A2)))
  (Ae (BG (BP BN Ce Cf C8 (pw 2) (A0 (C0 (Ac (Aj (B3 BC) (pw 1) (pw 3)) (Ac (Az G_e (hr.mono (by lia)) (by rfl) T.m_e T.F_e.kp T.b_e .nil As (A0 (pw 5) (A0 (BD (pw 0) rfl) (A0 (pw 1) A2)))) (Ac (Aa Ap (pw 5) A1 (λ_ _=>rfl)) Bz CB) DL) Ec)) A2))))))))
  (Ae (AI (pw 2))))),?_⟩
 refine Ah λ_ zA=>?_;obtain⟨xs,hx,xl,hxs⟩:=hlo;obtain⟨os,ho,ol,hos⟩:=hhi;refine zA ?_;refine⟨Ai rfl,λl hl=>?_⟩;have e1:=A9 hl (.lst []);have hl1:(upd H l (.lst [])) l=some (.lst []):=A5;dsimp only[Ar];generalize upd H l (.lst [])=H1 at e1 hl1;refine⟨d,_,dx,_,_,rfl,e1 _ _ hd,T.cl_Deed,T.n_Deed_names,rfl,nm,_,rfl,.inr (A7.of (e1 _ _ hnm)),_,rfl,by rw[Af];lia,by rw[Af];lia,?_⟩;rw[Af];refine Gz (lo:=0) (n:=zs.length) (λi σ' H'=>A8 H H'/\(∃o3 o4 o5,σ'=[some (.ref d),some (.int f),some (.ref l),o3,o4,o5])/\∃ys:List V,H' l=some (.lst ys)/\Bu H' ys (DO (EV f u ln) (EC f w2 hn) i)) ⟨e1,⟨_,_,_,rfl⟩,[],hl1,.nil⟩ (λi σ' H' hi pp=>?_) (fun σ' H' pp=>?_)
 .obtain⟨e,⟨o3,o4,o5,rfl⟩,ys,hy,tr⟩:=pp;refine Ah λ_ zB=>?_;have z0:(0+(i:Int))=(i:Int):=GM _;have x1:xs[i]?=some xs[i]:=AA (by lia);have x2:os[i]?=some os[i]:=AA (by lia);obtain⟨t1,et1,ht1⟩:=hxs i _ x1;obtain⟨t2,et2,ht2⟩:=hos i _ x2;refine zB ?_;have at1:Be xs (0+(i:Int))=some (.ref t1):=by rw[z0];exact(Bg x1).trans (congrArg some et1)
  have at2:Be os (0+(i:Int))=some (.ref t2):=by rw[z0];exact(Bg x2).trans (congrArg some et2)
  have yl:ys.length=2*i:=by rw[tr.1,F8]
  have g1:=e _ _ ht1;have g2:=e _ _ ht2;refine⟨d,_,dx,_,_,rfl,e _ _ hd,T.cl_Deed,T.n_Deed_lows,rfl,lo,_,_,_,rfl,rfl,A7.of (e _ _ hx),at1,?_⟩;dsimp only[Ar];refine⟨d,_,dx,_,_,rfl,e _ _ hd,T.cl_Deed,T.n_Deed_highs,rfl,hh,_,_,_,rfl,rfl,A7.of (e _ _ ho),at2,?_⟩;dsimp only[Ar];refine⟨.inl ⟨rfl,_,A4.of hy⟩,d,_,dx,_,_,rfl,e _ _ hd,T.cl_Deed,T.n_Deed_names,rfl,t1,nm,lz i,ln i,f,zs,u i,rfl,g1,e _ _ hnm,hu i hi,t1,_,1,_,rfl,rfl,A7.of g1,rfl,_,rfl,Ai rfl,λb1 hb1=>?_⟩;rw[z0];have s3:=A9 hb1 (.tup [V.int (u i),V.int (f+(i:Int)),V.int (-(ln i))]);have nb1:b1≠l:=λz=>by rw[z,hy]at hb1;cases hb1
  refine⟨l,_,_,rfl,rfl,s3 _ _ hy,C5 (by lia),?_⟩;have tr3:=((tr.over s3).upd (xs:=ys++[V.ref b1]) (s3 _ _ hy)).snoc (t:=b1) (b:=EV f u ln i) (by rw[Ak nb1];exact A5);have hy3:(upd (upd H' b1 (.tup [V.int (u i),V.int (f+(i:Int)),V.int (-(ln i))])) l (.lst (ys++[V.ref b1]))) l=some (.lst (ys++[V.ref b1])):=A5;have e3:A8 H (upd (upd H' b1 (.tup [V.int (u i),V.int (f+(i:Int)),V.int (-(ln i))])) l (.lst (ys++[V.ref b1]))):=λa o ha=>by rw[Ak (AF ha hl)];exact s3 _ _ (e _ _ ha)
  generalize upd (upd H' b1 (.tup [V.int (u i),V.int (f+(i:Int)),V.int (-(ln i))])) l (.lst (ys++[V.ref b1]))=H3 at tr3 hy3 e3;have g2:=e3 _ _ ht2;refine⟨.inl ⟨rfl,_,A4.of hy3⟩,d,_,dx,_,_,rfl,e3 _ _ hd,T.cl_Deed,T.n_Deed_names,rfl,t2,nm,hz i,hn i,f,zs,w2 i,rfl,g2,e3 _ _ hnm,hw i hi,t2,_,1,_,rfl,rfl,A7.of g2,rfl,Ai rfl,λb2 hb2=>?_⟩;have s4:=A9 hb2 (.tup [V.int (f+(i:Int)),V.int (w2 i),V.int (hn i)]);have nb2:b2≠l:=λz=>by rw[z,hy3]at hb2;cases hb2
  refine⟨l,_,_,rfl,rfl,s4 _ _ hy3,C5 (by rw[Ao,Bi];lia),?_⟩;have tr4:=((tr3.over s4).upd (xs:=ys++[V.ref b1]++[V.ref b2]) (s4 _ _ hy3)).snoc (t:=b2) (b:=EC f w2 hn i) (by rw[Ak nb2];exact A5);exact⟨λa o ha=>by rw[Ak (AF ha hl)];exact s4 _ _ (e3 _ _ ha),⟨_,_,_,rfl⟩,_,A5,tr4⟩
 .obtain⟨e,⟨o3,o4,o5,rfl⟩,ys,hy,tr⟩:=pp;exact q l ys _ e hy tr
theorem Xi (T:Tx w K mg a):AM P w K mg base AW 2 a.f_B a.d_B ["spots","names","first","others","other_names","other_first"] br:=by
 have G_e :=@Pn P w K mg base a T;refine T.F_B.ok Ja (λvs H Q E h=>?_) (λcdv A outer s H vs Q E hr h=>?_)
 .obtain⟨_,_,_,_,_,_,_,_,_,_,_,_,_,_,_,rfl,_⟩:=h;rfl
 obtain⟨sp,nm,ot,nm2,f,s2,m,z1,z2,n1,n2,u,w2,zs,zs2,rfl,hm,hS,hO,hn,hn2,hu,hw,q⟩:=h;refine⟨_,(Ab (Aq (i:=6) Ja.nd rfl (.inl rfl) (By A2))
  (Ab (Ca PassesOwn.never rfl (QW (by rfl) T.z_zip (A0 (pw 0) (A0 (pw 3) A2))) (D9 rfl (B9 (AD (i:=7) Ja.nd rfl (.inl rfl)) (B9 (AD (i:=8) Ja.nd rfl (.inl rfl)) D6)))
  (Ab (Aq (i:=9) Ja.nd rfl (.inl rfl) (Az G_e (hr.mono (by lia)) (by rfl) T.m_e T.F_e.kp T.b_e .nil As (A0 (pw 7) (A0 (pw 1) (A0 (pw 2) A2)))))
  (Ab (Aq (i:=10) Ja.nd rfl (.inl rfl) (Az G_e (hr.mono (by lia)) (by rfl) T.m_e T.F_e.kp T.b_e .nil As (A0 (pw 8) (A0 (pw 4) (A0 (pw 5) A2)))))
  (Ab (BG (BP BN Ce Cf C8 (pw 6) (A0 (C0 (Ac (pw 9) (Ac (pw 10) (Ac (Aj (B3 Et) (Aa Ap (pw 8) A1 (λ_ _=>rfl)) (Aa Ap (pw 7) A1 (λ_ _=>rfl))) Bz Ec) B5) B5)) A2)))
  (Ae (BG (BP BN Ce Cf C8 (pw 6) (A0 (C0 (Ac (pw 10) (Ac (pw 9) (Ac (Aj (B3 Et) (Aa Ap (pw 7) A1 (λ_ _=>rfl)) (Aa Ap (pw 8) A1 (λ_ _=>rfl))) Bz Ec) B5) B5)) A2))))))))
  (Ae (AI (pw 6))))),?_⟩
 refine Ah λ_ zA=>?_;obtain⟨xs,hx,xl,hxs⟩:=hS;obtain⟨os,ho,ol,hos⟩:=hO;refine zA ?_;refine⟨Ai rfl,λl hl=>?_⟩;have e1:=A9 hl (.lst []);refine⟨sp,ot,rfl,⟨_,A7.of (e1 _ _ hx)⟩,⟨_,A7.of (e1 _ _ ho)⟩,?_⟩;refine Vc (xs:=xs) (ys:=os) (by lia) (λi σ' H'=>A8 H H'/\(∃o7 o8 o9 o10,σ'=[some (.ref sp),some (.ref nm),some (.int f),some (.ref ot),some (.ref nm2),some (.int s2),some (.ref l),o7,o8,o9,o10])/\∃ys:List V,H' l=some (.lst ys)/\Bu H' ys (DO (λi=>(u i,w2 i,n2 i-n1 i)) (λi=>(w2 i,u i,n1 i-n2 i)) i)) ⟨e1,⟨_,_,_,_,rfl⟩,[],A5,.nil⟩ (λi σ' H' _ pp=>⟨A7.of (pp.1 _ _ hx),A7.of (pp.1 _ _ ho)⟩) (λi x y Tt σ' H' hxi hyi pp hT=>?_) (fun σ' H' pp=>?_)
 .obtain⟨e,⟨o7,o8,o9,o10,rfl⟩,ys,hy,tr⟩:=pp;refine Ah λ_ zB=>?_;obtain⟨t,rfl,ht⟩:=hxs i x hxi;obtain⟨t2,rfl,ht2⟩:=hos i y hyi;refine zB ?_;have hi:i<m:=by have:=(Ax.mp hxi).1;lia
  have sT:=A9 hT (.tup [V.ref t,V.ref t2]);have e2:=e.trans sT;have hy2:=sT _ _ hy;have tr2:=tr.over sT;refine⟨Tt,_,rfl,A7.of A5,rfl,rfl,?_⟩;generalize upd H' Tt (.tup [V.ref t,V.ref t2])=H2 at e2 hy2 tr2;have g1:=e2 _ _ ht;have g2:=e2 _ _ ht2;have yl:ys.length=2*i:=by rw[tr2.1,F8]
  refine⟨t,nm,z1 i,n1 i,f,zs,u i,rfl,g1,e2 _ _ hn,hu i hi,?_⟩;dsimp only[Ar];refine⟨t2,nm2,z2 i,n2 i,s2,zs2,w2 i,rfl,g2,e2 _ _ hn2,hw i hi,?_⟩;dsimp only[Ar];refine⟨.inl ⟨rfl,_,A4.of hy2⟩,t2,_,1,_,rfl,rfl,A7.of g2,rfl,t,_,1,_,rfl,rfl,A7.of g1,rfl,Ai rfl,λb1 hb1=>?_⟩;have s3:=A9 hb1 (.tup [V.int (u i),V.int (w2 i),V.int (n2 i-n1 i)]);have nb1:b1≠l:=λz=>by rw[z,hy2]at hb1;cases hb1
  refine⟨l,_,_,rfl,rfl,s3 _ _ hy2,C5 (by lia),?_⟩;have tr3:=((tr2.over s3).upd (xs:=ys++[V.ref b1]) (s3 _ _ hy2)).snoc (t:=b1) (b:=(u i,w2 i,n2 i-n1 i)) (by rw[Ak nb1];exact A5);have hy3:(upd (upd H2 b1 (.tup [V.int (u i),V.int (w2 i),V.int (n2 i-n1 i)])) l (.lst (ys++[V.ref b1]))) l=some (.lst (ys++[V.ref b1])):=A5;have e3:A8 H (upd (upd H2 b1 (.tup [V.int (u i),V.int (w2 i),V.int (n2 i-n1 i)])) l (.lst (ys++[V.ref b1]))):=λa o ha=>by rw[Ak (AF ha hl)];exact s3 _ _ (e2 _ _ ha)
  generalize upd (upd H2 b1 (.tup [V.int (u i),V.int (w2 i),V.int (n2 i-n1 i)])) l (.lst (ys++[V.ref b1]))=H3 at tr3 hy3 e3;have g1:=e3 _ _ ht;have g2:=e3 _ _ ht2;refine⟨.inl ⟨rfl,_,A4.of hy3⟩,t,_,1,_,rfl,rfl,A7.of g1,rfl,t2,_,1,_,rfl,rfl,A7.of g2,rfl,Ai rfl,λb2 hb2=>?_⟩;have s4:=A9 hb2 (.tup [V.int (w2 i),V.int (u i),V.int (n1 i-n2 i)]);have nb2:b2≠l:=λz=>by rw[z,hy3]at hb2;cases hb2
  refine⟨l,_,_,rfl,rfl,s4 _ _ hy3,C5 (by rw[Ao,Bi];lia),?_⟩;have tr4:=((tr3.over s4).upd (xs:=ys++[V.ref b1]++[V.ref b2]) (s4 _ _ hy3)).snoc (t:=b2) (b:=(w2 i,u i,n1 i-n2 i)) (by rw[Ak nb2];exact A5);exact⟨λa o ha=>by rw[Ak (AF ha hl)];exact s4 _ _ (e3 _ _ ha),⟨_,_,_,_,rfl⟩,_,A5,tr4⟩
 .obtain⟨e,⟨o7,o8,o9,o10,rfl⟩,ys,hy,tr⟩:=pp;rw[xl]at tr;exact q l ys _ e hy tr
theorem aL (T:Tx w K mg a):AM P w K mg base AW 1 a.f_G a.d_G ["many","case","behind"] ZH:=by
 refine T.F_G.ok Of (λvs H Q E h=>?_) (λcdv A outer s H vs Q E hr h=>?_)
 .obtain⟨_,_,_,rfl,_⟩:=h;rfl
 obtain⟨sn,cs,bh,rfl,c1,q⟩:=h;refine⟨_,(Ab (Aq (i:=3) Of.nd rfl (.inl rfl) (By A2))
  (Ab (Ca PassesOwn.never rfl (FC (by rfl) T.z_range (A0 (pw 1) A2)) (AD (i:=4) Of.nd rfl (.inl rfl))
  (Ab (BG (BP BN Ce Cf C8 (pw 3) (A0 (C0 (Ac (Aj (B3 BC) A1 (pw 4)) (Ac (Aj (B3 BC) (pw 2) (pw 4)) (Ac A1 Bz Br) Ec) Ec)) A2)))
  (Ae (BG (BP BN Ce Cf C8 (pw 3) (A0 (C0 (Ac (Aj (B3 BC) (pw 2) (pw 4)) (Ac (Aj (B3 BC) A1 (pw 4)) (Ac A1 Bz Br) Ec) Ec)) A2))))))
  (Ab (Bx (AL (B3 Eh) (pw 1) (pw 0) (AG _))
  (Ae (BG (BP BN Ce Cf C8 (pw 3) (A0 (C0 (Ac (Aj (B3 BC) A1 (pw 1)) (Ac (Aj (B3 BC) (pw 2) (pw 1)) (Ac (Dz DD A1) Bz JQ) Ec) Ec)) A2))))
  BJ)
  (Ae (AI (pw 3)))))),?_⟩
 refine⟨Ai rfl,λl hl=>?_⟩;have e1:=A9 hl (.lst []);have hl1:(upd H l (.lst [])) l=some (.lst []):=A5;dsimp only[Ar];generalize upd H l (.lst [])=H1 at e1 hl1;refine⟨_,rfl,by lia,by lia,?_⟩;rw[Ff];refine Gz (lo:=0) (n:=cs) (λi σ' H'=>A8 H H'/\(∃o4,σ'=[some (.int (sn:Int)),some (.int (cs:Int)),some (.int bh),some (.ref l),o4])/\∃ys:List V,H' l=some (.lst ys)/\Bu H' ys (He bh i)) ⟨e1,⟨_,rfl⟩,[],hl1,.nil⟩ (λi σ' H' hi pp=>?_) (fun σ' H' pp=>?_)
 .obtain⟨e,⟨o4,rfl⟩,ys,hy,tr⟩:=pp;have z0:(0+(i:Int))=(i:Int):=GM _;have yl:ys.length=2*i:=by rw[tr.1];exact F8 _ _ _
  refine⟨.inl ⟨rfl,_,A4.of hy⟩,Ai rfl,λb1 hb1=>?_⟩;rw[z0];have s3:=A9 hb1 (.tup [V.int (1+(i:Int)),V.int (bh+(i:Int)),V.int 0]);have nb1:b1≠l:=λz=>by rw[z,hy]at hb1;cases hb1
  refine⟨l,_,_,rfl,rfl,s3 _ _ hy,C5 (by lia),?_⟩;have tr3:=((tr.over s3).upd (xs:=ys++[V.ref b1]) (s3 _ _ hy)).snoc (t:=b1) (b:=(1+(i:Int),bh+(i:Int),0)) (by rw[Ak nb1];exact A5);have hy3:(upd (upd H' b1 (.tup [V.int (1+(i:Int)),V.int (bh+(i:Int)),V.int 0])) l (.lst (ys++[V.ref b1]))) l=some (.lst (ys++[V.ref b1])):=A5;have e3:A8 H (upd (upd H' b1 (.tup [V.int (1+(i:Int)),V.int (bh+(i:Int)),V.int 0])) l (.lst (ys++[V.ref b1]))):=λa o ha=>by rw[Ak (AF ha hl)];exact s3 _ _ (e _ _ ha)
  generalize upd (upd H' b1 (.tup [V.int (1+(i:Int)),V.int (bh+(i:Int)),V.int 0])) l (.lst (ys++[V.ref b1]))=H3 at tr3 hy3 e3;refine⟨.inl ⟨rfl,_,A4.of hy3⟩,Ai rfl,λb2 hb2=>?_⟩;have s4:=A9 hb2 (.tup [V.int (bh+(i:Int)),V.int (1+(i:Int)),V.int 0]);have nb2:b2≠l:=λz=>by rw[z,hy3]at hb2;cases hb2
  refine⟨l,_,_,rfl,rfl,s4 _ _ hy3,C5 (by rw[Ao,Bi];lia),?_⟩;have tr4:=((tr3.over s4).upd (xs:=ys++[V.ref b1]++[V.ref b2]) (s4 _ _ hy3)).snoc (t:=b2) (b:=(bh+(i:Int),1+(i:Int),0)) (by rw[Ak nb2];exact A5);exact⟨λa o ha=>by rw[Ak (AF ha hl)];exact s4 _ _ (e3 _ _ ha),⟨_,rfl⟩,_,A5,tr4⟩
 refine Ah λ_ zA=>?_;obtain⟨e,⟨o4,rfl⟩,ys,hy,tr⟩:=pp;refine zA ?_;have yl:ys.length=2*cs:=by rw[tr.1];exact F8 _ _ _
 refine⟨_,rfl,Bq (λc=>?_) (λc=>?_)⟩
 .have c:=dT c;refine⟨.inl ⟨rfl,_,A4.of hy⟩,_,rfl,Ai rfl,λb1 hb1=>?_⟩;have s3:=A9 hb1 (.tup [V.int (1+(cs:Int)),V.int (bh+(cs:Int)),V.int (-1)]);have nb1:b1≠l:=λz=>by rw[z,hy]at hb1;cases hb1
  refine⟨l,_,_,rfl,rfl,s3 _ _ hy,C5 (by lia),?_⟩;have tr3:=((tr.over s3).upd (xs:=ys++[V.ref b1]) (s3 _ _ hy)).snoc (t:=b1) (b:=(1+(cs:Int),bh+(cs:Int),-1)) (by rw[Ak nb1];exact A5);refine q l _ _ (λa o ha=>by rw[Ak (AF ha hl)];exact s3 _ _ (e _ _ ha)) A5 ?_;unfold Gd;rw[Av (by lia)];exact tr3
 .have c:=dF c;refine q l _ _ e hy ?_;unfold Gd;rw[Aw (by lia),CK];exact tr
theorem ZM (T:Tx w K mg a):AM P w K mg base AW 104 a.f_F a.d_F ["program","k","a","l","b","case"] (bT a.c_Program a.c_Deed (CQ a)):=by
 have G_i :=@RY P w K mg base a T;have G_o :=@XU P w K mg base a T;have G_B :=@Xi P w K mg base a T;have G_G :=@aL P w K mg base a T;have G_k :=@Qg P w K mg base a T;refine T.F_F.ok GV (λvs H Q E h=>?_) (λcdv A outer s H vs Q E hr h=>?_)
 .obtain⟨_,_,_,_,_,_,_,_,_,_,_,_,_,_,_,_,rfl,_⟩:=h;rfl
 obtain⟨x,dx,dl,sz,xs,Rs,R,R',r,r',k,ta,l,tb,cs,D,rfl,hx,hdl,ax,hR,hR',g,g',ok,ok',hta,htb,hS,hS',cd,c1,q⟩:=h;refine⟨_,(Ab (Aq (i:=6) GV.nd rfl (.inl rfl) (Aa AE (BD (pv 0) rfl) (pv 1) (λ_ _=>rfl)))
  (Ab (Aq (i:=7) GV.nd rfl (.inl rfl) (Aa AE (BD (pv 0) rfl) (pv 3) (λ_ _=>rfl)))
  (Ab (Aq (i:=8) GV.nd rfl (.inl rfl) (Aj BC A1 (AZ BI (by rfl) T.z_len BK (A0 (BD (pv 6) rfl) A2))))
  (Ab (Aq (i:=9) GV.nd rfl (.inl rfl) (Aa Ap (Aa AE (Az G_i (hr.mono (by lia)) (by rfl) T.m_i T.F_i.kp T.b_i .nil As (A0 (pv 6) A2)) (pv 2) (λ_ _=>rfl)) A1 (λ_ _=>rfl)))
  (Ab (Aq (i:=10) GV.nd rfl (.inl rfl) (Aa Ap (Aa AE (Az G_i (hr.mono (by lia)) (by rfl) T.m_i T.F_i.kp T.b_i .nil As (A0 (pv 7) A2)) (pv 4) (λ_ _=>rfl)) A1 (λ_ _=>rfl)))
  (Ab (Aq (i:=11) GV.nd rfl (.inl rfl) (Aj Ei (Az G_o (hr.mono (by lia)) (by rfl) T.m_o T.F_o.kp T.b_o .nil As (A0 (pv 6) (A0 A1 A2))) (Az G_o (hr.mono (by lia)) (by rfl) T.m_o T.F_o.kp T.b_o .nil As (A0 (pv 7) (A0 (pv 8) A2)))))
  (Ab (BG (BP BN MW MX JI (pv 11) (A0 (Az G_B (hr.mono (by lia)) (by rfl) T.m_B T.F_B.kp T.b_B .nil As (A0 (pv 9) (A0 (BD (pv 6) rfl) (A0 A1 (A0 (pv 10) (A0 (BD (pv 7) rfl) (A0 (pv 8) A2))))))) A2)))
  (Ab (BG (BP BN MW MX JI (pv 11) (A0 (Az G_G (hr.mono (by lia)) (by rfl) T.m_G T.F_G.kp T.b_G .nil As (A0 (Az G_k (hr.mono (by lia)) (by rfl) T.m_k T.F_k.kp T.b_k .nil As (A0 (pv 6) (A0 (pv 7) A2))) (A0 (pv 5) (A0 (pv 8) A2)))) A2)))
  (Ae (AI (pv 11))))))))))),?_⟩
 refine Ah λ_ zA=>?_;obtain⟨y1,hy1,d4⟩:=ax.get hR;obtain⟨y2,hy2,d4'⟩:=ax.get hR';have d5:=d4.d5;have d5':=d4'.d5;have dt:=d4.tm;have dt':=d4'.tm;obtain⟨d1,dx1,nm1,lo1,hi1,pt1,v1,ls1,hs1,rfl,hd1,hn1,hlo1,al1,hhi1,ah1,hp1,to1⟩:=d4;obtain⟨d2,dx2,nm2,lo2,hi2,pt2,v2,ls2,hs2,rfl,hd2,hn2,hlo2,al2,hhi2,ah2,hp2,to2⟩:=d4';refine zA ?_;have k1:D.s<=R.S.length:=cd.pf.1;have k3:=g.len;have k4:=g'.len;have m3:=cd.m3;have nl:((AB R.S).map V.str).length=R.S.length:=by unfold AB;rw[Af,Af]
 have n1:=g.nd;have n2:=g'.nd;have z1:=g.ne;have z2:=g'.ne;have nm1l:=F6 R.S;have nm2l:=F6 R'.S;refine⟨_,rfl,x,_,dx,_,_,rfl,hx,T.cl_Program,T.n_Program_deeds,rfl,_,rfl,dl,_,_,_,rfl,rfl,A4.of hdl,Bg hy1,?_⟩;dsimp only[Ar];refine⟨_,rfl,x,_,dx,_,_,rfl,hx,T.cl_Program,T.n_Program_deeds,rfl,_,rfl,dl,_,_,_,rfl,rfl,A4.of hdl,Bg hy2,?_⟩;dsimp only[Ar];refine⟨_,rfl,d1,_,dx1,_,_,rfl,hd1,T.cl_Deed,T.n_Deed_names,rfl,nm1,_,rfl,.inr (A7.of hn1),_,_,rfl,rfl,?_⟩;rw[nl];dsimp only[Ar];generalize hbh:1+(R.S.length:Int)=bh;refine⟨_,rfl,.ref d1,R.z,R.p,R.m,R.rs,rfl,dt,by have:=g.m3;lia,λq1 H1 e1 q10 tc1=>?_⟩;refine Ah λ_ zB=>?_;obtain⟨as1,tp1,fl1,hq1,at1,htp1⟩:=SG tc1 hta;refine zB ?_;refine⟨_,rfl,q1,_,_,_,rfl,rfl,A4.of hq1,at1,tp1,_,2,_,rfl,rfl,A7.of htp1,rfl,?_⟩;dsimp only[Ar];refine⟨_,rfl,.ref d2,R'.z,R'.p,R'.m,R'.rs,rfl,dt'.over e1,by have:=g'.m3;lia,λq2 H2 e2 q20 tc2=>?_⟩;refine Ah λ_ zC=>?_;obtain⟨as2,tp2,fl2,hq2,at2,htp2⟩:=SG tc2 htb;refine zC ?_;refine⟨_,rfl,q2,_,_,_,rfl,rfl,A4.of hq2,at2,tp2,_,2,_,rfl,rfl,A7.of htp2,rfl,?_⟩;have e02:=e1.trans e2;have tk02:=A8.tk e02;dsimp only[Ar];refine⟨_,rfl,d1,dx1,nm1,lo1,hi1,_,_,_,_,1,AB R.S,Eb R.S,Eo R.S,G5 R.S,FX R.S,D.u,D.w,rfl,e02 _ _ hd1,e02 _ _ hn1,by rw[nm1l];exact Q2 (e02 _ _ hlo1) (al1.mono λ_ _ z=>z.tk tk02),by rw[nm1l];exact RZ (e02 _ _ hhi1) (ah1.mono λ_ _ z=>z.tk tk02),by lia,λi hi=>GH n1 z1 (cd.hu i (by lia)),λi hi=>GH n1 z1 (cd.hw i (by lia)),λf1 ys1 H3 e3 hf1 tr1=>?_⟩;rw[nm1l]at tr1;have tr1:Bu H3 ys1 (Hh R.S 1 D.u D.w):=tr1;have e03:=e02.trans e3;have tk03:=A8.tk e03;refine⟨_,rfl,_,rfl,d2,dx2,nm2,lo2,hi2,_,_,_,_,bh,AB R'.S,Eb R'.S,Eo R'.S,G5 R'.S,FX R'.S,D.u',D.w',rfl,e03 _ _ hd2,e03 _ _ hn2,by rw[nm2l];exact Q2 (e03 _ _ hlo2) (al2.mono λ_ _ z=>z.tk tk03),by rw[nm2l];exact RZ (e03 _ _ hhi2) (ah2.mono λ_ _ z=>z.tk tk03),by lia,λi hi=>by rw[←hbh];exact GH n2 z2 (cd.hu' i (by lia)),λi hi=>by rw[←hbh];exact GH n2 z2 (cd.hw' i (by lia)),λf2 ys2 H4 e4 hf2 tr2=>?_⟩;rw[nm2l]at tr2;have tr2:Bu H4 ys2 (Hh R'.S bh D.u' D.w'):=tr2;have y1l:ys1.length=2*R.S.length:=by rw[tr1.1,Iq]
 have y2l:ys2.length=2*R'.S.length:=by rw[tr2.1,Iq]
 refine⟨f1,f2,_,_,rfl,rfl,e4 _ _ hf1,hf2,Bp (by lia),λbo hbo=>?_⟩;have s5:=A9 hbo (.lst (ys1++ys2));have hbo5:(upd H4 bo (.lst (ys1++ys2))) bo=some (.lst (ys1++ys2)):=A5;have tr5:=((tr1.over e4).app tr2).over s5;dsimp only[Ar];generalize upd H4 bo (.lst (ys1++ys2))=H5 at s5 hbo5 tr5;have e04:=e03.trans e4;have bo0:H bo=none:=e04.free hbo;have e05:=e04.trans s5;refine⟨_,rfl,.inl ⟨rfl,_,A4.of hbo5⟩,_,rfl,_,rfl,d1,_,dx1,_,_,rfl,e05 _ _ hd1,T.cl_Deed,T.n_Deed_names,rfl,_,rfl,_,rfl,d2,_,dx2,_,_,rfl,e05 _ _ hd2,T.cl_Deed,T.n_Deed_names,rfl,_,rfl,r.2,nm1,r'.2,nm2,1,bh,D.m,D.z1,D.z2,D.n1,D.n2,D.x1,D.x2,AB R.S,AB R'.S,rfl,by lia,hS.over e05,hS'.over e05,e05 _ _ hn1,e05 _ _ hn2,cd.hx1,by rw[←hbh];exact cd.hx2,λf3 ys3 H6 e6 hf3 tr3=>?_⟩;have tr3:Bu H6 ys3 (IS D):=tr3;have hbo6:=e6 _ _ hbo5;have y3l:ys3.length=2*D.m:=by rw[tr3.1];exact F8 _ _ _
 refine⟨bo,f3,_,_,rfl,rfl,hbo6,hf3,Bp (by rw[Ao];lia),?_⟩;have tk7:TK H6 (upd H6 bo (.lst (ys1++ys2++ys3))):=TK.upd hbo6;have tr7:=((tr5.over e6).app tr3).tk tk7;have hbo7:(upd H6 bo (.lst (ys1++ys2++ys3))) bo=some (.lst (ys1++ys2++ys3)):=A5;have e07:A8 H (upd H6 bo (.lst (ys1++ys2++ys3))):=λb o hb=>by rw[Ak (AF hb bo0)];exact e6 _ _ (e05 _ _ hb)
 generalize upd H6 bo (.lst (ys1++ys2++ys3))=H7 at tr7 hbo7 e07;refine⟨_,rfl,.inl ⟨rfl,_,A4.of hbo7⟩,_,rfl,_,rfl,.ref d1,.ref d2,R.r5,R'.r5,D.s,rfl,d5.over e07,d5'.over e07,ok,ok',cd.pf,_,rfl,_,rfl,D.s,cs,bh,rfl,by lia,λf4 ys4 H8 e8 hf4 tr4=>?_⟩;have hbo8:=e8 _ _ hbo7;have y4l:ys4.length<=100:=by
  rw[tr4.1];unfold Gd He;rw[Ao,F8];split<;>simp<;>lia
 refine⟨bo,f4,_,_,rfl,rfl,hbo8,hf4,Bp (by rw[Ao,Ao];lia),?_⟩;have tk9:TK H8 (upd H8 bo (.lst (ys1++ys2++ys3++ys4))):=TK.upd hbo8;have tr9:=((tr7.over e8).app tr4).tk tk9;refine⟨_,rfl,q bo _ _ (λb o hb=>by rw[Ak (AF hb bo0)];exact e8 _ _ (e07 _ _ hb)) bo0 A5 ?_⟩;unfold E3;rw[hbh];exact tr9
theorem WT (T:Tx w K mg a):AM P w K mg base AW 103 a.f_D a.d_D ["program"] (US a.c_Program a.c_Deed (CQ a)):=by
 have G_i :=@RY P w K mg base a T;refine T.F_D.ok J5 (λvs H Q E h=>?_) (λcdv A outer s H vs Q E hr h=>?_)
 .obtain⟨_,_,rfl,_⟩:=h;rfl
 obtain⟨v,Rs,rfl,⟨x,dx,dl,sz,xs,rfl,hx,hdl,ax⟩,ok,n6,q⟩:=h;refine⟨_,(Ab (Aq (i:=1) J5.nd rfl (.inl rfl) (By A2))
  (Ab (Ca PassesOwn.never rfl (Kt (by rfl) T.z_enumerate (A0 (BD (pw 0) rfl) A2)) (D9 rfl (B9 (AD (i:=2) J5.nd rfl (.inl rfl)) (B9 (AD (i:=3) J5.nd rfl (.inl rfl)) D6)))
  (Ae (Ca PassesOwn.never rfl (Kt (by rfl) T.z_enumerate (A0 (Az G_i (hr.mono (by lia)) (by rfl) T.m_i T.F_i.kp T.b_i .nil As (A0 (pw 3) A2)) A2)) (D9 rfl (B9 (AD (i:=4) J5.nd rfl (.inl rfl)) (B9 (AD (i:=5) J5.nd rfl (.inl rfl)) D6)))
  (Ae (BG (BP BN Ce Cf C8 (pw 1) (A0 (C0 (Ac (pw 2) (Ac (pw 4) (Ac (pw 5) Bz B5) B5) B5)) A2)))))))
  (Ae (AI (pw 1))))),?_⟩
 have xl:=ax.1;refine⟨Ai rfl,λfo hfo=>?_⟩;have e1:=A9 hfo (.lst []);have hfo1:(upd H fo (.lst [])) fo=some (.lst []):=A5;dsimp only[Ar];generalize upd H fo (.lst [])=H1 at e1 hfo1;refine⟨x,_,dx,_,_,rfl,e1 _ _ hx,T.cl_Program,T.n_Program_deeds,rfl,dl,rfl,⟨_,A4.of (e1 _ _ hdl)⟩,?_⟩;refine JH (xs:=xs) (λi σ' H'=>∃(ys:List V) (o2 o3 o4 o5:Option V),σ'=[some (.ref x),some (.ref fo),o2,o3,o4,o5]/\A8 H H'/\H' fo=some (.lst ys)/\Am (FL H') ys (C7 (Rs.take i))) ⟨[],_,_,_,_,rfl,e1,hfo1,.nil⟩ (λi σ' H' _ pp=>by obtain⟨_,_,_,_,_,_,e,_⟩:=pp;exact A4.of (e _ _ hdl)) (λi y Tt σ' H' hy pp hT=>?_) (fun σ' H' pp=>?_);rotate_left
 .obtain⟨ys,o2,o3,o4,o5,rfl,e,hy,ay⟩:=pp;rw[EY (by lia)]at ay;exact q fo ys _ e hfo hy ay
 refine Ah λ_ zA=>?_;obtain⟨ys,o2,o3,o4,o5,rfl,e,hys,ay⟩:=pp;obtain⟨R,hR,d5⟩:=ax.get' hy;refine zA ?_;have rok:=ok R (AY hR);have il:i<Rs.length:=(Ax.mp hR).1;have sT:=A9 hT (.tup [V.int (i:Int),y]);have e2:=e.trans sT;have hys2:=sT _ _ hys;have ay2:=ay.mono λ_ _ z=>z.over sT;refine⟨Tt,_,rfl,A7.of A5,rfl,rfl,?_⟩;generalize upd H' Tt (.tup [V.int (i:Int),y])=H2 at e2 hys2 ay2;refine⟨y,R.z,R.p,R.m,R.rs,rfl,(d5.over e2).tm,by have:=rok.ms;lia,λl H3 e3 hl0 th=>?_⟩;refine Ah λ_ zB=>?_;obtain⟨ts,hts,ath⟩:=VD th;refine zB ?_;have tsl:=ath.1;have tll:=Ru rok;have hys3:=e3 _ _ hys2;have nlf:l≠fo:=λz=>by rw[z,hys2]at hl0;cases hl0
 have ay3:=ay2.mono λ_ _ z=>z.over e3;have pl:=LV (Rs:=Rs.take i) (λR hR=>ok R (OP hR)) (by rw[BE];lia);refine⟨l,rfl,⟨_,A4.of hts⟩,?_⟩;refine JH (xs:=ts) (λj σ' H4=>∃(zs:List V) (o4 o5:Option V),σ'=[some (.ref x),some (.ref fo),some (.int (i:Int)),some y,o4,o5]/\(∀b o,b≠fo->H3 b=some o->H4 b=some o)/\H4 fo=some (.lst zs)/\Am (FL H4) zs (C7 (Rs.take i)++Pm.tk3 i 0 ((ED R).take j))) ⟨ys,_,_,rfl,λ_ _ _ h=>h,hys3,by show Am _ _ (_++[]);rw[CK];exact ay3⟩ (λj σ' H4 _ pp=>by obtain⟨_,_,_,_,k4,_⟩:=pp;exact A4.of (k4 _ _ nlf hts)) (λj y2 Tt2 σ' H4 hy2 pp hT2=>?_) (fun σ' H4 pp=>?_)
 .obtain⟨zs,o4,o5,rfl,k4,hzs,az⟩:=pp;refine Ah λ_ zC=>?_;obtain⟨tb,htb,u,p,rfl,hu⟩:=ath.get' hy2;refine zC ?_;have jl:j<(ED R).length:=(Ax.mp htb).1;have nu:u≠fo:=λz=>by rw[z,hys3]at hu;cases hu
  have hu4:=k4 _ _ nu hu;have sT2:=A9 hT2 (.tup [V.int (j:Int),V.ref u]);refine⟨Tt2,_,rfl,A7.of A5,rfl,rfl,?_⟩;refine⟨.inl ⟨rfl,_,A4.of (sT2 _ _ hzs)⟩,Ai rfl,λr hr=>?_⟩;have s6:=A9 hr (.tup [V.int (i:Int),V.int (j:Int),V.ref u]);have e6:=sT2.trans s6;have hz6:=e6 _ _ hzs;have zl:=az.1;rw[Ao,Pm.tk3_len,BE]at zl;have nr:r≠fo:=λz=>by rw[z,sT2 _ _ hzs]at hr;cases hr
  refine⟨fo,_,_,rfl,rfl,hz6,C5 (by lia),?_⟩;have tk:=TK.upd (o:=.lst (zs++[V.ref r])) hz6;refine⟨zs++[.ref r],_,_,rfl,λb o hb h=>by rw[Ak hb];exact e6 _ _ (k4 b o hb h),A5,?_⟩;rw[Ct htb,Pm.tk3_snoc,←CW];refine(az.mono λ_ _ z=>(z.over e6).tk tk).snoc ⟨r,u,p,rfl,?_,tk _ _ (e6 _ _ hu4)⟩;rw[BE,Dv (Fc jl),Fh];exact tk _ _ A5
 .obtain⟨zs,o4,o5,rfl,k4,hzs,az⟩:=pp;rw[tsl,E1]at az;refine⟨zs,_,_,_,_,rfl,λb o hb=>k4 _ _ (AF hb hfo) (e3 _ _ (e2 _ _ hb)),hzs,?_⟩;show Am _ _ (Pm.all3 0 ((Rs.take (i+1)).map ED));rw[Ct hR,BA];show Am _ _ (Pm.all3 0 ((Rs.take i).map ED++[ED R]));rw[Pm.all3_snoc,Af,BE,Dv (Fc il),Fh];exact az
theorem Vs (T:Tx w K mg a):AM P w K mg base AW 104 a.f_C a.d_C ["program"] (bJ a.c_Program a.c_Deed (CQ a)):=by
 have G_D :=@WT P w K mg base a T;refine T.F_C.ok G0 (λvs H Q E h=>?_) (λcdv A outer s H vs Q E hr h=>?_)
 .obtain⟨_,_,rfl,_⟩:=h;rfl
 obtain⟨v,Rs,rfl,hP,ok,n6,q⟩:=h;refine⟨_,(Ab (Aq (i:=1) G0.nd rfl (.inl rfl) (Az G_D (hr.mono (by lia)) (by rfl) T.m_D T.F_D.kp T.b_D .nil As (A0 (pw 0) A2)))
  (Ab (Aq (i:=2) G0.nd rfl (.inl rfl) (By A2))
  (Ab (Ca PassesOwn.never rfl (Dp (pw 1)) (D9 rfl (B9 (AD (i:=3) G0.nd rfl (.inl rfl)) (B9 (AD (i:=4) G0.nd rfl (.inl rfl)) (B9 (AD (i:=5) G0.nd rfl (.inl rfl)) D6))))
  (Ae (Ca PassesOwn.never rfl (Dp (pw 1)) (D9 rfl (B9 (AD (i:=6) G0.nd rfl (.inl rfl)) (B9 (AD (i:=7) G0.nd rfl (.inl rfl)) (B9 (AD (i:=8) G0.nd rfl (.inl rfl)) D6))))
  (Ae (Bx ((D4 (AL C6 (Aa Ap (pw 5) A1 (λ_ _=>rfl)) (Aa Ap (pw 8) A1 (λ_ _=>rfl)) (AG _)) (DB ((Ip (FJ (Aa Ap (pw 5) A1 (λ_ _=>rfl))) (Kr (FJ (Aa Ap (pw 8) A1 (λ_ _=>rfl)))))).pt))).pt
  (Ae (BG (BP BN Ce Cf C8 (pw 2) (A0 (C0 (Ac (pw 3) (Ac (pw 4) (Ac (pw 6) (Ac (pw 7) Bz B5) B5) B5) B5)) A2))))
  BJ)))))
  (Ae (AI (pw 2)))))),?_⟩
 refine⟨v,Rs,rfl,hP,ok,n6,λto ys H1 e1 hto0 hto at1=>?_⟩;dsimp only[Ar];refine⟨Ai rfl,λfo hfo=>?_⟩;have e2:=A9 hfo (.lst []);have hfo2:(upd H1 fo (.lst [])) fo=some (.lst []):=A5;dsimp only[Ar];generalize upd H1 fo (.lst [])=H2 at e2 hfo2;have tl:=LV ok n6;have ysl:=at1.1;have nyf:to≠fo:=AF hto hfo;refine⟨to,rfl,⟨_,A4.of (e2 _ _ hto)⟩,?_⟩;refine FQ (xs:=ys) (λi σ' H'=>∃(zs:List V) (o3 o4 o5 o6 o7 o8:Option V),σ'=[some v,some (.ref to),some (.ref fo),o3,o4,o5,o6,o7,o8]/\A8 H1 H'/\H' fo=some (.lst zs)/\Am (Fp H') zs (Pm.mtF ((C7 Rs).take i) (C7 Rs))) ⟨[],_,_,_,_,_,_,rfl,e2,hfo2,.nil⟩ (λi σ' H' _ pp=>by obtain⟨_,_,_,_,_,_,_,_,e,_⟩:=pp;exact A4.of (e _ _ hto)) (λi y σ' H' hy pp=>?_) (fun σ' H' pp=>?_);rotate_left
 .obtain⟨zs,o3,o4,o5,o6,o7,o8,rfl,e,hzs,az⟩:=pp;rw[EY (by lia)]at az;exact q fo _ (e1.trans e) (e1.free hfo) ⟨zs,hzs,az⟩
 refine Ah λ_ zA=>?_;obtain⟨zs,o3,o4,o5,o6,o7,o8,rfl,e,hzs,az⟩:=pp;obtain⟨X,hX,t,u,p1,rfl,ht,hu⟩:=(at1.mono λ_ _ z=>z.over e).get' hy;refine zA ?_;have il:i<(C7 Rs).length:=(Ax.mp hX).1;refine⟨t,_,rfl,A7.of ht,rfl,rfl,?_⟩;have mlen:=Pm.mtF_len (C7 Rs) ((C7 Rs).take i);rw[BE,Dv (Fc il)]at mlen;have ml2:i*(C7 Rs).length<=186*186:=Nat.mul_le_mul (by lia) tl;refine⟨to,rfl,⟨_,A4.of (e _ _ hto)⟩,?_⟩;refine FQ (xs:=ys) (λj σ' H4=>∃(ws:List V) (o6 o7 o8:Option V),σ'=[some v,some (.ref to),some (.ref fo),some (.int (X.k:Int)),some (.int (X.a:Int)),some (.ref u),o6,o7,o8]/\(∀b o,b≠fo->H' b=some o->H4 b=some o)/\H4 fo=some (.lst ws)/\Am (Fp H4) ws (Pm.mtF ((C7 Rs).take i) (C7 Rs)++Pm.in1 X ((C7 Rs).take j))) ⟨zs,_,_,_,rfl,λ_ _ _ h=>h,hzs,by show Am _ _ (_++[]);rw[CK];exact az⟩ (λj σ' H4 _ pp=>by obtain⟨_,_,_,_,_,k4,_⟩:=pp;exact A4.of (k4 _ _ nyf (e _ _ hto))) (λj y2 σ' H4 hy2 pp=>?_) (fun σ' H4 pp=>?_);rotate_left
 .obtain⟨ws,o6,o7,o8,rfl,k4,hws,aw⟩:=pp;rw[ysl,E1,←Pm.mtF_snoc,←Ct hX]at aw;exact⟨ws,_,_,_,_,_,_,rfl,λb o hb=>k4 _ _ (AF hb hfo) (e _ _ hb),hws,aw⟩
 refine Ah λ_ zB=>?_;obtain⟨ws,o6,o7,o8,rfl,k4,hws,aw⟩:=pp;have tk4:TK H' H4:=λb o hb=>k4 _ _ (Ft hb hzs (by intro z;cases z)) hb;obtain⟨Y,hY,t2,u2,p2,rfl,ht2,hu2⟩:=(at1.mono λ_ _ z=>(z.over e).tk tk4).get' hy2;refine zB ?_;have hu4:=tk4 _ _ hu;refine⟨t2,_,rfl,A7.of ht2,rfl,rfl,?_⟩;have wl:=aw.1;have il2:=Pm.in1_len X ((C7 Rs).take j);rw[Ao]at wl;rw[BE]at il2;refine QH (λH''=>H''=H4/\Pm.ok X Y=true) (λH'' hh=>?_) (λgo=>?_)
 .obtain⟨rfl,h⟩:=hh;refine⟨.inl ⟨rfl,_,A4.of hws⟩,Ai rfl,λr hr=>?_⟩;have s6:=A9 hr (.tup [V.int (X.k:Int),V.int (X.a:Int),V.int (Y.k:Int),V.int (Y.a:Int)]);have hw6:=s6 _ _ hws;refine⟨fo,_,_,rfl,rfl,hw6,C5 (by lia),?_⟩;have tk:=TK.upd (o:=.lst (ws++[V.ref r])) hw6;refine⟨ws++[.ref r],_,_,_,rfl,λb o hb h=>by rw[Ak hb];exact s6 _ _ (k4 b o hb h),A5,?_⟩;rw[Ct hY,Pm.in1_snoc,h,Av rfl,←CW];exact(aw.mono λ_ _ z=>(z.over s6).tk tk).snoc ⟨r,rfl,tk _ _ A5⟩
 have no:Pm.ok X Y=false->Am (Fp H4) ws (Pm.mtF ((C7 Rs).take i) (C7 Rs)++Pm.in1 X ((C7 Rs).take (j+1))):=λh=>by
  rw[Ct hY,Pm.in1_snoc,h,Aw (by decide),CK];exact aw
 refine⟨u,_,1,_,rfl,rfl,A7.of hu4,rfl,u2,_,1,_,rfl,rfl,A7.of hu2,rfl,rfl,_,rfl,?_⟩;by_cases cz:X.z=Y.z
 .refine Bc (v:=true) (BB (congrArg V.str cz)) (BL ?_);refine⟨u,_,0,_,rfl,rfl,A7.of hu4,rfl,_,rfl,?_⟩;cases cb:X.b with
  |true=>exact BL (go _ ⟨rfl,by unfold Pm.ok;rw[BB cz,cb];rfl⟩)
  |
   false=>
   refine BW ?_;refine⟨u2,_,0,_,rfl,rfl,A7.of hu2,rfl,_,rfl,?_⟩;cases cd:Y.b with
   |true=>exact BL (go _ ⟨rfl,by unfold Pm.ok;rw[BB cz,cb,cd];rfl⟩)
   |false=>exact BW ⟨ws,_,_,_,rfl,k4,hws,no (by unfold Pm.ok;rw[cb,cd,Bool.or_self,OI])⟩
 .refine Bc (v:=false) (C2 λz=>cz (V.str.inj z)) (BW ?_);exact⟨ws,_,_,_,rfl,k4,hws,no (by unfold Pm.ok;rw[C2 cz];rfl)⟩
theorem Yg (T:Tx w K mg a):AM P w K mg base AW 105 a.f_H a.d_H ["program"] (Zn a.c_Program a.c_Deed (CQ a)):=by
 have G_C :=@Vs P w K mg base a T;have G_E :=@ZT P w K mg base a T;refine T.F_H.ok Hq (λvs H Q E h=>?_) (λcdv A outer s H vs Q E hr h=>?_)
 .obtain⟨_,_,rfl,_⟩:=h;rfl
 obtain⟨v,Rs,rfl,hP,ok,R6,q⟩:=h;refine⟨_,(Ab (Aq (i:=1) Hq.nd rfl (.inl rfl) (By A2))
  (Ab (Ca PassesOwn.never rfl (Dp (Az G_C (hr.mono (by lia)) (by rfl) T.m_C T.F_C.kp T.b_C .nil As (A0 (pw 0) A2))) (D9 rfl (B9 (AD (i:=2) Hq.nd rfl (.inl rfl)) (B9 (AD (i:=3) Hq.nd rfl (.inl rfl)) (B9 (AD (i:=4) Hq.nd rfl (.inl rfl)) (B9 (AD (i:=5) Hq.nd rfl (.inl rfl)) D6)))))
  (Ae (Ca PassesOwn.never rfl (Dp (Az G_E (hr.mono (by lia)) (by rfl) T.m_E T.F_E.kp T.b_E .nil As (A0 (pw 0) (A0 (pw 2) (A0 (pw 4) A2))))) (AD (i:=6) Hq.nd rfl (.inl rfl))
  (Ae (BG (BP BN Ce Cf C8 (pw 1) (A0 (C0 (Ac (pw 2) (Ac (pw 3) (Ac (pw 4) (Ac (pw 5) (Ac (pw 6) Bz B5) B5) B5) B5) B5)) A2)))))))
  (Ae (AI (pw 1))))),?_⟩
 refine⟨Ai rfl,λfo hfo=>?_⟩;have s1:=A9 hfo (.lst []);have hf1:(upd H fo (.lst [])) fo=some (.lst []):=A5;dsimp only[Ar];generalize upd H fo (.lst [])=H1 at s1 hf1;refine ⟨v,Rs,rfl,hP.over s1,ok,R6,λmr H2 e2 mr1 zz=>?_⟩;obtain⟨ms,hms,am⟩:=zz;have nmf:mr≠fo:=λz=>by rw[z,hf1]at mr1;cases mr1
 have e02:=s1.trans e2;have mm:=λq h=>Wk (Rs:=Rs) (q:=q) h;have ml:=QJ (LV ok R6);have msl:=am.1;unfold G7 at q;generalize Pm.mt (C7 Rs)=L at am mm ml msl q;refine⟨mr,rfl,⟨_,A4.of hms⟩,?_⟩;refine FQ (xs:=ms) (λi σ' H'=>∃(zs:List V) (o2 o3 o4 o5 o6:Option V),σ'=[some v,some (.ref fo),o2,o3,o4,o5,o6]/\Bt fo H2 H'/\H' fo=some (.lst zs)/\Am (Gc H') zs ((L.take i).flatMap (EF Rs))) ⟨[],_,_,_,_,_,rfl,λ_ _ _ h=>h,e2 _ _ hf1,.nil⟩ (λi σ' H' _ pp=>by obtain⟨_,_,_,_,_,_,_,b,_⟩:=pp;exact A4.of (b _ _ nmf hms)) (λi y σ' H' hy pp=>?_) (fun σ' H' pp=>?_);rotate_left
 .obtain⟨zs,o2,o3,o4,o5,o6,rfl,b,hz,az⟩:=pp;rw[msl,E1]at az;exact q fo zs _ (λx o hx=>b _ _ (AF hx hfo) (e02 _ _ hx)) hfo hz az
 refine Ah λ_ zA=>?_;obtain⟨zs,o2,o3,o4,o5,o6,rfl,b,hz,az⟩:=pp;obtain⟨q4,hq4,t,rfl,ht⟩:=am.get' hy;have li:=(Ax.mp hq4).1;obtain⟨R,S,hR,hS⟩:=mm q4 (AY hq4);refine zA ?_;have e0:A8 H H':=λx o hx=>b _ _ (AF hx hfo) (e02 _ _ hx);have tk2:=b.tk (e2 _ _ hf1);have ht':=tk2 _ _ ht;refine⟨t,_,rfl,A7.of ht',rfl,rfl,?_⟩;dsimp only[Ar];have d1:=UQ (Rs:=Rs) hq4;have dl:=NH ok (L.take i);have tl:(L.take i).length<=34596:=by rw[BE];lia
 have azl:=az.1;rw[d1];have e1:EF Rs q4=(List.range (Dh q4.1 q4.2.2.1 (Hi R S))).map λe=>(q4,e):=by unfold EF;rw[QZ hR hS]
 have cl4:Dh q4.1 q4.2.2.1 (Hi R S)<=4:=by
  have:=(Mf R S).1;have:=(ok R (AY hR)).n3;unfold Dh;split<;>lia
 rw[e1];generalize (L.take i).flatMap (EF Rs)=done at az azl dl;refine⟨v,Rs,q4.1,q4.2.2.1,Hi R S,R,S,rfl,hP.over e0,ok,hR,hS,Mf R S,λcr H3 e3 cr0 hcr=>?_⟩;have ncf:cr≠fo:=λz=>by rw[z,hz]at cr0;cases cr0
 refine⟨cr,rfl,⟨_,A4.of hcr⟩,?_⟩;refine FQ (xs:=(List.range (Dh q4.1 q4.2.2.1 (Hi R S))).map λi:Nat=>V.int (i:Int)) (λj σ' H4=>∃(zs:List V) (o6:Option V),σ'=[some v,some (.ref fo),some (.int (q4.1:Int)),some (.int (q4.2.1:Int)),some (.int (q4.2.2.1:Int)),some (.int (q4.2.2.2:Int)),o6]/\Bt fo H3 H4/\H4 fo=some (.lst zs)/\Am (Gc H4) zs (done++(List.range j).map λe=>(q4,e))) ⟨zs,_,rfl,λ_ _ _ h=>h,e3 _ _ hz,by rw[List.range_zero,Gg,CK];exact az.mono λ_ _ z=>z.over e3⟩ (λj σ' H4 _ pp=>by obtain⟨_,_,_,b4,_⟩:=pp;exact A4.of (b4 _ _ ncf hcr)) (λj y σ' H4 hy pp=>?_) (fun σ' H4 pp=>?_)
 .obtain⟨zs2,o6,rfl,b4,hz4,az4⟩:=pp;have lj:=(Ax.mp hy).1;rw[Af,CI]at lj;rw[Bf,FI lj]at hy;have ey:y = .int (j:Int):=(CV hy).symm;subst ey;have z4l:=az4.1;rw[Ao,Af,CI]at z4l;dsimp only[Ar];refine⟨.inl ⟨rfl,_,A4.of hz4⟩,Ai rfl,λt5 ht5=>?_⟩;have s5:=A9 ht5 (.tup [V.int (q4.1:Int),V.int (q4.2.1:Int),V.int (q4.2.2.1:Int),V.int (q4.2.2.2:Int),V.int (j:Int)]);have hz5:=s5 _ _ hz4;refine⟨fo,_,_,rfl,rfl,hz5,C5 (by lia),?_⟩;have tk6:=TK.upd (o:=.lst (zs2++[V.ref t5])) hz5;refine⟨zs2++[.ref t5],_,rfl,(b4.trans (Bt.same s5)).trans Bt.put,A5,?_⟩;rw[Ic,BA,←CW];exact(az4.mono λ_ _ z=>(z.over s5).tk tk6).snoc ⟨t5,rfl,tk6 _ _ A5⟩
 refine Ah λ_ zB=>?_;obtain⟨zs2,o6',rfl,b4,hz4,az4⟩:=pp;refine zB ?_;rw[Af,CI]at az4;exact⟨zs2,_,_,_,_,_,rfl,(b.trans (Bt.same e3)).trans b4,hz4,az4⟩
theorem Yh (T:Tx w K mg a):AM P w K mg base AW 1 a.f_z a.d_z ["bonds","values","lowered_by"] VE:=by
 refine T.F_z.ok IF (λvs H Q E h=>?_) (λcdv A outer s H vs Q E hr h=>?_)
 .obtain⟨_,_,_,_,_,_,rfl,_⟩:=h;rfl
 obtain⟨b,v,l,B,n,s,rfl,nv,nl,nvl,hB,hw,hv,hl,q⟩:=h;refine⟨_,(Ab (Aq (i:=3) IF.nd rfl (.inl rfl) FN)
  (Ab (Ca PassesOwn.never rfl (Kt (by rfl) T.z_enumerate (A0 (pw 0) A2)) (D9 rfl (B9 (AD (i:=4) IF.nd rfl (.inl rfl)) (B9 (AD (i:=5) IF.nd rfl (.inl rfl)) D6)))
  (Ab (Aq (i:=6) IF.nd rfl (.inl rfl) (Aj (B3 BC) (Aa AE (pw 1) (Aa Ap (pw 5) A1 (λ_ _=>rfl)) (λ_ _=>rfl)) (Aa Ap (pw 5) A1 (λ_ _=>rfl))))
  (Ae (Bx (AL (B3 Es) (Aa AE (pw 1) (Aa Ap (pw 5) A1 (λ_ _=>rfl)) (λ_ _=>rfl)) (pw 6) (AG _))
  (Ab (JJ (pw 6) (Km (pw 1) (Aa Ap (pw 5) A1 (λ_ _=>rfl)) JW))
  (Ab (JJ (pw 4) (Km (pw 2) (Aa Ap (pw 5) A1 (λ_ _=>rfl)) JW))
  (Ae (Aq (i:=3) IF.nd rfl (.inl rfl) (Aa Ap (pw 5) A1 (λ_ _=>rfl))))))
  BJ))))
  (Ae (AI (pw 3))))),?_⟩
 refine Ah λ_ zA=>?_;obtain⟨vs,hb,hbs⟩:=hB;refine zA ?_;have hbl:=hbs.1;refine⟨b,rfl,⟨_,A4.of hb⟩,?_⟩;refine JH (xs:=vs) (λi σ' H'=>Od H H' v l/\(∃o4 o5 o6,σ'=[some (.ref b),some (.ref v),some (.ref l),some (Kx (rnd B i {s with low:=none}).low),o4,o5,o6])/\H' v=some (.lst (vl n (rnd B i {s with low:=none}).v))/\H' l=some (.lst (pl n (rnd B i {s with low:=none}).p))) ⟨λa o e _ _=>e,⟨_,_,_,rfl⟩,hv,hl⟩ (λi σ' H' _ p=>A4.of (p.1 _ _ hb nv nl)) (λi x Tt σ' H' hx p hT=>?_) (fun σ' H' p=>?_)
 case refine_2=>
  refine Ah λ_ zB=>?_;obtain⟨e,⟨o4,o5,o6,rfl⟩,h1,h2⟩:=p;refine zB ?_;rw[hbl]at h1 h2 ⊢;exact q H' e h1 h2
 refine Ah λ_ zC=>?_;obtain⟨e,⟨o4,o5,o6,rfl⟩,h1,h2⟩:=p;have hi:i<B.length:=by have:=(Ax.mp hx).1;lia
 have eB:B[i]?=some B[i]:=AA hi;obtain⟨t,rfl,ht⟩:=hbs.2 i x _ hx eB;refine zC ?_;have hW:=hw _ (FH hi);have ht':=e _ _ ht (Ft ht hv (by intro z;cases z)) (Ft ht hl (by intro z;cases z));have st:rnd B (i+1) {s with low:=none}=IA i B[i] (rnd B i {s with low:=none}):=by
  show(match B[i]? with|some b=>IA i b (rnd B i {s with low:=none})|none=>rnd B i {s with low:=none})=_;rw[eB]
 rw[st];generalize rnd B i {s with low:=none}=s0 at h1 h2 ⊢;generalize B[i]=bb at ht' hW;have sT:=A9 hT (.tup [V.int (i:Int),.ref t]);have ht2:=sT _ _ ht';have h12:=sT _ _ h1;have h22:=sT _ _ h2;have e2:Od H (upd H' Tt (.tup [V.int (i:Int),.ref t])) v l:=λa o ha na nb=>sT _ _ (e a o ha na nb);refine⟨Tt,_,rfl,A7.of A5,rfl,rfl,?_⟩;generalize upd H' Tt (.tup [V.int (i:Int),.ref t])=H2 at ht2 h12 h22 e2 ⊢;refine⟨t,_,1,_,rfl,rfl,A7.of ht2,rfl,v,_,_,_,rfl,rfl,A4.of h12,Nm hW.2,t,_,2,_,rfl,rfl,A7.of ht2,rfl,?_⟩;dsimp only[Ar];refine⟨t,_,0,_,rfl,rfl,A7.of ht2,rfl,v,_,_,_,rfl,rfl,A4.of h12,Nm hW.1,_,rfl,?_⟩;unfold IA;refine Bq (λc=>?_) (λc=>?_)
 .have c:=dT c;rw[Av (by lia)];refine⟨t,_,0,_,rfl,rfl,A7.of ht2,rfl,v,_,_,_,rfl,rfl,h12,Pe (by rw[Kj];exact hW.1),?_⟩;rw[bF];have tv:t≠v:=Ft ht2 h12 (by intro z;cases z);have tl:t≠l:=Ft ht2 h22 (by intro z;cases z);refine⟨t,_,0,_,rfl,rfl,A7.of (by rw[Ak tv];exact ht2),rfl,l,_,_,_,rfl,rfl,(by rw[Ak (Ne.symm nvl)];exact h22),Pe (by rw[WI];exact hW.1),?_⟩;rw[Wr];refine⟨t,_,0,_,rfl,rfl,A7.of (by rw[Ak tl,Ak tv];exact ht2),rfl,?_⟩;refine⟨λa o ha na nb=>?_,⟨_,_,_,rfl⟩,?_,A5⟩
  .rw[Ak nb,Ak na];exact e2 a o ha na nb
  .rw[Ak nvl];exact A5
 .have c:=dF c;rw[Aw (by lia)];exact⟨e2,⟨_,_,_,rfl⟩,h12,h22⟩
theorem Zf (T:Tx w K mg a):AM P w K mg base AW 1 a.f_A a.d_A ["count","bonds","lowered_by","lowered"] Xt:=by
 refine T.F_A.ok Hc (λvs H Q E h=>?_) (λcdv A outer s H vs Q E hr h=>?_)
 .obtain⟨_,_,_,_,_,_,_,rfl,_⟩:=h;rfl
 obtain⟨n,b,l,B,s,x0,m,rfl,⟨bs,hb,hbs⟩,hBl,hn,hl,hlow,hR,hw,q⟩:=h;refine⟨_,(Ab (Aq (i:=4) Hc.nd rfl (.inl rfl) (pv 3))
  (Ab (Ca PassesOwn.never rfl (FC (by rfl) T.z_range (A0 (pv 0) A2)) (AD (i:=5) Hc.nd rfl (.inl rfl))
  (Ae (Aq (i:=4) Hc.nd rfl (.inl rfl) (Aa Ap (Aa AE (pv 1) (Aa AE (pv 2) (pv 4) (λ_ _=>rfl)) (λ_ _=>rfl)) A1 (λ_ _=>rfl)))))
  (Ab (Aq (i:=6) Hc.nd rfl (.inl rfl) (By (A0 (Aa AE (pv 2) (pv 4) (λ_ _=>rfl)) A2)))
  (Ab (Aq (i:=7) Hc.nd rfl (.inl rfl) (Aa Ap (Aa AE (pv 1) (Aa AE (pv 2) (pv 4) (λ_ _=>rfl)) (λ_ _=>rfl)) A1 (λ_ _=>rfl)))
  (Ab (K1 PassesOwn.never (AL Ni (pv 7) (pv 4) (AG _))
  (Ab (BG (BP BN Ce Cf C8 (pv 6) (A0 (Aa AE (pv 2) (pv 7) (λ_ _=>rfl)) A2)))
  (Ae (Aq (i:=7) Hc.nd rfl (.inl rfl) (Aa Ap (Aa AE (pv 1) (Aa AE (pv 2) (pv 7) (λ_ _=>rfl)) (λ_ _=>rfl)) A1 (λ_ _=>rfl))))))
  (Ae (AI (pv 6)))))))),?_⟩
 have hm:=hR.pos;have hm2:=hR.le;refine⟨_,rfl,_,rfl,(n:Int),rfl,by lia,by lia,?_⟩;refine Gz (lo:=0) (n:=n) (λi σ' H'=>H'=H/\∃o5 o6 o7,σ'=[some (.int (n:Int)),some (.ref b),some (.ref l),some (.int (x0:Int)),some (.int (it B s.p i x0:Int)),o5,o6,o7]) ⟨rfl,_,_,_,rfl⟩ (λi σ' H' hi p=>?_) (fun σ' H' p=>?_)
 .obtain⟨rfl,o5,o6,o7,rfl⟩:=p;refine Ah λ_ zA=>?_;obtain⟨j,bb,g1,g2,g3⟩:=hR.walk i hi;obtain⟨t,c0,c1⟩:=hbs.get g2;refine zA ?_;have hz:=hR.lt i (by lia);have ha:Be (pl n s.p) (it B s.p i x0:Int)=some (.int (j:Int)):=(Og hz).trans (by rw[g1];rfl);refine⟨_,rfl,_,rfl,_,rfl,l,_,_,_,rfl,rfl,A4.of hl,ha,b,_,_,_,rfl,rfl,A4.of hb,c0,t,_,1,_,rfl,rfl,A7.of c1,rfl,rfl,_,_,_,congrArg (λv:Nat=>[some (V.int (n:Int)),some (.ref b),some (.ref l),some (.int (x0:Int)),some (.int (v:Int)),some (.int (0+(i:Int))),o6,o7]) (show bb.y=it B s.p (i+1) x0 by rw[GW,Fv g1 g2])⟩
 refine Ah λ_ zB=>?_;obtain⟨rfl,o5,o6,o7,rfl⟩:=p;refine zB ?_;have he:=hR.lt n (Al _);have hal:=hR.alive;have hlt:∀k,it B s.p k (it B s.p n x0)<n:=λk=>by
  obtain⟨i,bb,g1,g2,g3⟩:=hal k;rw[←g3];exact(hw _ (AY g2)).1
 have heq:=hR.eq hlow;have hback:=hR.back;have hleast:=hR.least;rw[heq]at q;generalize it B s.p n x0=e at *;refine Ah λ_ zC=>?_;obtain⟨j,bb,g1,g2,g3⟩:=hal 0;refine zC ?_;change s.p e=some j at g1;refine Ah λ_ zD=>?_;obtain⟨t,c0,c1⟩:=hbs.get g2;refine zD ?_;have ha:Be (pl n s.p) (e:Int)=some (.int (j:Int)):=(Og he).trans (by rw[g1];rfl);refine⟨_,rfl,_,rfl,l,_,_,_,rfl,rfl,A4.of hl,ha,Ai rfl,λr hr=>?_⟩;have s1:=A9 hr (.lst [V.int (j:Int)]);refine⟨_,rfl,_,rfl,_,rfl,l,_,_,_,rfl,rfl,A4.of (s1 _ _ hl),ha,b,_,_,_,rfl,rfl,A4.of (s1 _ _ hb),c0,t,_,1,_,rfl,rfl,A7.of (s1 _ _ c1),rfl,?_⟩;dsimp only[Ar];refine Dq (fun σ' H''=>∃o5 o7,σ'=[some (.int (n:Int)),some (.ref b),some (.ref l),some (.int (x0:Int)),some (.int (e:Int)),o5,some (.ref r),o7]/\A8 H' H''/\H'' r=some (.lst (D0 (DS B s.p e m)))) (fun σ' H'' pp=>?_) (λnx=>?_)
 .obtain⟨o5,o7,rfl,e1,hr1⟩:=pp;exact⟨_,rfl,q r H'' e1 hr hr1⟩
 refine K7 (m-1) (λi σ' H''=>∃o5,σ'=[some (.int (n:Int)),some (.ref b),some (.ref l),some (.int (x0:Int)),some (.int (e:Int)),o5,some (.ref r),some (.int (it B s.p (i+1) e:Int))]/\A8 H' H''/\H'' r=some (.lst (D0 (DS B s.p e (i+1))))) ⟨o5,?_,s1,?_⟩ (λi σ' H'' hi pp=>?_) (fun σ H Q Q' hq h=>?_)
 .rw[GW];show _=[_,_,_,_,_,_,_,some (V.int ((pb B s.p e).y:Int))]
  rw[Fv g1 g2];rfl
 .rw[A5];show _=some (HO.lst [V.int (((s.p e).getD 0:Nat):Int)]);rw[g1];rfl
 .obtain⟨o5,rfl,e1,hr1⟩:=pp;refine⟨_,rfl,_,rfl,rfl,_,rfl,?_⟩;by_cases c:it B s.p (i+1) e=e
  .have hi2:i+1=m:=by
    by_cases z:i+1<m
    .exact absurd c (hleast _ (by lia) z)
    .lia
   rw[c];refine Bc (KP rfl) (BW ?_);rw[hi2]at hr1;exact nx _ _ ⟨_,_,rfl,e1,hr1⟩
  .have hi2:i+1<m:=by
    by_cases z:i+1=m
    .rw[z]at c;exact absurd hback c
    .lia
   refine Bc (KU (λz=>c (by have:=V.int.inj z;lia))) (BL ⟨by lia,?_⟩);refine Ah λ_ zE=>?_;obtain⟨j2,b2,k1,k2,k3⟩:=hal (i+1);obtain⟨t2,d0,d1⟩:=hbs.get k2;refine zE ?_;have ha2:Be (pl n s.p) (it B s.p (i+1) e:Int)=some (.int (j2:Int)):=(Og (hlt (i+1))).trans (by rw[k1];rfl);refine⟨_,rfl,.inl ⟨rfl,_,A4.of hr1⟩,_,rfl,_,rfl,l,_,_,_,rfl,rfl,A4.of (e1 _ _ hl),ha2,r,_,_,rfl,rfl,hr1,(by rw[LG];unfold DS;rw[Af,CI];exact C5 (by lia)),?_⟩;have s2:A8 H' (upd H'' r (.lst (D0 (DS B s.p e (i+1))++[V.int (j2:Int)]))):=λa o ha=>by rw[Ak (AF ha hr)];exact e1 _ _ ha
   have hr2:(upd H'' r (.lst (D0 (DS B s.p e (i+1))++[V.int (j2:Int)]))) r=some (.lst (D0 (DS B s.p e (i+1+1)))):=by
    rw[A5,Wz];unfold DS;rw[Ic (n:=i+1),BA];show some (HO.lst (D0 (_++[j2])))=some (HO.lst (D0 (_++[(s.p (it B s.p (i+1) e)).getD 0])));rw[k1];rfl
   refine⟨_,rfl,_,rfl,_,rfl,l,_,_,_,rfl,rfl,A4.of (s2 _ _ hl),ha2,b,_,_,_,rfl,rfl,A4.of (s2 _ _ hb),d0,t2,_,1,_,rfl,rfl,A7.of (s2 _ _ d1),rfl,?_⟩;refine⟨o5,?_,s2,hr2⟩;rw[GW B s.p (i+1),Fv k1 k2];rfl
 .obtain⟨a1,h1,a2,h2,h3,a3,h4,h5⟩:=h;exact⟨a1,h1,a2,h2,h3,a3,h4,hq _ _ h5⟩
theorem Wg (T:Tx w K mg a):AM P w K mg base AW 2 a.f_y a.d_y ["count","bonds"] Vy:=by
 have G_z :=@Yh P w K mg base a T;have G_A :=@Zf P w K mg base a T;refine T.F_y.ok IV (λvs H Q E h=>?_) (λcdv A outer s H vs Q E hr h=>?_)
 .obtain⟨_,_,_,rfl,_⟩:=h;rfl
 obtain⟨n,b,B,rfl,hB,hw,n0,n1,hBl,q⟩:=h;refine⟨_,(Ab (Aq (i:=2) IV.nd rfl (.inr rfl) (Aj Nj (By (A0 A1 A2)) (pw 0)))
  (Ab (Aq (i:=3) IV.nd rfl (.inl rfl) (Aj Nj (By (A0 FN A2)) (pw 0)))
  (Ab (Aq (i:=4) IV.nd rfl (.inl rfl) FN)
  (Ab (Ca PassesOwn.never rfl (FC (by rfl) T.z_range (A0 (pw 0) A2)) (AD (i:=5) IV.nd rfl (.inl rfl))
  (Ab (Aq (i:=4) IV.nd rfl (.inl rfl) (Az G_z (hr.mono (by lia)) (by rfl) T.m_z T.F_z.kp T.b_z .nil As (A0 (pw 1) (A0 (pw 2) (A0 (pw 3) A2)))))
  (Ae (Bx (AL b9 (pw 4) FN (AG _))
  (Ae (AI (BS (A0 BY (A0 (F7 ["value","values"] [none,some 2] (by rfl) (Dp (pw 2)) UR (λ_ _ _ _ _ _=>⟨(AD (i:=0) ZP rfl (.inl rfl)),EL,(Aj (B3 Et) (pw 0) (Aa (show DW _ (Kl K) from AE) (pw 1) A1 (λ_ _=>rfl)))⟩)) A2)))))
  BJ))))
  (Ae (AI (BS (A0 BY (A0 (Az G_A (hr.mono (by lia)) (by rfl) T.m_A T.F_A.kp T.b_A .nil As (A0 (pw 0) (A0 (pw 1) (A0 (pw 3) (A0 (pw 4) A2))))) A2))))))))),?_⟩
 have p63:(2:Int) ^ 63=9223372036854775808:=by decide
 refine⟨Ai rfl,λl1 hl1=>⟨l1,_,_,rfl,rfl,A5,by lia,by lia,Bp (by show 1*n<=1000000;lia),λv hv=>?_⟩⟩;have s1:=(A9 hl1 (.lst [V.int 0])).trans (A9 hv (.lst (List.replicate ((n:Int)).toNat [V.int 0]).flatten));have hv1:(upd (upd H l1 (.lst [V.int 0])) v (.lst (List.replicate ((n:Int)).toNat [V.int 0]).flatten)) v=some (.lst (vl n st0.v)):=by rw[A5];exact congrArg (λz=>some (HO.lst z)) (QT n _)
 have hv0:H v=none:=(A9 hl1 (.lst [V.int 0])).free hv;dsimp only[Ar];generalize upd (upd H l1 (.lst [V.int 0])) v (.lst (List.replicate ((n:Int)).toNat [V.int 0]).flatten)=H1 at s1 hv1;refine⟨Ai rfl,λl2 hl2=>⟨l2,_,_,rfl,rfl,A5,by lia,by lia,Bp (by show 1*n<=1000000;lia),λl hl=>?_⟩⟩;have s2:=(A9 hl2 (.lst [V.non])).trans (A9 hl (.lst (List.replicate ((n:Int)).toNat [V.non]).flatten));have hl1':(upd (upd H1 l2 (.lst [V.non])) l (.lst (List.replicate ((n:Int)).toNat [V.non]).flatten)) l=some (.lst (pl n st0.p)):=by rw[A5];exact congrArg (λz=>some (HO.lst z)) (QT n _)
 have hlH1:H1 l=none:=(A9 hl2 (.lst [V.non])).free hl;have hl0:H l=none:=s1.free hlH1;have nvl:v≠l:=AF hv1 hlH1;have hv2:=s2 _ _ hv1;have s12:=s1.trans s2;dsimp only[Ar];generalize upd (upd H1 l2 (.lst [V.non])) l (.lst (List.replicate ((n:Int)).toNat [V.non]).flatten)=H2 at s12 hv2 hl1';clear s1 s2 hv1 hl hv hl1 hl2 hlH1;have nbv:b≠v:=by obtain⟨vs,g,_⟩:=hB;exact AF g hv0
 have nbl:b≠l:=by obtain⟨vs,g,_⟩:=hB;exact AF g hl0
 refine⟨(n:Int),rfl,by lia,by lia,?_⟩;refine Gz (lo:=0) (n:=n) (λi σ' H'=>A8 H H'/\∃(s:Sv) (o5:Option V),σ'=[some (.int (n:Int)),some (.ref b),some (.ref v),some (.ref l),some (Kx s.low),o5]/\H' v=some (.lst (vl n s.v))/\H' l=some (.lst (pl n s.p))/\go B n st0=go B (n-i) s) ⟨s12,st0,_,rfl,hv2,hl1',rfl⟩ (λi σ' H' hi pp=>?_) (fun σ' H' pp=>?_)
 .obtain⟨e,s,o5,rfl,h1,h2,hg⟩:=pp;refine⟨b,v,l,B,n,s,rfl,nbv,nbl,nvl,hB.over e,hw,h1,h2,λH3 fr h13 h23=>?_⟩;have e3:A8 H H3:=λa o ha=>fr _ _ (e _ _ ha) (AF ha hv0) (AF ha hl0);obtain⟨k,hk⟩:∃k,n-i=k+1:=⟨n-i-1,by lia⟩
  rw[hk]at hg;dsimp only[Ar];refine⟨rfl,_,rfl,?_⟩;cases hlow:(D8 B s).low with
  |
   none=>
   refine Bc (v:=true) (BB rfl) (BL ?_);have hg2:go B n st0 = .inl (D8 B s):=by rw[hg];unfold go;rw[hlow]
   have er:Fz n B=(.str "values",vl n λi=>(D8 B s).v i-(D8 B s).v 0):=by unfold Fz;rw[hg2]
   rw[er]at q;refine⟨v,rfl,⟨_,A4.of h13⟩,?_⟩;refine J8 (xs:=vl n (D8 B s).v) (λi ys H'=>H'=H3/\ys=vl i λi=>(D8 B s).v i-(D8 B s).v 0) ⟨rfl,rfl⟩ (by rw[Kj];exact Bp (by lia)) (λi ys H' hi p=>by obtain⟨rfl,rfl⟩:=p;exact⟨A4.of h13,by rw[Kj];exact Al _⟩) (λi x ys H' hx p=>?_) (λys H' p r hr'=>?_)
   .obtain⟨rfl,rfl⟩:=p;have hi:i<n:=by have:=(Ax.mp hx).1;rwa [Kj]at this
    have ex:x = .int ((D8 B s).v i):=CV (hx.symm.trans (M1 (n:=n) (f:=λi=>V.int ((D8 B s).v i)) hi));subst ex;exact⟨v,_,0,_,rfl,rfl,A4.of h13,Nm n0,rfl,(ae _ _).symm⟩
   .obtain⟨rfl,rfl⟩:=p;rw[Kj];refine⟨Ai rfl,λt ht=>?_⟩;exact q t r _ ((e3.trans (A9 hr' _)).trans (A9 ht _)) (e3.free hr') A5 (A9 ht _ _ _ A5)
  |
   some x=>
   refine Bc (v:=false) (C2 (by intro z;cases z)) (BW ?_);refine⟨e3,D8 B s,some (.int (0+(i:Int))),by rw[hlow];rfl,h13,h23,?_⟩;rw[show n-(i+1)=k by lia,hg];show(match (D8 B s).low with|none=>_|some _=>_)=_;rw[hlow]
 .obtain⟨e,s,o5,rfl,h1,h2,hg⟩:=pp;rw[DZ]at hg;change go B n st0 = .inr s at hg;rcases go_ok n0 hw with⟨s',e',_⟩|⟨s',x0,m,e',hl',hR⟩
  .rw[hg]at e';cases e'
  rw[hg]at e';cases e';have er:Fz n B=(.str "ring",D0 (ringOf n B s)):=by unfold Fz;rw[hg]
  rw[er]at q;rw[hl'];refine⟨n,b,l,B,s,x0,m,rfl,hB.over e,hBl,n1,h2,hl',hR,hw,λr H3 e3 hr0 hr3=>?_⟩;refine⟨Ai rfl,λt ht=>?_⟩;exact q t r _ ((e.trans e3).trans (A9 ht _)) (e.free hr0) A5 (A9 ht _ _ _ hr3)
theorem X9 (T:Tx w K mg a):AM P w K mg base AW 3 a.f_p a.d_p ["program","k","l","bonds"] (W2 a.c_Program a.c_Deed (CQ a)):=by
 have G_y :=@Wg P w K mg base a T;refine T.F_p.ok Ol (λvs H Q E h=>?_) (λcdv A outer s H vs Q E hr h=>?_)
 .obtain⟨_,_,_,_,_,_,_,_,_,_,_,_,_,rfl,_⟩:=h;rfl
 obtain⟨x,dx,dl,sz,xs,Rs,R,R',k,l,bl,bs,B,rfl,hx,hdl,ax,hR,hR',k3,k3',hbl,tr,bl1,hin,q⟩:=h;refine⟨_,(Ab (Aq (i:=4) Ol.nd rfl (.inl rfl) (Aj BC A1 (AZ BI (by rfl) T.z_len BK (A0 (BD (Aa AE (BD (pv 0) rfl) (pv 1) (λ_ _=>rfl)) rfl) A2))))
  (Ab (Aq (i:=5) Ol.nd rfl (.inl rfl) (Az G_y (hr.mono (by lia)) (by rfl) T.m_y T.F_y.kp T.b_y .nil As (A0 (Aj BC (pv 4) (AZ BI (by rfl) T.z_len BK (A0 (BD (Aa AE (BD (pv 0) rfl) (pv 2) (λ_ _=>rfl)) rfl) A2))) (A0 (pv 3) A2))))
  (Ab (Bx (AL C6 (Aa Ap (pv 5) A1 (λ_ _=>rfl)) BY (AG _))
  (Ae (AI (BS (A0 BY (A0 (F7 ["number","bonds"] [none,some 3] (by rfl) (Dp (Aa Ap (pv 5) A1 (λ_ _=>rfl))) YI (λ_ _ _ _ _ _=>⟨(AD (i:=0) UE rfl (.inl rfl)),EL,(Aa (show DW _ (Kl K) from AE) (pv 1) (pv 0) (λ_ _=>rfl))⟩)) A2)))))
  BJ)
  (Ae (AI (C0 (Ac BY (Ac (E9 Fx (by rfl) T.z_tuple F4 (A0 (E4 G6 (Aa Ap (pv 5) A1 (λ_ _=>rfl)) (DH A1) (DH (pv 4))) A2)) (Ac (E9 Fx (by rfl) T.z_tuple F4 (A0 (E4 G6 (Aa Ap (pv 5) A1 (λ_ _=>rfl)) (DH (pv 4)) EU) A2)) Bz DL) DL) Br))))))),?_⟩
 refine Ah λ_ zA=>?_;obtain⟨y1,hy1,d4⟩:=ax.get hR;obtain⟨y2,hy2,d4'⟩:=ax.get hR';obtain⟨d1,dx1,nm1,lo1,hi1,pt1,v1,ls1,hs1,rfl,hd1,hn1,_⟩:=d4;obtain⟨d2,dx2,nm2,lo2,hi2,pt2,v2,ls2,hs2,rfl,hd2,hn2,_⟩:=d4';refine zA ?_;have nl:((AB R.S).map V.str).length=R.S.length:=by unfold AB;rw[Af,Af]
 have nl':((AB R'.S).map V.str).length=R'.S.length:=by unfold AB;rw[Af,Af]
 refine⟨_,rfl,x,_,dx,_,_,rfl,hx,T.cl_Program,T.n_Program_deeds,rfl,_,rfl,dl,_,_,_,rfl,rfl,A4.of hdl,Bg hy1,d1,_,dx1,_,_,rfl,hd1,T.cl_Deed,T.n_Deed_names,rfl,nm1,_,rfl,.inr (A7.of hn1),_,_,rfl,rfl,?_⟩;rw[nl];dsimp only[Ar];generalize hn:1+R.S.length+R'.S.length=n at q hin;generalize hbh:1+R.S.length=bh at q hn;have ebh:(1+(R.S.length:Int))=(bh:Int):=by lia
 rw[ebh];have wf:=S0 hin;have en:((bh:Int)+(R'.S.length:Int))=(n:Int):=by lia
 refine⟨_,rfl,_,rfl,x,_,dx,_,_,rfl,hx,T.cl_Program,T.n_Program_deeds,rfl,_,rfl,dl,_,_,_,rfl,rfl,A4.of hdl,Bg hy2,d2,_,dx2,_,_,rfl,hd2,T.cl_Deed,T.n_Deed_names,rfl,nm2,_,rfl,.inr (A7.of hn2),_,_,rfl,rfl,_,rfl,n,bl,B.map Cv,(by rw[nl'];exact congrArg (λz=>[V.int z,V.ref bl]) en),bO hbl tr hin,wf,by lia,by lia,by rw[Af];lia,λt r H1 e1 r0 ht hr1=>?_⟩;dsimp only[Ar];unfold HP at q;rcases Bd.go_ok (n:=n) (by lia) wf with⟨s',e,hv⟩|⟨s',x0,m,e,hl',rg⟩
 .have er:Fz n (B.map Cv)=(.str "values",vl n λi=>s'.v i-s'.v 0):=by unfold Fz;rw[e]
  rw[er]at ht hr1;rw[e]at q;dsimp only at q;refine⟨_,rfl,t,_,0,_,rfl,rfl,A7.of ht,rfl,rfl,_,rfl,Bc (v:=false) (dS (by decide)) (BW ?_)⟩;dsimp only[Fu];have hr1:H1 r=some (.lst (vl n λi=>s'.v i-s'.v 0)):=hr1;rw[UW]at hr1;have wsl:((List.range n).map (λi=>s'.v i-s'.v 0)).length=n:=by rw[Af,CI]
  generalize (List.range n).map (λi=>s'.v i-s'.v 0)=ws at hr1 q wsl;have cut1:BU (ws.map V.int) (some 1) (some (bh:Int))=((ws.drop 1).take (bh-1)).map V.int:=by
   rw[show BU (ws.map V.int) (some 1) (some (bh:Int))=((ws.map V.int).drop (1:Int).toNat).take ((bh:Int).toNat-(1:Int).toNat) from Qh (ws.map V.int) (by decide) (OX _) (by rw[Af,wsl];lia) (by lia),Ff,←List.map_drop,←OS];rfl
  have cut2:BU (ws.map V.int) (some (bh:Int)) none=(ws.drop bh).map V.int:=by
   rw[show BU (ws.map V.int) (some (bh:Int)) none=(ws.map V.int).drop (bh:Int).toNat from Zr (ws.map V.int) (OX _),Ff,List.map_drop]
  refine⟨_,rfl,t,_,1,_,rfl,rfl,A7.of ht,rfl,_,rfl,_,rfl,_,rfl,r,_,rfl,A4.of hr1,λp1 hp1=>?_⟩;rw[cut1];have s2:=A9 hp1 (.lst (((ws.drop 1).take (bh-1)).map V.int));refine⟨p1,_,rfl,.inl ⟨A4.of A5,λu1 hu1=>?_⟩⟩;have s3:=A9 hu1 (.tup (((ws.drop 1).take (bh-1)).map V.int));have s23:=s2.trans s3;have hu13:(upd (upd H1 p1 (.lst (((ws.drop 1).take (bh-1)).map V.int))) u1 (.tup (((ws.drop 1).take (bh-1)).map V.int))) u1=some (.tup (((ws.drop 1).take (bh-1)).map V.int)):=A5;have u10:=(e1.trans s2).free hu1;generalize upd (upd H1 p1 (.lst (((ws.drop 1).take (bh-1)).map V.int))) u1 (.tup (((ws.drop 1).take (bh-1)).map V.int))=H3 at s23 hu13;refine⟨_,rfl,t,_,1,_,rfl,rfl,A7.of (s23 _ _ ht),rfl,_,rfl,_,rfl,r,_,rfl,A4.of (s23 _ _ hr1),λp2 hp2=>?_⟩;rw[cut2];have s4:=A9 hp2 (.lst ((ws.drop bh).map V.int));refine⟨p2,_,rfl,.inl ⟨A4.of A5,λu2 hu2=>⟨Ai rfl,λt2 ht2=>?_⟩⟩⟩;have s5:=A9 hu2 (.tup ((ws.drop bh).map V.int));have s6:=A9 ht2 (.tup [V.str "pair",V.ref u1,V.ref u2]);have e03:=e1.trans s23;have u20:=(e03.trans s4).free hu2;have t20:=(e03.trans (s4.trans s5)).free ht2;refine q t2 _ (e03.trans (s4.trans (s5.trans s6))) λfo zz hfo=>?_;have ne:∀{b:Addr},H b=none->b≠fo:=fun{b} hb z=>by rw[z,hfo]at hb;cases hb
  exact⟨t2,u1,u2,rfl,by rw[E8 (ne t20)];exact A5,by rw[E8 (ne u10)];exact(s4.trans (s5.trans s6)) _ _ hu13,by rw[E8 (ne u20)];exact s6 _ _ A5⟩
 have er:Fz n (B.map Cv)=(.str "ring",D0 (ringOf n (B.map Cv) s')):=by unfold Fz;rw[e]
 rw[er]at ht hr1;rw[e]at q;dsimp only at q;have ht:H1 t=some (.tup [.str "ring",.ref r]):=ht;have hr1:H1 r=some (.lst (D0 (ringOf n (B.map Cv) s'))):=hr1;obtain⟨u,rok⟩:∃u,Bd.RingOk (B.map Cv) (Bd.ringOf n (B.map Cv) s') u:=⟨_,rg.ok hl'⟩
 generalize Bd.ringOf n (B.map Cv) s'=L at hr1 q rok;have ll:L.length<=1000:=by
  have:=Bd.nodup_le (k:=List.range B.length) rok.nd λi hi=>by
   obtain⟨k,hk⟩:=DG.mp hi;obtain⟨b,hb,_⟩:=rok.bond k i hk;obtain⟨t,ht,_⟩:=HG hb;exact DE.mpr (Ax.mp ht).1
  rw[CI]at this;lia
 refine⟨_,rfl,t,_,0,_,rfl,rfl,A7.of ht,rfl,rfl,_,rfl,Bc (v:=true) (BB rfl) (BL ?_)⟩;refine⟨_,rfl,t,_,1,_,rfl,rfl,A7.of ht,rfl,r,rfl,⟨_,A4.of hr1⟩,?_⟩;refine J8 (xs:=D0 L) (λi ys H'=>H'=H1/\Bu H1 ys ((L.take i).map λi=>B.getD i (0,0,0))) ⟨rfl,.nil⟩ (Bp (by rw[LG];lia)) (λi ys H' hi p=>by obtain⟨rfl,p⟩:=p;exact⟨A4.of hr1,by rw[p.1,Af,BE];lia⟩) (λi v ys H' hv p=>?_) (λys H' p rl hrl=>?_)
 .obtain⟨rfl,az⟩:=p;have li:=(Ax.mp hv).1;rw[LG]at li;have gL:L[i]?=some L[i]:=AA li;have ev:v = .int (L[i]:Int):=CV (hv.symm.trans (WB gL));subst ev;refine Ah λ_ zB=>?_;obtain⟨b,hb,_⟩:=rok.bond i _ gL;obtain⟨tt,htt,_⟩:=HG hb;obtain⟨ta,hta,hta2⟩:=(tr.over e1).get htt;refine zB ?_;refine⟨_,rfl,_,rfl,bl,_,_,_,rfl,rfl,A4.of (e1 _ _ hbl),Bg hta,rfl,?_⟩;rw[Ct gL,BA];have hg:B.getD L[i] (0,0,0)=tt:=by rw[Bk,htt];rfl
  refine az.snoc ?_;show H' ta=some (.tup [.int (B.getD L[i] (0,0,0)).1,.int (B.getD L[i] (0,0,0)).2.1,.int (B.getD L[i] (0,0,0)).2.2]);rw[hg];exact hta2
 obtain⟨rfl,az⟩:=p;rw[LG,E1]at az;refine⟨Ai rfl,λt2 ht2=>?_⟩;have s2:=A9 hrl (.lst ys);have s3:=A9 ht2 (.tup [V.str "ring",V.ref rl]);refine q t2 _ (e1.trans (s2.trans s3)) λfo zz hfo=>?_;have ne:∀{b:Addr},H b=none->b≠fo:=fun{b} hb z=>by rw[z,hfo]at hb;cases hb
 have rl0:=e1.free hrl;have t20:=(e1.trans s2).free ht2;refine⟨t2,rl,ys,rfl,by rw[E8 (ne t20)];exact A5,by rw[E8 (ne rl0)];exact s3 _ _ A5,?_⟩;refine⟨az.1,λi v b hv hb=>?_⟩;refine Ah λ_ zC=>?_;obtain⟨ta,ea,hta⟩:=az.2 i v b hv hb;refine zC ?_;refine⟨ta,ea,?_⟩;have nta:ta≠fo:=λz=>by
  have:=e1 _ _ hfo;rw[←z,hta]at this;cases this
 rw[E8 nta];exact(s2.trans s3) _ _ hta
theorem Ri (T:Tx w K mg a):∀n:Nat,AM P w K mg base AW (n+2) a.f_c a.d_c ["items","path","cuts"] (S6 n)
 |
  0=>by
  have no:∀vs H Q E,¬S6 0 vs H Q E:=λvs H Q E h=>by
   obtain⟨it,pa,cu,f,P',cs,_,_,_,_,hd,_⟩:=h;have:=IW f;lia
  exact⟨λvs H Q E h=>absurd h (no vs H Q E),λA outer s H args us vs Q E _ _ _ _ h=>absurd h (no vs H Q E)⟩
 |
  n+1=>by
  have G_c:=Ri T n;refine T.F_c.ok FA (λvs H Q E h=>?_) (λcdv A outer s H vs Q E hr h=>?_)
  .obtain⟨_,_,_,_,_,_,rfl,_⟩:=h;rfl
  obtain⟨it,pa,cu,f,PP,cs,rfl,⟨xs,hit,hf⟩,hpa,hcu,hdep,pl,cl,hlen,q⟩:=h;refine⟨_,(Ab (Aq (i:=3) FA.nd rfl (.inl rfl) (By A2))
  (Ab (Ca PassesOwn.never rfl (RM (by rfl) T.z_enumerate (A0 (pw 0) A2)) (D9 rfl (B9 (AD (i:=4) FA.nd rfl (.inl rfl)) (B9 (AD (i:=5) FA.nd rfl (.inl rfl)) D6)))
  (Ab (Aq (i:=6) FA.nd rfl (.inl rfl) (Aj Je (pw 1) (BS (A0 (pw 4) A2))))
  (Ae (Bx (AL C6 (Aa Ap (pw 5) A1 (λ_ _=>rfl)) BY (AG _))
  (Ae (BG (BP BN Ce Cf C8 (pw 3) (A0 (C0 (Ac (Aa Ap (pw 5) A1 (λ_ _=>rfl)) (Ac (Aa Ap (pw 5) A1 (λ_ _=>rfl)) (Ac (pw 6) (Ac (pw 2) Bz B5) B5) CB) CB)) A2))))
  (Ae (BG (BP BN MW MX JI (pw 3) (A0 (Az G_c (hr.mono (by lia)) (by rfl) T.m_c T.F_c.kp T.b_c .nil As (A0 (Aa Ap (pw 5) A1 (λ_ _=>rfl)) (A0 (pw 6) (A0 (Aj Je (pw 2) (BS (A0 (Aa Ap (pw 5) A1 (λ_ _=>rfl)) A2))) A2)))) A2))))))))
  (Ae (AI (pw 3))))),?_⟩
  refine⟨Ai rfl,λfo hfo=>?_⟩;have e1:=A9 hfo (.lst []);have hfo1:(upd H fo (.lst [])) fo=some (.lst []):=A5;generalize upd H fo (.lst [])=H1 at e1 hfo1;refine⟨it,rfl,⟨_,A7.of (e1 _ _ hit)⟩,?_⟩;refine Q0 (xs:=xs) (λi σ' H'=>∃(g:AH) (done:List (Fo.En×List Bool)) (ys:List V) (o4 o5 o6:Option V),σ'=[some (.ref it),some (.ref pa),some (.ref cu),some (.ref fo),o4,o5,o6]/\A8 H H'/\Bb H (xs.drop i) g/\BF g<=n+1/\H' fo=some (.lst ys)/\Am (GB H') ys done/\done++AR g PP i cs=AR f PP 0 cs) ⟨f,[],[],_,_,_,rfl,e1,hf,hdep,hfo1,.nil,rfl⟩ (λi σ' H' _ pp=>by obtain⟨_,_,_,_,_,_,_,e,_⟩:=pp;exact A7.of (e _ _ hit)) (λi x Tt σ' H' hx pp hT=>?_) (fun σ' H' pp=>?_);rotate_left
  .obtain⟨g,done,ys,o4,o5,o6,rfl,e,hg,_,hy,ay,hd⟩:=pp;have hz:xs.drop xs.length=[]:=KE (Al _);rw[hz]at hg;have gn:g = .nil:=by
    cases g with
    |nil=>rfl
    |leaf k pl r=>obtain⟨_,_,_,z,_⟩:=hg;cases z
    |node c w s r=>obtain⟨_,_,_,_,z,_⟩:=hg;cases z
   subst gn;have:done=AR f PP 0 cs:=by rw[←hd];show done=done++[];rw[CK]
   rw[this]at ay;exact q fo ys _ e hy ay
  refine Ah λ_ zA=>?_;obtain⟨g,done,ys,o4,o5,o6,rfl,e,hg,gdep,hy,ay,hd⟩:=pp;obtain⟨hi,ex⟩:=Ax.mp hx;refine zA ?_;rw[Jl hi,ex]at hg;have tot:=congrArg List.length hd;rw[Ao]at tot;have yl:=ay.1;have sT:=A9 hT (.tup [V.int (i:Int),x]);have e2:=e.trans sT;have hy2:=sT _ _ hy;have ay2:=ay.mono λy v z=>z.over sT;refine⟨Tt,_,rfl,A7.of A5,rfl,rfl,?_⟩;generalize upd H' Tt (.tup [V.int (i:Int),x])=H2 at e2 hy2 ay2;refine⟨Ai rfl,λt1 ht1=>?_⟩;have s3:=A9 ht1 (.tup [V.int (i:Int)]);refine⟨pa,t1,_,[V.int (i:Int)],rfl,rfl,s3 _ _ (e2 _ _ hpa),A5,Bp (by rw[Af,Bi];lia),λhe H3 e3 hhe=>?_⟩;have hhe:H3 he=some (.tup ((PP++[(i:Int)]).map V.int)):=by rw[BA];exact hhe
  have e23:=s3.trans e3;have eH3:=e2.trans e23;have hy3:=e23 _ _ hy2;have ay3:=ay2.mono λy v z=>z.over e23;dsimp only[Ar];clear s3 e3 sT;cases g with
  |nil=>cases hg
  |
   leaf k pl rest=>
   refine Ah λ_ zB=>?_;obtain⟨t,pp,zs,z,ht,hpr,hrest⟩:=hg;refine zB ?_;cases z;change BF rest<=n+1 at gdep;change done++((⟨k,pl,PP++[(i:Int)]⟩,cs)::AR rest PP (i+1) cs)=AR f PP 0 cs at hd;have tot':done.length+(AR rest PP (i+1) cs).length+1=(AR f PP 0 cs).length:=by rw[←hd,Ao,BH];lia
   refine⟨t,_,0,_,rfl,rfl,A7.of (eH3 _ _ ht),rfl,rfl,_,rfl,Bc (v:=true) (BB rfl) (BL ?_)⟩;refine⟨.inl ⟨rfl,_,A4.of hy3⟩,t,_,1,_,rfl,rfl,A7.of (eH3 _ _ ht),rfl,t,_,2,_,rfl,rfl,A7.of (eH3 _ _ ht),rfl,Ai rfl,λr hr=>?_⟩;have s4:=A9 hr (.tup [V.int k,V.ref pp,V.ref he,V.ref cu]);have nr:r≠fo:=λz=>by rw[z,hy3]at hr;cases hr
   refine⟨fo,_,_,rfl,rfl,s4 _ _ hy3,C5 (by lia),?_⟩;have tk:=(A8.tk s4).trans (TK.upd (o:=.lst (ys++[V.ref r])) (s4 _ _ hy3));refine⟨rest,done++[(⟨k,pl,PP++[(i:Int)]⟩,cs)],_,_,_,_,rfl,λa o ha=>by rw[Ak (AF ha hfo)];exact s4 _ _ (eH3 _ _ ha),hrest,gdep,A5,?_,by rw[CW];exact hd⟩;exact(ay3.mono λy v z=>z.tk tk).snoc ⟨r,pp,he,cu,rfl,by rw[Ak nr];exact A5,(hpr.over eH3).tk tk,tk _ _ (eH3 _ _ hcu)⟩
  |
   node c w sub rest=>
   refine Ah λ_ zC=>?_;obtain⟨t,pp,zs,us,z,ht,hpp,hsub,hrest⟩:=hg;refine zC ?_;cases z;unfold BF at gdep;change done++(AR sub (PP++[(i:Int)]) 0 (cs++[c])++AR rest PP (i+1) cs)=AR f PP 0 cs at hd;have tot':done.length+((AR sub (PP++[(i:Int)]) 0 (cs++[c])).length+(AR rest PP (i+1) cs).length)=(AR f PP 0 cs).length:=by rw[←hd,Ao,Ao]
   refine⟨t,_,0,_,rfl,rfl,A7.of (eH3 _ _ ht),rfl,rfl,_,rfl,Bc (v:=false) (dS (by decide +kernel)) (BW ?_)⟩;refine⟨.inl ⟨rfl,_,A4.of hy3⟩,t,_,3,_,rfl,rfl,A7.of (eH3 _ _ ht),rfl,t,_,1,_,rfl,rfl,A7.of (eH3 _ _ ht),rfl,Ai rfl,λt2 ht2=>?_⟩;have s4:=A9 ht2 (.tup [V.bl c]);refine⟨cu,t2,cs.map V.bl,[V.bl c],rfl,rfl,s4 _ _ (eH3 _ _ hcu),A5,Bp (by rw[Af,Bi];lia),λcu2 H4 e4 hcu2=>?_⟩;have hcu2:H4 cu2=some (.tup ((cs++[c]).map V.bl)):=by rw[BA];exact hcu2
   have e34:=s4.trans e4;have eH4:=eH3.trans e34;refine⟨pp,he,cu2,sub,PP++[(i:Int)],cs++[c],rfl,⟨zs,eH4 _ _ hpp,Bb.over eH4 hsub⟩,e34 _ _ hhe,hcu2,by lia,by rw[Ao,Bi];lia,by rw[Ao,Bi];lia,by lia,λr ys2 H5 e5 hr5 ay5=>?_⟩;have yl5:=ay5.1;have hy5:=(e34.trans e5) _ _ hy3;refine⟨fo,r,_,_,rfl,rfl,hy5,hr5,Bp (by lia),?_⟩;have tk:=TK.upd (o:=.lst (ys++ys2)) hy5;refine⟨rest,done++AR sub (PP++[(i:Int)]) 0 (cs++[c]),_,_,_,_,rfl,λa o ha=>by rw[Ak (AF ha hfo)];exact e5 _ _ (eH4 _ _ ha),hrest,by lia,A5,?_,by rw[CW];exact hd⟩;exact((ay3.mono λy v z=>(z.over (e34.trans e5)).tk tk)).app (ay5.mono λy v z=>z.tk tk)
theorem Re (T:Tx w K mg a):∀n:Nat,AM P w K mg base AW (n+1) a.f_m a.d_m ["items"] (RJ n)
 |
  0=>by
  have no:∀vs H Q E,¬RJ 0 vs H Q E:=λvs H Q E h=>by
   obtain⟨_,f,_,_,h1,_⟩:=h;have:=IW f;lia
  exact⟨λvs H Q E h=>absurd h (no vs H Q E),λA outer s H args us vs Q E _ _ _ _ h=>absurd h (no vs H Q E)⟩
 |
  n+1=>by
  have G_m:=Re T n;refine T.F_m.ok Yd (λvs H Q E h=>?_) (λcdv A outer s H vs Q E hr h=>?_)
  .obtain⟨_,_,rfl,_⟩:=h;rfl
  obtain⟨p,f,rfl,⟨xs,hp,hf⟩,hdep,hc,hb10,q⟩:=h;refine⟨_,(Ae (AI (AZ (YE rfl) (by rfl) T.z_any XA (A0 (F7 ["item"] [none] (by rfl) (KJ (pv 0)) We (λ_ _ _ _ _ _=>⟨(AD (i:=0) ag rfl (.inl rfl)),EL,(Oc (Gu C6 (Aa (show DW _ (FB K) from Ap) (pv 0) A1 (λ_ _=>rfl)) BY (AG _)) (Om (Yf (Gu (show BM _ _ (FP K false) from LX (GY hr)) (Aa (show DW _ (FB K) from Ap) (pv 0) A1 (λ_ _=>rfl)) (BS A2) (AG _)) (Om (Az G_m (hr.mono (by lia)) (by rfl) T.m_m T.F_m.kp T.b_m .nil As (A0 (Aa (show DW _ (FB K) from Ap) (pv 0) A1 (λ_ _=>rfl)) A2))))))⟩)) A2)))),?_⟩;have xl:=Lo hf;refine⟨_,rfl,p,rfl,⟨_,A7.of hp⟩,?_⟩;refine bL (xs:=xs) (λi ys H'=>A8 H H'/\ys.length=i/\∃g,Bb H (xs.drop i) g/\BF g<=n+1/\C1 g<=1000/\ys++(EM g).map V.bl=(EM f).map V.bl) ⟨A8.refl _,rfl,f,hf,hdep,hc,rfl⟩ (Bp (by lia)) (λi ys H' hi pp=>⟨A7.of (pp.1 _ _ hp),MH pp.2.1⟩) (λi x ys H' hx pp=>?_) (λys H' pp r hr'=>?_);rotate_left
  .obtain⟨e,_,g,hg,_,_,hb⟩:=pp;rw[List.drop_of_length_le (Al _)]at hg;have hg0:g = .nil:=by
    cases g with
    |nil=>rfl
    |leaf k pl rest=>obtain⟨_,_,_,z,_⟩:=hg;cases z
    |node c w sub rest=>obtain⟨_,_,_,_,z,_⟩:=hg;cases z
   subst hg0;rw[show(EM .nil).map V.bl=[] from rfl,CK]at hb;subst hb;refine⟨r,_,rfl,A4.of A5,?_⟩;rw[LY];exact q _ (e.trans (A9 hr' _))
  refine Ah λ_ zA=>?_;obtain⟨e,yl,g,hg,dg,cg,hb⟩:=pp;obtain⟨hi,ex⟩:=Ax.mp hx;refine zA ?_;rw[Jl hi,ex]at hg;have yl':∀v:V,(ys++[v]).length=i+1:=λv=>by rw[Ao,yl];rfl
  cases g with
  |nil=>cases hg
  |
   leaf k pl rest=>
   refine Ah λ_ zB=>?_;obtain⟨t,p1,ys',z,ht,_,hrest⟩:=hg;refine zB ?_;cases z;have no:decide (V.str "deed"=V.str "sweep")=false:=dS (by decide +kernel);refine⟨_,rfl,t,_,0,_,rfl,rfl,A7.of (e _ _ ht),rfl,rfl,_,rfl,Bc (v:=false) no (BW ?_)⟩;refine⟨e,yl' _,rest,hrest,dg,by change C1 rest+1<=1000 at cg;lia,?_⟩;rw[CW];exact hb
  |
   node c w sub rest=>
   refine Ah λ_ zC=>?_;obtain⟨t,p1,zs,ys',z,ht,hp1,hsub,hrest⟩:=hg;refine zC ?_;cases z;unfold BF at dg;change C1 sub+C1 rest+1<=1000 at cg;refine⟨_,rfl,t,_,0,_,rfl,rfl,A7.of (e _ _ ht),rfl,rfl,_,rfl,Bc (v:=true) (BB rfl) (BL ?_)⟩;refine⟨_,rfl,t,_,3,_,rfl,rfl,A7.of (e _ _ ht),rfl,Ai rfl,λu hu=>?_⟩;have s1:=A9 hu (.tup []);have e1:=e.trans s1;have tr:BO K (upd H' u (.tup [])) (.ref p1) (.tup (Dr sub)):=(VS ⟨zs,e1 _ _ hp1,Bb.over e1 hsub⟩).tr;have df:=Lq sub;refine⟨.tup (Dr sub),.tup [],tr,.tup (A7.of A5) .nil,⟨_,rfl⟩,⟨_,rfl⟩,?_,by rw[CM];lia,_,rfl,?_⟩
   .rw[Cn];cases Dr sub<;>rfl
   have rc1:(sub = .nil->False)->EM (.node c w sub rest)=Ci sub::EM rest:=λne=>by
    cases sub with
    |nil=>exact(ne rfl).elim
    |leaf k pl r=>rfl
    |node c w s r=>rfl
   by_cases ne:sub = .nil
   .subst ne;refine Bc (v:=true) (by show(if false=true then _ else BX (.tup (Dr .nil)) (.tup []))=true;rw[Dr,BX,Cc];rfl) (BL ?_);refine⟨e1,yl' _,rest,hrest,by lia,by lia,?_⟩;rw[CW];exact hb
   have ef:BX (.tup (Dr sub)) (.tup [])=false:=by
    rw[BX];cases sub with
    |nil=>exact absurd rfl ne
    |leaf k pl r=>rfl
    |node c w s r=>rfl
   refine Bc (v:=false) (by rw[ef];rfl) (BW ?_);refine⟨_,rfl,t,_,3,_,rfl,rfl,A7.of (e1 _ _ ht),rfl,p1,sub,rfl,⟨zs,e1 _ _ hp1,Bb.over e1 hsub⟩,by lia,by lia,by lia,λH2 e2=>?_⟩;refine⟨e1.trans e2,yl' _,rest,hrest,by lia,by lia,?_⟩;rw[rc1 ne]at hb;rw[CW];exact hb
theorem aC (T:Tx w K mg a):AM P w K mg base AW 1 a.f_v a.d_v ["deed","places","cuts"] (U1 a.c_Deed):=by
 refine T.F_v.ok Ku (λvs H Q E h=>?_) (λcdv A outer s H vs Q E hr h=>?_)
 .obtain⟨_,_,_,_,_,_,rfl,_⟩:=h;rfl
 obtain⟨x,pl,cu,D,ps0,cs,rfl,⟨p,dx,nm,lo,hi,pt,v4,v5,v6,ls,hs,rfl,h0,h1,_⟩,m3,⟨xs,hpl,ap⟩,hcu,p60,q⟩:=h;refine⟨_,(Ab (Aq (i:=3) Ku.nd rfl (.inl rfl) (AZ BI (by rfl) T.z_len BK (A0 (BD (pw 0) rfl) A2)))
  (Ab (Bx ((Ip (AL Ni (AZ BI (by rfl) T.z_len BK (A0 (pw 1) A2)) (AZ BI (by rfl) T.z_len BK (A0 (pw 2) A2)) (AG _)) (Kr (AL (B3 Es) (AZ BI (by rfl) T.z_len BK (A0 (pw 1) A2)) (HH (by rfl) T.g_MOST_PAIRS T.r_MOST_PAIRS) (AG _))))).pt
  (Ae (AI DI))
  BJ)
  (Ab (Ca PassesOwn.never rfl (KJ (pw 1)) (D9 rfl (B9 (AD (i:=4) Ku.nd rfl (.inl rfl)) (B9 (AD (i:=5) Ku.nd rfl (.inl rfl)) D6)))
  (Ae (Bx ((Ip (AL (B3 Eh) (pw 4) A1 (AG _)) (Ip (AL (B3 Ts) (pw 4) (pw 3) (AG _)) (Kr (AL (B3 Es) (AZ VL (by rfl) T.z_abs ZS (A0 (pw 5) A2)) (HH (by rfl) T.g_MOST_SHIFT T.r_MOST_SHIFT) (AG _)))))).pt
  (Ae (AI DI))
  BJ)))
  (Ab (Sr (i:=6) ["place","cut"] [none,none] Ku.nd rfl (.inl rfl) (by rfl) (QW (by rfl) T.z_zip (A0 (pw 1) (A0 (pw 2) A2))) V6 (λ_ _ _ _ _ _=>⟨(show PG _ _ (Kp K 2 _) from(D9 rfl (B9 (AD (i:=0) PV rfl (.inl rfl)) (B9 (AD (i:=1) PV rfl (.inl rfl)) D6)))),(VB (Iw (FJ (pw 1)))),(Aa (show DW _ (FB K) from Ap) (pw 0) A1 (λ_ _=>rfl))⟩))
  (Ae (AI (Gu (LX (GY hr)) (AZ S9 (by rfl) T.z_sorted P8 (A0 (pw 6) A2)) (Ot rfl (by rfl) T.z_list (by rfl) T.z_range (A0 (pw 3) A2)) (AG _)))))))),?_⟩
 have nl:(D.loops.map λt=>V.str t.nm).length=D.loops.length:=Af _;generalize hm:D.loops.length=m at *;have xl:=ap.1;have cl:(cs.map V.bl).length=cs.length:=Af _;have no:¬F5 m ps0 cs->Q (.bl false) H:=λh=>by
  have:=q H (A8.refl _);rw[Nu h]at this;exact this
 refine⟨p,_,dx,_,_,rfl,h0,T.cl_Deed,T.n_Deed_names,rfl,nm,_,rfl,.inr (A7.of h1),?_⟩;rw[nl];dsimp only[Ar];refine⟨pl,_,rfl,.inr (A7.of hpl),cu,_,rfl,.inr (A7.of hcu),rfl,_,rfl,?_⟩;by_cases c1:ps0.length=cs.length;rotate_left
 .refine Bc (v:=true) (KU λz=>c1 ?_) (BL ?_)
  .have:=V.int.inj z;lia
  .exact no λh=>c1 h.1
 refine Bc (KP (by rw[xl,cl,c1])) (BW ?_);refine⟨pl,_,rfl,.inr (A7.of hpl),_,rfl,?_⟩;by_cases c2:ps0.length<=6;rotate_left
 .refine Bc (v:=true) (BB (by rw[xl];lia)) (BL ?_);exact no λh=>c2 h.2.1
 refine Bc (v:=false) (C2 (by rw[xl];lia)) (BW ?_);refine⟨pl,rfl,⟨_,A7.of hpl⟩,?_⟩;refine Oi (xs:=xs) (λi σ' H'=>H'=H/\(∀p∈ps0.take i,Ox m p)/\∃o4 o5 o6,σ'=[some (.ref p),some (.ref pl),some (.ref cu),some (.int (m:Int)),o4,o5,o6]) ⟨rfl,(λp hp=>by rw[MP]at hp;cases hp),_,_,_,rfl⟩ (λi σ' H' _ pp=>by rw[pp.1];exact A7.of hpl) (λi x σ' H' hx pp=>?_) (fun σ' H' pp=>?_)
 .obtain⟨rfl,hin,o4,o5,o6,rfl⟩:=pp;refine Ah λ_ zA=>?_;obtain⟨pr,hpr,t,rfl,ht⟩:=ap.get' hx;refine zA ?_;have bad:¬Ox m pr->Q (.bl false) H':=λh=>no λz=>h (z.2.2.1 pr (AY hpr));refine⟨t,_,rfl,A7.of ht,rfl,rfl,?_⟩;dsimp only[Ar];refine⟨_,rfl,?_⟩;by_cases c3:pr.1<0
  .exact Bc (v:=true) (BB c3) (BL (bad λz=>by have:=z.1;lia))
  refine Bc (v:=false) (C2 c3) (BW ?_);refine⟨_,rfl,?_⟩;by_cases c4:pr.1≥(m:Int)
  .exact Bc (v:=true) (BB c4) (BL (bad λz=>by have:=z.2.1;lia))
  refine Bc (v:=false) (C2 c4) (BW ?_);refine⟨_,rfl,_,rfl,?_⟩;have ab:((1000000000000000000:Int)<if pr.2<0 then -pr.2 else pr.2)↔¬(-1000000000000000000<=pr.2/\pr.2<=1000000000000000000):=by split<;>lia
  by_cases c5:(1000000000000000000:Int)<if pr.2<0 then -pr.2 else pr.2
  .exact Bc (v:=true) (BB c5) (BL (bad λz=>ab.mp c5 z.2.2))
  refine Bc (v:=false) (C2 c5) (BW ?_);refine⟨rfl,λp hp=>?_,_,_,_,rfl⟩;rw[Ct hpr]at hp;rcases Cw.mp hp with z|z
  .exact hin p z
  .rw[Cy.mp z];have c6:=Classical.not_not.mp (λz=>c5 (ab.mpr z));exact⟨by lia,by lia,c6.1,c6.2⟩
 refine Ah λ_ zB=>?_;obtain⟨rfl,hin,o4,o5,o6,rfl⟩:=pp;refine zB ?_;rw[xl,E1]at hin;refine⟨pl,cu,rfl,⟨_,A7.of hpl⟩,⟨_,A7.of hcu⟩,?_⟩;refine Wp (xs:=xs) (ys:=cs.map V.bl) (by rw[xl,cl,c1]) (λi zs H2=>A8 H' H2/\zs=(CO (ps0.take i) (cs.take i)).map V.int) ⟨A8.refl _,rfl⟩ (Bp (by lia)) (λi zs H2 hi pp=>⟨A7.of (pp.1 _ _ hpl),A7.of (pp.1 _ _ hcu),by rw[pp.2,Af];have:=OD (ps0.take i) (cs.take i);rw[BE]at this;lia⟩) (λi x y Tt zs H2 hx hy pp hT=>?_) (λzs H2 pp l hl=>?_)
 .obtain⟨e2,rfl⟩:=pp;refine Ah λ_ zC=>?_;obtain⟨pr,hpr,t,rfl,ht⟩:=ap.get' hx;refine zC ?_;have him:i<cs.length:=by have:=(Ax.mp hx).1;lia
  have hci:cs[i]?=some cs[i]:=AA him;rw[Bf,hci]at hy;cases hy;generalize cs[i]=cb at hci;have tl:(ps0.take i).length=(cs.take i).length:=by rw[BE,BE];lia
  have ws:=Pg (ps0.take i) (cs.take i) pr cb tl;rw[←Ct hpr,←Ct hci]at ws;have sT:=A9 hT (.tup [V.ref t,V.bl cb]);refine⟨Tt,_,rfl,A7.of A5,rfl,rfl,Sg (ρ:=[]) _ _,?_⟩;refine⟨_,rfl,?_⟩;cases cb with
  |
   true=>
   refine BW ⟨e2.trans sT,?_⟩;rw[ws,Av rfl,CK]
  |
   false=>
   refine BL ⟨t,_,0,_,rfl,rfl,A7.of ((e2.trans sT) _ _ ht),rfl,e2.trans sT,?_⟩;rw[ws,Aw (by decide),BA];rfl
 obtain⟨e2,rfl⟩:=pp;rw[show ps0.take xs.length=ps0 from EY (by lia),show cs.take xs.length=cs from EY (by lia)];have wl:=OD ps0 cs;have s3:=A9 hl (.lst ((CO ps0 cs).map V.int));have hl3:(upd H2 l (.lst ((CO ps0 cs).map V.int))) l=some (.lst ((CO ps0 cs).map V.int)):=A5;dsimp only[Ar];generalize upd H2 l (.lst ((CO ps0 cs).map V.int))=H3 at s3 hl3;refine⟨l,CO ps0 cs,rfl,A4.of hl3,by lia,λl2 ns' hl2 pm so=>?_⟩;have s4:=A9 hl2 (.lst (ns'.map V.int));have hl4:(upd H3 l2 (.lst (ns'.map V.int))) l2=some (.lst (ns'.map V.int)):=A5;generalize upd H3 l2 (.lst (ns'.map V.int))=H4 at s4 hl4;refine⟨m,rfl,by lia,λl5 hl5=>?_⟩;rw[RF];have s5:=A9 hl5 (.lst ((Cu m).map V.int));refine Se (s5 _ _ hl4) A5 ?_;have ev:decide (ns'=Cu m)=GE m ps0 cs:=by
  by_cases c:ns'=Cu m
  .rw[BB c,R8 ⟨c1,c2,hin,(Mm pm so).mp c⟩]
  .rw[C2 c,Nu λz=>c ((Mm pm so).mpr z.2.2.2)]
 show Q (.bl (decide (ns'=Cu m))) _;rw[ev];exact q _ (((e2.trans s3).trans s4).trans s5)
theorem Um (T:Tx w K mg a):AM P w K mg base AW 16 a.f_u a.d_u ["program","plan"] (Y2 a.c_Program a.c_Deed):=by
 have G_c :=@Ri P w K mg base a T 13;have G_m :=@Re P w K mg base a T 14;have G_v :=@aC P w K mg base a T;refine T.F_u.ok P7 (λvs H Q E h=>?_) (λcdv A outer s H vs Q E hr h=>?_)
 .obtain⟨_,_,_,_,_,_,_,rfl,_⟩:=h;rfl
 obtain⟨x,dx,dl,sz,pt,Ds,f,rfl,hx,hDo,n10,D3,hf,hdep,hfc,hdl60,hpl60,q⟩:=h;refine⟨_,(Ab (Aq (i:=2) P7.nd rfl (.inl rfl) (Az G_c (hr.mono (by lia)) (by rfl) T.m_c T.F_c.kp T.b_c .nil As (A0 (pw 1) (A0 (BS A2) (A0 (BS A2) A2)))))
  (Ab (Bx (AL (NJ (GY hr)) (AZ S9 (by rfl) T.z_sorted P8 (A0 (F7 ["k","places","path","cuts"] [none,none,none,none] (by rfl) (Dp (pw 2)) Vz (λ_ _ _ _ _ _=>⟨(show PG _ _ (Kp K 4 _) from(D9 rfl (B9 (AD (i:=0) M8 rfl (.inl rfl)) (B9 (AD (i:=1) M8 rfl (.inl rfl)) (B9 (AD (i:=2) M8 rfl (.inl rfl)) (B9 (AD (i:=3) M8 rfl (.inl rfl)) D6)))))),EL,(pw 0)⟩)) A2)) (Ot rfl (by rfl) T.z_list (by rfl) T.z_range (A0 (AZ BI (by rfl) T.z_len BK (A0 (BD (pw 0) rfl) A2)) A2)) (AG _))
  (Ae (AI DI))
  BJ)
  (Ab (Bx (FJ (Az G_m (hr.mono (by lia)) (by rfl) T.m_m T.F_m.kp T.b_m .nil As (A0 (pw 1) A2)))
  (Ae (AI DI))
  BJ)
  (Ae (AI (AZ (cn rfl) (by rfl) T.z_all Xl (A0 (F7 ["k","places","path","cuts","program"] [none,none,none,none,some 0] (by rfl) (Dp (pw 2)) bj (λ_ _ _ _ _ _=>⟨(show PG _ _ (Kp K 4 _) from(D9 rfl (B9 (AD (i:=0) M9 rfl (.inl rfl)) (B9 (AD (i:=1) M9 rfl (.inl rfl)) (B9 (AD (i:=2) M9 rfl (.inl rfl)) (B9 (AD (i:=3) M9 rfl (.inl rfl)) D6)))))),EL,(Az G_v (hr.mono (by lia)) (by rfl) T.m_v T.F_v.kp T.b_v .nil As (A0 (Aa (show DW _ (Kl K) from AE) (show PE _ _ (PF K _ "deeds") from BD (pw 4) rfl) (pw 0) (λ_ _=>rfl)) (A0 (pw 1) (A0 (pw 3) A2))))⟩)) A2))))))),?_⟩
 have no:¬HM Ds f->∀H',A8 H H'->Q (.bl false) H':=λh H' e=>by
  have:=q H' e;rw[Oj h]at this;exact this
 refine⟨Ai rfl,λt1 ht1=>⟨Ai rfl,λt2 ht2=>?_⟩⟩;have s1:=A9 ht1 (.tup []);have s2:=A9 ht2 (.tup []);have e2:=s1.trans s2;refine⟨pt,t1,t2,f,[],[],rfl,hf.over e2,s2 _ _ A5,A5,by lia,by decide,by decide,by lia,λst ys H3 e3 hst ay=>?_⟩;have e23:=e2.trans e3;have yl:=ay.1;dsimp only[Ar];clear s1 s2 ht1 ht2;refine⟨st,rfl,⟨_,A4.of hst⟩,?_⟩;refine OA (xs:=ys) (λi zs H'=>H'=H3/\zs=(((AR f [] 0 []).take i).map λe=>e.1.k).map V.int) ⟨rfl,rfl⟩ (Bp (by lia)) (λi zs H' hi pp=>⟨by rw[pp.1];exact A4.of hst,by rw[pp.2,Af,Af,BE];lia⟩) (λi y zs H' hy pp=>?_) (λzs H4 pp l hl=>?_)
 .obtain⟨rfl,rfl⟩:=pp;refine Ah λ_ zA=>?_;obtain⟨en,hen,t,pl,p,cu,rfl,ht,_,_⟩:=ay.get' hy;refine zA ?_;refine⟨t,_,rfl,A7.of ht,rfl,rfl,Sz (ρ:=[]) _ _ _ _,?_⟩;refine⟨rfl,?_⟩;rw[Ct hen,BA,BA];rfl
 obtain⟨rfl,rfl⟩:=pp;rw[show(AR f [] 0 []).take ys.length=AR f [] 0 [] from EY (by lia),show(AR f [] 0 []).map (λe=>e.1.k)=E6 f from rfl];have kl:(E6 f).length=ys.length:=by unfold E6;rw[Af];lia
 have s5:=A9 hl (.lst ((E6 f).map V.int));have hl5:(upd H4 l (.lst ((E6 f).map V.int))) l=some (.lst ((E6 f).map V.int)):=A5;generalize upd H4 l (.lst ((E6 f).map V.int))=H5 at s5 hl5;refine⟨l,E6 f,rfl,A4.of hl5,by lia,λl2 ns' hl2 pm so=>?_⟩;have s6:=A9 hl2 (.lst (ns'.map V.int));have hl6:(upd H5 l2 (.lst (ns'.map V.int))) l2=some (.lst (ns'.map V.int)):=A5;have e36:=s5.trans s6;generalize upd H5 l2 (.lst (ns'.map V.int))=H6 at s6 hl6 e36;refine Ah λ_ zB=>?_;have eH6:=e23.trans e36;obtain⟨ds,hdl,ad⟩:=hDo.over eH6;refine zB ?_;have dsl:=ad.1;refine⟨x,_,dx,_,_,rfl,eH6 _ _ hx,T.cl_Program,T.n_Program_deeds,rfl,dl,_,rfl,.inl (A4.of hdl),Ds.length,by rw[dsl],by lia,λl7 hl7=>?_⟩;rw[RF];have s7:=A9 hl7 (.lst ((Cu Ds.length).map V.int));have e37:=e36.trans s7;refine Se (s7 _ _ hl6) A5 ⟨_,rfl,?_⟩;by_cases c1:ns'=Cu Ds.length;rotate_left
 .refine Bc (v:=true) (KU c1) (BL ?_);exact no (λz=>c1 ((Mm pm so).mpr z.1)) _ (e23.trans e37)
 refine Bc (v:=false) (KP c1) (BW ?_);have pk:=(Mm pm so).mp c1;generalize upd H6 l7 (.lst ((Cu Ds.length).map V.int))=H7 at s7 e37;have eH7:=e23.trans e37;refine⟨pt,f,rfl,hf.over eH7,by lia,by lia,by decide,λH8 e8=>⟨_,rfl,?_⟩⟩;have e38:=e37.trans e8;have eH8:=e23.trans e38;cases hb:Ci f with
 |true=>exact BL (no (λz=>by have:=z.2.1;rw[hb]at this;cases this) _ eH8)
 |false=>
 refine BW ?_;have ent:∀(i:Nat) (en:Fo.En×List Bool),(AR f [] 0 [])[i]?=some en->∃(k:Nat) (D:Dw),en.1.k=(k:Int)/\Ds[k]?=some D:=λi en hen=>by
  have hk:en.1.k∈E6 f:=CY.mpr ⟨en,AY hen,rfl⟩;obtain⟨k,ek,kn⟩:=Z0 pk hk;exact⟨k,Ds[k],ek,AA kn⟩
 refine⟨st,rfl,⟨_,A4.of (e38 _ _ hst)⟩,?_⟩;refine OA (xs:=ys) (λi zs H'=>A8 H8 H'/\∃bs:List Bool,zs=bs.map V.bl/\bs.length=i/\∀(j:Nat) (b:Bool) (en:Fo.En×List Bool) (k:Nat) (D:Dw),bs[j]?=some b->(AR f [] 0 [])[j]?=some en->en.1.k=(k:Int)->Ds[k]?=some D->b=GE D.loops.length en.1.pl en.2) ⟨A8.refl _,[],rfl,rfl,λj b en k D h=>by cases h⟩ (Bp (by lia)) (λi zs H' hi pp=>⟨A4.of (pp.1 _ _ (e38 _ _ hst)),by obtain⟨_,bs,rfl,h,_⟩:=pp;rw[Af];lia⟩) (λi y zs H' hy pp=>?_) (λzs H9 pp l9 hl9=>?_)
 .obtain⟨e9,bs,rfl,bl,hbs⟩:=pp;refine Ah λ_ zC=>?_;have e39:=e38.trans e9;have eH9:=e23.trans e39;obtain⟨en,hen,t,pl,p,cu,rfl,ht,hpl,hcu⟩:=ay.get' hy;obtain⟨k,D,ek,hD⟩:=ent i en hen;refine zC ?_;rw[ek]at ht;refine Ah λ_ zD=>?_;obtain⟨ds,hdl,ad⟩:=hDo.over eH9;obtain⟨vd,hvd,hdo⟩:=ad.get hD;refine zD ?_;refine⟨t,_,rfl,A7.of (e39 _ _ ht),rfl,rfl,Sz _ _ _ _,?_⟩;refine⟨x,_,dx,_,_,rfl,eH9 _ _ hx,T.cl_Program,T.n_Program_deeds,rfl,dl,_,_,_,rfl,rfl,A4.of hdl,Bg hvd,vd,pl,cu,D,en.1.pl,en.2,rfl,hdo,D3 D (AY hD),hpl.over e39,e39 _ _ hcu,hpl60 en (AY hen),λH10 e10=>⟨e9.trans e10,bs++[GE D.loops.length en.1.pl en.2],by rw[BA];rfl,by rw[Ao,bl];rfl,λj b en2 k2 D2 hj hj2 hk2 hD2=>?_⟩⟩;rcases EZ j bs.length with z|z
  .rw[CH z]at hj;exact hbs j b en2 k2 D2 hj hj2 hk2 hD2
  .have lj:=(Ax.mp hj).1;rw[Ao,Bi]at lj;have:j=i:=by lia
   subst this;rw[Ck (by lia),show j-bs.length=0 by lia]at hj;cases hj;rw[hen]at hj2;cases hj2;rw[ek]at hk2;have:k=k2:=by lia
   subst this;rw[hD]at hD2;cases hD2;rfl
 refine Ah λ_ zE=>?_;obtain⟨e9,bs,rfl,bl,hbs⟩:=pp;refine zE ?_;refine⟨l9,_,rfl,A4.of A5,?_⟩;have ev:bs.all id=J3 Ds f:=by
  by_cases c:HM Ds f
  .rw[S8 c,Jj];intro b hb';obtain⟨j,hj,e⟩:=KD.mp hb';have hen:(AR f [] 0 [])[j]?=some ((AR f [] 0 [])[j]'(by lia)):=AA (by lia);obtain⟨k,D,ek,hD⟩:=ent j _ hen;rw[hbs j b _ k D (by rw[AA hj,e]) hen ek hD];exact R8 (c.2.2 _ (AY hen) k D ek hD)
  .rw[Oj c];have:∃e∈AR f [] 0 [],∃(k:Nat) (D:Dw),e.1.k=(k:Int)/\Ds[k]?=some D/\¬F5 D.loops.length e.1.pl e.2:=by
    refine T2 λz=>c ⟨pk,hb,λe he k D ek hD=>T2 λy=>z ⟨e,he,k,D,ek,hD,y⟩⟩
   obtain⟨en,he,k,D,ek,hD,nw⟩:=this;obtain⟨j,hj,e⟩:=KD.mp he;have jl:j<bs.length:=by lia
   have hbj:bs[j]?=some bs[j]:=AA jl;have:=hbs j _ en k D hbj (by rw[AA hj,e]) ek hD;rw[Nu nw]at this;rw[List.all_eq_false];exact⟨bs[j],FH jl,by rw[this];decide⟩
 rw[ev];exact q _ ((eH8.trans e9).trans (A9 hl9 _))
theorem SJ (T:Tx w K mg a):∀n:Nat,AM P w K mg base AW (n+2) a.f_c a.d_c ["items","path","cuts"] (Pc n)
 |
  0=>by
  have no:∀vs H Q E,¬Pc 0 vs H Q E:=λvs H Q E h=>by
   obtain⟨it,pa,cu,f,P',cs,_,_,_,_,hd,_⟩:=h;have:=IW f;lia
  exact⟨λvs H Q E h=>absurd h (no vs H Q E),λA outer s H args us vs Q E _ _ _ _ h=>absurd h (no vs H Q E)⟩
 |
  n+1=>by
  have G_c:=SJ T n;refine T.F_c.ok FA (λvs H Q E h=>?_) (λcdv A outer s H vs Q E hr h=>?_)
  .obtain⟨_,_,_,_,_,_,rfl,_⟩:=h;rfl
  obtain⟨it,pa,cu,f,PP,cs,rfl,⟨xs,hit,hf⟩,hpa,hcu,hdep,pl,cl,hlen,q⟩:=h;refine⟨_,(Ab (Aq (i:=3) FA.nd rfl (.inl rfl) (By A2))
  (Ab (Ca PassesOwn.never rfl (RM (by rfl) T.z_enumerate (A0 (pw 0) A2)) (D9 rfl (B9 (AD (i:=4) FA.nd rfl (.inl rfl)) (B9 (AD (i:=5) FA.nd rfl (.inl rfl)) D6)))
  (Ab (Aq (i:=6) FA.nd rfl (.inl rfl) (Aj Je (pw 1) (BS (A0 (pw 4) A2))))
  (Ae (Bx (AL C6 (Aa Ap (pw 5) A1 (λ_ _=>rfl)) BY (AG _))
  (Ae (BG (BP BN Ce Cf C8 (pw 3) (A0 (C0 (Ac (Aa Ap (pw 5) A1 (λ_ _=>rfl)) (Ac (Aa Ap (pw 5) A1 (λ_ _=>rfl)) (Ac (pw 6) (Ac (pw 2) Bz B5) B5) CB) CB)) A2))))
  (Ae (BG (BP BN MW MX JI (pw 3) (A0 (Az G_c (hr.mono (by lia)) (by rfl) T.m_c T.F_c.kp T.b_c .nil As (A0 (Aa Ap (pw 5) A1 (λ_ _=>rfl)) (A0 (pw 6) (A0 (Aj Je (pw 2) (BS (A0 (Aa Ap (pw 5) A1 (λ_ _=>rfl)) A2))) A2)))) A2))))))))
  (Ae (AI (pw 3))))),?_⟩
  refine⟨Ai rfl,λfo hfo=>?_⟩;have e1:=A9 hfo (.lst []);have hfo1:(upd H fo (.lst [])) fo=some (.lst []):=A5;generalize upd H fo (.lst [])=H1 at e1 hfo1;refine⟨it,rfl,⟨_,A7.of (e1 _ _ hit)⟩,?_⟩;refine Q0 (xs:=xs) (λi σ' H'=>∃(g:AH) (done:List Fo.En) (ys:List V) (o4 o5 o6:Option V),σ'=[some (.ref it),some (.ref pa),some (.ref cu),some (.ref fo),o4,o5,o6]/\A8 H H'/\Bb H (xs.drop i) g/\BF g<=n+1/\H' fo=some (.lst ys)/\Am (Gn H') ys done/\done++Fo.deedsF g PP i=Fo.deedsF f PP 0) ⟨f,[],[],_,_,_,rfl,e1,hf,hdep,hfo1,.nil,rfl⟩ (λi σ' H' _ pp=>by obtain⟨_,_,_,_,_,_,_,e,_⟩:=pp;exact A7.of (e _ _ hit)) (λi x Tt σ' H' hx pp hT=>?_) (fun σ' H' pp=>?_);rotate_left
  .obtain⟨g,done,ys,o4,o5,o6,rfl,e,hg,_,hy,ay,hd⟩:=pp;have hz:xs.drop xs.length=[]:=KE (Al _);rw[hz]at hg;have gn:g = .nil:=by
    cases g with
    |nil=>rfl
    |leaf k pl r=>obtain⟨_,_,_,z,_⟩:=hg;cases z
    |node c w s r=>obtain⟨_,_,_,_,z,_⟩:=hg;cases z
   subst gn;have:done=Fo.deedsF f PP 0:=by rw[←hd];show done=done++[];rw[CK]
   rw[this]at ay;exact q fo ys _ e hy ay
  refine Ah λ_ zA=>?_;obtain⟨g,done,ys,o4,o5,o6,rfl,e,hg,gdep,hy,ay,hd⟩:=pp;obtain⟨hi,ex⟩:=Ax.mp hx;refine zA ?_;rw[Jl hi,ex]at hg;have tot:=congrArg List.length hd;rw[Ao]at tot;have yl:=ay.1;have sT:=A9 hT (.tup [V.int (i:Int),x]);have e2:=e.trans sT;have hy2:=sT _ _ hy;have ay2:=ay.mono λy v z=>z.over sT;refine⟨Tt,_,rfl,A7.of A5,rfl,rfl,?_⟩;generalize upd H' Tt (.tup [V.int (i:Int),x])=H2 at e2 hy2 ay2;refine⟨Ai rfl,λt1 ht1=>?_⟩;have s3:=A9 ht1 (.tup [V.int (i:Int)]);refine⟨pa,t1,_,[V.int (i:Int)],rfl,rfl,s3 _ _ (e2 _ _ hpa),A5,Bp (by rw[Af,Bi];lia),λhe H3 e3 hhe=>?_⟩;have hhe:H3 he=some (.tup ((PP++[(i:Int)]).map V.int)):=by rw[BA];exact hhe
  have e23:=s3.trans e3;have eH3:=e2.trans e23;have hy3:=e23 _ _ hy2;have ay3:=ay2.mono λy v z=>z.over e23;dsimp only[Ar];clear s3 e3 sT;cases g with
  |nil=>cases hg
  |
   leaf k pl rest=>
   refine Ah λ_ zB=>?_;obtain⟨t,pp,zs,z,ht,hpr,hrest⟩:=hg;refine zB ?_;cases z;change BF rest<=n+1 at gdep;change done++(⟨k,pl,PP++[(i:Int)]⟩::Fo.deedsF rest PP (i+1))=Fo.deedsF f PP 0 at hd;have tot':done.length+(Fo.deedsF rest PP (i+1)).length+1=(Fo.deedsF f PP 0).length:=by rw[←hd,Ao,BH];lia
   refine⟨t,_,0,_,rfl,rfl,A7.of (eH3 _ _ ht),rfl,rfl,_,rfl,Bc (v:=true) (BB rfl) (BL ?_)⟩;refine⟨.inl ⟨rfl,_,A4.of hy3⟩,t,_,1,_,rfl,rfl,A7.of (eH3 _ _ ht),rfl,t,_,2,_,rfl,rfl,A7.of (eH3 _ _ ht),rfl,Ai rfl,λr hr=>?_⟩;have s4:=A9 hr (.tup [V.int k,V.ref pp,V.ref he,V.ref cu]);have nr:r≠fo:=λz=>by rw[z,hy3]at hr;cases hr
   refine⟨fo,_,_,rfl,rfl,s4 _ _ hy3,C5 (by lia),?_⟩;have tk:=(A8.tk s4).trans (TK.upd (o:=.lst (ys++[V.ref r])) (s4 _ _ hy3));refine⟨rest,done++[⟨k,pl,PP++[(i:Int)]⟩],_,_,_,_,rfl,λa o ha=>by rw[Ak (AF ha hfo)];exact s4 _ _ (eH3 _ _ ha),hrest,gdep,A5,?_,by rw[CW];exact hd⟩;exact(ay3.mono λy v z=>z.tk tk).snoc ⟨r,pp,he,cu,rfl,by rw[Ak nr];exact A5,(hpr.over eH3).tk tk,tk _ _ hhe⟩
  |
   node c w sub rest=>
   refine Ah λ_ zC=>?_;obtain⟨t,pp,zs,us,z,ht,hpp,hsub,hrest⟩:=hg;refine zC ?_;cases z;unfold BF at gdep;change done++(Fo.deedsF sub (PP++[(i:Int)]) 0++Fo.deedsF rest PP (i+1))=Fo.deedsF f PP 0 at hd;have tot':done.length+((Fo.deedsF sub (PP++[(i:Int)]) 0).length+(Fo.deedsF rest PP (i+1)).length)=(Fo.deedsF f PP 0).length:=by rw[←hd,Ao,Ao]
   refine⟨t,_,0,_,rfl,rfl,A7.of (eH3 _ _ ht),rfl,rfl,_,rfl,Bc (v:=false) (dS (by decide +kernel)) (BW ?_)⟩;refine⟨.inl ⟨rfl,_,A4.of hy3⟩,t,_,3,_,rfl,rfl,A7.of (eH3 _ _ ht),rfl,t,_,1,_,rfl,rfl,A7.of (eH3 _ _ ht),rfl,Ai rfl,λt2 ht2=>?_⟩;have s4:=A9 ht2 (.tup [V.bl c]);refine⟨cu,t2,cs,[V.bl c],rfl,rfl,s4 _ _ (eH3 _ _ hcu),A5,Bp (by rw[Bi];lia),λcu2 H4 e4 hcu2=>?_⟩;have e34:=s4.trans e4;have eH4:=eH3.trans e34;refine⟨pp,he,cu2,sub,PP++[(i:Int)],cs++[V.bl c],rfl,⟨zs,eH4 _ _ hpp,Bb.over eH4 hsub⟩,e34 _ _ hhe,hcu2,by lia,by rw[Ao,Bi];lia,by rw[Ao,Bi];lia,by lia,λr ys2 H5 e5 hr5 ay5=>?_⟩;have yl5:=ay5.1;have hy5:=(e34.trans e5) _ _ hy3;refine⟨fo,r,_,_,rfl,rfl,hy5,hr5,Bp (by lia),?_⟩;have tk:=TK.upd (o:=.lst (ys++ys2)) hy5;refine⟨rest,done++Fo.deedsF sub (PP++[(i:Int)]) 0,_,_,_,_,rfl,λa o ha=>by rw[Ak (AF ha hfo)];exact e5 _ _ (eH4 _ _ ha),hrest,by lia,A5,?_,by rw[CW];exact hd⟩;exact((ay3.mono λy v z=>(z.over (e34.trans e5)).tk tk)).app (ay5.mono λy v z=>z.tk tk)
theorem Ph (T:Tx w K mg a):AM P w K mg base AW 10 a.f_d a.d_d ["plan","k"] Ze:=by
 have G_c :=@SJ P w K mg base a T 7;refine T.F_d.ok JS (λvs H Q E h=>?_) (λcdv A outer s H vs Q E hr h=>?_)
 .obtain⟨_,_,_,_,_,rfl,_⟩:=h;rfl
 obtain⟨p,k,f,i,e0,rfl,hf,hdep,hlen,he0,hk0,hfirst,q⟩:=h;refine⟨_,(Ab (Ca PassesOwn.never rfl (Dp (Az G_c (hr.mono (by lia)) (by rfl) T.m_c T.F_c.kp T.b_c .nil As (A0 (pw 0) (A0 (BS A2) (A0 (BS A2) A2))))) (D9 rfl (B9 (AD (i:=2) JS.nd rfl (.inl rfl)) (B9 (AD (i:=3) JS.nd rfl (.inl rfl)) (B9 (AD (i:=4) JS.nd rfl (.inl rfl)) (B9 (AD (i:=5) JS.nd rfl (.inl rfl)) D6)))))
  (Ae (Bx (AL C6 (pw 2) (pw 1) (AG _))
  (Ae (AI (BS (A0 (pw 4) (A0 (pw 3) A2)))))
  BJ)))
  (Ae (AI FN))),?_⟩
 refine⟨Ai rfl,λt1 ht1=>⟨Ai rfl,λt2 ht2=>?_⟩⟩;have s1:=A9 ht1 (.tup []);have s2:=A9 ht2 (.tup []);have e2:=s1.trans s2;refine⟨p,t1,t2,f,[],[],rfl,hf.over e2,s2 _ _ A5,A5,hdep,by decide,by decide,hlen,λl ys H3 e3 hl ay=>?_⟩;have e23:=e2.trans e3;have yl:=ay.1;have hi:i<ys.length:=by rw[yl];exact(Ax.mp he0).1
 refine⟨l,rfl,⟨_,A4.of hl⟩,?_⟩;refine FQ (xs:=ys) (λj σ' H'=>H'=H3/\j<=i/\∃o2 o3 o4 o5,σ'=[some (.ref p),some (.int k),o2,o3,o4,o5]) ⟨rfl,Bv _,_,_,_,_,rfl⟩ (λj σ' H' _ pp=>by rw[pp.1];exact A4.of hl) (λj x σ' H' hx pp=>?_) (fun σ' H' pp=>?_)
 .obtain⟨rfl,hji,o2,o3,o4,o5,rfl⟩:=pp;refine Ah λ_ zA=>?_;obtain⟨en,hen,t,pl,pt,cu,rfl,ht,hpl,hpt⟩:=ay.get' hx;refine zA ?_;refine⟨t,_,rfl,A7.of ht,rfl,rfl,?_⟩;refine⟨rfl,_,rfl,?_⟩;by_cases c:j=i
  .subst c;rw[he0]at hen;cases hen;refine Bc (v:=true) (BB (congrArg V.int hk0)) (BL ?_);refine⟨Ai rfl,λr hr=>?_⟩;have s4:=A9 hr (.tup [V.ref pt,V.ref pl]);exact q r pt pl _ (e23.trans s4) A5 (s4 _ _ hpt) (hpl.over s4)
  .refine Bc (v:=false) (C2 λz=>hfirst j en (by lia) hen (V.int.inj z)) (BW ?_);exact⟨rfl,by lia,_,_,_,_,rfl⟩
 .obtain⟨_,h,_⟩:=pp;lia
theorem QA (T:Tx w K mg a):AM P w K mg base AW 11 a.f_n a.d_n ["plan","k","l"] bQ:=by
 have G_d :=@Ph P w K mg base a T;have G_l :=@Qi P w K mg base a T;refine T.F_n.ok GC (λvs H Q E h=>?_) (λcdv A outer s H vs Q E hr h=>?_)
 .obtain⟨_,_,_,_,_,_,_,rfl,_⟩:=h;rfl
 obtain⟨p,B,i,j,s,b,c,rfl,⟨f,hf,hI,g,nd⟩,hb,hc,hm,q⟩:=h;refine⟨_,(Ab (Aq (i:=3) GC.nd rfl (.inl rfl) (Az G_d (hr.mono (by lia)) (by rfl) T.m_d T.F_d.kp T.b_d .nil As (A0 (pv 0) (A0 (pv 1) A2))))
  (Ab (Aq (i:=4) GC.nd rfl (.inl rfl) (Az G_d (hr.mono (by lia)) (by rfl) T.m_d T.F_d.kp T.b_d .nil As (A0 (pv 0) (A0 (pv 2) A2))))
  (Ab (Aq (i:=5) GC.nd rfl (.inl rfl) (By A2))
  (Ab (Aq (i:=6) GC.nd rfl (.inl rfl) (pv 0))
  (Ab (Ca PassesOwn.never rfl (FC (by rfl) T.z_range (A0 (Az G_l (hr.mono (by lia)) (by rfl) T.m_l T.F_l.kp T.b_l .nil As (A0 (Aa Ap (pv 3) A1 (λ_ _=>rfl)) (A0 (Aa Ap (pv 4) A1 (λ_ _=>rfl)) (A0 (AZ (LQ rfl) (by rfl) T.z_min Mu (A0 (AZ BI (by rfl) T.z_len BK (A0 (Aa Ap (pv 3) A1 (λ_ _=>rfl)) A2)) (A0 (AZ BI (by rfl) T.z_len BK (A0 (Aa Ap (pv 4) A1 (λ_ _=>rfl)) A2)) A2))) A2)))) A2)) (AD (i:=7) GC.nd rfl (.inl rfl))
  (Ab (Aq (i:=8) GC.nd rfl (.inl rfl) (Aa Ap (pv 6) (Aa Ap (Aa Ap (pv 3) A1 (λ_ _=>rfl)) (pv 7) (λ_ _=>rfl)) (λ_ _=>rfl)))
  (Ab (BG (BP BN Ce Cf C8 (pv 5) (A0 (C0 (Ac (E4 K4 (Aa Ap (pv 3) A1 (λ_ _=>rfl)) EU (DH (Aj BC (pv 7) A1))) (Ac (Aa Ap (pv 8) A1 (λ_ _=>rfl)) (Ac (Aa Ap (pv 8) A1 (λ_ _=>rfl)) (Ac (Aa Ap (Aa Ap (pv 3) A1 (λ_ _=>rfl)) (pv 7) (λ_ _=>rfl)) (Ac (Aa Ap (Aa Ap (pv 4) A1 (λ_ _=>rfl)) (pv 7) (λ_ _=>rfl)) Bz CB) CB) CB) CB) CB)) A2)))
  (Ae (Aq (i:=6) GC.nd rfl (.inl rfl) (Aa Ap (pv 8) A1 (λ_ _=>rfl)))))))
  (Ae (AI (pv 5)))))))),?_⟩
 refine Ah λ_ zA=>?_;have dep7:BF f<=7:=GP f B 0 6 hI λb hb=>by have:=(g.all b hb).len;lia
 have dl:(Fo.deedsF f [] 0).length<=1000:=by rw[Fo.deeds_len [] 0 hI];have:=g.len;lia
 obtain⟨x,hx,xk,xpl⟩:=JG hI hb;obtain⟨y,hy,yk,ypl⟩:=JG hI hc;obtain⟨sb,sc,agree,differ,xl,yl⟩:=TC hI g hb hc hx hy hm;have gb:=g.all b (AY hb);have gc:=g.all c (AY hc);have bw:=gb.len;have cw:=gc.len;obtain⟨r0,rs0,ep,dn⟩:=Fo.deeds_down f B 0 [] 0 i x b hI (λ_ _ _=>Bv _) g.ok (λ_ _=>Bv _) hx hb;refine zA ?_;rw[Fh,ML]at ep;refine⟨_,rfl,_,rfl,p,b.k,f,i,x,rfl,hf,dep7,dl,hx,xk,Lx hI nd hb,λr1 pt1 pl1 H1 e1 hr1 hpt1 hpl1=>?_⟩;refine⟨_,rfl,_,rfl,p,c.k,f,j,y,rfl,hf.over e1,dep7,dl,hy,yk,Lx hI nd hc,λr2 pt2 pl2 H2 e2 hr2 hpt2 hpl2=>?_⟩;dsimp only[Ar];refine Ah λ_ zB=>?_;have hr1:=e2 _ _ hr1;have hpt1:=e2 _ _ hpt1;obtain⟨px,hpx,apx⟩:=hpl1.over e2;obtain⟨qx,hqx,aqx⟩:=hpl2;refine zB ?_;rw[xpl]at apx;rw[ypl]at aqx;have pxl:px.length=b.ways.length:=by rw[apx.1,gb.pll]
 have qxl:qx.length=c.ways.length:=by rw[aqx.1,gc.pll]
 have e2:=e1.trans e2;refine⟨Ai rfl,λfo hfo=>?_⟩;have s3:=A9 hfo (.lst []);have hfo3:(upd H2 fo (.lst [])) fo=some (.lst []):=A5;have fo0:=e2.free hfo;generalize upd H2 fo (.lst [])=H3 at s3 hfo3;refine⟨_,rfl,?_⟩;have e3:=e2.trans s3;have hmin:(if((qx.length:Nat):Int)<((px.length:Nat):Int) then((qx.length:Nat):Int) else((px.length:Nat):Int))=((min b.ways.length c.ways.length:Nat):Int):=by split<;>lia
 refine⟨_,rfl,r1,_,0,_,rfl,rfl,A7.of (s3 _ _ hr1),rfl,_,rfl,r2,_,0,_,rfl,rfl,A7.of (s3 _ _ hr2),rfl,_,rfl,r1,_,1,_,rfl,rfl,A7.of (s3 _ _ hr1),rfl,pl1,_,rfl,.inr (A7.of (s3 _ _ hpx)),_,rfl,r2,_,1,_,rfl,rfl,A7.of (s3 _ _ hr2),rfl,pl2,_,rfl,.inr (A7.of (s3 _ _ hqx)),_,_,rfl,?_⟩;rw[hmin];refine⟨pt1,pt2,x.path,y.path,min b.ways.length c.ways.length,s,rfl,s3 _ _ hpt1,s3 _ _ hpt2,by lia,by lia,by lia,by lia,agree,λz=>differ (by lia) (by lia),_,rfl,by lia,by lia,?_⟩;refine Gz (lo:=0) (n:=s) (λe σ' H'=>∃(ite:Addr) (fe:AH) (rs:List Nat) (ys:List V) (o7 o8:Option V),σ'=[some (.ref p),some (.int b.k),some (.int c.k),some (.ref r1),some (.ref r2),some (.ref fo),some (.ref ite),o7,o8]/\(∀a o,a≠fo->H3 a=some o->H' a=some o)/\DA H3 ite fe/\Fo.Down fe rs (b.ways.drop e)/\x.path.drop e=rs.map (λn:Nat=>(n:Int))/\H' fo=some (.lst ys)/\Am (Kk H') ys (DC b c e)) ⟨p,f,r0::rs0,[],_,_,rfl,λ_ _ _ h=>h,hf.over e3,dn,ep,hfo3,.nil⟩ (λe σ' H' he pp=>?_) (fun σ' H' pp=>?_);rotate_left
 .obtain⟨ite,fe,rs,ys,o7,o8,rfl,k,_,_,_,hy',ay⟩:=pp;exact⟨_,rfl,q fo ys _ (λa o ha=>k a o (AF ha fo0) (e3 _ _ ha)) fo0 hy' ay ⟨sb,sc⟩⟩
 refine Ah λ_ zC=>?_;obtain⟨ite,fe,rs,ys,o7,o8,rfl,k,⟨zs,hite,hfe⟩,dne,epe,hy',ay⟩:=pp;refine zC ?_;have ylen:ys.length=e:=by rw[ay.1,IL]
 have tk:TK H3 H':=λa o ha=>k a _ (Ft ha hfo3 (by intro z;cases z)) ha;have hew:e<b.ways.length:=C9 he sb;have hec:e<c.ways.length:=C9 he sc;have dw:b.ways.drop e=b.ways[e]::b.ways.drop (e+1):=Jl hew;have gw:b.ways.getD e (false,"")=b.ways[e]:=by rw[Bk,AA hew];rfl
 rw[dw]at dne;cases rs with
 |nil=>exact dne.elim
 |
  cons r rs=>
  rcases dne with⟨_,_,_,_,z⟩|⟨cc,w,sub,ws',him,z,dsub⟩
  .cases z
  refine Ah λ_ zD=>?_;obtain⟨zw,zd⟩:=List.cons.inj z;obtain⟨t,p',zs',hzt,ht,hp',hsub⟩:=Nr hfe him;have xe:x.path[e]?=some (r:Int):=by
   have:=congrArg (λl:List Int=>l[0]?) epe;simpa using this
  have xd:x.path.drop (e+1)=rs.map (λn:Nat=>(n:Int)):=by
   have:=congrArg List.tail epe;rw[List.tail_drop]at this;exact this
  have z0:(0+(e:Int))=(e:Int):=GM _;have at1:Be (x.path.map V.int) (0+(e:Int))=some (.int (r:Int)):=by rw[z0];exact Bg (by rw[Bf,xe];rfl)
  have at2:Be zs (r:Int)=some (.ref t):=Bg hzt;have pe:px[e]?=some (px[e]'(pxl▸hew)):=AA (pxl▸hew);have qe:qx[e]?=some (qx[e]'(qxl▸hec)):=AA (qxl▸hec);obtain⟨pv,hpv,ta,eta,hta⟩:=apx.get' pe;obtain⟨qv,hqv,tb,etb,htb⟩:=aqx.get' qe;refine zD ?_;have Nf:Be px (0+(e:Int))=some (.ref ta):=by rw[z0];exact(Bg pe).trans (congrArg some eta)
  have at4:Be qx (0+(e:Int))=some (.ref tb):=by rw[z0];exact(Bg qe).trans (congrArg some etb)
  have k1:=tk _ _ (s3 _ _ hr1);have k2:=tk _ _ (s3 _ _ hr2);have kp:=tk _ _ (s3 _ _ hpt1);refine⟨_,rfl,_,rfl,r1,_,0,_,rfl,rfl,A7.of k1,rfl,_,rfl,pt1,_,_,_,rfl,rfl,A7.of kp,at1,ite,_,_,_,rfl,rfl,A7.of (tk _ _ hite),at2,?_⟩;refine⟨_,rfl,.inl ⟨rfl,_,A4.of hy'⟩,_,rfl,r1,_,0,_,rfl,rfl,A7.of k1,rfl,_,rfl,_,_,rfl,rfl,_,rfl,pt1,_,rfl,kp,λsl H4 e4 hsl=>?_⟩;have ht4:=e4 _ _ (tk _ _ ht);refine⟨_,rfl,t,_,1,_,rfl,rfl,A7.of ht4,rfl,_,rfl,t,_,2,_,rfl,rfl,A7.of ht4,rfl,_,rfl,r1,_,1,_,rfl,rfl,A7.of (e4 _ _ k1),rfl,_,rfl,pl1,_,_,_,rfl,rfl,A7.of (e4 _ _ (tk _ _ (s3 _ _ hpx))),Nf,_,rfl,r2,_,1,_,rfl,rfl,A7.of (e4 _ _ k2),rfl,_,rfl,pl2,_,_,_,rfl,rfl,A7.of (e4 _ _ (tk _ _ (s3 _ _ hqx))),at4,Ai rfl,λrr hrr=>?_⟩;have s5:=A9 hrr (.tup [V.ref sl,V.bl cc,V.str w,V.ref ta,V.ref tb]);have hy5:=s5 _ _ (e4 _ _ hy');have nr:rr≠fo:=λz=>by rw[z,e4 _ _ hy']at hrr;cases hrr
  refine⟨fo,_,_,rfl,rfl,hy5,C5 (by lia),?_⟩;have tk5:=((A8.tk e4).trans (A8.tk s5)).trans (TK.upd (o:=.lst (ys++[V.ref rr])) hy5);have htF:=tk5 _ _ (tk _ _ ht);have htaF:=tk5 _ _ (tk _ _ (s3 _ _ (show H2 ta=_ from hta)));have htbF:=tk5 _ _ (tk _ _ (s3 _ _ (show H2 tb=_ from htb)));refine⟨_,rfl,t,_,3,_,rfl,rfl,A7.of htF,rfl,?_⟩;refine⟨p',sub,rs,_,_,_,rfl,λa o ha h=>by rw[Ak ha];exact s5 _ _ (e4 _ _ (k a o ha h)),⟨zs',hp',hsub⟩,by rw[zd];exact dsub,xd,A5,?_⟩;rw[Yn];refine(ay.mono λu v z=>z.tk tk5).snoc ⟨rr,sl,ta,tb,rfl,?_,?_,?_⟩
  .rw[Ak nr,gw,zw];exact A5
  .have:b.pl.getD e (0,0)=pv:=by rw[Bk,hpv];rfl
   rw[this];exact htaF
  .have:c.pl.getD e (0,0)=qv:=by rw[Bk,hqv];rfl
   rw[this];exact htbF
theorem Ws (T:Tx w K mg a):AM P w K mg base AW 12 a.f_w a.d_w ["program","plan","k","l"] VZ:=by
 have G_n :=@QA P w K mg base a T;have G_d :=@Ph P w K mg base a T;refine T.F_w.ok Ig (λvs H Q E h=>?_) (λcdv A outer s H vs Q E hr h=>?_)
 .obtain⟨_,_,_,_,_,_,_,_,rfl,_⟩:=h;rfl
 obtain⟨pr,p,B,i,j,s,b,c,rfl,hP,hb,hc,hm,q⟩:=h;refine⟨_,(Ab (Aq (i:=4) Ig.nd rfl (.inl rfl) (Az G_n (hr.mono (by lia)) (by rfl) T.m_n T.F_n.kp T.b_n .nil As (A0 (pw 1) (A0 (pw 2) (A0 (pw 3) A2)))))
  (Ab (Aq (i:=5) Ig.nd rfl (.inl rfl) (By A2))
  (Ab (Ca PassesOwn.never rfl (Kt (by rfl) T.z_enumerate (A0 (pw 4) A2)) (D9 rfl (B9 (AD (i:=6) Ig.nd rfl (.inl rfl)) (B9 (AD (i:=7) Ig.nd rfl (.inl rfl)) D6)))
  (Ae (Ca PassesOwn.never rfl (KJ (Za (HH (by rfl) T.g_SIDES T.r_SIDES) (Aa Ap (pw 7) A1 (λ_ _=>rfl)) (λ_ _=>rfl))) (AD (i:=8) Ig.nd rfl (.inl rfl))
  (Ae (BG (BP BN Ce Cf C8 (pw 5) (A0 (BS (A0 (pw 6) (A0 (pw 8) A2))) A2)))))))
  (Ab (Bx (AL (aU (Nat.lt_of_succ_lt (Up hr))) (Aa Ap (Az G_d (hr.mono (by lia)) (by rfl) T.m_d T.F_d.kp T.b_d .nil As (A0 (pw 1) (A0 (pw 3) A2))) A1 (λ_ _=>rfl)) (Aa Ap (Az G_d (hr.mono (by lia)) (by rfl) T.m_d T.F_d.kp T.b_d .nil As (A0 (pw 1) (A0 (pw 2) A2))) A1 (λ_ _=>rfl)) (AG _))
  (Ae (BG (BP BN Ce Cf C8 (pw 5) (A0 (BS (A0 (AZ BI (by rfl) T.z_len BK (A0 (pw 4) A2)) (A0 BY A2))) A2))))
  BJ)
  (Ae (AI (pw 5))))))),?_⟩
 refine Ah λ_ zA=>?_;obtain⟨f,hf,hI,g,nd⟩:=id hP;refine zA ?_;have gb:=g.all b (AY hb);have gbl:=gb.len;have pick:∀{z:Str},z∈Hs->∃u:Addr,F9 [((.inr "up":CA),V.ref a.u_SIDES0),(.inr "down",V.ref a.u_SIDES1),(.inr "any",V.ref a.u_SIDES2)] (.inr z)=some (.ref u)/\∀H:Hp,A7 K H u ((FR z).map V.str):=fun{z} h=>by
  have h:z="up"\/z="down"\/z="any":=by
   unfold Hs at h;simp only[Bj,Ez,or_false]at h;exact h
  have a1:¬(("down":Str)="up"):=by decide +kernel
  have a2:¬(("any":Str)="up"):=by decide +kernel
  have a3:¬(("any":Str)="down"):=by decide +kernel
  have a4:¬(("up":Str)="down"):=by decide +kernel
  have b1:¬(("up":Str)="any"):=by decide +kernel
  have b2:¬(("down":Str)="any"):=by decide +kernel
  unfold FR;rcases h with rfl|rfl|rfl
  .refine⟨a.u_SIDES0,by simp[F9,List.find?],?_⟩;rw[Av rfl];exact T.q_SIDES0
  .refine⟨a.u_SIDES1,by simp[F9,List.find?,a4],?_⟩;rw[Aw a1,Av rfl];exact T.q_SIDES1
  .refine⟨a.u_SIDES2,by simp[F9,List.find?,b1,b2],?_⟩;rw[Aw a2,Aw a3];exact T.q_SIDES2
 refine⟨p,B,i,j,s,b,c,rfl,hP,hb,hc,hm,λbo ys H1 e1 bo0 hbo abo hsl=>?_⟩;dsimp only[Ar];refine⟨Ai rfl,λfo hfo=>?_⟩;have yl:ys.length=s:=by rw[abo.1,IL]
 have e2:=A9 hfo (.lst []);have hfo2:(upd H1 fo (.lst [])) fo=some (.lst []):=A5;have hbo2:=e2 _ _ hbo;have fo0:=e1.free hfo;have nbf:bo≠fo:=AF hbo hfo;have abo2:=abo.mono λu v z=>z.tk (A8.tk e2);dsimp only[Ar];generalize upd H1 fo (.lst [])=H2 at e2 hfo2 hbo2 abo2;have e12:=e1.trans e2;refine⟨bo,rfl,⟨_,A4.of hbo2⟩,?_⟩;refine JH (xs:=ys) (λe σ' H'=>∃(zs:List V) (o6 o7 o8:Option V),σ'=[some pr,some (.ref p),some (.int b.k),some (.int c.k),some (.ref bo),some (.ref fo),o6,o7,o8]/\(∀a o,a≠fo->H2 a=some o->H' a=some o)/\H' fo=some (.lst zs)/\Am (Hy H') zs (FD b e)) ⟨[],_,_,_,rfl,λ_ _ _ h=>h,hfo2,.nil⟩ (λe σ' H' _ pp=>by obtain⟨_,_,_,_,_,k,_⟩:=pp;exact A4.of (k _ _ nbf hbo2)) (λe x Tt σ' H' hx pp hT=>?_) (fun σ' H' pp=>?_)
 .obtain⟨zs,o6,o7,o8,rfl,k,hz,az⟩:=pp;refine Ah λ_ zB=>?_;obtain⟨rb,hrb,t,pt,ta,tb,rfl,ht,_,_⟩:=abo2.get' hx;refine zB ?_;have he:e<s:=by have:=(Ax.mp hx).1;lia
  have hew:e<b.ways.length:=by lia
  have gw:b.ways.getD e (false,"")=b.ways[e]:=by rw[Bk,AA hew];rfl
  have rw':rb.way=b.ways[e]:=by
   unfold DC at hrb;rw[Bf,FI he]at hrb;cases hrb;exact gw
  have zl:zs.length<=2*e:=by rw[az.1];exact JR b e
  have sT:=A9 hT (.tup [V.int (e:Int),V.ref t]);have ht3:=sT _ _ (k _ _ (Ft ht hfo2 (by intro z;cases z)) ht);have hz3:=sT _ _ hz;have az3:=az.mono λu v z=>z.tk (A8.tk sT);have k3:∀a o,a≠fo->H2 a=some o->(upd H' Tt (.tup [V.int (e:Int),V.ref t])) a=some o:=λa o ha h=>sT _ _ (k a o ha h);refine⟨Tt,_,rfl,A7.of A5,rfl,rfl,?_⟩;generalize upd H' Tt (.tup [V.int (e:Int),V.ref t])=H3 at ht3 hz3 az3 k3;rw[rw']at ht3;refine Ah λ_ zC=>?_;have wy:=gb.wy b.ways[e] (FH _);obtain⟨u,hu,su⟩:=pick wy;refine zC ?_;have snoc:FD b (e+1)=FD b e++(FR (b.ways[e]).2).map λz=>(e,z):=by
   show FD b e++Gm _ e=_;rw[gw,bY wy]
  generalize (b.ways[e]).2=w' at ht3 hu su snoc;have wl:(FR w').length<=2:=by
   unfold FR
   repeat' split
   all_goals (show _<=2;simp)
  refine⟨t,_,2,_,rfl,rfl,A7.of ht3,rfl,a.u_SIDES,_,.inr w',_,rfl,T.d_SIDES _,rfl,hu,u,rfl,⟨_,su _⟩,?_⟩;refine Oi (xs:=(FR w').map V.str) (λm σ' H'=>∃(zs:List V) (o8:Option V),σ'=[some pr,some (.ref p),some (.int b.k),some (.int c.k),some (.ref bo),some (.ref fo),some (.int (e:Int)),some (.ref t),o8]/\(∀a o,a≠fo->H3 a=some o->H' a=some o)/\H' fo=some (.lst zs)/\Am (Hy H') zs (FD b e++((FR w').take m).map λz=>(e,z))) ⟨zs,_,rfl,λ_ _ _ h=>h,hz3,by rw[MP,Gg,CK];exact az3⟩ (λm σ' H' _ pp=>su _) (λm x σ' H' hx pp=>?_) (fun σ' H' pp=>?_)
  .obtain⟨zs,o8,rfl,k4,hz4,az4⟩:=pp;rw[Bf]at hx;refine Ah λ_ zD=>?_;obtain⟨z,hz',rfl⟩:=Jn.mp hx;refine zD ?_;have zl4:zs.length<=2*e+2:=by
    rw[az4.1,Ao,Af,BE];have:=JR b e;lia
   dsimp only[Ar];refine⟨.inl ⟨rfl,_,A4.of hz4⟩,Ai rfl,λr hr'=>?_⟩;have s5:=A9 hr' (.tup [V.int (e:Int),V.str z]);have nr:r≠fo:=λz=>by rw[z,hz4]at hr';cases hr'
   have hz5:=s5 _ _ hz4;refine⟨fo,_,_,rfl,rfl,hz5,C5 (by lia),?_⟩;have tk5:=(A8.tk s5).trans (TK.upd (o:=.lst (zs++[V.ref r])) hz5);refine⟨_,_,rfl,λa o ha h=>by rw[Ak ha];exact s5 _ _ (k4 a o ha h),A5,?_⟩;rw[Ct hz',BA,←CW];exact(az4.mono λu v w=>w.tk tk5).snoc ⟨r,rfl,by rw[Ak nr];exact A5⟩
  .obtain⟨zs,o8,rfl,k4,hz4,az4⟩:=pp;rw[EY (by rw[Af];exact Al _),←snoc]at az4;exact⟨zs,_,_,_,rfl,λa o ha h=>k4 a o ha (k3 a o ha h),hz4,az4⟩
 refine Ah λ_ zE=>?_;obtain⟨zs,o6,o7,o8,rfl,k,hz,az⟩:=pp;refine zE ?_;rw[yl]at az;refine Ah λ_ zF=>?_;have eH:A8 H H':=λa o ha=>k a o (AF ha fo0) (e12 _ _ ha);have hbo':=k _ _ nbf hbo2;have zl:zs.length<=2*s:=by rw[az.1];exact JR b s
 have dep7:=(Yb hI g).2.2.2;have dl:(Fo.deedsF f [] 0).length<=1000:=by rw[Fo.deeds_len [] 0 hI];have:=g.len;lia
 obtain⟨x,hx,xk,_⟩:=JG hI hb;obtain⟨y,hy,yk,_⟩:=JG hI hc;refine zF ?_;have lex:=Y8 hI hx hy hm;dsimp only;refine Dq (fun σ' H5=>∃zs5:List V,σ'=[some pr,some (.ref p),some (.int b.k),some (.int c.k),some (.ref bo),some (.ref fo),o6,o7,o8]/\A8 H H5/\H5 fo=some (.lst zs5)/\Am (Hy H5) zs5 (EN b i j s)) (fun σ' H5 pp=>?_) (λnx=>?_)
 .obtain⟨zs5,rfl,e5,hz5,az5⟩:=pp;exact q fo zs5 _ e5 fo0 hz5 az5
 refine⟨p,c.k,f,j,y,rfl,hf.over eH,dep7,dl,hy,yk,Lx hI nd hc,λr1 pt1 pl1 H4 e4 hr1 hpt1 _=>⟨r1,_,0,_,rfl,rfl,A7.of hr1,rfl,?_⟩⟩;refine⟨p,b.k,f,i,x,rfl,hf.over (eH.trans e4),dep7,dl,hx,xk,Lx hI nd hb,λr2 pt2 pl2 H5 e5 hr2 hpt2 _=>⟨r2,_,0,_,rfl,rfl,A7.of hr2,rfl,pt1,pt2,_,_,rfl,rfl,A7.of (e5 _ _ hpt1),A7.of hpt2,_,rfl,?_⟩⟩;have e45:=e4.trans e5;have hz5:=e45 _ _ hz;have az5:=az.mono λu v z=>z.tk (A8.tk e45);rw[lex];by_cases c1:j<i
 .refine Bc (v:=true) (BB c1) (BL ?_);refine⟨.inl ⟨rfl,_,A4.of hz5⟩,bo,_,rfl,.inl (A4.of (e45 _ _ hbo')),Ai rfl,λr hr'=>?_⟩;have s6:=A9 hr' (.tup [V.int (ys.length:Int),V.str "text"]);have nr:r≠fo:=λz=>by rw[z,hz5]at hr';cases hr'
  have hz6:=s6 _ _ hz5;refine⟨fo,_,_,rfl,rfl,hz6,C5 (by lia),?_⟩;have tk6:=(A8.tk s6).trans (TK.upd (o:=.lst (zs++[V.ref r])) hz6);refine nx _ _ ⟨_,rfl,λa o ha=>by rw[Ak (AF ha fo0)];exact s6 _ _ (e45 _ _ (eH _ _ ha)),A5,?_⟩;unfold EN;rw[Av c1];refine(az5.mono λu v w=>w.tk tk6).snoc ⟨r,rfl,?_⟩;rw[Ak nr,←yl];exact A5
 .refine Bc (v:=false) (C2 c1) (BW (nx _ _ ⟨zs,rfl,eH.trans e45,hz5,?_⟩));unfold EN;rw[Aw c1,CK];exact az5
theorem Xe (T:Tx w K mg a):AM P w K mg base AW 12 a.f_x a.d_x ["program","plan","k","l","level","side"] (VF a.c_Program a.c_Deed):=by
 have G_n :=@QA P w K mg base a T;refine T.F_x.ok GA (λvs H Q E h=>?_) (λcdv A outer s H vs Q E hr h=>?_)
 .obtain⟨_,_,_,_,_,_,_,_,_,_,_,rfl,_⟩:=h;rfl
 obtain⟨pr,p,B,D,i,j,s,level,side,b,c,rfl,⟨dx,dl,v1,xs,hpr,hdl,hD⟩,hplan,hb,hc,hm,hbD,q⟩:=h;refine⟨_,(Ab (Aq (i:=6) GA.nd rfl (.inl rfl) (Aj BC A1 (AZ BI (by rfl) T.z_len BK (A0 (BD (Aa AE (BD (pv 0) rfl) (pv 2) (λ_ _=>rfl)) rfl) A2))))
  (Ab (Aq (i:=7) GA.nd rfl (.inl rfl) (By A2))
  (Ab (Ca PassesOwn.never rfl (Kt (by rfl) T.z_enumerate (A0 (Az G_n (hr.mono (by lia)) (by rfl) T.m_n T.F_n.kp T.b_n .nil As (A0 (pv 1) (A0 (pv 2) (A0 (pv 3) A2)))) A2)) (D9 rfl (O4 (AD (i:=8) GA.nd rfl (.inl rfl)) (O4 (AD (i:=9) GA.nd rfl (.inl rfl)) D6)))
  (Ab (Aq (i:=10) GA.nd rfl (.inl rfl) (Aj BC A1 (Aa Ap (Aa Ap (pv 9) A1 (λ_ _=>rfl)) A1 (λ_ _=>rfl))))
  (Ab (Aq (i:=11) GA.nd rfl (.inl rfl) (Aj BC (pv 6) (Aa Ap (Aa Ap (pv 9) A1 (λ_ _=>rfl)) A1 (λ_ _=>rfl))))
  (Ab (Aq (i:=12) GA.nd rfl (.inl rfl) (Aj Et (Aa Ap (Aa Ap (pv 9) A1 (λ_ _=>rfl)) A1 (λ_ _=>rfl)) (Aa Ap (Aa Ap (pv 9) A1 (λ_ _=>rfl)) A1 (λ_ _=>rfl))))
  (Ab (Bx ((D4 (AL Eh (pv 8) (pv 4) (AG _)) (DB (Iw (FJ (Aa Ap (pv 9) A1 (λ_ _=>rfl))))))).pt
  (Ab (BG (BP BN Ce Cf C8 (pv 7) (A0 (C0 (Ac (pv 10) (Ac (pv 11) (Ac (pv 12) Bz B5) B5) B5)) A2)))
  (Ae (BG (BP BN Ce Cf C8 (pv 7) (A0 (C0 (Ac (pv 11) (Ac (pv 10) (Ac (Dz DD (pv 12)) Bz JQ) B5) B5)) A2)))))
  BJ)
  (Ab (Bx ((D4 (AL C6 (pv 8) (pv 4) (AG _)) (DB (AL C6 (pv 5) BY (AG _))))).pt
  (Ae (BG (BP BN Ce Cf C8 (pv 7) (A0 (C0 (Ac (pv 11) (Ac (pv 10) (Ac (Aj Et (Dz DD (pv 12)) A1) Bz Ec) B5) B5)) A2))))
  BJ)
  (Ae (Bx ((D4 (AL C6 (pv 8) (pv 4) (AG _)) (DB (AL C6 (pv 5) BY (AG _))))).pt
  (Ae (BG (BP BN Ce Cf C8 (pv 7) (A0 (C0 (Ac (pv 10) (Ac (pv 11) (Ac (Aj Et (pv 12) A1) Bz Ec) B5) B5)) A2))))
  BJ))))))))
  (Ae (AI (pv 7)))))),?_⟩
 refine Ah λ_ zA=>?_;have gb:Li b:=by obtain⟨_,_,_,g,_⟩:=hplan;exact g.all b (AY hb)
 have Dk:D[b.k.toNat]?=some D[b.k.toNat]:=AA hbD;obtain⟨x,hx,d,dxd,nm,ws,_,_,_,_,_,_,rfl,hd,hnm,hn⟩:=hD.get Dk;refine zA ?_;have bk:((b.k.toNat:Nat):Int)=b.k:=MQ gb.k0;have at0:Be xs b.k=some (.ref d):=by rw[←bk];exact Bg hx
 refine⟨_,rfl,pr,_,dx,_,_,rfl,hpr,T.cl_Program,T.n_Program_deeds,rfl,_,rfl,dl,_,_,_,rfl,rfl,A4.of hdl,at0,d,_,dxd,_,_,rfl,hd,T.cl_Deed,T.n_Deed_names,rfl,nm,_,rfl,.inr (A7.of hnm),_,_,rfl,rfl,?_⟩;dsimp only[Ar];have hbeh:1+D.getD b.k.toNat 0=1+(ws.length:Int):=by rw[Bk,Dk,hn];rfl
 rw[hbeh]at q;generalize 1+(ws.length:Int)=beh at q ⊢;refine⟨Ai rfl,λbo hbo=>?_⟩;have e1:=A9 hbo (.lst []);have hbo1:(upd H bo (.lst [])) bo=some (.lst []):=A5;generalize upd H bo (.lst [])=H1 at e1 hbo1;refine⟨_,rfl,_,rfl,_,rfl,p,B,i,j,s,b,c,rfl,hplan.over e1,hb,hc,hm,λr ys H2 e2 hr1 hr2 ay hs=>?_⟩;have s6:s<=6:=by have:=gb.len;lia
 have e12:=e1.trans e2;have hbo2:=e2 _ _ hbo1;have nrb:r≠bo:=λz=>by rw[z,hbo1]at hr1;cases hr1
 have yl:ys.length=s:=by rw[ay.1,IL]
 refine⟨r,rfl,⟨_,A4.of hr2⟩,?_⟩;refine JH (xs:=ys) (λe σ' H'=>∃(zs:List V) (o8 o9 o10 o11 o12:Option V),σ'=[some (.ref pr),some (.ref p),some (.int b.k),some (.int c.k),some (.int (level:Int)),some (.str side),some (.int beh),some (.ref bo),o8,o9,o10,o11,o12]/\(∀a o,a≠bo->H2 a=some o->H' a=some o)/\H' bo=some (.lst zs)/\Bu H' zs (Da beh level side 0 ((DC b c s).take e))) ⟨[],_,_,_,_,_,rfl,λ_ _ _ h=>h,hbo2,.nil⟩ (λe σ' H' _ pp=>by obtain⟨_,_,_,_,_,_,_,k,_⟩:=pp;exact A4.of (k _ _ nrb hr2)) (λe x Tt σ' H' hx pp hT=>?_) (fun σ' H' pp=>?_);rotate_left
 .obtain⟨zs,o8,o9,o10,o11,o12,rfl,k,hz,tz⟩:=pp;rw[EY (by rw[IL];lia)]at tz;exact⟨_,rfl,q bo zs _ (λa o ha=>k a o (AF ha hbo) (e12 _ _ ha)) hz tz⟩
 refine Ah λ_ zB=>?_;obtain⟨zs,o8,o9,o10,o11,o12,rfl,k,hz,tz⟩:=pp;obtain⟨rb,hrb,t,pt,ta,tb,rfl,ht,hta,htb⟩:=ay.get' hx;refine zB ?_;have he:e<s:=by have:=(Ax.mp hx).1;lia
 have sT:=A9 hT (.tup [V.int (e:Int),V.ref t]);have nT:Tt≠bo:=λz=>by rw[z,hz]at hT;cases hT
 have tkk:∀{l:Addr} {xs:List V},H2 l=some (.tup xs)->H' l=some (.tup xs):=fun{l xs} h=>k l _ (Ft h hbo2 (by intro z;cases z)) h;have ht3:=sT _ _ (tkk ht);have hta3:=sT _ _ (tkk hta);have htb3:=sT _ _ (tkk htb);have hz3:=sT _ _ hz;have tz3:=tz.over sT;have k3:∀a o,a≠bo->H2 a=some o->(upd H' Tt (.tup [V.int (e:Int),V.ref t])) a=some o:=λa o ha h=>sT _ _ (k a o ha h);refine⟨Tt,_,rfl,A7.of A5,rfl,_,_,rfl,_,_,rfl,rfl,?_⟩;generalize upd H' Tt (.tup [V.int (e:Int),V.ref t])=H3 at ht3 hta3 htb3 hz3 tz3 k3;have hlen:zs.length<=4*s:=by
  rw[tz.1];have:=PK beh level side ((DC b c s).take e) 0;rw[BE,IL]at this;lia
 refine⟨_,rfl,t,_,3,_,rfl,rfl,A7.of ht3,rfl,ta,_,0,_,rfl,rfl,A7.of hta3,rfl,_,_,rfl,rfl,?_⟩;refine⟨_,rfl,_,rfl,t,_,4,_,rfl,rfl,A7.of ht3,rfl,tb,_,0,_,rfl,rfl,A7.of htb3,rfl,_,_,rfl,rfl,?_⟩;refine⟨_,rfl,t,_,4,_,rfl,rfl,A7.of ht3,rfl,tb,_,1,_,rfl,rfl,A7.of htb3,rfl,_,rfl,t,_,3,_,rfl,rfl,A7.of ht3,rfl,ta,_,1,_,rfl,rfl,A7.of hta3,rfl,_,_,rfl,rfl,?_⟩;dsimp only[Ar];have snoc:Da beh level side 0 ((DC b c s).take (e+1))=Da beh level side 0 ((DC b c s).take e)++Do beh level side e rb:=by
  rw[Ct hrb,KI,Fh,BE,IL,Dv (by lia)]
 unfold Do at snoc;rw[←CW,←CW]at snoc;generalize 1+rb.p.1=uu at snoc ⊢;generalize beh+rb.q.1=ww at snoc ⊢;generalize rb.q.2-rb.p.2=ab at snoc ⊢;generalize Da beh level side 0 ((DC b c s).take e)=L0 at tz3 snoc;refine Dq (fun σ' H4=>∃zs4:List V,σ'=[some (.ref pr),some (.ref p),some (.int b.k),some (.int c.k),some (.int (level:Int)),some (.str side),some (.int beh),some (.ref bo),some (.int (e:Int)),some (.ref t),some (.int uu),some (.int ww),some (.int ab)]/\(∀a o,a≠bo->H3 a=some o->H4 a=some o)/\H4 bo=some (.lst zs4)/\Bu H4 zs4 (L0++if e<level/\rb.way.1=false then[(uu,ww,ab),(ww,uu,-ab)] else[])/\zs4.length<=zs.length+2) (fun σ' H4 pp=>?_) (λnx=>?_);rotate_left
 .refine⟨_,rfl,_,rfl,_,_,rfl,rfl,_,rfl,?_⟩;refine Bq (λcl=>?_) (λcl=>?_)
  .have cl:=dT cl;refine⟨_,rfl,t,_,1,_,rfl,rfl,A7.of ht3,rfl,_,rfl,?_⟩;cases hcut:rb.way.1 with
   |
    true=>
    refine BW (nx _ _ ⟨zs,rfl,λ_ _ _ h=>h,hz3,?_,Fi _ _⟩);rw[Aw (by rw[hcut];simp),CK];exact tz3
   |
    false=>
    refine BL ?_;refine⟨_,rfl,.inl ⟨rfl,_,A4.of hz3⟩,_,rfl,_,rfl,_,rfl,Ai rfl,λr1 hr1=>?_⟩;refine Ah λ_ zC=>?_;obtain⟨g1,g2,g3⟩:=KR (x:=uu) (y:=ww) (z:=ab) hz3 tz3 hr1;refine zC ?_;refine⟨bo,_,_,rfl,rfl,(A9 hr1 _) _ _ hz3,C5 (by lia),?_⟩;generalize upd (upd H3 r1 (.tup [V.int uu,V.int ww,V.int ab])) bo (.lst (zs++[V.ref r1]))=H4 at g1 g2 g3;refine⟨_,rfl,.inl ⟨rfl,_,A4.of g1⟩,_,rfl,_,rfl,_,rfl,_,rfl,Ai rfl,λr2 hr2'=>?_⟩;refine Ah λ_ zD=>?_;obtain⟨f1,f2,f3⟩:=KR (x:=ww) (y:=uu) (z := -ab) g1 g2 hr2';refine zD ?_;refine⟨bo,_,_,rfl,rfl,(A9 hr2' _) _ _ g1,C5 (by rw[Ao,Bi];lia),?_⟩;refine nx _ _ ⟨_,rfl,λa o ha h=>f3 a o ha (g3 a o ha h),f1,?_,by rw[Ao,Ao,Bi,Bi];lia⟩;rw[Av ⟨by lia,hcut⟩];rw[show L0++[(uu,ww,ab),(ww,uu,-ab)]=L0++[(uu,ww,ab)]++[(ww,uu,-ab)] by simp];exact f2
  .have cl:=dF cl;refine nx _ _ ⟨zs,rfl,λ_ _ _ h=>h,hz3,?_,Fi _ _⟩;rw[Aw (λz=>cl (by lia)),CK];exact tz3
 refine Ah λ_ zE=>?_;obtain⟨zs4,rfl,k4,hz4,tz4,zl4⟩:=pp;refine zE ?_;generalize (L0++if e<level/\rb.way.1=false then[(uu,ww,ab),(ww,uu,-ab)] else[])=L1 at tz4 snoc;refine Dq (fun σ' H5=>∃zs5:List V,σ'=[some (.ref pr),some (.ref p),some (.int b.k),some (.int c.k),some (.int (level:Int)),some (.str side),some (.int beh),some (.ref bo),some (.int (e:Int)),some (.ref t),some (.int uu),some (.int ww),some (.int ab)]/\(∀a o,a≠bo->H4 a=some o->H5 a=some o)/\H5 bo=some (.lst zs5)/\Bu H5 zs5 (L1++if e=level/\side="more" then[(ww,uu,-ab-1)] else[])/\zs5.length<=zs4.length+1) (fun σ' H5 pp=>?_) (λnx=>?_);rotate_left
 .refine⟨_,rfl,_,rfl,rfl,_,rfl,?_⟩;by_cases c1:e=level
  .refine Bc (v:=true) (BB (congrArg V.int (QD c1))) (BL ?_);refine⟨_,rfl,rfl,_,rfl,?_⟩;by_cases c2:side="more"
   .refine Bc (v:=true) (BB (congrArg V.str c2)) (BL ?_);refine⟨_,rfl,.inl ⟨rfl,_,A4.of hz4⟩,_,rfl,_,rfl,_,rfl,_,rfl,_,_,rfl,rfl,Ai rfl,λr1 hr1=>?_⟩;refine Ah λ_ zF=>?_;obtain⟨g1,g2,g3⟩:=KR (x:=ww) (y:=uu) (z := -ab-1) hz4 tz4 hr1;refine zF ?_;refine⟨bo,_,_,rfl,rfl,(A9 hr1 _) _ _ hz4,C5 (by lia),?_⟩;refine nx _ _ ⟨_,rfl,g3,g1,?_,by rw[Ao,Bi];lia⟩;rw[Av ⟨c1,c2⟩];exact g2
   .refine Bc (v:=false) (dS c2) (BW (nx _ _ ⟨zs4,rfl,λ_ _ _ h=>h,hz4,?_,Fi _ _⟩));rw[Aw (λz=>c2 z.2),CK];exact tz4
  .refine Bc (v:=false) (C2 λz=>c1 (Nd z)) (BW (nx _ _ ⟨zs4,rfl,λ_ _ _ h=>h,hz4,?_,Fi _ _⟩));rw[Aw (λz=>c1 z.1),CK];exact tz4
 refine Ah λ_ zG=>?_;obtain⟨zs5,rfl,k5,hz5,tz5,zl5⟩:=pp;refine zG ?_;generalize (L1++if e=level/\side="more" then[(ww,uu,-ab-1)] else[])=L2 at tz5 snoc;have k25:∀a o,a≠bo->H2 a=some o->H5 a=some o:=λa o ha h=>k5 a o ha (k4 a o ha (k3 a o ha h));refine⟨_,rfl,_,rfl,rfl,_,rfl,?_⟩;by_cases c1:e=level
 .refine Bc (v:=true) (BB (congrArg V.int (QD c1))) (BL ?_);refine⟨_,rfl,rfl,_,rfl,?_⟩;by_cases c2:side="less"
  .refine Bc (v:=true) (BB (congrArg V.str c2)) (BL ?_);refine⟨_,rfl,.inl ⟨rfl,_,A4.of hz5⟩,_,rfl,_,rfl,_,rfl,_,_,rfl,rfl,Ai rfl,λr1 hr1=>?_⟩;refine Ah λ_ zH=>?_;obtain⟨g1,g2,g3⟩:=KR (x:=uu) (y:=ww) (z:=ab-1) hz5 tz5 hr1;refine zH ?_;refine⟨bo,_,_,rfl,rfl,(A9 hr1 _) _ _ hz5,C5 (by lia),?_⟩;refine⟨_,_,_,_,_,_,rfl,λa o ha h=>g3 a o ha (k25 a o ha h),g1,?_⟩;rw[snoc,Av ⟨c1,c2⟩];exact g2
  .refine Bc (v:=false) (dS c2) (BW ⟨zs5,_,_,_,_,_,rfl,k25,hz5,?_⟩);rw[snoc,Aw (λz=>c2 z.2),CK];exact tz5
 .refine Bc (v:=false) (C2 λz=>c1 (Nd z)) (BW ⟨zs5,_,_,_,_,_,rfl,k25,hz5,?_⟩);rw[snoc,Aw (λz=>c1 z.1),CK];exact tz5
theorem ND (T:Tx w K mg a):AM P w K mg base (IB P w) 110 a.f_h a.d_h ["program","plan"] (Zq a.c_NoPlan a.c_Program a.c_Deed (CQ a)):=by
 have G_u :=@Um P w K mg base a T;have G_H :=@Yg P w K mg base a T;have G_F :=@ZM P w K mg base a T;have G_p :=@X9 P w K mg base a T;have G_w :=@Ws P w K mg base a T;have G_x :=@Xe P w K mg base a T;refine T.F_h.okX Ep (λvs H Q E h=>?_) (λcdv A outer s H vs Q E hr h=>?_)
 .obtain⟨_,_,_,_,_,_,_,_,_,_,rfl,_⟩:=h;rfl
 obtain⟨x,dx,dl,p,sz,xs,Rs,Df,sh,f,rfl,hx,hdl,ax,ok,own,df,n0,hf,hh⟩:=h;refine⟨_,(Ab (Bx (Iw (FJ (Az G_u (hr.mono (by lia)) (by rfl) T.m_u T.F_u.kp T.b_u .nil As (A0 (pw 0) (A0 (pw 1) A2)))))
  (Ae (To rfl Yw (Vn T.xm_NoPlan (by rfl) T.mc_NoPlan)))
  BJ)
  (Ab (Aq (i:=2) Ep.nd rfl (.inl rfl) (By A2))
  (Ab (Ca PassesOwn.leaving rfl (Dp (Az G_H (hr.mono (by lia)) (by rfl) T.m_H T.F_H.kp T.b_H .nil As (A0 (pw 0) A2))) (D9 rfl (B9 (AD (i:=3) Ep.nd rfl (.inl rfl)) (B9 (AD (i:=4) Ep.nd rfl (.inl rfl)) (B9 (AD (i:=5) Ep.nd rfl (.inl rfl)) (B9 (AD (i:=6) Ep.nd rfl (.inl rfl)) (B9 (AD (i:=7) Ep.nd rfl (.inl rfl)) D6))))))
  (Ab (Aq (i:=8) Ep.nd rfl (.inl rfl) (Az G_F (hr.mono (by lia)) (by rfl) T.m_F T.F_F.kp T.b_F .nil As (A0 (pw 0) (A0 (pw 3) (A0 (pw 4) (A0 (pw 5) (A0 (pw 6) (A0 (pw 7) A2))))))))
  (Ab (Aq (i:=9) Ep.nd rfl (.inl rfl) (Az G_p (hr.mono (by lia)) (by rfl) T.m_p T.F_p.kp T.b_p .nil As (A0 (pw 0) (A0 (pw 3) (A0 (pw 5) (A0 (pw 8) A2))))))
  (Ab (Aq (i:=10) Ep.nd rfl (.inl rfl) (Gu C6 (Aa Ap (pw 9) A1 (λ_ _=>rfl)) BY (AG _)))
  (Ae (Ca PassesOwn.leaving rfl (Dp (Az G_w (hr.mono (by lia)) (by rfl) T.m_w T.F_w.kp T.b_w .nil As (A0 (pw 0) (A0 (pw 1) (A0 (pw 3) (A0 (pw 5) A2)))))) (D9 rfl (B9 (AD (i:=11) Ep.nd rfl (.inl rfl)) (B9 (AD (i:=12) Ep.nd rfl (.inl rfl)) D6)))
  (Ab (Bx (Iw (FJ (pw 10)))
  (Ae (Aq (i:=9) Ep.nd rfl (.inl rfl) (Az G_p (hr.mono (by lia)) (by rfl) T.m_p T.F_p.kp T.b_p .nil As (A0 (pw 0) (A0 (pw 3) (A0 (pw 5) (A0 (Aj Ei (pw 8) (Az G_x (hr.mono (by lia)) (by rfl) T.m_x T.F_x.kp T.b_x .nil As (A0 (pw 0) (A0 (pw 1) (A0 (pw 3) (A0 (pw 5) (A0 (pw 11) (A0 (pw 12) A2)))))))) A2)))))))
  BJ)
  (Ab (Bx (AL C6 (Aa Ap (pw 9) A1 (λ_ _=>rfl)) BY (AG _))
  (Ae ZD)
  BJ)
  (Ae (BG (BP BN Ce Cf C8 (pw 2) (A0 (C0 (Ac (pw 3) (Ac (pw 4) (Ac (pw 5) (Ac (pw 6) (Ac (pw 7) (Ac (pw 11) (Ac (pw 12) (Ac (E9 Nw (by rfl) T.z_list Ln (A0 (Aa Ap (pw 9) A1 (λ_ _=>rfl)) A2)) Bz DL) B5) B5) B5) B5) B5) B5) B5)) A2))))))))))))
  (Ae (AI (BS (A0 BY (A0 (pw 2) A2)))))))),?_⟩
 have hW:=Zx hdl ax;have n6:=own.n6;rcases hh with⟨bad,q⟩|⟨hI,q⟩
 .refine⟨x,dx,dl,sz,p,Rs.map R3.dw,f,rfl,hx,hW,own.okW.2.1,λD hD=>(own.okW.1 D hD).ll,hf,bad.dp,bad.fc,bad.dl,bad.pl,λH0 e00=>?_⟩;rw[Oj bad.no];refine⟨_,rfl,BL ?_⟩;exact λe he=>⟨e,_,none,rfl,A5,T.xi_NoPlan.xc,by rw[WU];exact q e _ (e00.trans (A9 he _)) A5⟩
 refine Ah λ_ zA=>?_;obtain⟨fit,fd,ff,fl,fp⟩:=KO own n0 hI;refine zA ?_;refine⟨x,dx,dl,sz,p,Rs.map R3.dw,f,rfl,hx,hW,own.okW.2.1,λD hD=>(own.okW.1 D hD).ll,hf,by lia,by lia,by lia,λe he=>by have:=fp e he;lia,λH0 e00=>?_⟩;rw[S8 fit];refine⟨_,rfl,BW ?_⟩;have okm:∀R∈Rs.map R3.r5,R.Ok:=λR hR=>by
  obtain⟨R0,h0,rfl⟩:=CY.mp hR;exact ok R0 h0
 have hP:∀HX,A8 H HX->Gv a.c_Program a.c_Deed (CQ a) HX (.ref x) (Rs.map R3.r5):=λHX e=>⟨x,dx,dl,_,xs,rfl,e _ _ hx,e _ _ hdl,YF (ax.mono λ_ _ z=>(z.over e).d5)⟩
 have gd:=own.good;have hPl:∀HX,A8 H HX->GQ HX p (B7 Rs sh):=λHX e=>⟨f,hf.over e,hI,gd.1,gd.2⟩
 have hPr:∀HX,A8 H HX->SC a.c_Program a.c_Deed HX x (Rs.map λR=>(R.S.length:Int)):=λHX e=>by
  refine⟨dx,dl,_,xs,e _ _ hx,e _ _ hdl,Am.mapr (f:=λR:R3=>(R.S.length:Int)) (ax.mono λv R z=>?_)⟩;obtain⟨d,dx',nm,lo,hi,pt,xv,ls,hs,rfl,h0,h1,_⟩:=z.over e;exact⟨d,dx',nm,_,_,_,_,_,_,_,rfl,h0,h1,by rw[Af,F6]⟩
 refine⟨Ai rfl,λfo hfo0=>?_⟩;have hfo:H fo=none:=e00.free hfo0;have s1:=e00.trans (A9 hfo0 (.lst []));have hf1:(upd H0 fo (.lst [])) fo=some (.lst []):=A5;dsimp only[Ar];generalize upd H0 fo (.lst [])=H1 at s1 hf1;refine⟨.ref x,Rs.map R3.r5,rfl,hP _ s1,okm,by rw[Af];exact own.n6,λmr ms H2 e2 mr1 hms am=>?_⟩;have nmf:mr≠fo:=λz=>by rw[z,hf1]at mr1;cases mr1
 have e02:=s1.trans e2;have ml:(G7 (Rs.map R3.r5)).length<=4*34596:=by
  have:=NH okm (Pm.mt (C7 (Rs.map R3.r5)));have:=QJ (LV okm (by rw[Af];exact own.n6));unfold G7;lia
 have msl:=am.1;have mm:=λd h=>aH (H:=H) (Rs:=Rs) (Df:=Df) (d:=d) df h;unfold Sm at q;generalize G7 (Rs.map R3.r5)=L at am mm ml msl q;refine⟨mr,rfl,⟨_,A4.of hms⟩,?_⟩;refine FQ (xs:=ms) (λi σ' H'=>∃(zs:List V) (o3 o4 o5 o6 o7 o8 o9 o10 o11 o12:Option V),σ'=[some (.ref x),some (.ref p),some (.ref fo),o3,o4,o5,o6,o7,o8,o9,o10,o11,o12]/\Bt fo H2 H'/\H' fo=some (.lst zs)/\Am (IX (wo H' fo)) zs ((L.take i).flatMap (K2 Rs Df sh))/\zs.length<=7*i) ⟨[],_,_,_,_,_,_,_,_,_,_,rfl,λ_ _ _ h=>h,e2 _ _ hf1,.nil,Al _⟩ (λi σ' H' _ pp=>by obtain⟨_,_,_,_,_,_,_,_,_,_,_,_,b,_⟩:=pp;exact A4.of (b _ _ nmf hms)) (λi y σ' H' hy pp=>?_) (fun σ' H' pp=>?_);rotate_left
 .obtain⟨zs,o3,o4,o5,o6,o7,o8,o9,o10,o11,o12,rfl,b,hz,az,zl⟩:=pp;rw[msl,E1]at az;refine⟨Ai rfl,λv hv=>?_⟩;have sv:=A9 hv (.tup [V.str "good",V.ref fo]);exact q v fo zs _ (λx o hx=>sv _ _ (b _ _ (AF hx hfo) (e02 _ _ hx))) hfo A5 (sv _ _ hz) (az.mono λ_ _ z=>z.over (GS sv))
 refine Ah λ_ zB=>?_;obtain⟨zs,o3,o4,o5,o6,o7,o8,o9,o10,o11,o12,rfl,b,hz,az,zl⟩:=pp;obtain⟨d,hd,t,rfl,ht⟩:=am.get' hy;have li:=(Ax.mp hd).1;obtain⟨R,R',r,r',hR,hr1,hR',hr2,hS,hS',cd,cl,cs⟩:=mm d (AY hd);refine zB ?_;have e0:A8 H H':=λx o hx=>b _ _ (AF hx hfo) (e02 _ _ hx);have tk2:=b.tk (e2 _ _ hf1);have ht':=tk2 _ _ ht;have g:=own.rb R (AY hR);have g':=own.rb R' (AY hR');have kl:=(Ax.mp hR).1;have kl':=(Ax.mp hR').1;refine⟨t,_,rfl,A7.of ht',rfl,rfl,?_⟩;dsimp only[Ar];refine⟨x,dx,dl,sz,xs,Rs,R,R',r,r',d.1.1,d.1.2.1,d.1.2.2.1,d.1.2.2.2,d.2,Df d.1,rfl,e0 _ _ hx,e0 _ _ hdl,ax.mono λ_ _ z=>z.over e0,hR,hR',g,g',ok R (AY hR),ok R' (AY hR'),hr1,hr2,hS.over e0,hS'.over e0,cd,cs,λbo bs H3 e3 bo0 hbo tr=>?_⟩;dsimp only[Ar];have hz3:=e3 _ _ hz;have e03:=e0.trans e3;have nbf:bo≠fo:=λz=>by rw[z,hz]at bo0;cases bo0
 have k1:(Df d.1).s<=R.S.length:=cd.pf.1;have k2:(Df d.1).s<=R'.S.length:=cd.pf.2.1;have bl:=Z9 (R:=R) (R':=R') (D:=Df d.1) (case:=d.2) g.len g'.len cd.m3 (by have:=g.len;lia);refine⟨x,dx,dl,sz,xs,Rs,R,R',d.1.1,d.1.2.2.1,bo,bs,_,rfl,e03 _ _ hx,e03 _ _ hdl,ax.mono λ_ _ z=>z.over e03,hR,hR',g.len,g'.len,hbo,tr,bl,QS g g' cd cs,λv H4 e4 an=>?_⟩;dsimp only[Ar];have an:FK (wo H4 fo) (.ref v) (Gq R R' (Df d.1) d.2):=an fo zs hz3;have e34:=e3.trans e4;have e04:=e03.trans e4;have hz4:=e4 _ _ hz3;refine Ah λ_ zC=>?_;obtain⟨bv,hbv⟩:∃bv,FO (Gq R R' (Df d.1) d.2)=bv:=⟨_,rfl⟩
 have tag:∀{HX:Hp} {w:Addr} {A:An},FK HX (.ref w) A->∃xs',HX w=some (.tup (.str (if FO A=true then"ring" else"pair")::xs')):=fun{HX w A} h=>by
  cases A with
  |inl L=>obtain⟨t,r,ys,e,h1,_⟩:=h;cases e;exact⟨_,h1⟩
  |inr W=>obtain⟨t,x,y,e,h1,_⟩:=h;cases e;exact⟨_,h1⟩
 have wos:∀{HX:Hp} {u:Addr} {o:HO},wo HX fo u=some o->HX u=some o:=fun{HX u o} h=>by
  by_cases c:u=fo
  .rw[c]at h;unfold wo at h;rw[Av rfl]at h;cases h
  .rw[E8 c]at h;exact h
 obtain⟨tl,htl⟩:=tag an;refine zC ?_;refine⟨v,_,0,.str (if FO (Gq R R' (Df d.1) d.2)=true then"ring" else"pair"),rfl,rfl,A7.of (wos htl),Bg (j:=0) rfl,rfl,?_⟩;dsimp only[Ar];have ebv:decide (V.str (if FO (Gq R R' (Df d.1) d.2)=true then"ring" else"pair")=V.str (Str.ofString "ring"))=bv:=by
  rw[hbv];cases bv<;>decide +kernel
 rw[ebv];change Pt _ _ _ _ [some (.ref x),some (.ref p),some (.ref fo),some (.int (d.1.1:Int)),some (.int (d.1.2.1:Int)),some (.int (d.1.2.2.1:Int)),some (.int (d.1.2.2.2:Int)),some (.int (d.2:Int)),some (.ref bo),some (.ref v),some (.bl bv),_,_] _;obtain⟨s,hM⟩:=ba (B:=B7 Rs sh) (i:=d.1.1) (j:=d.1.2.2.1) (by rw[Af,CI,Af];exact kl) (by rw[Af,CI,Af];exact kl');have es:(Df d.1).s=s:=Qe cd.pf (own.many hR hR' hM);subst es;have pe:=Vh (Df:=Df) (sh:=sh) hR hR';have mk1:=m7 hR;have mk2:=m7 hR';refine⟨.ref x,p,B7 Rs sh,d.1.1,d.1.2.2.1,(Df d.1).s,_,_,rfl,hPl _ e04,ER kl,ER kl',hM,λso ss H5 e5 so0 hso as=>?_⟩;have ring:∀qq∈EN (Fo.ownB ("up":Str) (AS (Rs.map R3.dw)) sh d.1.1) d.1.1 d.1.2.2.1 (Df d.1).s,FO (Jw R R' (Df d.1) d.2 qq)=true:=λqq hq=>YS g g' cd cs cl (by rw[mk1];exact k1) hq;have sl7:(EN (Fo.ownB ("up":Str) (AS (Rs.map R3.dw)) sh d.1.1) d.1.1 d.1.2.2.1 (Df d.1).s).length<=7:=by
  unfold EN;rw[Ao];have h1:=JR (Fo.ownB ("up":Str) (AS (Rs.map R3.dw)) sh d.1.1) (Df d.1).s;have h2:(if d.1.2.2.1<d.1.1 then[(((Df d.1).s,("text":Str)):Sd)] else[]).length<=1:=by split<;>simp
  have:=g.len;lia
 generalize EN (Fo.ownB ("up":Str) (AS (Rs.map R3.dw)) sh d.1.1) d.1.1 d.1.2.2.1 (Df d.1).s=SL at as ring sl7 pe;have nsf:so≠fo:=λz=>by rw[z,hz4]at so0;cases so0
 have e05:=e04.trans e5;have e45:=e34.trans e5;have hz5:=e5 _ _ hz4;have an5:=an.over (GS e5);have hbo5:=(e4.trans e5) _ _ hbo;have tr5:=tr.over (e4.trans e5);have ssl:=as.1;refine⟨so,rfl,⟨_,A4.of hso⟩,?_⟩;refine FQ (xs:=ss) (λj σ' HJ=>∃(zj:List V) (vj:Addr) (AJ:An) (o11 o12:Option V),σ'=[some (.ref x),some (.ref p),some (.ref fo),some (.int (d.1.1:Int)),some (.int (d.1.2.1:Int)),some (.int (d.1.2.2.1:Int)),some (.int (d.1.2.2.2:Int)),some (.int (d.2:Int)),some (.ref bo),some (.ref vj),some (.bl bv),o11,o12]/\Bt fo H5 HJ/\HJ fo=some (.lst zj)/\FK (wo HJ fo) (.ref vj) AJ/\(bv=true->AJ=Gq R R' (Df d.1) d.2)/\Am (IX (wo HJ fo)) zj ((L.take i).flatMap (K2 Rs Df sh)++(SL.take j).map λq=>(d,q,J0 R R' (Df d.1) d.2 q))/\zj.length<=7*i+j) ⟨zs,v,_,_,_,rfl,λ_ _ _ h=>h,hz5,an5,λ_=>rfl,by rw[MP,Gg,CK];exact az.mono λ_ _ z=>z.over (GS e45),by lia⟩ (λj σ' HJ _ pp=>by obtain⟨_,_,_,_,_,_,b5,_⟩:=pp;exact A4.of (b5 _ _ nsf hso)) (λj y2 σ' HJ hy2 pp=>?_) (fun σ' HJ pp=>?_);rotate_left
 .obtain⟨zj,vj,AJ,o11,o12,rfl,b5,hzj,anj,_,azj,zjl⟩:=pp;rw[ssl,E1,←pe]at azj;refine⟨zj,_,_,_,_,_,_,_,_,_,_,rfl,(b.trans (Bt.same e45)).trans b5,hzj,?_,by lia⟩;rw[Ct hd,Tb,List.flatMap_singleton];exact azj
 refine Ah λ_ zD=>?_;obtain⟨zj,vj,AJ,o11,o12,rfl,b5,hzj,anj,hAJ,azj,zjl⟩:=pp;obtain⟨qq,hqq,t2,rfl,ht2⟩:=as.get' hy2;refine zD ?_;have hq:=AY hqq;have tk5:=b5.tk hz5;have e0J:A8 H HJ:=λx o hx=>b5 _ _ (AF hx hfo) (e05 _ _ hx);have jl:=(Ax.mp hqq).1;refine⟨t2,_,rfl,A7.of (tk5 _ _ ht2),rfl,rfl,?_⟩;dsimp only[Ar];refine Dq (fun σ' H6=>∃(v6:Addr) (A6:An),σ'=[some (.ref x),some (.ref p),some (.ref fo),some (.int (d.1.1:Int)),some (.int (d.1.2.1:Int)),some (.int (d.1.2.2.1:Int)),some (.int (d.1.2.2.2:Int)),some (.int (d.2:Int)),some (.ref bo),some (.ref v6),some (.bl bv),some (.int (qq.1:Int)),some (.str qq.2)]/\A8 HJ H6/\FK (wo H6 fo) (.ref v6) A6/\FO A6=true/\KS A6=J0 R R' (Df d.1) d.2 qq/\(bv=true->A6=Gq R R' (Df d.1) d.2)) (fun σ' H6 pp=>?_) (λnx=>?_);rotate_left
 .refine⟨_,rfl,?_⟩;cases bv with
  |true=>exact BW (nx _ _ ⟨vj,AJ,rfl,A8.refl _,anj,by rw[hAJ rfl];exact hbv,by rw[hAJ rfl];unfold J0;rw[Av hbv],hAJ⟩)
  |
   false=>
   refine BL ?_;have hboJ:=b5 _ _ nbf hbo5;have dg:(Rs.map λR=>(R.S.length:Int)).getD ((d.1.1:Int)).toNat 0=(R.S.length:Int):=by
    rw[Ff,Bk,Bf,hR];rfl
   refine⟨x,p,B7 Rs sh,Rs.map λR=>(R.S.length:Int),d.1.1,d.1.2.2.1,(Df d.1).s,qq.1,qq.2,_,_,rfl,hPr _ e0J,hPl _ e0J,ER kl,ER kl',hM,?_,λsb sbs H7 e7 hsb tr7=>?_⟩
   .rw[Af];show((d.1.1:Int)).toNat<_;rw[Ff];exact kl
   have tr7:Bu H7 sbs (Da (1+(Rs.map λR=>(R.S.length:Int)).getD ((d.1.1:Int)).toNat 0) qq.1 qq.2 0 (DC (Fo.ownB ("up":Str) (AS (Rs.map R3.dw)) sh d.1.1) (Fo.ownB ("up":Str) (AS (Rs.map R3.dw)) sh d.1.2.2.1) (Df d.1).s)):=tr7;rw[dg,U4 (by rw[mk1];exact k1) (by rw[mk2];exact k2)]at tr7;have tr8:Bu H7 (bs++sbs) (HL R R' (Df d.1) d.2 qq):=(tr5.tk (tk5.trans (A8.tk e7))).app tr7;have l8:=TF (q:=qq) g g' cd cs;have l8':=tr8.1;refine⟨bo,sb,bs,sbs,rfl,rfl,e7 _ _ hboJ,hsb,Bp (by rw[Ao]at l8';lia),λcb hcb=>?_⟩;have s8:=A9 hcb (.lst (bs++sbs));have e78:=e7.trans s8;have e08:=e0J.trans e78;refine⟨x,dx,dl,sz,xs,Rs,R,R',d.1.1,d.1.2.2.1,cb,bs++sbs,HL R R' (Df d.1) d.2 qq,rfl,e08 _ _ hx,e08 _ _ hdl,ax.mono λ_ _ z=>z.over e08,hR,hR',g.len,g'.len,A5,tr8.over s8,l8,Qn g g' cd cs,λv9 H9 e9 an9=>?_⟩;have an9:FK (wo H9 fo) (.ref v9) (Jw R R' (Df d.1) d.2 qq):=an9 fo zj (e78 _ _ hzj);exact nx _ _ ⟨v9,_,rfl,e78.trans e9,an9,ring qq hq,by unfold J0;rw[Aw (by rw[hbv];decide)],λz=>nomatch z⟩
 refine Ah λ_ zE=>?_;obtain⟨v6,A6,rfl,e6,an6,ir6,il6,hA6⟩:=pp;refine zE ?_;have hA:=Ue ir6;rw[il6]at hA;have an6':=an6;rw[hA]at an6';refine Ah λ_ zF=>?_;obtain⟨t6,r6,ys6,et6,ht6,hr6,tr6⟩:=an6';refine zF ?_;cases et6;refine⟨v6,_,0,.str "ring",rfl,rfl,A7.of (wos ht6),rfl,rfl,_,rfl,Bc (v:=false) (by decide +kernel) (BW ?_)⟩;have hz6:=e6 _ _ hzj;refine⟨.inl ⟨rfl,_,A4.of hz6⟩,v6,_,1,.ref r6,rfl,rfl,A7.of (wos ht6),rfl,r6,ys6,rfl,.inl (A4.of (wos hr6)),λl9 hl9=>⟨Ai rfl,λt9 ht9=>?_⟩⟩;have s9:=A9 hl9 (.lst ys6);have s10:=A9 ht9 (.tup [V.int (d.1.1:Int),V.int (d.1.2.1:Int),V.int (d.1.2.2.1:Int),V.int (d.1.2.2.2:Int),V.int (d.2:Int),V.int (qq.1:Int),V.str qq.2,V.ref l9]);have hzA:=(s9.trans s10) _ _ hz6;have n9:l9≠fo:=λz=>by rw[z,hz6]at hl9;cases hl9
 have nt9:t9≠fo:=λz=>by rw[z,s9 _ _ hz6]at ht9;cases ht9
 refine⟨fo,_,_,rfl,rfl,hzA,C5 (by lia),?_⟩;refine⟨zj++[.ref t9],v6,A6,_,_,rfl,(b5.trans (Bt.same (e6.trans (s9.trans s10)))).trans Bt.put,A5,?_,hA6,?_,by rw[Ao,Bi];lia⟩
 .rw[NP];exact an6.over (GS (s9.trans s10))
 .rw[NP,Ct hqq,BA,←CW];refine(azj.mono λ_ _ z=>z.over (GS (e6.trans (s9.trans s10)))).snoc ⟨t9,l9,ys6,rfl,?_,?_,tr6.over (GS (s9.trans s10))⟩
  .rw[E8 nt9];exact A5
  .rw[E8 n9];exact s10 _ _ A5
theorem Uv (T:Tx w K mg a):AM P w K mg base AW 1 a.f_g a.d_g ["_law_script","_law_k"] (Xm K):=by
 refine T.F_g.ok aQ (λvs H Q E h=>?_) (λcdv A outer s H vs Q E hr h=>?_)
 .obtain⟨_,_,_,rfl,_⟩:=h;rfl
 obtain⟨p,ns,k,rfl,hS,h0,q⟩:=h;refine⟨_,(Ab (Bx (AL (B3 Eh) (pw 1) (AZ BI (by rfl) T.z_len BK (A0 (pw 0) A2)) (AG _))
  (Ae (AI (Aa AE (pw 0) (pw 1) (λ_ _=>rfl))))
  BJ)
  (Ae (AI A1))),?_⟩
 have hl:(ns.map V.int).length=ns.length:=Af _;refine⟨p,_,rfl,.inl hS,_,rfl,?_⟩;refine Bq (λc=>?_) (λc=>?_)
 .have c':=dT c;rw[hl]at c';exact⟨p,_,_,_,rfl,rfl,hS,Ny h0 c',q⟩
 .have c':=dF c;rw[hl]at c';rw[U6 c']at q;exact q
theorem Q8 (T:Tx w K mg a):AM P w K mg base AW 1 a.f_f a.d_f ["_law_cell","_law_k"] Yy:=by
 refine T.F_f.ok RD (λvs H Q E h=>?_) (λcdv A outer s H vs Q E hr h=>?_)
 .obtain⟨_,_,rfl,_⟩:=h;rfl
 obtain⟨c,k,rfl,q⟩:=h;refine⟨_,(Ab (Aq (i:=2) RD.nd rfl (.inl rfl) (Aj (oJ Co) (Aj (B3 BC) (Aj (B3 BC) (Aj (oJ II) (Aj (oJ Co) (pw 0) A1) (Aj (B3 BC) A1 (Aj (oJ II) A1 (pw 1)))) (Aj (oJ II) A1 (pw 1))) A1) A1))
  (Ae (AI (Aj (oJ Co) (Aj (oJ II) (pw 2) (pw 2)) A1)))),?_⟩
 have p64:(2:Int) ^ 64=18446744073709551616:=by decide
 have a0:=EW c (show(2147483647:Int)≠0 by decide);have a1:=Fg c (show(0:Int)<2147483647 by decide);refine⟨(by show(0:Int)<2147483647;decide),.inl ⟨by decide,by decide⟩,.inl ⟨by lia,by lia⟩,.inl ⟨by decide,by decide⟩,(by show(0:Int)<2147483629;decide),?_⟩;have b0:=EW (c%2147483647*(48271+2*k)+7919*k+1) (show(2147483629:Int)≠0 by decide);have b1:=Fg (c%2147483647*(48271+2*k)+7919*k+1) (show(0:Int)<2147483629 by decide);exact⟨.inl ⟨by lia,by lia⟩,(by show(0:Int)<2147483587;decide),q _ (EW _ (by decide))⟩
theorem TN (T:Tx w K mg a):AM P w K mg base AW 1 a.f_j a.d_j ["_law_names","_law_q","_law_far"] XY:=by
 refine T.F_j.ok QV (λvs H Q E h=>?_) (λcdv A outer s H vs Q E hr h=>?_)
 .obtain⟨_,_,_,_,rfl,_⟩:=h;rfl
 obtain⟨nt,zs,qq,far,rfl,hn,z3,q⟩:=h;refine⟨_,(Ab (Aq (i:=3) QV.nd rfl (.inl rfl) (Aa Ap (C0 (Ac A1 (Ac A1 (Ac (Dz DD A1) (Ac A1 (Ac A1 (Ac A1 (Ac (Dz DD A1) Bz JQ) Br) Br) Br) JQ) Br) Br)) (Aj (oJ Co) (Aj (oJ Ed) (pw 1) A1) A1) (λ_ _=>rfl)))
  (Ab (Bx ((D4 (AL (B3 Es) (AZ BI (by rfl) T.z_len BK (A0 (pw 0) A2)) A1 (AG _)) (DB (AL (B3 Es) (Aj (oJ Co) (pw 1) A1) A1 (AG _))))).pt
  (Ae (AI (BS (A0 (Aa Ap (pw 0) (Aj (oJ Co) (Aj (oJ Co) (pw 1) A1) (AZ BI (by rfl) T.z_len BK (A0 (pw 0) A2))) (λ_ _=>rfl)) (A0 (pw 3) A2)))))
  BJ)
  (Ae (AI (BS (A0 BY (A0 (Aj (B3 BC) (pw 3) (pw 2)) A2))))))),?_⟩
 refine Ah λ_ zA=>?_;obtain⟨n,hn0,en⟩:=NR (L:=[0,1,-1,0,2,0,-2]) (i:=qq/4%7) 7 rfl (EW _ (by decide)) (Fg _ (by decide));refine zA ?_;refine⟨_,rfl,_,rfl,Ai rfl,λt0 ht0=>⟨⟨by decide,by decide⟩,(by show(0:Int)<7;decide),t0,_,_,_,rfl,rfl,A7.of A5,en,?_⟩⟩;have s0:=A9 ht0 (.tup [V.int 0,V.int 1,V.int (-1),V.int 0,V.int 2,V.int 0,V.int (-2)]);dsimp only[Ar];generalize upd H t0 (.tup [V.int 0,V.int 1,V.int (-1),V.int 0,V.int 2,V.int 0,V.int (-2)])=H0 at s0;have hn1:=s0 _ _ hn;refine Dq (fun σ' H'=>H'=H0/\σ'=[some (.ref nt),some (.int qq),some (.int far),some (.int n)]) (fun σ' H' pp=>?_) (λnx=>?_)
 .obtain⟨rfl,rfl⟩:=pp;exact⟨Ai rfl,λt ht=>q t _ _ _ (s0.trans (A9 ht _)) A5 (.inl rfl)⟩
 refine⟨nt,_,rfl,.inr (A7.of hn1),_,rfl,?_⟩;refine Bq (λy=>?_) (λ_=>nx _ _ ⟨rfl,rfl⟩);have y:(0:Int)<(((zs.map V.str).length:Nat):Int):=dT y;rw[Af]at y;refine⟨(by show(0:Int)<4;decide),_,rfl,?_⟩;refine Bq (λ_=>?_) (λ_=>nx _ _ ⟨rfl,rfl⟩);have i0:=EW (qq%4) (show((zs.length:Nat):Int)≠0 by lia);have i1:=Fg (qq%4) y;obtain⟨j,hj⟩:∃j:Nat,qq%4%((zs.length:Nat):Int)=(j:Int):=⟨(qq%4%((zs.length:Nat):Int)).toNat,by lia⟩
 have jl:j<zs.length:=by lia
 refine⟨(by show(0:Int)<4;decide),nt,_,rfl,.inr (A7.of hn1),(by show(0:Int)<(((zs.map V.str).length:Nat):Int);rw[Af];exact y),nt,_,_,.str zs[j],rfl,rfl,A7.of hn1,?_,Ai rfl,λt ht=>q t _ _ _ (s0.trans (A9 ht _)) A5 (.inr (FH jl))⟩;show Be (zs.map V.str) (qq%4%(((zs.map V.str).length:Nat):Int))=_;rw[Af,hj];exact Bg (by rw[Bf,AA jl];rfl)
theorem bq (T:Tx w K mg a):AM P w K mg base AW 2 a.f_q a.d_q ["_law_names","_law_q","_law_far"] V7:=by
 have G_j :=@TN P w K mg base a T;refine T.F_q.ok Ry (λvs H Q E h=>?_) (λcdv A outer s H vs Q E hr h=>?_)
 .obtain⟨_,_,_,_,rfl,_⟩:=h;rfl
 obtain⟨nt,zs,qq,far,rfl,hn,z3,q⟩:=h;refine⟨_,(Ab (Aq (i:=3) Ry.nd rfl (.inl rfl) (C0 (Ac (Az G_j (hr.mono (by lia)) (by rfl) T.m_j T.F_j.kp T.b_j .nil As (A0 (pw 0) (A0 (Aj (oJ Ed) (pw 1) A1) (A0 (pw 2) A2)))) (Ac (Az G_j (hr.mono (by lia)) (by rfl) T.m_j T.F_j.kp T.b_j .nil As (A0 (pw 0) (A0 (Aj (oJ Ed) (pw 1) A1) (A0 (pw 2) A2)))) (Ac (Az G_j (hr.mono (by lia)) (by rfl) T.m_j T.F_j.kp T.b_j .nil As (A0 (pw 0) (A0 (Aj (oJ Ed) (pw 1) A1) (A0 (pw 2) A2)))) Bz DL) DL) DL)))
  (Ab (Bx (AL (B3 Eh) (Aj (oJ Co) (pw 1) A1) A1 (AG _))
  (Ae (AI (BS (A0 BY (A0 (E4 K4 (pw 3) EU (DH A1)) A2)))))
  BJ)
  (Ae (AI (BS (A0 (Aa Qo BY (Aj (B3 Et) (Aj (oJ Co) (pw 1) A1) A1) (λ_ _=>rfl)) (A0 (E4 K4 (pw 3) EU (DH (Aj (B3 Et) (Aj (oJ Co) (pw 1) A1) A1))) A2))))))),?_⟩
 refine⟨⟨by decide,by decide⟩,nt,zs,_,far,rfl,hn,z3,λt1 y1 n1 H1 e1 h1 k1=>?_⟩;refine⟨⟨by decide,by decide⟩,nt,zs,_,far,rfl,e1 _ _ hn,z3,λt2 y2 n2 H2 e2 h2 k2=>?_⟩;refine⟨⟨by decide,by decide⟩,nt,zs,_,far,rfl,(e1.trans e2) _ _ hn,z3,λt3 y3 n3 H3 e3 h3 k3=>?_⟩;refine⟨Ai rfl,λsp hsp=>?_⟩;have s4:=A9 hsp (.tup [.ref t1,.ref t2,.ref t3]);dsimp only[Ar];have p1:=(e2.trans (e3.trans s4)) _ _ h1;have p2:=(e3.trans s4) _ _ h2;have p3:=s4 _ _ h3;have hs4:(upd H3 sp (.tup [.ref t1,.ref t2,.ref t3])) sp=some (.tup [.ref t1,.ref t2,.ref t3]):=A5;have e4:=e1.trans (e2.trans (e3.trans s4));generalize upd H3 sp (.tup [.ref t1,.ref t2,.ref t3])=H4 at s4 p1 p2 p3 hs4 e4;have i0:=EW qq (show(5:Int)≠0 by decide);have i1:=Fg qq (show(0:Int)<5 by decide);have pz:∀(k:Nat) {H5:Hp},A8 H4 H5->Rw (Z7 zs) H5 ([V.ref t1,V.ref t2,V.ref t3].take k):=λk {H5} e v hv=>by
  have hv:=OP hv;simp only[Bj,Ez,or_false]at hv;rcases hv with rfl|rfl|rfl
  .exact⟨t1,y1,n1,rfl,e _ _ p1,k1⟩
  .exact⟨t2,y2,n2,rfl,e _ _ p2,k2⟩
  .exact⟨t3,y3,n3,rfl,e _ _ p3,k3⟩
 refine⟨(by show(0:Int)<5;decide),_,rfl,?_⟩;refine Bq (λy=>?_) (λy=>?_)
 .refine⟨_,rfl,sp,_,rfl,hs4,λp5 H5 e5 hp5=>⟨Ai rfl,λt6 ht6=>?_⟩⟩;have s6:=A9 ht6 (.tup [.str "a",.ref p5]);exact q t6 p5 "a" _ (e4.trans (e5.trans s6)) A5 ⟨1,.inl ⟨rfl,rfl⟩,_,s6 _ _ hp5,rfl,by decide,pz 1 (e5.trans s6)⟩
 have y:¬qq%5<3:=dF y;have h34:qq%5=3\/qq%5=4:=by lia
 refine⟨(by show(0:Int)<5;decide),?_⟩;have ab:∀(k:Nat),0<=qq%5-1->(qq%5-1).toNat=k->BU [V.ref t1,V.ref t2,V.ref t3] none (some (qq%5-1))=[V.ref t1,V.ref t2,V.ref t3].take k:=λk h0 hk=>by
  have:=P9 [V.ref t1,V.ref t2,V.ref t3] h0;rw[hk]at this;exact this
 rcases h34 with h|h
 .refine⟨_,qq%5-3,98,rfl,rfl,Bp (by decide +kernel),by rw[h];decide +kernel,(by show(0:Int)<5;decide),_,rfl,sp,_,rfl,hs4,λp5 H5 e5 hp5=>⟨Ai rfl,λt6 ht6=>?_⟩⟩;have hp5:H5 p5=some (.tup (BU [V.ref t1,V.ref t2,V.ref t3] none (some (qq%5-1)))):=hp5;rw[ab 2 (by lia) (by lia)]at hp5;have s6:=A9 ht6 (.tup [.str "b",.ref p5]);exact q t6 p5 "b" _ (e4.trans (e5.trans s6)) A5 ⟨2,.inr (.inl ⟨rfl,rfl⟩),_,s6 _ _ hp5,rfl,by decide,pz 2 (e5.trans s6)⟩
 .refine⟨_,qq%5-3,99,rfl,rfl,Bp (by decide +kernel),by rw[h];decide +kernel,(by show(0:Int)<5;decide),_,rfl,sp,_,rfl,hs4,λp5 H5 e5 hp5=>⟨Ai rfl,λt6 ht6=>?_⟩⟩;have hp5:H5 p5=some (.tup (BU [V.ref t1,V.ref t2,V.ref t3] none (some (qq%5-1)))):=hp5;rw[ab 3 (by lia) (by lia)]at hp5;have s6:=A9 ht6 (.tup [.str "c",.ref p5]);exact q t6 p5 "c" _ (e4.trans (e5.trans s6)) A5 ⟨3,.inr (.inr ⟨rfl,rfl⟩),_,s6 _ _ hp5,rfl,by decide,pz 3 (e5.trans s6)⟩
theorem W5 (T:Tx w K mg a):AM P w K mg base AW 1 a.f_I a.d_I ["_law_names","_law_q","_law_far","_law_turn","_law_last"] bt:=by
 refine T.F_I.ok Gr (λvs H Q E h=>?_) (λcdv A outer s H vs Q E hr h=>?_)
 .obtain⟨_,_,_,_,_,_,rfl,_⟩:=h;rfl
 obtain⟨nl,zs,qq,far,tn,la,rfl,hn,z3,hla,q⟩:=h;refine⟨_,(Ab (Bx ((D4 (AL Wl (pv 4) FN (AG _)) (D4 (AL C6 (Aj Co (Aj Ed (pv 1) A1) A1) A1 (AG _)) (DB (AL Xo (Aa Ap (pv 4) A1 (λ_ _=>rfl)) (pv 0) (by with_unfolding_all rfl)))))).pt
  (Ae (Bx ((D4 (AL OC (Aa Ap (Aa Ap (pv 4) A1 (λ_ _=>rfl)) A1 (λ_ _=>rfl)) (Aj Ei (pv 0) (By (A0 BY A2))) (by with_unfolding_all rfl)) (DB (AL OC (Aa Ap (Aa Ap (pv 4) A1 (λ_ _=>rfl)) A1 (λ_ _=>rfl)) (Aj Ei (pv 0) (By (A0 BY A2))) (by with_unfolding_all rfl))))).pt
  (Ae (AI (pv 4)))
  BJ))
  BJ)
  (Ab (Aq (i:=5) Gr.nd rfl (.inl rfl) (Aa Qo BY (Aj II (Aj Co (Aj Ed (pv 1) A1) A1) (Aj Co (Aj Ed (pv 1) A1) A1)) (λ_ _=>rfl)))
  (Ab (Aq (i:=6) Gr.nd rfl (.inl rfl) (Aj au (pv 5) (Aj BC (Aj Co (Aj BC (AZ BI (by rfl) T.z_len BK (A0 (pv 0) A2)) (pv 3)) A1) A1)))
  (Ab (K1 PassesOwn.never (AL OC (pv 6) (pv 0) (by with_unfolding_all rfl))
  (Ae (Aq (i:=6) Gr.nd rfl (.inl rfl) (Aj TX (pv 6) BY))))
  (Ab (Aq (i:=7) Gr.nd rfl (.inl rfl) (BS (A0 BY (A0 (Aj BC (pv 2) (Aj Co (pv 1) A1)) A2))))
  (Ab (Aq (i:=8) Gr.nd rfl (.inl rfl) (BS (A0 BY (A0 (Aj BC (pv 2) (Aj Co (Aj Ed (pv 1) A1) A1)) A2))))
  (Ab (Bx ((D4 (AL Es (AZ BI (by rfl) T.z_len BK (A0 (pv 0) A2)) A1 (AG _)) (DB (AL C6 (Aj Co (Aj Ed (pv 1) A1) A1) A1 (AG _))))).pt
  (Ae (Aq (i:=7) Gr.nd rfl (.inl rfl) (BS (A0 (Aa AE (pv 0) (Dz DD A1) (λ_ _=>rfl)) (A0 (Aj Et (Aj Co (Aj Ed (pv 1) A1) A1) A1) A2)))))
  BJ)
  (Ab (Bx ((D4 (AL Es (AZ BI (by rfl) T.z_len BK (A0 (pv 0) A2)) A1 (AG _)) (DB (AL C6 (Aj Co (Aj Ed (pv 1) A1) A1) A1 (AG _))))).pt
  (Ae (Aq (i:=8) Gr.nd rfl (.inl rfl) (BS (A0 (Aa AE (pv 0) (Dz DD A1) (λ_ _=>rfl)) (A0 (Aj Co (Aj Ed (pv 1) A1) A1) A2)))))
  BJ)
  (Ae (AI (C0 (Ac (pv 6) (Ac (pv 7) (Ac (pv 8) Bz B5) B5) B5)))))))))))),?_⟩
 have fl:=RV zs;have el:("":Str).length<=10:=by decide +kernel
 have x1:("x":Str).length=1:=by decide +kernel
 refine Dq (fun σ' H'=>A8 H H'/\σ'=[some (.ref nl),some (.int qq),some (.int far),some (.int tn),some la,none,none,none,none]) (fun σ' H1 pp=>?_) (λnx=>?_);rotate_left
 .refine⟨_,rfl,rfl,_,rfl,?_⟩;rcases hla with rfl|⟨l,⟨p,p1,p2,rfl,hp,hp1,hp2⟩,ln0⟩
  .exact Bq (λy=>absurd y (by decide)) (λ_=>nx _ _ ⟨A8.refl _,rfl⟩)
  refine Bq (λ_=>?_) (λ_=>nx _ _ ⟨A8.refl _,rfl⟩);refine⟨_,rfl,_,_,rfl,rfl,⟨by decide,by decide⟩,_,_,rfl,rfl,(by show(0:Int)<3;decide),rfl,_,rfl,?_⟩;refine Bq (λ_=>?_) (λ_=>nx _ _ ⟨A8.refl _,rfl⟩);refine⟨_,rfl,p,_,0,_,rfl,rfl,A7.of hp,rfl,_,rfl,nl,_,rfl,.inl (A4.of hn),rfl,fl,_,rfl,?_⟩;refine Bq (λy=>?_) (λ_=>nx _ _ ⟨A8.refl _,rfl⟩);have nin:l.nm∉zs:=by
   have y:(!Hd (V.str l.nm) (zs.map V.str))=true:=y;rw[Y1]at y;simpa using y
  have fl2:((zs++[("":Str)]).map V.str).all E5=true:=RV _;have eq2:zs.map V.str++[V.str ""]=(zs++[("":Str)]).map V.str:=by rw[BA];rfl
  refine⟨_,rfl,p,_,1,_,rfl,rfl,A7.of hp,rfl,p1,_,0,_,rfl,rfl,A7.of hp1,rfl,_,rfl,Ai rfl,λa1 h1=>?_⟩;have s1:=A9 h1 (.lst [V.str ""]);refine⟨nl,a1,_,_,rfl,rfl,s1 _ _ hn,A5,Bp (by rw[Af,Bi];lia),λa2 h2=>?_⟩;rw[eq2];have s2:=A9 h2 (.lst ((zs++[("":Str)]).map V.str));refine⟨a2,_,rfl,.inl (A4.of A5),rfl,fl2,_,rfl,?_⟩;have e2:=s1.trans s2;generalize upd (upd H a1 (.lst [V.str ""])) a2 (.lst ((zs++[("":Str)]).map V.str))=H2 at s2 e2;refine Bq (λy1=>?_) (λ_=>nx _ _ ⟨e2,rfl⟩);have i1:l.lz∈zs++[("":Str)]:=(Mt _ _).mp y1;refine⟨_,rfl,p,_,2,_,rfl,rfl,A7.of (e2 _ _ hp),rfl,p2,_,0,_,rfl,rfl,A7.of (e2 _ _ hp2),rfl,_,rfl,Ai rfl,λa3 h3=>?_⟩;have s3:=A9 h3 (.lst [V.str ""]);refine⟨nl,a3,_,_,rfl,rfl,s3 _ _ (e2 _ _ hn),A5,Bp (by rw[Af,Bi];lia),λa4 h4=>?_⟩;rw[eq2];have s4:=A9 h4 (.lst ((zs++[("":Str)]).map V.str));refine⟨a4,_,rfl,.inl (A4.of A5),rfl,fl2,_,rfl,?_⟩;have e4:=e2.trans (s3.trans s4);refine Bq (λy2=>?_) (λ_=>nx _ _ ⟨e4,rfl⟩);have i2:l.hz∈zs++[("":Str)]:=(Mt _ _).mp y2;have toZ:∀{z:Str},z∈zs++[("":Str)]->Z7 zs z:=fun{z} h=>by
   rcases Cw.mp h with h|h
   .exact .inr h
   .exact .inl (Cy.mp h)
  exact⟨_,rfl,q _ _ l e4 ⟨p,p1,p2,rfl,e4 _ _ hp,e4 _ _ hp1,e4 _ _ hp2⟩ ⟨ln0,nin,toZ i1,toZ i2⟩⟩
 obtain⟨e1,rfl⟩:=pp;clear hla;have hn1:=e1 _ _ hn;have j0:=EW (qq/648) (show(26:Int)≠0 by decide);have j1:=Fg (qq/648) (show(0:Int)<26 by decide);have k0:=EW (qq/17) (show(2:Int)≠0 by decide);have k1:=Fg (qq/17) (show(0:Int)<2 by decide);have ix:(qq/648%26*(qq/17%2))%26=qq/648%26*(qq/17%2):=by
  have:qq/17%2=0\/qq/17%2=1:=by lia
  rcases this with h|h<;>rw[h]
  .rw[Int.mul_zero];rfl
  .rw[Int.mul_one];lia
 have at5:Be (Fq Kg) (qq/648%26*(qq/17%2))=some (NF (qq/648%26*(qq/17%2))):=by
  have:=Zb (qq/648%26*(qq/17%2))
  rwa [ix]at this
 refine⟨_,rfl,_,_,rfl,rfl,⟨by decide,by decide⟩,_,_,rfl,rfl,(by show(0:Int)<26;decide),_,rfl,_,_,rfl,rfl,⟨by decide,by decide⟩,_,_,rfl,rfl,(by show(0:Int)<2;decide),_,_,rfl,rfl,.inl ⟨by lia,by lia⟩,Kg,_,_,rfl,rfl,Vd,at5,?_⟩;dsimp only[Ar];generalize NF (qq/648%26*(qq/17%2))=lc;have m0:=EW (((zs.length:Nat):Int)+tn) (show(3:Int)≠0 by decide);have m1:=Fg (((zs.length:Nat):Int)+tn) (show(0:Int)<3 by decide);refine⟨_,rfl,_,rfl,nl,_,rfl,.inl (A4.of hn1),_,rfl,_,_,rfl,rfl,_,_,rfl,rfl,(by show(0:Int)<3;decide),_,_,rfl,rfl,_,_,rfl,rfl,?_,?_,?_,?_⟩
 .rw[Af];lia
 .rw[Af];lia
 .rw[bK];decide
 rw[Af];dsimp only[Ar];have z0l:(Txt.mul (⟨#[lc]⟩:Str) ((((zs.length:Nat):Int)+tn)%3+1)).length<=3/\1<=(Txt.mul (⟨#[lc]⟩:Str) ((((zs.length:Nat):Int)+tn)%3+1)).length:=by rw[UD];lia
 generalize Txt.mul (⟨#[lc]⟩:Str) ((((zs.length:Nat):Int)+tn)%3+1)=z0 at z0l;refine Dq (fun σ' H'=>A8 H H'/\∃nm:Str,σ'=[some (.ref nl),some (.int qq),some (.int far),some (.int tn),some la,some (.str ⟨#[lc]⟩),some (.str nm),none,none]/\nm≠""/\nm∉zs) (fun σ' H2 pp=>?_) (λnx=>?_);rotate_left
 .refine K7 zs.length (λi σ' H'=>A8 H H'/\σ'=[some (.ref nl),some (.int qq),some (.int far),some (.int tn),some la,some (.str ⟨#[lc]⟩),some (.str (Fs z0 i)),none,none]/\∀j<i,Fs z0 j∈zs) ⟨e1,rfl,λj hj=>absurd hj (OR _)⟩ (λi σ' H' hi pp=>?_) (MT.test (ME.op (MR.isIn _ _) (ME.var _) (ME.var _)));refine Ah λ_ zA=>?_;obtain⟨e,rfl,hj⟩:=pp;refine zA ?_;have gl:=Lj z0 i;refine⟨_,rfl,_,rfl,nl,_,rfl,.inl (A4.of (e _ _ hn)),rfl,fl,_,rfl,?_⟩;refine Bq (λc=>?_) (λc=>?_)
  .have c:Fs z0 i∈zs:=(Mt _ _).mp c;have hj':∀j<i+1,Fs z0 j∈zs:=λj hj2=>by
    rcases EZ j i with z|z
    .exact hj j z
    .rw[show j=i by lia];exact c
   have few:=YJ hj';exact⟨by lia,_,rfl,_,_,rfl,rfl,Bp (by rw[gl,x1];lia),e,rfl,hj'⟩
  .refine nx _ _ ⟨e,Fs z0 i,rfl,λz=>?_,λz=>c ((Mt _ _).mpr z)⟩;have:=congrArg Str.length z;rw[gl,show("":Str).length=0 from by decide +kernel]at this;lia
 refine Ah λ_ zB=>?_;obtain⟨e2,nm,rfl,nm0,nmn⟩:=pp;refine zB ?_;have hn2:=e2 _ _ hn;refine⟨_,rfl,_,rfl,_,_,rfl,rfl,(by show(0:Int)<2;decide),_,_,rfl,rfl,Ai rfl,λt1 h1=>?_⟩;dsimp only[Ar];have s3:=A9 h1 (.tup [V.str "",V.int (far+qq%2)]);have ht1:(upd H2 t1 (.tup [V.str "",V.int (far+qq%2)])) t1=_:=A5;change G8 _ _ _ _ (upd H2 t1 (.tup [V.str "",V.int (far+qq%2)]));generalize upd H2 t1 (.tup [V.str "",V.int (far+qq%2)])=H3 at s3 ht1;refine⟨_,rfl,_,rfl,_,_,rfl,rfl,⟨by decide,by decide⟩,_,_,rfl,rfl,(by show(0:Int)<4;decide),_,_,rfl,rfl,Ai rfl,λt2 h2=>?_⟩;dsimp only[Ar];have s4:=A9 h2 (.tup [V.str "",V.int (far+qq/2%4)]);have ht2:(upd H3 t2 (.tup [V.str "",V.int (far+qq/2%4)])) t2=_:=A5;change G8 _ _ _ _ (upd H3 t2 (.tup [V.str "",V.int (far+qq/2%4)]));generalize upd H3 t2 (.tup [V.str "",V.int (far+qq/2%4)])=H4 at s4 ht2;have ht14:=s4 _ _ ht1;have e4:=e2.trans (s3.trans s4);have pick:0<((zs.length:Nat):Int)->∃z,z∈zs/\Be (zs.map V.str) (-1)=some (.str z):=λy=>by
  have hl:(zs.map V.str).length=zs.length:=Af _;refine⟨zs[zs.length-1]'(by lia),FH _,?_⟩;unfold Be Dt;rw[Aw (by decide),Av (by lia),hl];show(zs.map V.str)[((zs.length:Int) + -1).toNat]?=_;rw[show((zs.length:Int) + -1).toNat=zs.length-1 by lia,Bf,AA (by lia)];rfl
 refine Dq (fun σ' H'=>A8 H4 H'/\∃(t:Addr) (z:Str) (n:Int),σ'=[some (.ref nl),some (.int qq),some (.int far),some (.int tn),some la,some (.str ⟨#[lc]⟩),some (.str nm),some (.ref t),some (.ref t2)]/\H' t=some (.tup [.str z,.int n])/\Z7 zs z) (fun σ' H5 pp=>?_) (λnx=>?_);rotate_left
 .have hn4:=e4 _ _ hn;refine⟨_,rfl,nl,_,rfl,.inl (A4.of hn4),_,_,rfl,rfl,_,rfl,?_⟩;refine Bq (λy=>?_) (λ_=>nx _ _ ⟨A8.refl _,t1,_,_,rfl,ht14,.inl rfl⟩);have y:(0:Int)<(((zs.map V.str).length:Nat):Int):=dT y;have y':=y;rw[Af]at y';refine⟨_,rfl,_,_,rfl,rfl,⟨by decide,by decide⟩,_,_,rfl,rfl,(by show(0:Int)<3;decide),rfl,_,rfl,?_⟩;refine Bq (λ_=>?_) (λ_=>nx _ _ ⟨A8.refl _,t1,_,_,rfl,ht14,.inl rfl⟩);refine Ah λ_ zC=>?_;obtain⟨z,hz,ez⟩:=pick y';refine zC ?_;refine⟨_,rfl,_,rfl,nl,_,_,.str z,rfl,rfl,A4.of hn4,ez,_,rfl,_,_,rfl,rfl,⟨by decide,by decide⟩,_,_,rfl,rfl,(by show(0:Int)<3;decide),_,_,rfl,rfl,Ai rfl,λt5 h5=>?_⟩;exact nx _ _ ⟨A9 h5 _,t5,_,_,rfl,A5,.inr hz⟩
 refine Ah λ_ zD=>?_;obtain⟨e5,tl,lz,ln,rfl,htl,zl⟩:=pp;refine zD ?_;refine Dq (fun σ' H'=>A8 H5 H'/\∃(t:Addr) (z:Str) (n:Int),σ'=[some (.ref nl),some (.int qq),some (.int far),some (.int tn),some la,some (.str ⟨#[lc]⟩),some (.str nm),some (.ref tl),some (.ref t)]/\H' t=some (.tup [.str z,.int n])/\Z7 zs z) (fun σ' H6 pp=>?_) (λnx=>?_);rotate_left
 .have hn5:=e5 _ _ (e4 _ _ hn);have ht25:=e5 _ _ ht2;refine⟨_,rfl,nl,_,rfl,.inl (A4.of hn5),_,_,rfl,rfl,_,rfl,?_⟩;refine Bq (λy=>?_) (λ_=>nx _ _ ⟨A8.refl _,t2,_,_,rfl,ht25,.inl rfl⟩);have y:(0:Int)<(((zs.map V.str).length:Nat):Int):=dT y;have y':=y;rw[Af]at y';refine⟨_,rfl,_,_,rfl,rfl,⟨by decide,by decide⟩,_,_,rfl,rfl,(by show(0:Int)<3;decide),rfl,_,rfl,?_⟩;refine Bq (λ_=>?_) (λ_=>nx _ _ ⟨A8.refl _,t2,_,_,rfl,ht25,.inl rfl⟩);refine Ah λ_ zE=>?_;obtain⟨z,hz,ez⟩:=pick y';refine zE ?_;refine⟨_,rfl,_,rfl,nl,_,_,.str z,rfl,rfl,A4.of hn5,ez,_,rfl,_,_,rfl,rfl,⟨by decide,by decide⟩,_,_,rfl,rfl,(by show(0:Int)<3;decide),Ai rfl,λt5 h5=>?_⟩;exact nx _ _ ⟨A9 h5 _,t5,_,_,rfl,A5,.inr hz⟩
 refine Ah λ_ zF=>?_;obtain⟨e6,th,hz,hn',rfl,hth,zh⟩:=pp;refine zF ?_;refine⟨_,rfl,_,rfl,_,rfl,Ai rfl,λt7 h7=>?_⟩;have s7:=A9 h7 (.tup [.str nm,.ref tl,.ref th]);exact q _ _ ⟨nm,lz,ln,hz,hn',0,0⟩ (e4.trans (e5.trans (e6.trans s7))) ⟨t7,tl,th,rfl,A5,(e6.trans s7) _ _ htl,s7 _ _ hth⟩ ⟨nm0,nmn,zl,zh⟩
theorem W9 (T:Tx w K mg a):AM P w K mg base AW 3 a.f_J a.d_J ["_law_stack","_law_path","_law_cell","_law_far","_law_limit"] aV:=by
 have G_f :=@Q8 P w K mg base a T;have G_q :=@bq P w K mg base a T;refine T.F_J.ok HS (λvs H Q E h=>?_) (λcdv A outer s H vs Q E hr h=>?_)
 .obtain⟨_,_,_,_,_,_,_,_,rfl,_⟩:=h;rfl
 obtain⟨st,pa,cell,far,lim,S,PP,sv,rfl,hst,aS,s3,hpa,p10,l1,l6,q⟩:=h;refine⟨_,(Ab (Aq (i:=5) HS.nd rfl (.inl rfl) (E9 Fx (by rfl) T.z_tuple F4 (A0 (F7 ["_law_one"] [none] (by rfl) (Dp (pw 0)) c8 (λ_ _ _ _ _ _=>⟨(AD (i:=0) VJ rfl (.inl rfl)),EL,(Aa (show DW _ (FB K) from Ap) (pw 0) A1 (λ_ _=>rfl))⟩)) A2)))
  (Ab (Aq (i:=6) HS.nd rfl (.inl rfl) (By A2))
  (Ab (Ca PassesOwn.never rfl (FC (by rfl) T.z_range (A0 (AZ (LQ rfl) (by rfl) T.z_min Mu (A0 (Aa Ap (C0 (Ac A1 (Ac A1 (Ac A1 (Ac A1 (Ac A1 (Ac A1 Bz Br) Br) Br) Br) Br) Br)) (Aj (oJ Co) (Az G_f (hr.mono (by lia)) (by rfl) T.m_f T.F_f.kp T.b_f .nil As (A0 (pw 2) (A0 A1 A2))) A1) (λ_ _=>rfl)) (A0 (Aa Ap (C0 (Ac A1 (Ac A1 (Ac A1 (Ac A1 (Ac A1 (Ac A1 Bz Br) Br) Br) Br) Br) Br)) (Aj (B3 Et) (pw 4) A1) (λ_ _=>rfl)) A2))) A2)) (AD (i:=7) HS.nd rfl (.inl rfl))
  (Ae (BG (BP BN Ce Cf C8 (pw 6) (A0 (Az G_q (hr.mono (by lia)) (by rfl) T.m_q T.F_q.kp T.b_q .nil As (A0 (pw 5) (A0 (Az G_f (hr.mono (by lia)) (by rfl) T.m_f T.F_f.kp T.b_f .nil As (A0 (pw 2) (A0 (Aj (B3 BC) A1 (pw 7)) A2))) (A0 (pw 3) A2)))) A2)))))
  (Ab (Aq (i:=8) HS.nd rfl (.inl rfl) (Az G_q (hr.mono (by lia)) (by rfl) T.m_q T.F_q.kp T.b_q .nil As (A0 (pw 5) (A0 (Az G_f (hr.mono (by lia)) (by rfl) T.m_f T.F_f.kp T.b_f .nil As (A0 (pw 2) (A0 A1 A2))) (A0 (pw 3) A2)))))
  (Ab (Aq (i:=9) HS.nd rfl (.inl rfl) (E9 Fx (by rfl) T.z_tuple F4 (A0 (F7 ["_law_one"] [none] (by rfl) (Dp (pw 0)) bM (λ_ _ _ _ _ _=>⟨(AD (i:=0) Wx rfl (.inl rfl)),EL,(Aa (show DW _ (FB K) from Ap) (pw 0) A1 (λ_ _=>rfl))⟩)) A2)))
  (Ab (Aq (i:=10) HS.nd rfl (.inl rfl) (E9 Fx (by rfl) T.z_tuple F4 (A0 (F7 ["_law_one"] [none] (by rfl) (Dp (pw 0)) aM (λ_ _ _ _ _ _=>⟨(AD (i:=0) TH rfl (.inl rfl)),EL,(Aa (show DW _ (FB K) from Ap) (pw 0) A1 (λ_ _=>rfl))⟩)) A2)))
  (Ae (AI (C0 (Ac (pw 5) (Ac (pw 9) (Ac (pw 10) (Ac (Aa Ap (pw 8) A1 (λ_ _=>rfl)) (Ac (Aa Ap (pw 8) A1 (λ_ _=>rfl)) (Ac (E9 Fx (by rfl) T.z_tuple F4 (A0 (pw 6) A2)) (Ac (E9 Fx (by rfl) T.z_tuple F4 (A0 (pw 1) A2)) Bz DL) DL) CB) CB) B5) B5) B5)))))))))),?_⟩
 have svl:=aS.1;refine⟨st,rfl,⟨_,A4.of hst⟩,?_⟩;refine J8 (xs:=sv) (λi ys H'=>H'=H/\ys=((S.take i).map (·.nm)).map V.str) ⟨rfl,rfl⟩ (Bp (by lia)) (λi ys H' hi pp=>⟨by rw[pp.1];exact A4.of hst,by rw[pp.2,Af,Af,BE];lia⟩) (λi x ys H' hx pp=>?_) (λys H' pp r1 hr1=>?_)
 .obtain⟨rfl,rfl⟩:=pp;refine Ah λ_ zA=>?_;obtain⟨l,hl,p,p1,p2,rfl,hp,_⟩:=aS.get' hx;refine zA ?_;refine⟨p,_,0,_,rfl,rfl,A7.of hp,rfl,rfl,?_⟩;rw[Ct hl,BA,BA];rfl
 obtain⟨rfl,rfl⟩:=pp;rw[svl,E1,show(S.map (·.nm)).map V.str=(AB S).map V.str from rfl];have s1:=A9 hr1 (.lst ((AB S).map V.str));refine⟨r1,_,rfl,.inl ⟨A4.of A5,λn1 hn1=>?_⟩⟩;have s2:=A9 hn1 (.tup ((AB S).map V.str));have hN:(upd (upd H' r1 (.lst ((AB S).map V.str))) n1 (.tup ((AB S).map V.str))) n1=some (.tup ((AB S).map V.str)):=A5;dsimp only[Ar];have e2:=s1.trans s2;change G8 _ _ _ _ (upd (upd H' r1 (.lst ((AB S).map V.str))) n1 (.tup ((AB S).map V.str)));generalize upd (upd H' r1 (.lst ((AB S).map V.str))) n1 (.tup ((AB S).map V.str))=H2 at s2 hN e2;have nl3:(AB S).length<=3:=by rw[F6];exact s3
 refine⟨Ai rfl,λro hro=>?_⟩;have s3':=A9 hro (.lst []);have hr0:(upd H2 ro (.lst [])) ro=some (.lst []):=A5;dsimp only[Ar];have ro0:H' ro=none:=e2.free hro;generalize upd H2 ro (.lst [])=H3 at s3' hr0;have e3:=e2.trans s3';have hN3:=s3' _ _ hN;refine⟨Ai rfl,λta hta=>?_⟩;have s4:=A9 hta (.tup [V.int 1,V.int 0,V.int 1,V.int 2,V.int 3,V.int 5]);refine⟨cell,3,rfl,λm hm=>?_⟩;refine Ah λ_ zB=>?_;obtain⟨n6,hn6,en6⟩:=NR (L:=[1,0,1,2,3,5]) (i:=m%6) 6 rfl (EW _ (by decide)) (Fg _ (by decide));obtain⟨n7,hn7,en7⟩:=NR (L:=[5,2,1,0,0,0]) (i:=lim-1) 6 rfl (by lia) (by lia);refine zB ?_;have b6:0<=n6/\n6<=5:=by
  simp only[Bj,Ez,or_false]at hn6;lia
 have b7:0<=n7/\n7<=5:=by
  simp only[Bj,Ez,or_false]at hn7;lia
 refine⟨(by show(0:Int)<6;decide),ta,_,_,_,rfl,rfl,A7.of A5,en6,Ai rfl,λtb htb=>?_⟩;refine Ah λ_ zC=>?_;have s5:=A9 htb (.tup [V.int 5,V.int 2,V.int 1,V.int 0,V.int 0,V.int 0]);have e35:=s4.trans s5;have hr5:=e35 _ _ hr0;have hN5:=e35 _ _ hN3;obtain⟨n,en,n5⟩:∃n:Nat,(if n7<n6 then n7 else n6)=(n:Int)/\n<=5:=⟨(if n7<n6 then n7 else n6).toNat,by split<;>lia,by split<;>lia⟩
 refine zC ?_;refine⟨tb,_,_,_,rfl,rfl,A7.of A5,en7,_,_,rfl,(n:Int),congrArg (λz=>[V.int z]) en,by lia,by lia,?_⟩;rw[Ff];generalize upd (upd H3 ta (.tup [V.int 1,V.int 0,V.int 1,V.int 2,V.int 3,V.int 5])) tb (.tup [V.int 5,V.int 2,V.int 1,V.int 0,V.int 0,V.int 0])=H5 at s5 e35 hr5 hN5;have e5:=e3.trans e35;have nro:n1≠ro:=λz=>by rw[z,hr5]at hN5;cases hN5
 refine Gz (lo:=0) (n:=n) (λi σ' HI=>∃(rv:List V) (rs:CT) (o7:Option V),σ'=[some (.ref st),some (.ref pa),some (.int cell),some (.int far),some (.int lim),some (.ref n1),some (.ref ro),o7,none,none,none]/\Bt ro H5 HI/\HI ro=some (.lst rv)/\Am (Ii HI) rv rs/\(∀t∈rs,G2 (Z7 (AB S)) M7 HI t)/\rs.length=i) ⟨[],[],_,rfl,λ_ _ _ h=>h,hr5,.nil,(λ_ h=>nomatch h),rfl⟩ (λi σ' HI hi pp=>?_) (fun σ' HI pp=>?_)
 .obtain⟨rv,rs,o7,rfl,b,hrI,aR,tz,rl⟩:=pp;have rvl:=aR.1;dsimp only[Ar];refine⟨.inl ⟨rfl,_,A4.of hrI⟩,cell,_,rfl,λm' hm'=>⟨n1,AB S,m',far,rfl,b _ _ nro hN5,nl3,λt6 p6 z6 H6 e6 ht6 tz6=>?_⟩⟩;refine⟨ro,_,_,rfl,rfl,e6 _ _ hrI,C5 (by lia),?_⟩;have tk:=(A8.tk e6).trans (TK.upd (o:=.lst (rv++[.ref t6])) (e6 _ _ hrI));have tk6:=TK.upd (o:=.lst (rv++[.ref t6])) (e6 _ _ hrI);refine⟨rv++[.ref t6],rs++[(z6,p6)],_,rfl,(b.trans (Bt.same e6)).trans Bt.put,A5,(aR.mono λ_ _ z=>z.tk tk).snoc ⟨t6,rfl,tk6 _ _ ht6⟩,λt ht=>?_,by rw[Ao,rl];rfl⟩;rcases Cw.mp ht with ht|ht
  .exact JK (tz t ht) tk
  .rw[Cy.mp ht];exact JK tz6 tk6
 refine Ah λ_ zD=>?_;obtain⟨rv,rs,o7,rfl,b,hrI,aR,tz,rl⟩:=pp;refine zD ?_;have rvl:=aR.1;have eI:A8 H' HI:=λx o hx=>b _ _ (AF hx ro0) (e5 _ _ hx);have hNI:=b _ _ nro hN5;dsimp only[Ar];refine⟨cell,4,rfl,λm' hm'=>⟨n1,AB S,m',far,rfl,hNI,nl3,λt6 p6 z6 H6 e6 ht6 tz6=>?_⟩⟩;dsimp only[Ar];have e06:=eI.trans e6;have hst6:=e06 _ _ hst;have aS6:=aS.mono λ_ _ z=>z.over e06;change G8 _ _ _ [some (.ref st),some (.ref pa),some (.int cell),some (.int far),some (.int lim),some (.ref n1),some (.ref ro),o7,some (.ref t6),none,none] _;refine⟨st,rfl,⟨_,A4.of hst6⟩,?_⟩;refine J8 (xs:=sv) (λi ys HX=>HX=H6/\Am (λv q=>DM H6 v (Lp.lz q,Lp.ln q)) ys (S.take i)) ⟨rfl,.nil⟩ (Bp (by lia)) (λi ys HX hi pp=>⟨by rw[pp.1];exact A4.of hst6,by rw[pp.2.1,BE];lia⟩) (λi x ys HX hx pp=>?_) (λls HX pp r7 hr7=>?_)
 .obtain⟨rfl,al⟩:=pp;refine Ah λ_ zE=>?_;obtain⟨l,hl,p,p1,p2,rfl,hp,hp1,hp2⟩:=aS6.get' hx;refine zE ?_;refine⟨p,_,1,_,rfl,rfl,A7.of hp,rfl,rfl,?_⟩;rw[Ct hl];exact al.snoc ⟨p1,rfl,hp1⟩
 obtain⟨rfl,al⟩:=pp;rw[svl,E1]at al;have s7:=A9 hr7 (.lst ls);refine⟨r7,_,rfl,.inl ⟨A4.of A5,λlt hlt=>?_⟩⟩;have s8:=A9 hlt (.tup ls);have hlt8:(upd (upd HX r7 (.lst ls)) lt (.tup ls)) lt=some (.tup ls):=A5;dsimp only[Ar];have e8:=s7.trans s8;change G8 _ _ _ _ (upd (upd HX r7 (.lst ls)) lt (.tup ls));generalize upd (upd HX r7 (.lst ls)) lt (.tup ls)=H8 at s8 hlt8 e8;have hst8:=e8 _ _ hst6;have aS8:=aS6.mono λ_ _ z=>z.over e8;refine⟨st,rfl,⟨_,A4.of hst8⟩,?_⟩;refine J8 (xs:=sv) (λi ys HX=>HX=H8/\Am (λv q=>DM H8 v (Lp.hz q,Lp.hn q)) ys (S.take i)) ⟨rfl,.nil⟩ (Bp (by lia)) (λi ys HX hi pp=>⟨by rw[pp.1];exact A4.of hst8,by rw[pp.2.1,BE];lia⟩) (λi x ys HX hx pp=>?_) (λhs HX pp r9 hr9=>?_)
 .obtain⟨rfl,ah⟩:=pp;refine Ah λ_ zF=>?_;obtain⟨l,hl,p,p1,p2,rfl,hp,hp1,hp2⟩:=aS8.get' hx;refine zF ?_;refine⟨p,_,2,_,rfl,rfl,A7.of hp,rfl,rfl,?_⟩;rw[Ct hl];exact ah.snoc ⟨p2,rfl,hp2⟩
 obtain⟨rfl,ah⟩:=pp;rw[svl,E1]at ah;have s9:=A9 hr9 (.lst hs);refine⟨r9,_,rfl,.inl ⟨A4.of A5,λht' hht=>?_⟩⟩;have s10:=A9 hht (.tup hs);have hhtA:(upd (upd HX r9 (.lst hs)) ht' (.tup hs)) ht'=some (.tup hs):=A5;dsimp only[Ar];have eA:=s9.trans s10;change NK _ _ _ (upd (upd HX r9 (.lst hs)) ht' (.tup hs));generalize upd (upd HX r9 (.lst hs)) ht' (.tup hs)=HA at s10 hhtA eA;have e6A:=e8.trans eA;have hroA:=(e6.trans e6A) _ _ hrI;have hpaA:=(e06.trans e6A) _ _ hpa;refine⟨t6,_,0,_,rfl,rfl,A7.of (e6A _ _ ht6),rfl,t6,_,1,_,rfl,rfl,A7.of (e6A _ _ ht6),rfl,ro,rv,rfl,.inl ⟨A4.of hroA,λrt hrt=>?_⟩⟩;have sB:=A9 hrt (.tup rv);refine⟨pa,_,rfl,.inl ⟨A4.of (sB _ _ hpaA),λpt hpt=>⟨Ai rfl,λt9 ht9=>?_⟩⟩⟩;have sC:=A9 hpt (.tup (PP.map V.int));have sD:=A9 ht9 (.tup [.ref n1,.ref lt,.ref ht',.str z6,.ref p6,.ref rt,.ref pt]);have eD:=sB.trans (sC.trans sD);have e6D:=e6A.trans eD;refine q t9 _ ⟨S,PP,z6,p6,rs.length+1,rs⟩ (e06.trans e6D) ⟨t9,n1,lt,ht',pt,rt,ls,hs,rv,rfl,A5,(e6.trans e6D) _ _ hNI,(eA.trans eD) _ _ hlt8,al.mono λ_ _ z=>z.tk (A8.tk e6D),eD _ _ hhtA,ah.mono λ_ _ z=>z.tk (A8.tk (eA.trans eD)),sD _ _ A5,(sC.trans sD) _ _ A5,aR.mono λ_ _ z=>z.tk (A8.tk (e6.trans e6D)),rfl⟩ rfl rfl (λt ht=>?_) (by show rs.length+1<=30;lia);rcases Bj.mp ht with rfl|ht
 .exact Qz (JK tz6 (A8.tk e6D))
 .exact Qz (JK (tz t ht) (A8.tk (e6.trans e6D)))
theorem YQ (T:Tx w K mg a):AM P w K mg base AW 4 a.f_K a.d_K ["_law_cells","_law_limit","_law_far"] (YT K):=by
 have G_f :=@Q8 P w K mg base a T;have G_I :=@W5 P w K mg base a T;have G_J :=@W9 P w K mg base a T;refine T.F_K.ok Gy (λvs H Q E h=>?_) (λcdv A outer s H vs Q E hr h=>?_)
 .obtain⟨_,_,_,_,rfl,_⟩:=h;rfl
 obtain⟨cl,cs,lim,far,rfl,hcl,csl,l1,l6,q⟩:=h;refine⟨_,(Ab (Aq (i:=3) Gy.nd rfl (.inl rfl) (By A2))
  (Ab (Aq (i:=4) Gy.nd rfl (.inl rfl) (By (A0 A1 A2)))
  (Ab (Aq (i:=5) Gy.nd rfl (.inl rfl) (By A2))
  (Ab (Aq (i:=6) Gy.nd rfl (.inl rfl) (GF (Ac FN (Ac FN (Ac FN Bz Br) Br) Br)))
  (Ab (Ca PassesOwn.never rfl (Dp (Aj Ei (E9 Nw (by rfl) T.z_list Ln (A0 (pw 0) A2)) (GF (Ac A1 (Ac A1 (Ac A1 (Ac A1 Bz Br) Br) Br) Br)))) (AD (i:=7) Gy.nd rfl (.inl rfl))
  (Ab (Aq (i:=8) Gy.nd rfl (.inl rfl) (Az G_f (hr.mono (by lia)) (by rfl) T.m_f T.F_f.kp T.b_f .nil As (A0 (pw 7) (A0 A1 A2))))
  (Ab (Aq (i:=9) Gy.nd rfl (.inl rfl) (AZ BI (by rfl) T.z_len BK (A0 (pw 3) A2)))
  (Ae (Bx ((D4 (AL (B3 Eh) (Aj (oJ Co) (pw 8) A1) (Aj (B3 BC) A1 (Aj (oJ II) A1 (E9 Tp (by rfl) T.z_int bR (A0 (Gu C6 (pw 9) A1 (AG _)) A2)))) (AG _)) (D4 (AL (B3 Eh) (pw 9) A1 (AG _)) (DB (AL (B3 Eh) (AZ BI (by rfl) T.z_len BK (A0 (pw 5) A2)) (pw 1) (AG _)))))).pt
  (Ab (BG (BP BN Ce Cf C8 (pw 3) (A0 (Az G_I (hr.mono (by lia)) (by rfl) T.m_I T.F_I.kp T.b_I .nil As (A0 (F7 ["_law_one"] [none] (by rfl) (Dp (pw 3)) Yv (λ_ _ _ _ _ _=>⟨(AD (i:=0) WS rfl (.inl rfl)),EL,(Aa (show DW _ (FB K) from Ap) (pw 0) A1 (λ_ _=>rfl))⟩)) (A0 (Aj (oJ Ed) (pw 8) A1) (A0 (pw 2) (A0 (Aa AE (pw 4) A1 (λ_ _=>rfl)) (A0 (Aa AE (pw 6) (pw 9) (λ_ _=>rfl)) A2)))))) A2)))
  (Ae (BG (BP BN Ce Cf C8 (pw 4) (A0 A1 A2)))))
  (Ae (Bx ((D4 (AL (B3 Es) (pw 9) A1 (AG _)) (D4 (AL (B3 Es) (Aa AE (pw 4) (Dz DD A1) (λ_ _=>rfl)) A1 (AG _)) (DB ((Ip (AL C6 (Aj (oJ Co) (pw 8) A1) A1 (AG _)) (Kr (AL C6 (AZ BI (by rfl) T.z_len BK (A0 (pw 5) A2)) (pw 1) (AG _))))).pt)))).pt
  (Ab (JJ (Aa AE (pw 3) (Dz DD A1) (λ_ _=>rfl)) (Km (pw 6) (Aj (B3 Et) (pw 9) A1) JW))
  (Ab (BG (Rj BN PySem.F.slot_list_pop PySem.F.type_list_pop Rg (pw 3)))
  (Ab (BG (Rj BN PySem.F.slot_list_pop PySem.F.type_list_pop Rg (pw 4)))
  (Ae (JJ (Aj (B3 BC) (Aa AE (pw 4) (Dz DD A1) (λ_ _=>rfl)) A1) (Km (pw 4) (Dz DD A1) JW))))))
  (Ae (Bx (AL (B3 Eh) (AZ BI (by rfl) T.z_len BK (A0 (pw 5) A2)) (pw 1) (AG _))
  (Ab (BG (BP BN Ce Cf C8 (pw 5) (A0 (Az G_J (hr.mono (by lia)) (by rfl) T.m_J T.F_J.kp T.b_J .nil As (A0 (pw 3) (A0 (pw 4) (A0 (pw 7) (A0 (pw 2) (A0 (pw 1) A2)))))) A2)))
  (Ae (JJ (Aj (B3 BC) (Aa AE (pw 4) (Dz DD A1) (λ_ _=>rfl)) A1) (Km (pw 4) (Dz DD A1) JW))))
  BJ)))))))))
  (Ae (AI (pw 5)))))))),?_⟩
 refine⟨Ai rfl,λst hst=>?_⟩;dsimp only[Ar];refine⟨Ai rfl,λpa hpa=>?_⟩;dsimp only[Ar];refine⟨Ai rfl,λro hro=>?_⟩;dsimp only[Ar];refine⟨Ai rfl,λla hla=>?_⟩;dsimp only[Ar];have s1:=A9 hst (.lst []);have s2:=A9 hpa (.lst [V.int 0]);have s3:=A9 hro (.lst []);have s4:=A9 hla (.lst [V.non,V.non,V.non]);have g1:(upd H st (.lst [])) st=some (.lst []):=A5;have g2:(upd (upd H st (.lst [])) pa (.lst [V.int 0])) pa=some (.lst [V.int 0]):=A5;have g3:(upd (upd (upd H st (.lst [])) pa (.lst [V.int 0])) ro (.lst [])) ro=some (.lst []):=A5;have n:N7 st pa ro la:=⟨AF g1 hpa,AF (s2 _ _ g1) hro,AF ((s2.trans s3) _ _ g1) hla,AF g2 hro,AF (s3 _ _ g2) hla,AF g3 hla⟩
 have w0:W7 (upd (upd (upd (upd H st (.lst [])) pa (.lst [V.int 0])) ro (.lst [])) la (.lst [V.non,V.non,V.non])) st pa ro la [] [] [0] [] [] [V.non,V.non,V.non]:=⟨(s2.trans (s3.trans s4)) _ _ g1,.nil,(s3.trans s4) _ _ g2,s4 _ _ g3,.nil,(λ_ h=>nomatch h),A5,rfl,λv hv=>by
  simp only[Bj,Ez,or_false]at hv;rcases hv with rfl|rfl|rfl<;>exact .inl rfl⟩
 have e4:=s1.trans (s2.trans (s3.trans s4));have st0:H st=none:=hst;have pa0:H pa=none:=s1.free hpa;have ro0:H ro=none:=(s1.trans s2).free hro;have la0:H la=none:=(s1.trans (s2.trans s3)).free hla;generalize upd (upd (upd (upd H st (.lst [])) pa (.lst [V.int 0])) ro (.lst [])) la (.lst [V.non,V.non,V.non])=H4 at w0 e4;clear s1 s2 s3 s4 g1 g2 g3 hst hpa hro hla;refine⟨cl,_,rfl,.inl (e4.seq hcl),λc1 hc1=>⟨Ai rfl,λz4 hz4=>?_⟩⟩;have s5:=A9 hc1 (.lst (cs.map V.int));have s6:=A9 hz4 (.lst [V.int 0,V.int 0,V.int 0,V.int 0]);refine⟨c1,z4,_,_,rfl,rfl,s6 _ _ A5,A5,Bp (by rw[Af];show _+4<=_;lia),λc2 hc2=>?_⟩;have s7:=A9 hc2 (.lst (cs.map V.int++[V.int 0,V.int 0,V.int 0,V.int 0]));have hc:(upd (upd (upd H4 c1 (.lst (cs.map V.int))) z4 (.lst [V.int 0,V.int 0,V.int 0,V.int 0])) c2 (.lst (cs.map V.int++[V.int 0,V.int 0,V.int 0,V.int 0]))) c2=some (.lst ((cs++[0,0,0,0]).map V.int)):=by rw[A5,BA];rfl
 have w7:=w0.over (s5.trans (s6.trans s7));have e7:=e4.trans (s5.trans (s6.trans s7));have nc:c2≠st/\c2≠pa/\c2≠ro/\c2≠la:=⟨Ne.symm (AF ((s5.trans s6) _ _ w0.hst) hc2),Ne.symm (AF ((s5.trans s6) _ _ w0.hpa) hc2),Ne.symm (AF ((s5.trans s6) _ _ w0.hro) hc2),Ne.symm (AF ((s5.trans s6) _ _ w0.hla) hc2)⟩
 generalize upd (upd (upd H4 c1 (.lst (cs.map V.int))) z4 (.lst [V.int 0,V.int 0,V.int 0,V.int 0])) c2 (.lst (cs.map V.int++[V.int 0,V.int 0,V.int 0,V.int 0]))=H7 at hc w7 e7;have cl4:(cs++[0,0,0,0]).length=cs.length+4:=by rw[Ao];rfl
 generalize hcs:cs++[0,0,0,0]=cc at hc cl4;refine⟨c2,rfl,⟨_,A4.of hc⟩,?_⟩;refine FQ (xs:=cc.map V.int) (λi σ' H'=>∃(Rs:List R3) (S:List Lp) (PP:List Int) (sv rv lv:List V) (o8 o9 o10:Option V),σ'=[some (.ref cl),some (.int lim),some (.int far),some (.ref st),some (.ref pa),some (.ref ro),some (.ref la),o8,o9,o10]/\Kq st pa ro la H7 H'/\W7 H' st pa ro la Rs S PP sv rv lv/\D7 Rs S PP/\(S.length:Int)<=2/\(Rs.length:Int)<=lim/\(Rs=[]->S.length=i)) ⟨[],[],[0],[],[],[V.non,V.non,V.non],_,_,_,rfl,λ_ _ h _ _ _ _=>h,w7,D7.nil,by show(0:Int)<=2;lia,by show(0:Int)<=lim;lia,λ_=>rfl⟩ (λi σ' H' _ pp=>by obtain⟨_,_,_,_,_,_,_,_,_,_,kq,_⟩:=pp;exact A4.of (kq _ _ hc nc.1 nc.2.1 nc.2.2.1 nc.2.2.2)) (λi x σ' H' hx pp=>?_) (fun σ' H' pp=>?_);rotate_left
 .obtain⟨Rs,S,PP,sv,rv,lv,o8,o9,o10,rfl,kq,ww,dd,sd,rl,z0⟩:=pp;have eH:A8 H H':=λb o hb=>kq b o (e7 _ _ hb) (AF hb st0) (AF hb pa0) (AF hb ro0) (AF hb la0);refine q ro rv _ Rs eH ro0 ww.hro ww.aR (λR hR=>⟨dd.rb R hR,ww.tz R hR⟩) dd.pr (λe=>?_) (by lia);have:=z0 e;rw[Af]at this;have:=dd.so.1;lia
 refine Ah λ_ zA=>?_;obtain⟨Rs,S,PP,sv,rv,lv,o8,o9,o10,rfl,kq,ww,dd,sd,rl,z0⟩:=pp;obtain⟨cell,rfl⟩:∃cell:Int,x = .int cell:=by
  rw[Bf]at hx;obtain⟨c,_,rfl⟩:=Jn.mp hx;exact⟨c,rfl⟩
 refine zA ?_;dsimp only[Ar];refine⟨cell,0,rfl,λqq hq=>?_⟩;dsimp only[Ar];have svl:=ww.aS.1;have rvl:=ww.aR.1;have s3:=dd.so.1;have pll:=dd.pl;refine⟨st,_,rfl,.inl (A4.of ww.hst),?_⟩;dsimp only[Ar];rw[svl];change IE _ _ _ _ [some (.ref cl),some (.int lim),some (.int far),some (.ref st),some (.ref pa),some (.ref ro),some (.ref la),some (.int cell),some (.int qq),some (.int ((S.length:Nat):Int))] _;refine Ah λ_ zB=>?_;obtain⟨PI,pz,hPI,pil⟩:∃PI pz,PP=PI++[pz]/\PI.length=S.length:=by
  obtain⟨us,u,e,ul⟩:=Jz (l:=PP) (n:=S.length) pll;exact⟨us,u,e,ul⟩
 refine zB ?_;subst hPI;have hpaP:=ww.hpa;have lastP:Be ((PI++[pz]).map V.int) (-1)=some (.int pz):=by rw[BA];exact Ov _ _
 have p0:∃y,Be ((PI++[pz]).map V.int) 0=some (.int y):=by
  cases PI with
  |nil=>exact⟨pz,Bg (j:=0) rfl⟩
  |cons y l=>exact⟨y,Bg (j:=0) rfl⟩
 refine Iu (λHX=>HX=H') (λHX eX=>?_) (λels=>?_);rotate_left
 .refine⟨(by show(0:Int)<7;decide),rfl,.inr ⟨_,rfl,.inl ⟨by decide,by decide⟩,_,rfl,?_⟩⟩;refine Bq (λ_=>?_) (λ_=>els _ rfl);refine⟨_,rfl,?_⟩;refine Bq (λy2=>?_) (λ_=>els _ rfl);have y2:((S.length:Nat):Int)<2:=dT y2;refine⟨ro,_,rfl,.inl (A4.of ww.hro),_,rfl,?_⟩;refine Bq (λy3=>?_) (λ_=>els _ rfl);clear els;obtain⟨y0,hy0⟩:=p0;refine⟨.inl ⟨rfl,_,A4.of ww.hst⟩,st,rfl,⟨_,A4.of ww.hst⟩,?_⟩;refine J8 (xs:=sv) (λi ys HX=>HX=H'/\ys=((S.take i).map (·.nm)).map V.str) ⟨rfl,rfl⟩ (Bp (by lia)) (λi ys HX hi pp=>⟨by rw[pp.1];exact A4.of ww.hst,by rw[pp.2,Af,Af,BE];lia⟩) (λi x ys HX hx pp=>?_) (λys HX pp nl hnl=>?_)
  .obtain⟨rfl,rfl⟩:=pp;refine Ah λ_ zC=>?_;obtain⟨l,hl,p,p1,p2,rfl,hp,_⟩:=ww.aS.get' hx;refine zC ?_;refine⟨p,_,0,_,rfl,rfl,A7.of hp,rfl,rfl,?_⟩;rw[Ct hl,BA,BA];rfl
  obtain⟨rfl,rfl⟩:=pp;rw[svl,E1,show(S.map (·.nm)).map V.str=(AB S).map V.str from rfl];have s8:=A9 hnl (.lst ((AB S).map V.str));have w8:=ww.over s8;have hnl8:(upd HX nl (.lst ((AB S).map V.str))) nl=some (.lst ((AB S).map V.str)):=A5;change L6 _ _ _ (upd HX nl (.lst ((AB S).map V.str))) _;generalize upd HX nl (.lst ((AB S).map V.str))=H8 at s8 w8 hnl8;have lk:S.length<lv.length:=by rw[w8.ll];lia
  refine⟨⟨by decide,by decide⟩,pa,_,0,_,rfl,rfl,A4.of w8.hpa,hy0,la,_,_,lv[S.length],rfl,rfl,A4.of w8.hla,Bg (AA lk),nl,AB S,_,far,_,_,rfl,hnl8,by rw[F6];exact s3,w8.ls _ (FH lk),λr H9 l e9 hl nw=>?_⟩;have w9:=w8.over e9;refine⟨st,_,_,rfl,rfl,w9.hst,C5 (by lia),?_⟩;have wA:=w9.pst n (sv':=sv++[r]) (w9.aS.snoc hl);refine⟨.inl ⟨rfl,_,A4.of wA.hpa⟩,pa,_,_,rfl,rfl,wA.hpa,C5 (by rw[Af,Ao,Bi];lia),?_⟩;rw[show(PI++[pz]).map V.int++[V.int 0]=(PI++[pz]++[0]).map V.int from by rw[BA (l₂:=[0])];rfl];exact⟨Rs,S++[l],PI++[pz]++[0],sv++[r],rv,lv,_,_,_,rfl,((kq.same (s8.trans e9)).put (.inl rfl)).put (.inr (.inl rfl)),wA.ppa n,dd.opn (by lia) nw,by rw[Ao,Bi];lia,rl,λe=>by rw[Ao,z0 e];rfl⟩
 subst eX;refine Iu (λHZ=>HZ=HX) (λHY eY=>?_) (λels=>?_);rotate_left
 .refine QH (λHZ=>HZ=HZ/\HZ=HX/\0<S.length/\0<pz) (λHY hY=>?_) (λgo=>?_);rotate_left
  .refine⟨_,rfl,?_⟩;refine Bq (λy1=>?_) (λ_=>els _ rfl);have y1:(0:Int)<((S.length:Nat):Int):=dT y1;refine⟨_,rfl,pa,_,_,_,rfl,rfl,A4.of hpaP,lastP,_,rfl,?_⟩;refine Bq (λy2=>?_) (λ_=>els _ rfl);have y2:(0:Int)<pz:=dT y2;refine⟨(by show(0:Int)<7;decide),rfl,_,rfl,?_⟩;refine Bq (λ_=>BL (go _ ⟨rfl,rfl,by lia,y2⟩)) (λ_=>?_);refine⟨ro,_,rfl,.inl (A4.of ww.hro),rfl,_,rfl,?_⟩;exact Bq (λ_=>go _ ⟨rfl,rfl,by lia,y2⟩) (λ_=>els _ rfl)
  refine Ah λ_ zD=>?_;obtain⟨_,rfl,sp,pp0⟩:=hY;refine zD ?_;clear els;refine Ah λ_ zE=>?_;obtain⟨S',l,hS',sl'⟩:∃S' l,S=S'++[l]/\S'.length+1=S.length:=by
   obtain⟨us,u,e,ul⟩:=Jz (l:=S) (n:=S.length-1) (by lia);exact⟨us,u,e,by lia⟩
  refine zE ?_;subst hS';refine Ah λ_ zF=>?_;obtain⟨sv',v,rfl,aS',hv⟩:=X5 ww.aS;obtain⟨PJ,px,hPJ,pjl⟩:∃PJ px,PI=PJ++[px]/\PJ.length=S'.length:=by
   obtain⟨us,u,e,ul⟩:=Jz (l:=PI) (n:=S'.length) (by lia);exact⟨us,u,e,ul⟩
  refine zF ?_;subst hPJ;have sv'l:sv'.length=S'.length:=aS'.1;have rne:Rs≠[]:=λe=>by
   have:=dd.z0 e pz (by simp);lia
  have slI:(((S'++[l]).length:Nat):Int)-1=((S'.length:Nat):Int):=by rw[Ao,Bi];lia
  have ixl:Dt lv.length ((((S'++[l]).length:Nat):Int)-1)=some S'.length:=by
   rw[slI,ww.ll];have:S'.length<3:=by lia
   unfold Dt;rw[Av (by lia),Av (by lia),Ff]
  have nmne:l.nm≠"":=dd.so.init.2.1;refine⟨_,rfl,st,_,_,v,rfl,rfl,A4.of ww.hst,Ov _ _,la,_,_,_,rfl,rfl,ww.hla,ixl,?_⟩;have w1:=ww.pla n (j:=S'.length) (v:=v) (.inr ⟨l,hv,nmne⟩);have k1:=kq.put (u:=.lst (lv.set S'.length v)) (.inr (.inr (.inr rfl)));refine⟨.inl ⟨rfl,_,A4.of w1.hst⟩,st,_,_,rfl,rfl,w1.hst,LB.1,?_⟩;rw[LB.2];have w2:=w1.pst n (sv':=sv') (S':=S') (aS'.mono λ_ _ z=>z.tk (TK.upd ww.hla));have k2:=k1.put (u:=.lst sv') (.inl rfl);generalize upd (upd HY la (.lst (lv.set S'.length v))) st (.lst sv')=H2 at w2 k2;have hp2:=w2.hpa;rw[show(PJ++[px]++[pz]).map V.int=(PJ++[px]).map V.int++[V.int pz] from BA]at hp2;refine⟨.inl ⟨rfl,_,A4.of hp2⟩,pa,_,_,rfl,rfl,hp2,LB.1,?_⟩;rw[LB.2];have w3:=w2.ppa n (P':=PJ++[px]);have k3:=k2.put (u:=.lst ((PJ++[px]).map V.int)) (.inr (.inl rfl));generalize upd H2 pa (.lst ((PJ++[px]).map V.int))=H3 at w3 k3;have last3:Be ((PJ++[px]).map V.int) (-1)=some (.int px):=by rw[BA];exact Ov _ _
  refine⟨_,rfl,pa,_,_,_,rfl,rfl,A4.of w3.hpa,last3,_,rfl,pa,_,_,_,rfl,rfl,w3.hpa,RT,?_⟩;rw[show((PJ++[px]).map V.int).set PJ.length ((λi j=>V.int (i+j)) px 1)=(PJ++[px+1]).map V.int from P5];exact⟨Rs,S',PJ++[px+1],sv',rv,_,_,_,_,rfl,k3.put (.inr (.inl rfl)),w3.ppa n,dd.cls rne,by rw[Ao,Bi]at sd;lia,rl,λe=>absurd e rne⟩
 subst eY;refine⟨ro,_,rfl,.inl (A4.of ww.hro),_,rfl,?_⟩;refine Bq (λy=>?_) (λy=>?_)
 .have y:((rv.length:Nat):Int)<lim:=dT y;refine⟨.inl ⟨rfl,_,A4.of ww.hro⟩,st,pa,cell,far,lim,S,PI++[pz],sv,rfl,ww.hst,ww.aS,s3,ww.hpa,by lia,l1,l6,λr H8 R e8 hR eS eP tz m30=>?_⟩;have w8:=ww.over e8;refine⟨ro,_,_,rfl,rfl,w8.hro,C5 (by lia),?_⟩;have w9:=w8.pro n hR tz;have k9:=(kq.same e8).put (u:=.lst (rv++[.ref r])) (.inr (.inr (.inl rfl)));generalize upd H8 ro (.lst (rv++[.ref r]))=H9 at w9 k9;refine⟨_,rfl,pa,_,_,_,rfl,rfl,A4.of w9.hpa,lastP,_,rfl,pa,_,_,_,rfl,rfl,w9.hpa,RT,?_⟩;rw[show((PI++[pz]).map V.int).set PI.length ((λi j=>V.int (i+j)) pz 1)=(PI++[pz+1]).map V.int from P5];exact⟨Rs++[R],S,PI++[pz+1],sv,_,lv,_,_,_,rfl,k9.put (.inr (.inl rfl)),w9.ppa n,dd.row eS eP m30,sd,by rw[Ao,Bi];lia,λe=>by have:=congrArg List.length e;rw[Ao]at this;exact absurd this (by simp)⟩
 .have y:¬((rv.length:Nat):Int)<lim:=dF y;refine⟨Rs,S,PI++[pz],sv,rv,lv,_,_,_,rfl,kq,ww,dd,sd,rl,λe=>?_⟩;rw[e]at rvl;have rvl:rv.length=0:=rvl;lia
theorem UX (T:Tx w K mg a):AM P w K mg base AW 3 a.f_L a.d_L ["_law_reads"] (VM (CQ a)):=by
 have G_T :=@XW P w K mg base a T;have G_U :=@Zi P w K mg base a T;have G_V :=@Y7 P w K mg base a T;refine T.F_L.ok Mw (λvs H Q E h=>?_) (λcdv A outer s H vs Q E hr h=>?_)
 .obtain⟨_,_,_,rfl,_⟩:=h;rfl
 obtain⟨u,rv,rs,rfl,hu,aR,r29,q⟩:=h;refine⟨_,(Ab (Aq (i:=1) Mw.nd rfl (.inl rfl) (JN T.mk_Number G_T (hr.mono (by lia)) (by rfl) T.mc_Number T.b_T .nil As (A0 A1 A2)))
  (Ab (Ca PassesOwn.never rfl (KJ (pw 0)) (AD (i:=2) Mw.nd rfl (.inl rfl))
  (Ae (Aq (i:=1) Mw.nd rfl (.inl rfl) (JN T.mk_Joined G_V (hr.mono (by lia)) (by rfl) T.mc_Joined T.b_V .nil As (A0 BY (A0 (pw 1) (A0 (JN T.mk_Cell G_U (hr.mono (by lia)) (by rfl) T.mc_Cell T.b_U .nil As (A0 (Aa Ap (pw 2) A1 (λ_ _=>rfl)) (A0 (Aa Ap (pw 2) A1 (λ_ _=>rfl)) A2))) A2)))))))
  (Ae (AI (pw 1))))),?_⟩
 refine λx dx nx ndx ne=>⟨x,dx,[_],rfl,rfl,A5,λH2 k2 hx2=>⟨rfl,?_⟩⟩
 obtain⟨dx2,hx2⟩:=hx2;have e2:=JC nx ndx k2;dsimp only[Ar];refine⟨u,rfl,⟨_,A7.of (e2 _ _ hu)⟩,?_⟩;have rvl:=aR.1;refine Oi (xs:=rv) (λi σ' H'=>∃(y:V) (o2:Option V),σ'=[some (.ref u),some y,o2]/\A8 H H'/\CJ (CQ a) H' (i+1) y (rs.take i)) ⟨_,_,rfl,e2,.num 1 hx2⟩ (λi σ' H' _ pp=>by obtain⟨_,_,_,e,_⟩:=pp;exact A7.of (e _ _ hu)) (λi y0 σ' H' hy pp=>?_) (fun σ' H' pp=>?_)
 .obtain⟨y,o2,rfl,e,to⟩:=pp;refine Ah λ_ zA=>?_;obtain⟨r,hr',t,rfl,ht⟩:=aR.get' hy;refine zA ?_;dsimp only[Ar];have ht':=e _ _ ht;refine⟨t,_,0,_,rfl,rfl,A7.of ht',rfl,t,_,1,_,rfl,rfl,A7.of ht',rfl,λx3 dx3 nx3 ndx3 ne3=>⟨x3,dx3,[_,_],rfl,rfl,A5,λH4 k4 hx4=>⟨rfl,?_⟩⟩⟩;obtain⟨dx4,hx4⟩:=hx4;have e4:=JC nx3 ndx3 k4;refine λx5 dx5 nx5 ndx5 ne5=>⟨x5,dx5,[_,_,_],rfl,rfl,A5,λH6 k6 hx6=>⟨rfl,?_⟩⟩
  obtain⟨dx6,hx6⟩:=hx6;have e6:=JC nx5 ndx5 k6;refine⟨_,_,rfl,e.trans (e4.trans e6),?_⟩;rw[Ct hr'];exact .joi "+" hx6 (to.over (e4.trans e6)) (CJ.over e6 (.cel r.1 hx4))
 .obtain⟨y,o2,rfl,e,to⟩:=pp;rw[rvl,E1]at to;exact q y _ e to
theorem Wv (T:Tx w K mg a):AM P w K mg base AW 5 a.f_M a.d_M ["_law_rows_here"] (TJ a.c_Program a.c_Deed (CQ a)):=by
 have G_W :=@Zv P w K mg base a T;have G_X :=@Ur P w K mg base a T;have G_L :=@UX P w K mg base a T;refine T.F_M.ok Nh (λvs H Q E h=>?_) (λcdv A outer s H vs Q E hr h=>?_)
 .obtain⟨_,_,_,rfl,_⟩:=h;rfl
 obtain⟨l,xs,Rs,rfl,hl,ax,n6,ok,q⟩:=h;refine⟨_,(Ab (Aq (i:=1) Nh.nd rfl (.inl rfl) (By A2))
  (Ab (Ca PassesOwn.never rfl (Dp (pv 0)) (AD (i:=2) Nh.nd rfl (.inl rfl))
  (Ae (BG (BP BN Ce Cf C8 (pv 1) (A0 (JN T.mk_Deed G_W (hr.mono (by lia)) (by rfl) T.mc_Deed T.b_W .nil As (A0 (Aa Ap (pv 2) A1 (λ_ _=>rfl)) (A0 (Aa Ap (pv 2) A1 (λ_ _=>rfl)) (A0 (Aa Ap (pv 2) A1 (λ_ _=>rfl)) (A0 (Aa Ap (pv 2) A1 (λ_ _=>rfl)) (A0 (Aa Ap (pv 2) A1 (λ_ _=>rfl)) (A0 (Az G_L (hr.mono (by lia)) (by rfl) T.m_L T.F_L.kp T.b_L .nil As (A0 (Aa Ap (pv 2) A1 (λ_ _=>rfl)) A2)) (A0 (Aa Ap (pv 2) A1 (λ_ _=>rfl)) A2)))))))) A2)))))
  (Ae (AI (JN T.mk_Program G_X (hr.mono (by lia)) (by rfl) T.mc_Program T.b_X .nil As (A0 A1 (A0 (pv 1) A2))))))),?_⟩
 have xl:=ax.1;refine⟨Ai rfl,λdd hdd0=>?_⟩;have s1:=A9 hdd0 (.lst []);have hd1:(upd H dd (.lst [])) dd=some (.lst []):=A5;dsimp only[Ar];generalize upd H dd (.lst [])=H1 at s1 hd1;refine⟨_,rfl,l,rfl,⟨_,A4.of (s1 _ _ hl)⟩,?_⟩;refine FQ (xs:=xs) (λi σ' H'=>∃(ys:List V) (o2:Option V),σ'=[some (.ref l),some (.ref dd),o2]/\A8 H H'/\H' dd=some (.lst ys)/\Am (D5 (CQ a) a.c_Deed H') ys (Rs.take i)) ⟨[],_,rfl,s1,hd1,.nil⟩ (λi σ' H' _ pp=>by obtain⟨_,_,_,e,_⟩:=pp;exact A4.of (e _ _ hl)) (λi x σ' H' hx pp=>?_) (fun σ' H' pp=>?_)
 .obtain⟨ys,o2,rfl,e,hdd,ay⟩:=pp;have yl:=ay.1;rw[BE]at yl;refine Ah λ_ zA=>?_;obtain⟨R,hR,r,u1,u2,u3,u4,u5,ls,hs,rs,rfl,hr1,hu1,hu2,als,hu3,ahs,hu4,hu5,ars,em⟩:=ax.get' hx;refine zA ?_;have rok:=ok R (AY hR);have hr1':=e _ _ hr1;dsimp only[Ar];refine⟨_,rfl,.inl ⟨rfl,_,A4.of hdd⟩,_,rfl,r,_,0,_,rfl,rfl,A7.of hr1',rfl,_,rfl,r,_,1,_,rfl,rfl,A7.of hr1',rfl,_,rfl,r,_,2,_,rfl,rfl,A7.of hr1',rfl,_,rfl,r,_,3,_,rfl,rfl,A7.of hr1',rfl,_,rfl,r,_,4,_,rfl,rfl,A7.of hr1',rfl,_,rfl,r,_,5,_,rfl,rfl,A7.of hr1',rfl,?_⟩;refine⟨u5,rs,R.rs,rfl,e _ _ hu5,ars.mono λ_ _ z=>z.tk (A8.tk e),by lia,λy H2 e2 to=>?_⟩;rw[←em]at to;refine⟨_,rfl,r,_,6,_,rfl,rfl,A7.of (e2 _ _ hr1'),rfl,?_⟩;intro d dx hd hdx hne2;refine⟨d,dx,_,_,_,_,_,_,_,rfl,A5,λHB kB hdB=>⟨rfl,?_⟩⟩;obtain⟨dxB,hdB⟩:=hdB;have eAB:=JC hd hdx kB;have eB:=e2.trans eAB;have hddB:=eB _ _ hdd;refine⟨dd,_,_,rfl,rfl,hddB,C5 (by lia),?_⟩;have nl:=NL.upd (o:=.lst (ys++[.ref d])) hddB;refine⟨ys++[.ref d],_,rfl,λb o hb=>by rw[Ak (AF hb hdd0)];exact eB _ _ (e _ _ hb),A5,?_⟩;rw[Ct hR];exact(ay.mono λ_ _ z=>(z.over eB).nl nl).snoc (D5.nl ⟨d,dxB,u1,u2,u3,u4,y,ls,hs,rfl,hdB,eB _ _ (e _ _ hu1),eB _ _ (e _ _ hu2),als.mono λ_ _ z=>z.tk (A8.tk (e.trans eB)),eB _ _ (e _ _ hu3),ahs.mono λ_ _ z=>z.tk (A8.tk (e.trans eB)),eB _ _ (e _ _ hu4),to.over eAB⟩ nl)
 refine Ah λ_ zB=>?_;obtain⟨ys,o2,rfl,e,hdd,ay⟩:=pp;refine zB ?_;rw[xl,E1]at ay;dsimp only[Ar];refine⟨_,rfl,?_⟩;intro x dx hx hdx hxd;have ntx:dd≠x:=AF hdd hx;have ntd:dd≠dx:=AF hdd hdx;refine⟨x,dx,_,dd,ys,rfl,A5,A4.of (by rw[Ak ntx,Ak ntd];exact hdd),λd5 H6 hd5 k6 hd6 hx6=>⟨rfl,?_⟩⟩;obtain⟨dx6,hx6⟩:=hx6;have e6:=JC hx hdx k6;have d50:H d5=none:=e.free (by
  cases h:H' d5 with
  |none=>rfl
  |some o=>rw[Ak (AF h hx),Ak (AF h hdx),h]at hd5;cases hd5)
 exact q x dx6 d5 ys H6 (e.trans e6) hx6 d50 hd6 (ay.mono λ_ _ z=>z.over e6)
theorem aE (T:Tx w K mg a):AM P w K mg base AW 1 a.f_N a.d_N ["_law_one","_law_other"] YY:=by
 refine T.F_N.ok O9 (λvs H Q E h=>?_) (λcdv A outer s H vs Q E hr h=>?_)
 .obtain⟨_,_,_,_,_,rfl,_⟩:=h;rfl
 obtain⟨x,y,R,R',s,rfl,hx,hy,rb,rb',pl,q⟩:=h;refine⟨_,(Ab (Aq (i:=2) O9.nd rfl (.inl rfl) A1)
  (Ab (K1 PassesOwn.never ((D4 (AL Eh (pv 2) (AZ (LQ rfl) (by rfl) T.z_min Mu (A0 (AZ BI (by rfl) T.z_len BK (A0 (Aa Ap (pv 0) A1 (λ_ _=>rfl)) A2)) (A0 (AZ BI (by rfl) T.z_len BK (A0 (Aa Ap (pv 1) A1 (λ_ _=>rfl)) A2)) A2))) (AG _)) (DB (AL (LX (GY hr)) (E4 K4 (Aa Ap (pv 0) A1 (λ_ _=>rfl)) EU (DH (Aj BC (pv 2) A1))) (E4 K4 (Aa Ap (pv 1) A1 (λ_ _=>rfl)) EU (DH (Aj BC (pv 2) A1))) (AG _))))).pt
  (Ae (Aq (i:=2) O9.nd rfl (.inl rfl) (Aj BC (pv 2) A1))))
  (Ae (AI (pv 2))))),?_⟩
 refine Ah λ_ zA=>?_;obtain⟨r,u1,u2,u3,u4,u5,ls,hs,rs,rfl,hr1,hu1,_,_,_,_,hu4,_⟩:=hx;obtain⟨r',v1,v2,v3,v4,v5,ls',hs',rs',rfl,hr2,hv1,_,_,_,_,hv4,_⟩:=hy;obtain⟨k1,k2,_,_⟩:=id pl;refine zA ?_;have len1:((AB R.S).map V.str).length=R.S.length:=by rw[Af,F6]
 have len2:((AB R'.S).map V.str).length=R'.S.length:=by rw[Af,F6]
 have l3:=rb.len;have ct:∀(l:List Int) (i:Nat),BU (l.map V.int) none (some ((i:Int)+1))=(l.take (i+1)).map V.int:=λl i=>by
  have:=P9 (l.map V.int) (k:=(i:Int)+1) (by lia);rw[show((i:Int)+1).toNat=i+1 by lia,←OS]at this;exact this
 refine O1 ?_;refine Dq (fun σ' H'=>A8 H H'/\σ'=[some (.ref r),some (.ref r'),some (.int (s:Int))]) (fun σ' H1 pp=>?_) (λnx=>?_)
 .obtain⟨e,rfl⟩:=pp;exact⟨_,rfl,q _ e⟩
 refine K7 s (λi σ' H'=>A8 H H'/\σ'=[some (.ref r),some (.ref r'),some (.int (i:Int))]/\i<=s) ⟨A8.refl _,rfl,Bv _⟩ (λi σ' H' hi pp=>?_) (MT.and (MT.test (ME.op (MR.i0 _) (ME.var _) (ME.cb MB.min7 (MA.cons (ME.cb MB.len (MA.cons (ME.op (MR.ixT _) (ME.var _) (ME.c _)) MA.nil)) (MA.cons (ME.cb MB.len (MA.cons (ME.op (MR.ixT _) (ME.var _) (ME.c _)) MA.nil)) MA.nil))))) (MT.test (ME.op (MR.eqX _ _) (ME.sl7 (ME.op (MR.ixT _) (ME.var _) (ME.c _)) (ME.op (MR.i0 _) (ME.var _) (ME.c _))) (ME.sl7 (ME.op (MR.ixT _) (ME.var _) (ME.c _)) (ME.op (MR.i0 _) (ME.var _) (ME.c _))))));refine Ah λ_ zB=>?_;obtain⟨e,rfl,is⟩:=pp;refine zB ?_;refine⟨_,rfl,_,rfl,r,_,0,_,rfl,rfl,A7.of (e _ _ hr1),rfl,u1,_,rfl,.inr (A7.of (e _ _ hu1)),_,rfl,r',_,0,_,rfl,rfl,A7.of (e _ _ hr2),rfl,v1,_,rfl,.inr (A7.of (e _ _ hv1)),_,_,rfl,_,_,rfl,rfl,_,rfl,?_⟩;rw[len1,len2];refine Bq (λy=>?_) (λy=>?_);rotate_left
 .have y:¬(i:Int)<(if((R'.S.length:Nat):Int)<((R.S.length:Nat):Int) then((R'.S.length:Nat):Int) else((R.S.length:Nat):Int)):=dF y;have:i=s:=by
   rcases EZ i s with c|c
   .exact absurd (by split<;>lia) y
   .lia
  subst this;exact nx _ _ ⟨e,rfl⟩
 refine⟨_,rfl,r,_,6,_,rfl,rfl,A7.of (e _ _ hr1),rfl,_,rfl,_,_,rfl,rfl,_,rfl,u4,_,rfl,e _ _ hu4,λp1 H1 e1 hp1=>?_⟩;refine⟨_,rfl,r',_,6,_,rfl,rfl,A7.of ((e.trans e1) _ _ hr2),rfl,_,rfl,_,_,rfl,rfl,_,rfl,v4,_,rfl,(e.trans e1) _ _ hv4,λp2 H2 e2 hp2=>?_⟩;have hp1:H1 p1=some (.tup (BU (R.path.map V.int) none (some ((i:Int)+1)))):=hp1;have hp2:H2 p2=some (.tup (BU (R'.path.map V.int) none (some ((i:Int)+1)))):=hp2;rw[ct]at hp1 hp2;have e02:=e.trans (e1.trans e2);refine Wq (e2 _ _ hp1) hp2 ⟨_,rfl,?_⟩;have te:=VQ rb.pl rb'.pl pl is;refine Bq (λy=>?_) (λy=>?_)
 .have c:=te.mp (Fk y);exact⟨c,_,rfl,_,_,rfl,rfl,e02,rfl,c⟩
 .have:i=s:=by
   rcases EZ i s with c|c
   .exact absurd (BB (te.mpr c)) y
   .lia
  subst this;exact nx _ _ ⟨e02,rfl⟩
theorem Me (T:Tx w K mg a):∀n:Nat,AM P w K mg base AW (n+2) a.f_b a.d_b ["_law_boughs","_law_depth"] (QY n)
 |
  0=>by
  have no:∀vs H Q E,¬QY 0 vs H Q E:=λvs H Q E h=>by
   obtain⟨l,d,m,B,_,_,_,hm,_⟩:=h;lia
  exact⟨λvs H Q E h=>absurd h (no vs H Q E),λA outer s H args us vs Q E _ _ _ _ h=>absurd h (no vs H Q E)⟩
 |
  n+1=>by
  have G_b:=Me T n;refine T.F_b.ok Hr (λvs H Q E h=>?_) (λcdv A outer s H vs Q E hr h=>?_)
  .obtain⟨_,_,_,_,rfl,_⟩:=h;rfl
  obtain⟨l,d,mm,B,rfl,⟨xs0,hl,hB⟩,hF,hmn,hd,q⟩:=h;refine⟨_,(Ab (Aq (i:=2) Hr.nd rfl (.inl rfl) (By A2))
  (Ab (Aq (i:=3) Hr.nd rfl (.inl rfl) A1)
  (Ab (K1 PassesOwn.never (AL Eh (pv 3) (AZ BI (by rfl) T.z_len BK (A0 (pv 0) A2)) (AG _))
  (Ab (Aq (i:=4) Hr.nd rfl (.inl rfl) (Aj BC (pv 3) A1))
  (Ab (Bx (AL C6 (AZ BI (by rfl) T.z_len BK (A0 (Aa AE (Aa AE (pv 0) (pv 3) (λ_ _=>rfl)) A1 (λ_ _=>rfl)) A2)) (pv 1) (AG _))
  (Ae (BG (BP BN Ce Cf C8 (pv 2) (A0 (C0 (Ac BY (Ac (Aa AE (Aa AE (pv 0) (pv 3) (λ_ _=>rfl)) A1 (λ_ _=>rfl)) (Ac (E9 Fx (by rfl) T.z_tuple F4 (A0 (Aa AE (Aa AE (pv 0) (pv 3) (λ_ _=>rfl)) A1 (λ_ _=>rfl)) A2)) Bz DL) CB) Br)) A2))))
  (Ab (K1 PassesOwn.never ((D4 (AL Eh (pv 4) (AZ BI (by rfl) T.z_len BK (A0 (pv 0) A2)) (AG _)) (DB (AL Es (Aa AE (Aa AE (pv 0) (pv 4) (λ_ _=>rfl)) A1 (λ_ _=>rfl)) (pv 1) (AG _))))).pt
  (Ae (Aq (i:=4) Hr.nd rfl (.inl rfl) (Aj BC (pv 4) A1))))
  (Ab (Aq (i:=5) Hr.nd rfl (.inl rfl) (Aa AE (Aa AE (Aa AE (pv 0) (pv 3) (λ_ _=>rfl)) A1 (λ_ _=>rfl)) (pv 1) (λ_ _=>rfl)))
  (Ae (BG (BP BN Ce Cf C8 (pv 2) (A0 (C0 (Ac BY (Ac (Aa Ap (pv 5) A1 (λ_ _=>rfl)) (Ac (Aa Ap (pv 5) A1 (λ_ _=>rfl)) (Ac (Az G_b (hr.mono (by lia)) (by rfl) T.m_b T.F_b.kp T.b_b .nil As (A0 (E4 G6 (pv 0) (DH (pv 3)) (DH (pv 4))) (A0 (Aj BC (pv 1) A1) A2))) Bz DL) CB) CB) Br)) A2)))))))
  (Ae (Aq (i:=3) Hr.nd rfl (.inl rfl) (pv 4))))))
  (Ae (AI (E9 Fx (by rfl) T.z_tuple F4 (A0 (pv 2) A2))))))),?_⟩
  have xl:=hB.1;have Bl:=hF.len;refine⟨Ai rfl,λit hit=>?_⟩;have e1:=A9 hit (.lst []);have hit1:(upd H it (.lst [])) it=some (.lst []):=A5;dsimp only[Ar];generalize upd H it (.lst [])=H1 at e1 hit1;show G8 (O6 _ _) (NK _) _ _ _;refine Dq (fun σ' H'=>∃(xs:List V) (f:AH) (o3 o4 o5:Option V),σ'=[some (.ref l),some (.int (d:Int)),some (.ref it),o3,o4,o5]/\A8 H H'/\H' it=some (.lst xs)/\Bb H' xs f/\Fo.Is f B d/\xs.length<=1000) (fun σ' H' pp=>?_) (λnx=>?_)
  .obtain⟨xs,f,o3,o4,o5,rfl,e,hx,hf,hI,xl⟩:=pp;refine⟨_,rfl,it,_,rfl,.inl ⟨A4.of hx,λt ht=>?_⟩⟩;have s1:=A9 ht (.tup xs);exact q t _ f (e.trans s1) ⟨xs,A5,Bb.over s1 hf⟩ hI
  refine K7 (B.length+1) (λj σ' H'=>∃(at':Nat) (xs:List V) (f:AH) (o4 o5:Option V),σ'=[some (.ref l),some (.int (d:Int)),some (.ref it),some (.int (at':Int)),o4,o5]/\A8 H H'/\H' it=some (.lst xs)/\Bb H' xs f/\Fo.Is f (B.take at') d/\at'<=B.length/\j<=at'/\xs.length<=at'/\(0<at'->∀c,B[at']?=some c->c.sh=d)) ⟨0,[],.nil,none,none,rfl,e1,hit1,rfl,rfl,Bv _,Al _,Al _,λz=>absurd z (Ea _)⟩ (λj σ' H' hj pp=>?_) (MT.test (ME.op (MR.i0 _) (ME.var _) (ME.cb MB.len (MA.cons (ME.var _) MA.nil))));refine Ah λ_ zA=>?_;obtain⟨at',xs,f,o4,o5,rfl,e,hx,hf,hI,hat,hja,xsl,hhd⟩:=pp;refine zA ?_;have hl':=e _ _ hl;refine⟨_,rfl,_,rfl,l,_,rfl,.inl (A4.of hl'),_,_,rfl,rfl,_,rfl,?_⟩;refine Bq (λc=>?_) (λc=>?_);rotate_left
  .have c:=dF c;have:at'=B.length:=by lia
   subst this;rw[E1]at hI;exact nx _ _ ⟨xs,f,_,_,_,rfl,e,hx,hf,hI,by lia⟩
  have c:=dT c;have hlt:at'<B.length:=by rw[xl]at c;exact Int.ofNat_lt.mp c
  refine⟨by lia,?_⟩;have Ba:B[at']?=some B[at']:=AA hlt;generalize hb:B[at']=b at Ba;refine Ah λ_ zB=>?_;obtain⟨x0,hx0,hbo⟩:=hB.get Ba;obtain⟨t,w0,p0,rfl,ht,⟨wx,hw,haw⟩,⟨px,hp,hap⟩⟩:=hbo.over e;refine zB ?_;have at0:Be xs0 (at':Int)=some (.ref t):=Bg hx0;have wxl:=haw.1;have memb:b∈B:=AY Ba;refine⟨_,rfl,_,_,rfl,rfl,?_⟩;dsimp only[Ar];refine Dq (fun σ' H'=>∃(m:Nat) (xs:List V) (f:AH) (o5:Option V),σ'=[some (.ref l),some (.int (d:Int)),some (.ref it),some (.int (at':Int)),some (.int (m:Int)),o5]/\A8 H H'/\H' it=some (.lst xs)/\Bb H' xs f/\Fo.Is f (B.take m) d/\at'<m/\m<=B.length/\xs.length<=m/\(∀c,B[m]?=some c->c.sh=d)) (fun σ' H2 pp=>?_) (λnx2=>?_)
  .obtain⟨m,xs2,f2,o5',rfl,e2,hx2,hf2,hI2,hm1,hm2,xl2,hh2⟩:=pp;exact⟨_,rfl,m,xs2,f2,_,_,rfl,e2,hx2,hf2,hI2,hm2,by lia,xl2,λ_=>hh2⟩
  refine⟨_,rfl,_,rfl,l,_,_,_,rfl,rfl,A4.of hl',at0,t,_,2,_,rfl,rfl,A4.of ht,rfl,w0,_,rfl,.inl (A4.of hw),_,rfl,rfl,_,rfl,?_⟩;rw[wxl];by_cases cd:b.ways.length=d
  .refine Bc (v:=true) (BB (congrArg (λn:Nat=>V.int (n:Int)) cd)) (BL ?_);refine⟨_,rfl,.inl ⟨rfl,_,A4.of hx⟩,_,rfl,_,rfl,l,_,_,_,rfl,rfl,A4.of hl',at0,t,_,0,_,rfl,rfl,A4.of ht,rfl,_,rfl,_,rfl,l,_,_,_,rfl,rfl,A4.of hl',at0,t,_,3,_,rfl,rfl,A4.of ht,rfl,p0,_,rfl,.inl ⟨A4.of hp,λpt hpt=>⟨Ai rfl,λr hr=>?_⟩⟩⟩;have s1:=(A9 hpt (.tup px)).trans (A9 hr (.tup [V.str "deed",V.int b.k,V.ref pt]));have hr1:(upd (upd H' pt (.tup px)) r (.tup [V.str "deed",V.int b.k,V.ref pt])) r=some (.tup [V.str "deed",V.int b.k,V.ref pt]):=A5;have hpt1:(upd (upd H' pt (.tup px)) r (.tup [V.str "deed",V.int b.k,V.ref pt])) pt=some (.tup px):=(A9 hr _) _ _ A5;generalize upd (upd H' pt (.tup px)) r (.tup [V.str "deed",V.int b.k,V.ref pt])=H2 at s1 hr1 hpt1;have hx2:=s1 _ _ hx;refine⟨it,_,_,rfl,rfl,hx2,C5 (by lia),?_⟩;have tk:TK H2 (upd H2 it (.lst (xs++[V.ref r]))):=TK.upd hx2;refine nx2 _ _ ⟨at'+1,xs++[.ref r],Fo.app f (.leaf b.k b.pl .nil),_,rfl,λa o ha=>by rw[Ak (AF ha hit)];exact s1 _ _ (e _ _ ha),A5,?_,?_,HV _,hlt,by rw[Ao,Bi];lia,λc hc=>?_⟩
   .exact Bb.tk tk (Bb.app (Bb.over s1 hf) ⟨r,pt,[],rfl,hr1,⟨px,hpt1,hap.mono λx v z=>z.over s1⟩,rfl⟩)
   .rw[Ct Ba];refine QI hI (Fo.Is.leaf1 cd) (λz c hc=>?_);cases hc;exact hhd (by rcases Nat.eq_zero_or_pos at' with z0|z0;exact absurd (by rw[z0];rfl) z;exact z0) b Ba
   .have h1:=(hF.ok.ln at' b c Ba hc).1;have h2:=hF.sh at' c hc;lia
  .refine Bc (v:=false) (C2 λz=>cd (Nd z)) (BW ?_);have hlo:=hF.lo b memb;have hhi:=hF.hi b memb;obtain⟨mn,rfl⟩:∃k,mm=k+1:=⟨mm-1,by lia⟩
   refine Dq (fun σ' H2=>H2=H'/\∃(m:Nat),σ'=[some (.ref l),some (.int (d:Int)),some (.ref it),some (.int (at':Int)),some (.int (m:Int)),o5]/\at'<m/\m<=B.length/\(∀i c,at'<i->i<m->B[i]?=some c->d<c.sh)/\(∀c,B[m]?=some c->c.sh<=d)) (fun σ' H2 pp=>?_) (λnx3=>?_);rotate_left
   .refine K7 B.length (λj σ' H2=>H2=H'/\∃(m:Nat),σ'=[some (.ref l),some (.int (d:Int)),some (.ref it),some (.int (at':Int)),some (.int (m:Int)),o5]/\m=at'+1+j/\m<=B.length/\(∀i c,at'<i->i<m->B[i]?=some c->d<c.sh)) ⟨rfl,at'+1,rfl,rfl,hlt,λi c h1 h2=>absurd h2 (Nat.not_lt.mpr h1)⟩ (λj σ' H2 hj pp=>?_) (MT.and (MT.test (ME.op (MR.i0 _) (ME.var _) (ME.cb MB.len (MA.cons (ME.var _) MA.nil)))) (MT.test (ME.op (MR.i0 _) (ME.op (MR.ixL _) (ME.op (MR.ixL _) (ME.var _) (ME.var _)) (ME.c _)) (ME.var _))));refine Ah λ_ zC=>?_;obtain⟨rfl,m,rfl,hm,hmB,hG⟩:=pp;refine zC ?_;refine⟨_,rfl,_,rfl,l,_,rfl,.inl (A4.of hl'),_,_,rfl,rfl,_,rfl,?_⟩;refine Bq (λc=>?_) (λc=>nx3 _ _ ⟨rfl,m,rfl,by lia,hmB,hG,λc' hc'=>?_⟩)
    .have c:=dT c;refine Ah λ_ zD=>?_;have hmlt:m<B.length:=by rw[xl]at c;exact Int.ofNat_lt.mp c
     have Bm:B[m]?=some B[m]:=AA hmlt;obtain⟨x1,hx1,hbo1⟩:=hB.get Bm;obtain⟨t1,w1,p1,rfl,ht1,_,_⟩:=hbo1.over e;refine zD ?_;refine⟨_,rfl,_,rfl,l,_,_,_,rfl,rfl,A4.of hl',Bg hx1,t1,_,1,_,rfl,rfl,A4.of ht1,rfl,_,rfl,_,_,rfl,rfl,_,rfl,?_⟩;refine Bq (λc=>?_) (λc=>nx3 _ _ ⟨rfl,m,rfl,by lia,hmB,hG,λc' hc'=>?_⟩)
     .have c:=dT c;refine⟨by lia,_,rfl,_,_,rfl,rfl,rfl,m+1,rfl,by lia,hmlt,λi c' h1 h2 h3=>?_⟩;by_cases z:i=m
      .subst z;rw[Bm]at h3;cases h3;lia
      .exact hG i c' h1 (by lia) h3
     .have c:=dF c;rw[Bm]at hc';cases hc';lia
    .have c:=dF c;have:=(Ax.mp hc').1;lia
   refine Ah λ_ zE=>?_;obtain⟨rfl,m,rfl,hm1,hm2,hG,hend⟩:=pp;have hwd:d<b.ways.length:=Nat.lt_of_le_of_ne hlo (Ne.symm cd);have Wd:b.ways[d]?=some b.ways[d]:=AA hwd;obtain⟨xw,hxw,tw,rfl,htw⟩:=haw.get Wd;refine zE ?_;refine⟨_,rfl,_,rfl,l,_,_,_,rfl,rfl,A4.of hl',at0,t,_,2,_,rfl,rfl,A4.of ht,rfl,_,rfl,w0,_,_,_,rfl,rfl,A4.of hw,Bg hxw,?_⟩;refine⟨_,rfl,.inl ⟨rfl,_,A4.of hx⟩,_,rfl,tw,_,0,_,rfl,rfl,A7.of htw,rfl,_,rfl,tw,_,1,_,rfl,rfl,A7.of htw,rfl,?_⟩;have cy:BU xs0 (some (at':Int)) (some (m:Int))=(xs0.drop at').take (m-at'):=by
    have:BU xs0 (some (at':Int)) (some (m:Int))=(xs0.drop (at':Int).toNat).take ((m:Int).toNat-(at':Int).toNat):=Qh xs0 (OX _) (OX _) (by rw[xl];exact Int.ofNat_le.mpr hm2) (Int.ofNat_le.mpr (Fc hm1));rw[this,Ff,Ff]
   refine⟨_,rfl,_,rfl,_,rfl,_,rfl,_,rfl,l,_,rfl,A4.of hl',λsl hsl=>?_⟩;have s1:=A9 hsl (.lst (BU xs0 (some (at':Int)) (some (m:Int))));have hsl1:(upd H2 sl (.lst (BU xs0 (some (at':Int)) (some (m:Int))))) sl=some (.lst ((xs0.drop at').take (m-at'))):=by rw[←cy];exact A5
   generalize upd H2 sl (.lst (BU xs0 (some (at':Int)) (some (m:Int))))=H3 at s1 hsl1;refine⟨_,rfl,_,_,rfl,rfl,sl,d+1,mn,(B.drop at').take (m-at'),rfl,⟨_,hsl1,((hB.mono λx v z=>z.over (e.trans s1)).drop at').take (m-at')⟩,hF.group Ba cd hm1 hG,by lia,by lia,λr H4 f' e4 hf' hI'=>⟨Ai rfl,λr2 hr2=>?_⟩⟩;have s5:=A9 hr2 (.tup [V.str "sweep",V.bl (b.ways[d]).1,V.str (b.ways[d]).2,V.ref r]);have hr5:(upd H4 r2 (.tup [V.str "sweep",V.bl (b.ways[d]).1,V.str (b.ways[d]).2,V.ref r])) r2=some (.tup [V.str "sweep",V.bl (b.ways[d]).1,V.str (b.ways[d]).2,V.ref r]):=A5;have e5:=(s1.trans e4).trans s5;have hf5:=hf'.over s5;generalize upd H4 r2 (.tup [V.str "sweep",V.bl (b.ways[d]).1,V.str (b.ways[d]).2,V.ref r])=H5 at e5 hr5 hf5;have hx5:=e5 _ _ hx;refine⟨it,_,_,rfl,rfl,hx5,C5 (by lia),?_⟩;refine Ah λ_ zF=>?_;have tk:TK H5 (upd H5 it (.lst (xs++[V.ref r2]))):=TK.upd hx5;obtain⟨zs,hz1,hz2⟩:=hf5;refine zF ?_;refine nx2 _ _ ⟨m,xs++[.ref r2],Fo.app f (.node (b.ways[d]).1 (b.ways[d]).2 f' .nil),_,rfl,λa o ha=>by rw[Ak (AF ha hit)];exact e5 _ _ (e _ _ ha),A5,?_,?_,hm1,hm2,by rw[Ao,Bi];lia,λc hc=>?_⟩
   .exact Bb.tk tk (Bb.app (Bb.over e5 hf) ⟨r2,r,zs,[],rfl,hr5,hz1,hz2,rfl⟩)
   .rw[←Y4 B (Fc hm1)];have sl1:(B.drop at').take (m-at')=b::(B.drop (at'+1)).take (m-at'-1):=by
     rw[Jl hlt,hb];obtain⟨k,hk⟩:∃k,m-at'=k+1:=⟨m-at'-1,by lia⟩
     rw[hk];rfl
    rw[sl1]at hI' ⊢;refine QI hI (Fo.Is.node1 Wd (λc hc=>?_) hI') (λz c hc=>?_)
    .obtain⟨i,hi⟩:=DG.mp hc;have l2:=(Ax.mp hi).1;rw[BE]at l2;rw[HW (by lia),MS]at hi;exact hG (at'+1+i) c (by lia) (by lia) hi
    .cases hc;exact hhd (by rcases Nat.eq_zero_or_pos at' with z0|z0;exact absurd (by rw[z0];rfl) z;exact z0) b Ba
   .have h1:=hend c hc;have h2:=hF.sh (m-1) c (by rw[show m-1+1=m by lia];exact hc);lia
theorem WD (T:Tx w K mg a):AM P w K mg base AW 2 a.f_O a.d_O ["_law_rows_here"] c7:=by
 have G_N :=@aE P w K mg base a T;refine T.F_O.ok Ik (λvs H Q E h=>?_) (λcdv A outer s H vs Q E hr h=>?_)
 .obtain⟨_,_,_,_,rfl,_⟩:=h;rfl
 obtain⟨l,xs,Rs,sh,rfl,hl,ax,own,q⟩:=h;refine⟨_,(Ab (Aq (i:=1) Ik.nd rfl (.inl rfl) (By A2))
  (Ab (Ca PassesOwn.never rfl (FC (by rfl) T.z_range (A0 (AZ BI (by rfl) T.z_len BK (A0 (pw 0) A2)) A2)) (AD (i:=2) Ik.nd rfl (.inl rfl))
  (Ab (Aq (i:=3) Ik.nd rfl (.inl rfl) (AZ BI (by rfl) T.z_len BK (A0 (Aa Ap (Aa AE (pw 0) (pw 2) (λ_ _=>rfl)) A1 (λ_ _=>rfl)) A2)))
  (Ab (Aq (i:=4) Ik.nd rfl (.inl rfl) A1)
  (Ab (Bx (AL (B3 Es) (pw 2) A1 (AG _))
  (Ae (Aq (i:=4) Ik.nd rfl (.inl rfl) (Az G_N (hr.mono (by lia)) (by rfl) T.m_N T.F_N.kp T.b_N .nil As (A0 (Aa AE (pw 0) (Aj (B3 Et) (pw 2) A1) (λ_ _=>rfl)) (A0 (Aa AE (pw 0) (pw 2) (λ_ _=>rfl)) A2)))))
  BJ)
  (Ae (BG (BP BN Ce Cf C8 (pw 1) (A0 (By (A0 (pw 2) (A0 (pw 4) (A0 (Aj Nj (By (A0 (BS (A0 DI (A0 BY A2))) A2)) (pw 3)) (A0 (F7 ["_law_e"] [none] (by rfl) (FC (by rfl) T.z_range (A0 (pw 3) A2)) ZY (λ_ _ _ _ _ _=>⟨(AD (i:=0) Xc rfl (.inl rfl)),EL,(BS (A0 (pw 0) (A0 A1 A2)))⟩)) A2))))) A2))))))))
  (Ae (AI (pw 1))))),?_⟩
 have xl:=ax.1;have n6:=own.n6;refine⟨Ai rfl,λbo hbo=>?_⟩;have s1:=A9 hbo (.lst []);have hb1:(upd H bo (.lst [])) bo=some (.lst []):=A5;dsimp only[Ar];generalize upd H bo (.lst [])=H1 at s1 hb1;refine⟨l,_,rfl,.inl (A4.of (s1 _ _ hl)),_,rfl,by lia,by lia,?_⟩;rw[Ff,xl];refine Gz (lo:=0) (n:=Rs.length) (λi σ' H'=>∃(ys:List V) (o2 o3 o4:Option V),σ'=[some (.ref l),some (.ref bo),o2,o3,o4]/\A8 H H'/\H' bo=some (.lst ys)/\Am (Hg (wo H' bo)) ys ((B7 Rs sh).take i)/\ys.length=i) ⟨[],_,_,_,rfl,s1,hb1,.nil,rfl⟩ (λi σ' H' hi pp=>?_) (fun σ' H' pp=>?_);rotate_left
 .obtain⟨ys,o2,o3,o4,rfl,e,hb,ab,yl⟩:=pp;refine q bo _ e ⟨ys,hb,?_⟩;rw[EY (by rw[Af,CI,Af];exact Al _)]at ab;exact ab.mono λ_ _ z=>z.over Uq
 refine Ah λ_ zA=>?_;obtain⟨ys,o2,o3,o4,rfl,e,hb,ab,yl⟩:=pp;refine zA ?_;have hR:=(own.get hi).1;generalize hRe:Rs[i]=R at hR;refine Ah λ_ zB=>?_;obtain⟨x,hx,h6⟩:=ax.get hR;obtain⟨r,u1,u2,u3,u4,u5,ls,hs,rs,ex,hr1,hu1,hrest⟩:=id h6;refine zB ?_;have rb:=own.rb R (AY hR);have l3:=rb.len;have at0:Be xs (0+(i:Int))=some (.ref r):=by rw[GM,←ex];exact Bg hx
 have ml:((AB R.S).map V.str).length=R.S.length:=by rw[Af,F6]
 dsimp only[Ar];refine⟨l,_,_,_,rfl,rfl,A4.of (e _ _ hl),at0,r,_,0,_,rfl,rfl,A7.of (e _ _ hr1),rfl,u1,_,rfl,.inr (A7.of (e _ _ hu1)),?_⟩;dsimp only[Ar];rw[ml];refine O1 ?_;refine Dq (fun σ' H2=>A8 H' H2/\σ'=[some (.ref l),some (.ref bo),some (.int (0+(i:Int))),some (.int ((R.S.length:Nat):Int)),some (.int ((sh i:Nat):Int))]) (fun σ' H2 pp=>?_) (λnx=>?_);rotate_left
 .refine⟨_,rfl,?_⟩;refine Bq (λy=>?_) (λy=>?_)
  .have y:(0:Int)<0+(i:Int):=dT y;refine Ah λ_ zC=>?_;obtain⟨j,rfl⟩:∃j,i=j+1:=⟨i-1,by lia⟩
   have hR0:=(own.get (k:=j) (by lia)).1;obtain⟨x0,hx0,h60⟩:=ax.get hR0;refine zC ?_;have p:=own.pl j _ R hR0 hR;have at1:Be xs (0+((j+1:Nat):Int)-1)=some x0:=by rw[show(0+((j+1:Nat):Int)-1)=(j:Int) by lia];exact Bg hx0
   refine⟨l,_,_,_,rfl,rfl,A4.of (e _ _ hl),at1,l,_,_,_,rfl,rfl,A4.of (e _ _ hl),at0,x0,.ref r,_,R,sh (j+1),rfl,h60.tk (A8.tk e),by rw[←ex];exact h6.tk (A8.tk e),(own.get (k:=j) (by lia)).2,rb,p,λH2 e2=>nx _ _ ⟨e2,rfl⟩⟩
  .have y:¬(0:Int)<0+(i:Int):=dF y;obtain rfl:i=0:=by lia
   exact nx _ _ ⟨A8.refl _,by rw[own.s0];rfl⟩
 obtain⟨e2,rfl⟩:=pp;have hb2:=e2 _ _ hb;have gb:=ER (sh:=sh) hi;have mo:=m7 hR;refine⟨.inl ⟨rfl,_,A4.of hb2⟩,Ai rfl,λu hu=>?_⟩;have s3:=A9 hu (.tup [V.bl false,V.str "up"]);have hu3:(upd H2 u (.tup [V.bl false,V.str "up"])) u=some (.tup [V.bl false,V.str "up"]):=A5;have e3:=e2.trans s3;have hb3:=s3 _ _ hb2;generalize upd H2 u (.tup [V.bl false,V.str "up"])=H3 at s3 hu3 e3 hb3;refine⟨Ai rfl,λu1 hu1=>?_⟩;have s4:=A9 hu1 (.lst [V.ref u]);have hu4:(upd H3 u1 (.lst [V.ref u])) u1=some (.lst [V.ref u]):=A5;have e4:=e3.trans s4;have hb4:=s4 _ _ hb3;have hv4:=s4 _ _ hu3;generalize upd H3 u1 (.lst [V.ref u])=H4 at s4 hu4 e4 hb4 hv4;refine⟨u1,_,_,rfl,rfl,hu4,by lia,by lia,Bp (by show 1*_<=1000000;lia),λw hw=>?_⟩;rw[Ff,List.flatten_replicate_singleton];have s5:=A9 hw (.lst (List.replicate R.S.length (V.ref u)));have hw5:(upd H4 w (.lst (List.replicate R.S.length (V.ref u)))) w=some (.lst (List.replicate R.S.length (V.ref u))):=A5;have e5:=e4.trans s5;have hb5:=s5 _ _ hb4;have hv5:=s5 _ _ hv4;have nw:w≠bo:=λz=>by rw[z,hb4]at hw;cases hw
 generalize upd H4 w (.lst (List.replicate R.S.length (V.ref u)))=H5 at s5 hw5 e5 hb5 hv5;refine⟨(R.S.length:Int),rfl,by lia,by lia,?_⟩;rw[show((R.S.length:Int)).toNat=R.S.length by lia];refine PZ (lo:=0) (n:=R.S.length) (λj zs' H6=>A8 H5 H6/\Am (E7 H6) zs' ((Fo.ownP R.S.length).take j)) ⟨A8.refl _,.nil⟩ (Bp (by lia)) (λj zs' H6 hj pp=>by rw[pp.2.1,BE,Ee];lia) (λj zs' H6 hj pp=>?_) (λzs' H6 pp l2 hl2=>?_)
 .obtain⟨e6,ap⟩:=pp;rw[GM];refine⟨Ai rfl,λu2 hu2=>?_⟩;have s7:=A9 hu2 (.tup [V.int (j:Int),V.int 0]);refine⟨e6.trans s7,?_⟩;rw[ZV _ j hj];exact(ap.mono λ_ _ z=>z.over s7).snoc ⟨u2,rfl,A5⟩
 obtain⟨e6,ap⟩:=pp;rw[EY (by rw[Ee];exact Al _)]at ap;have hb6:=e6 _ _ hb5;have np:l2≠bo:=λz=>by rw[z,hb6]at hl2;cases hl2
 have s7:=A9 hl2 (.lst zs');have hp7:(upd H6 l2 (.lst zs')) l2=some (.lst zs'):=A5;have ap7:=ap.mono λ_ _ z=>z.over s7;have e7:=(e5.trans e6).trans s7;have hw7:=(e6.trans s7) _ _ hw5;have hv7:=(e6.trans s7) _ _ hv5;have hb7:=s7 _ _ hb6;generalize upd H6 l2 (.lst zs')=H7 at s7 hp7 ap7 e7 hw7 hv7 hb7;refine⟨Ai rfl,λt ht=>?_⟩;have nt:t≠bo:=λz=>by rw[z,hb7]at ht;cases ht
 have s8:=A9 ht (.lst [V.int (0+(i:Int)),V.int ((sh i:Nat):Int),V.ref w,V.ref l2]);have ht8:(upd H7 t (.lst [V.int (0+(i:Int)),V.int ((sh i:Nat):Int),V.ref w,V.ref l2])) t=some (.lst [V.int (0+(i:Int)),V.int ((sh i:Nat):Int),V.ref w,V.ref l2]):=A5;have e8:=e7.trans s8;have hb8:=s8 _ _ hb7;have hw8:=s8 _ _ hw7;have hv8:=s8 _ _ hv7;have hp8:=s8 _ _ hp7;have ap8:=ap7.mono λ_ _ z=>z.over s8;generalize upd H7 t (.lst [V.int (0+(i:Int)),V.int ((sh i:Nat):Int),V.ref w,V.ref l2])=H8 at s8 ht8 e8 hb8 hw8 hv8 hp8 ap8;refine⟨bo,_,_,rfl,rfl,hb8,C5 (by lia),?_⟩;refine⟨ys++[.ref t],_,_,_,rfl,λb o hbb=>?_,A5,?_,by rw[Ao,yl];rfl⟩
 .have nb:b≠bo:=λz=>by rw[z,hbo]at hbb;cases hbb
  rw[Ak nb];exact(e.trans e8) _ _ hbb
 rw[NP,Ct gb];refine(ab.mono λ_ _ z=>z.over (GS e8)).snoc ?_;refine Wb hb8 nt nw np (by rw[ht8,GM];rfl) ⟨_,hw8,?_⟩ ⟨_,hp8,?_⟩
 .show Am _ _ (List.replicate (AS (Rs.map R3.dw) i) (false,("up":Str)));rw[mo];refine⟨by rw[Dl,Dl],?_⟩;intro j x b hx hb';rw[Tg (AY hx),Tg (AY hb')];exact⟨u,rfl,hv8⟩
 .show Am _ _ (Fo.ownP (AS (Rs.map R3.dw) i));rw[mo];exact ap8
theorem X3 (T:Tx w K mg a):AM P w K mg base AW 10 a.f_a a.d_a ["_law_boughs","_law_p","_law_bough"] Q3:=by
 have G_b :=@Me P w K mg base a T 7;refine T.F_a.ok UF (λvs H Q E h=>?_) (λcdv A outer s H vs Q E hr h=>?_)
 .obtain⟨_,_,_,_,_,rfl,_⟩:=h;rfl
 obtain⟨l,p,x,B,b,rfl,⟨xs,hl,ax⟩,hp,hb,frm,q⟩:=h;refine⟨_,(Ae (AI (Az G_b (hr.mono (by lia)) (by rfl) T.m_b T.F_b.kp T.b_b .nil As (A0 (Aj Ei (Aj Ei (E4 G6 (pw 0) EU (DH (pw 1))) (By (A0 (pw 2) A2))) (E4 G6 (pw 0) (DH (Aj (B3 BC) (pw 1) A1)) EU)) (A0 A1 A2))))),?_⟩;have xl:=ax.1;have b6:=frm.len;rw[I0]at b6;refine⟨_,rfl,l,_,rfl,A4.of hl,λl1 h1=>?_⟩;rw[TL (by lia)];have s1:=A9 h1 (.lst (xs.take p));have g1:(upd H l1 (.lst (xs.take p))) l1=some (.lst (xs.take p)):=A5;generalize upd H l1 (.lst (xs.take p))=H1 at s1 g1;refine⟨Ai rfl,λl2 h2=>?_⟩;have s2:=A9 h2 (.lst [x]);have g2:(upd H1 l2 (.lst [x])) l2=some (.lst [x]):=A5;have g12:=s2 _ _ g1;generalize upd H1 l2 (.lst [x])=H2 at s2 g2 g12;have tl:(xs.take p).length<=6:=by rw[BE];lia
 refine⟨l1,l2,_,_,rfl,rfl,g12,g2,Bp (by show _+1<=1000000;lia),λl3 h3=>?_⟩;have s3:=A9 h3 (.lst (xs.take p++[x]));have g3:(upd H2 l3 (.lst (xs.take p++[x]))) l3=some (.lst (xs.take p++[x])):=A5;have e3:=s1.trans (s2.trans s3);generalize upd H2 l3 (.lst (xs.take p++[x]))=H3 at s3 g3 e3;refine⟨_,rfl,l,_,rfl,A4.of (e3 _ _ hl),λl4 h4=>?_⟩;rw[show((p:Int)+1)=((p+1:Nat):Int) by lia,YA];have s4:=A9 h4 (.lst (xs.drop (p+1)));have g4:(upd H3 l4 (.lst (xs.drop (p+1)))) l4=some (.lst (xs.drop (p+1))):=A5;have g34:=s4 _ _ g3;generalize upd H3 l4 (.lst (xs.drop (p+1)))=H4 at s4 g4 g34;refine⟨l3,l4,_,_,rfl,rfl,g34,g4,Bp (by rw[Ao,FG];show _+1+_<=1000000;lia),λl5 h5=>?_⟩;have s5:=A9 h5 (.lst (xs.take p++[x]++xs.drop (p+1)));have e5:=e3.trans (s4.trans s5);refine⟨l5,0,3,B.set p b,rfl,⟨_,A5,Va (ax.mono λ_ _ z=>z.over e5) hp (hb.over e5)⟩,frm,by decide,by decide,λr H' f e hr hI=>q r H' f (e5.trans e) hr hI⟩
theorem WG (T:Tx w K mg a):AM P w K mg base AW 12 a.f_P a.d_P ["_law_boughs","_law_kind","_law_p"] Yp:=by
 have G_b :=@Me P w K mg base a T 7;have G_a :=@X3 P w K mg base a T;refine T.F_P.ok Mr (λvs H Q E h=>?_) (λcdv A outer s H vs Q E hr h=>?_)
 .obtain⟨_,_,_,_,_,rfl,_⟩:=h;rfl
 obtain⟨l,kind,p,Rs,sh,rfl,⟨xs,hl,ax⟩,own,hp,q⟩:=h;refine⟨_,(Ab (Aq (i:=3) Mr.nd rfl (.inl rfl) (Aa AE (Aa AE (pw 0) (pw 2) (λ_ _=>rfl)) A1 (λ_ _=>rfl)))
  (Ab (Aq (i:=4) Mr.nd rfl (.inl rfl) (Aa AE (Aa AE (pw 0) (pw 2) (λ_ _=>rfl)) A1 (λ_ _=>rfl)))
  (Ab (Bx ((D4 (AL C6 (pw 1) A1 (AG _)) (DB (AL (B3 Es) (AZ BI (by rfl) T.z_len BK (A0 (pw 0) A2)) A1 (AG _))))).pt
  (Ae (AI (Az G_a (hr.mono (by lia)) (by rfl) T.m_a T.F_a.kp T.b_a .nil As (A0 (pw 0) (A0 (pw 2) (A0 (Aj Ei (By (A0 (Aa AE (Aa AE (pw 0) (Aj (B3 Et) (pw 2) A1) (λ_ _=>rfl)) A1 (λ_ _=>rfl)) A2)) (E4 G6 (Aa AE (pw 0) (pw 2) (λ_ _=>rfl)) (DH A1) EU)) A2))))))
  BJ)
  (Ab (Bx (AL C6 (pw 1) A1 (AG _))
  (Ae (AI (Aj Je (Az G_b (hr.mono (by lia)) (by rfl) T.m_b T.F_b.kp T.b_b .nil As (A0 (pw 0) (A0 A1 A2))) (BS (A0 (C0 (Ac BY (Ac (pw 3) (Ac (E9 Fx (by rfl) T.z_tuple F4 (A0 (pw 4) A2)) Bz DL) B5) Br)) A2)))))
  BJ)
  (Ab (Bx (AL C6 (pw 1) A1 (AG _))
  (Ae (AI (Az G_a (hr.mono (by lia)) (by rfl) T.m_a T.F_a.kp T.b_a .nil As (A0 (pw 0) (A0 (pw 2) (A0 (Aj Ei (By (A0 (Aj (B3 BC) (pw 3) (AZ BI (by rfl) T.z_len BK (A0 (pw 0) A2))) A2)) (E4 G6 (Aa AE (pw 0) (pw 2) (λ_ _=>rfl)) (DH A1) EU)) A2))))))
  BJ)
  (Ab (Bx (AL C6 (pw 1) A1 (AG _))
  (Ae (AI (Aj Je (Az G_b (hr.mono (by lia)) (by rfl) T.m_b T.F_b.kp T.b_b .nil As (A0 (pw 0) (A0 A1 A2))) (BS (A0 (C0 (Ac BY (Ac DI (Ac BY (Ac (BS A2) Bz Wy) Br) Br) Br)) A2)))))
  BJ)
  (Ab (Bx ((D4 (AL C6 (pw 1) A1 (AG _)) (DB (AL (NJ (GY hr)) (pw 4) (By A2) (AG _))))).pt
  (Ae (AI (Az G_a (hr.mono (by lia)) (by rfl) T.m_a T.F_a.kp T.b_a .nil As (A0 (pw 0) (A0 (pw 2) (A0 (GF (Ac (pw 3) (Ac (Aa AE (Aa AE (pw 0) (pw 2) (λ_ _=>rfl)) A1 (λ_ _=>rfl)) (Ac (Aa AE (Aa AE (pw 0) (pw 2) (λ_ _=>rfl)) A1 (λ_ _=>rfl)) (Ac (E4 G6 (pw 4) EU (DH (Dz DD A1))) Bz CB) CB) CB) B5)) A2))))))
  BJ)
  (Ab (Bx ((D4 (AL C6 (pw 1) A1 (AG _)) (DB (AL (NJ (GY hr)) (pw 4) (By A2) (AG _))))).pt
  (Ab (Aq (i:=5) Mr.nd rfl (.inl rfl) (Aj Ei (E4 G6 (pw 4) EU (DH (Dz DD A1))) (By (A0 (BS (A0 (Aj (B3 BC) (Aa Ap (Aa AE (pw 4) (Dz DD A1) (λ_ _=>rfl)) A1 (λ_ _=>rfl)) A1) (A0 A1 A2))) A2))))
  (Ae (AI (Az G_a (hr.mono (by lia)) (by rfl) T.m_a T.F_a.kp T.b_a .nil As (A0 (pw 0) (A0 (pw 2) (A0 (GF (Ac (pw 3) (Ac (Aa AE (Aa AE (pw 0) (pw 2) (λ_ _=>rfl)) A1 (λ_ _=>rfl)) (Ac (Aa AE (Aa AE (pw 0) (pw 2) (λ_ _=>rfl)) A1 (λ_ _=>rfl)) (Ac (pw 5) Bz B5) CB) CB) B5)) A2)))))))
  BJ)
  (Ab (Bx ((D4 (AL C6 (pw 1) A1 (AG _)) (DB (AL (B3 Es) (AZ BI (by rfl) T.z_len BK (A0 (pw 4) A2)) A1 (AG _))))).pt
  (Ae (AI (Az G_a (hr.mono (by lia)) (by rfl) T.m_a T.F_a.kp T.b_a .nil As (A0 (pw 0) (A0 (pw 2) (A0 (GF (Ac (pw 3) (Ac (Aa AE (Aa AE (pw 0) (pw 2) (λ_ _=>rfl)) A1 (λ_ _=>rfl)) (Ac (Aa AE (Aa AE (pw 0) (pw 2) (λ_ _=>rfl)) A1 (λ_ _=>rfl)) (Ac (By (A0 (Aa AE (pw 4) A1 (λ_ _=>rfl)) (A0 (Aa AE (pw 4) A1 (λ_ _=>rfl)) A2))) Bz Vq) CB) CB) B5)) A2))))))
  BJ)
  (Ae (AI (Az G_a (hr.mono (by lia)) (by rfl) T.m_a T.F_a.kp T.b_a .nil As (A0 (pw 0) (A0 (pw 2) (A0 (GF (Ac (pw 3) (Ac (Aa AE (Aa AE (pw 0) (pw 2) (λ_ _=>rfl)) A1 (λ_ _=>rfl)) (Ac (Aa AE (Aa AE (pw 0) (pw 2) (λ_ _=>rfl)) A1 (λ_ _=>rfl)) (Ac (Aj Ei (pw 4) (By (A0 (BS (A0 A1 (A0 A1 A2))) A2))) Bz Ec) CB) CB) B5)) A2))))))))))))))),?_⟩
 have xl:=ax.1;rw[Ge]at xl;refine Ah λ_ zA=>?_;have n6:=own.n6;have frm:=LP own;obtain⟨x,hx,t,wy,pr,rfl,ht,hw,hpr⟩:=ax.get (ER hp);refine zA ?_;have m3:AS (Rs.map R3.dw) p<=3:=by rw[m7 (own.get hp).1];exact(own.get hp).2.len
 have ht:H t=some (.lst [V.int (p:Int),V.int (sh p:Int),V.ref wy,V.ref pr]):=ht;have hpr:HR H pr (Fo.ownP (AS (Rs.map R3.dw) p)):=hpr;have hw:Ir H wy (List.replicate (AS (Rs.map R3.dw) p) (false,("up":Str))):=hw;have wl:(Fo.ownP (AS (Rs.map R3.dw) p)).length=AS (Rs.map R3.dw) p:=Ee _;have bs:∀{H':Hp},A8 H H'->GD H' l (B7 Rs sh):=λe=>⟨xs,e _ _ hl,ax.mono λ_ _ z=>z.over e⟩
 have fin:∀{H':Hp} {x':Addr} {k':Int} {q':Addr} {pl':List (Int×Int)},A8 H H'->H' x'=some (.lst [V.int k',V.int (sh p:Int),V.ref wy,V.ref q'])->HR H' q' pl'->pl'.length<=6->(k'≠(p:Int)\/(k'=(p:Int)/\¬F5 (AS (Rs.map R3.dw) p) pl' (List.replicate (AS (Rs.map R3.dw) p) false)))->Q3 [.ref l,.int (p:Int),.ref x'] H' Q E0:=fun{H' x' k' q' pl'} e hx' hq hl' hb=>⟨l,p,.ref x',B7 Rs sh,wB Rs sh p k' pl',rfl,bs e,by rw[Ge];exact hp,⟨x',wy,q',rfl,hx',hw.over e,hq⟩,RX own hp hl',λr H2 f e2 hr hI=>q r H2 f (e.trans e2) hr (Ut own hp hl' hI hb)⟩
 refine⟨l,_,_,_,rfl,rfl,A4.of hl,Bg hx,t,_,0,_,rfl,rfl,A4.of ht,rfl,?_⟩;dsimp only[Ar];refine⟨l,_,_,_,rfl,rfl,A4.of hl,Bg hx,t,_,3,_,rfl,rfl,A4.of ht,rfl,?_⟩;dsimp only[Ar];refine Iu (λHX=>A8 H HX) (λH1 e1=>?_) (λels=>?_);rotate_left
 .refine⟨rfl,_,rfl,Bq (λ_=>?_) (λ_=>els _ (A8.refl _))⟩;refine⟨l,_,rfl,.inl (A4.of hl),_,rfl,Bq (λc=>?_) (λ_=>els _ (A8.refl _))⟩;refine Ah λ_ zB=>?_;have c:(1:Int)<((xs.length:Nat):Int):=dT c;obtain⟨p',hp',np,ep⟩:=aq (xs:=xs) (p:=p) (by lia) (by lia);obtain⟨y,hy,t',wy',pr',rfl,ht',_⟩:=ax.get (ER (sh:=sh) (show p'<Rs.length by lia));refine zB ?_;have ht':H t'=some (.lst [V.int (p':Int),V.int (sh p':Int),V.ref wy',V.ref pr']):=ht';refine⟨l,_,_,_,rfl,rfl,A4.of hl,ep.trans hy,t',_,0,_,rfl,rfl,A4.of ht',rfl,Ai rfl,λl1 h1=>?_⟩;have s1:=A9 h1 (.lst [V.int (p':Int)]);have g1:(upd H l1 (.lst [V.int (p':Int)])) l1=some (.lst [V.int (p':Int)]):=A5;generalize upd H l1 (.lst [V.int (p':Int)])=HA at s1 g1;have eA:=(A8.refl H).trans s1;refine⟨l,_,_,_,rfl,rfl,A4.of (eA _ _ hl),Bg hx,_,rfl,t,_,rfl,A4.of (eA _ _ ht),λl2 h2=>?_⟩;rw[show BU [V.int (p:Int),V.int (sh p:Int),V.ref wy,V.ref pr] (some 1) none=[V.int (sh p:Int),V.ref wy,V.ref pr] from rfl];have s2:=A9 h2 (.lst [V.int (sh p:Int),V.ref wy,V.ref pr]);have g2:(upd HA l2 (.lst [V.int (sh p:Int),V.ref wy,V.ref pr])) l2=some (.lst [V.int (sh p:Int),V.ref wy,V.ref pr]):=A5;have g12:=s2 _ _ g1;have eB:=eA.trans s2;generalize upd HA l2 (.lst [V.int (sh p:Int),V.ref wy,V.ref pr])=HB at s2 g2 g12 eB;refine⟨l1,l2,_,_,rfl,rfl,g12,g2,Ai rfl,λl3 h3=>?_⟩;have s3:=A9 h3 (.lst ([V.int (p':Int)]++[V.int (sh p:Int),V.ref wy,V.ref pr]));exact fin (eB.trans s3) A5 (hpr.over (eB.trans s3)) (by lia) (.inl (by lia))
 dsimp only[Fu];have big:∀{H':Hp} {r:Addr} {f:AH},DA H' r f->Fo.Is f (B7 Rs sh) 0->∃ys,H' r=some (.tup ys)/\Bb H' ys f/\ys.length<=30:=fun{H' r f} hr hI=>by
  obtain⟨ys,h1,h2⟩:=hr;have:=Lo h2;have:=(KO own (by lia) hI).2.2.1;exact⟨ys,h1,h2,by lia⟩
 refine⟨rfl,_,rfl,Bq (λ_=>?_) (λ_=>?_)⟩
 .refine⟨l,0,3,B7 Rs sh,rfl,bs e1,frm,by decide,by decide,λr H2 f e2 hr' hI=>?_⟩;refine Ah λ_ zC=>?_;have e02:=e1.trans e2;obtain⟨zs,hz1,hz2⟩:=hpr.over e02;refine zC ?_;refine⟨pr,_,rfl,.inl ⟨A4.of hz1,λl2 h2=>⟨Ai rfl,λt3 h3=>⟨Ai rfl,λt4 h4=>?_⟩⟩⟩⟩;have s2:=A9 h2 (.tup zs);have s3:=A9 h3 (.tup [V.str "deed",V.int (p:Int),V.ref l2]);have s4:=A9 h4 (.tup [V.ref t3]);have g2:(upd H2 l2 (.tup zs)) l2=some (.tup zs):=A5;have g3:(upd (upd H2 l2 (.tup zs)) t3 (.tup [V.str "deed",V.int (p:Int),V.ref l2])) t3=some (.tup [V.str "deed",V.int (p:Int),V.ref l2]):=A5;have g4:(upd (upd (upd H2 l2 (.tup zs)) t3 (.tup [V.str "deed",V.int (p:Int),V.ref l2])) t4 (.tup [V.ref t3])) t4=some (.tup [V.ref t3]):=A5;have g2:=s4 _ _ (s3 _ _ g2);have g3:=s4 _ _ g3;have s24:=s2.trans (s3.trans s4);generalize upd (upd (upd H2 l2 (.tup zs)) t3 (.tup [V.str "deed",V.int (p:Int),V.ref l2])) t4 (.tup [V.ref t3])=H4 at g2 g3 g4 s24;refine Ah λ_ zD=>?_;obtain⟨ys,hy1,hy2,yl⟩:=big (hr'.over s24) hI;refine zD ?_;refine⟨r,t4,_,_,rfl,rfl,hy1,g4,Bp (by show _+1<=1000000;lia),λrr HX eX hrr=>?_⟩;refine q rr HX (Fo.app f (.leaf (p:Int) (Fo.ownP (AS (Rs.map R3.dw) p)) .nil)) (e02.trans (s24.trans eX)) ⟨_,hrr,Bb.app (Bb.over eX hy2) ⟨t3,l2,[],rfl,eX _ _ g3,⟨zs,eX _ _ g2,hz2.mono λ_ _ z=>(z.over s24).over eX⟩,rfl⟩⟩ (Y3 own (by lia) hI (by lia))
 dsimp only[Fu];refine⟨rfl,_,rfl,Bq (λ_=>?_) (λ_=>?_)⟩
 .refine⟨l,_,rfl,.inl (A4.of (e1 _ _ hl)),Ai rfl,λl1 h1=>?_⟩;have s1:=A9 h1 (.lst [V.int ((p:Int)+((xs.length:Nat):Int))]);have g1:(upd H1 l1 (.lst [V.int ((p:Int)+((xs.length:Nat):Int))])) l1=some (.lst [V.int ((p:Int)+((xs.length:Nat):Int))]):=A5;generalize upd H1 l1 (.lst [V.int ((p:Int)+((xs.length:Nat):Int))])=HA at s1 g1;have eA:=e1.trans s1;refine⟨l,_,_,_,rfl,rfl,A4.of (eA _ _ hl),Bg hx,_,rfl,t,_,rfl,A4.of (eA _ _ ht),λl2 h2=>?_⟩;rw[show BU [V.int (p:Int),V.int (sh p:Int),V.ref wy,V.ref pr] (some 1) none=[V.int (sh p:Int),V.ref wy,V.ref pr] from rfl];have s2:=A9 h2 (.lst [V.int (sh p:Int),V.ref wy,V.ref pr]);have g2:(upd HA l2 (.lst [V.int (sh p:Int),V.ref wy,V.ref pr])) l2=some (.lst [V.int (sh p:Int),V.ref wy,V.ref pr]):=A5;have g12:=s2 _ _ g1;have eB:=eA.trans s2;generalize upd HA l2 (.lst [V.int (sh p:Int),V.ref wy,V.ref pr])=HB at s2 g2 g12 eB;refine⟨l1,l2,_,_,rfl,rfl,g12,g2,Ai rfl,λl3 h3=>?_⟩;have s3:=A9 h3 (.lst ([V.int ((p:Int)+((xs.length:Nat):Int))]++[V.int (sh p:Int),V.ref wy,V.ref pr]));exact fin (eB.trans s3) A5 (hpr.over (eB.trans s3)) (by lia) (.inl (by lia))
 dsimp only[Fu];refine⟨rfl,_,rfl,Bq (λ_=>?_) (λ_=>?_)⟩
 .refine⟨l,0,3,B7 Rs sh,rfl,bs e1,frm,by decide,by decide,λr H2 f e2 hr' hI=>?_⟩;have e02:=e1.trans e2;refine⟨Ai rfl,λl2 h2=>⟨Ai rfl,λt3 h3=>⟨Ai rfl,λt4 h4=>?_⟩⟩⟩;have s2:=A9 h2 (.tup []);have s3:=A9 h3 (.tup [V.str "sweep",V.bl false,V.str "up",V.ref l2]);have s4:=A9 h4 (.tup [V.ref t3]);have g2:(upd H2 l2 (.tup [])) l2=some (.tup []):=A5;have g3:(upd (upd H2 l2 (.tup [])) t3 (.tup [V.str "sweep",V.bl false,V.str "up",V.ref l2])) t3=some (.tup [V.str "sweep",V.bl false,V.str "up",V.ref l2]):=A5;have g4:(upd (upd (upd H2 l2 (.tup [])) t3 (.tup [V.str "sweep",V.bl false,V.str "up",V.ref l2])) t4 (.tup [V.ref t3])) t4=some (.tup [V.ref t3]):=A5;have g2:=s4 _ _ (s3 _ _ g2);have g3:=s4 _ _ g3;have s24:=s2.trans (s3.trans s4);generalize upd (upd (upd H2 l2 (.tup [])) t3 (.tup [V.str "sweep",V.bl false,V.str "up",V.ref l2])) t4 (.tup [V.ref t3])=H4 at g2 g3 g4 s24;refine Ah λ_ zE=>?_;obtain⟨ys,hy1,hy2,yl⟩:=big (hr'.over s24) hI;refine zE ?_;refine⟨r,t4,_,_,rfl,rfl,hy1,g4,Bp (by show _+1<=1000000;lia),λrr HX eX hrr=>?_⟩;refine q rr HX (Fo.app f (.node false ("up":Str) .nil .nil)) (e02.trans (s24.trans eX)) ⟨_,hrr,Bb.app (Bb.over eX hy2) ⟨t3,l2,[],[],rfl,eX _ _ g3,eX _ _ g2,rfl,rfl⟩⟩ (X8 own (by lia) hI)
 dsimp only[Fu];refine Iu (λHX=>A8 H HX) (λH2 e2=>?_) (λels=>?_);rotate_left
 .refine⟨rfl,_,rfl,Bq (λ_=>?_) (λ_=>els _ e1)⟩;refine⟨Ai rfl,λz hz=>?_⟩;refine Ah λ_ zF=>?_;have s1:=A9 hz (.lst []);have eA:=e1.trans s1;obtain⟨zs,hz1,hz2⟩:=hpr.over eA;refine zF ?_;refine SK hz1 hz2 A5 ⟨_,rfl,Bq (λc=>?_) (λ_=>els _ eA)⟩;generalize upd H1 z (.lst [])=HA at s1 eA hz1 hz2;have zl:=hz2.1;have m1:0<AS (Rs.map R3.dw) p:=Nat.pos_of_ne_zero λe=>by rw[e]at c;cases c
  refine⟨l,_,_,_,rfl,rfl,A4.of (eA _ _ hl),Bg hx,t,_,1,_,rfl,rfl,A4.of (eA _ _ ht),rfl,l,_,_,_,rfl,rfl,A4.of (eA _ _ hl),Bg hx,t,_,2,_,rfl,rfl,A4.of (eA _ _ ht),rfl,_,rfl,_,rfl,pr,_,rfl,A4.of hz1,λl1 h1=>?_⟩;rw[PQ,List.dropLast_eq_take];have s2:=A9 h1 (.lst (zs.take (zs.length-1)));have g2:(upd HA l1 (.lst (zs.take (zs.length-1)))) l1=some (.lst (zs.take (zs.length-1))):=A5;have eB:=eA.trans s2;generalize upd HA l1 (.lst (zs.take (zs.length-1)))=HB at s2 g2 eB;refine⟨Ai rfl,λl3 h3=>?_⟩;have s3:=A9 h3 (.lst [V.int (p:Int),V.int (sh p:Int),V.ref wy,V.ref l1]);have pl':=(hz2.take (zs.length-1)).mono λ_ _ z=>z.over (s2.trans s3);have ll:((Fo.ownP (AS (Rs.map R3.dw) p)).take (zs.length-1)).length=AS (Rs.map R3.dw) p-1:=by rw[BE];lia
  exact fin (eB.trans s3) A5 ⟨_,s3 _ _ g2,pl'⟩ (by lia) (.inr ⟨rfl,Qw (by lia)⟩)
 dsimp only[Fu];clear e1 H1;refine Iu (λHX=>A8 H HX) (λH3 e3=>?_) (λels=>?_);rotate_left
 .refine⟨rfl,_,rfl,Bq (λ_=>?_) (λ_=>els _ e2)⟩;refine⟨Ai rfl,λz hz=>?_⟩;refine Ah λ_ zG=>?_;have s1:=A9 hz (.lst []);have eA:=e2.trans s1;obtain⟨zs,hz1,hz2⟩:=hpr.over eA;refine zG ?_;refine SK hz1 hz2 A5 ⟨_,rfl,Bq (λc=>?_) (λ_=>els _ eA)⟩;generalize upd H2 z (.lst [])=HA at s1 eA hz1 hz2;have zl:=hz2.1;have m1:0<AS (Rs.map R3.dw) p:=Nat.pos_of_ne_zero λe=>by rw[e]at c;cases c
  obtain⟨m,hm⟩:∃m,AS (Rs.map R3.dw) p=m+1:=⟨AS (Rs.map R3.dw) p-1,by lia⟩
  have os:=Zk m;rw[hm]at hz2 zl wl;refine⟨_,rfl,_,rfl,pr,_,rfl,A4.of hz1,λl1 h1=>?_⟩;rw[PQ,List.dropLast_eq_take];have s2:=A9 h1 (.lst (zs.take (zs.length-1)));have g2:(upd HA l1 (.lst (zs.take (zs.length-1)))) l1=some (.lst (zs.take (zs.length-1))):=A5;have eB:=eA.trans s2;generalize upd HA l1 (.lst (zs.take (zs.length-1)))=HB at s2 g2 eB;refine Ah λ_ zH=>?_;have hlast:(Fo.ownP (m+1))[zs.length-1]?=some ((m:Int),0):=by
   rw[os,show zs.length-1=(Fo.ownP m).length by rw[Ee];lia,Ck (Al _),DZ];rfl
  obtain⟨y,hy,u,rfl,hu⟩:=hz2.get hlast;refine zH ?_;refine⟨_,rfl,pr,_,_,_,rfl,rfl,A4.of (s2 _ _ hz1),(W8 (by lia)).trans hy,u,_,0,_,rfl,rfl,A7.of (s2 _ _ hu),rfl,Ai rfl,λt2 h2=>⟨Ai rfl,λl3 h3=>?_⟩⟩;have s3:=A9 h2 (.tup [V.int ((m:Int)+1),V.int 0]);have s4:=A9 h3 (.lst [V.ref t2]);have g3:(upd HB t2 (.tup [V.int ((m:Int)+1),V.int 0])) t2=some (.tup [V.int ((m:Int)+1),V.int 0]):=A5;have g4:(upd (upd HB t2 (.tup [V.int ((m:Int)+1),V.int 0])) l3 (.lst [V.ref t2])) l3=some (.lst [V.ref t2]):=A5;have g3:=s4 _ _ g3;have s34:=s3.trans s4;have g2:=s34 _ _ g2;have eC:=eB.trans s34;generalize upd (upd HB t2 (.tup [V.int ((m:Int)+1),V.int 0])) l3 (.lst [V.ref t2])=HC at g2 g3 g4 s34 eC;refine⟨l1,l3,_,_,rfl,rfl,g2,g4,Bp (by rw[BE];show _+1<=1000000;lia),λl4 h4=>?_⟩;have s5:=A9 h4 (.lst (zs.take (zs.length-1)++[V.ref t2]));have g5:(upd HC l4 (.lst (zs.take (zs.length-1)++[V.ref t2]))) l4=some (.lst (zs.take (zs.length-1)++[V.ref t2])):=A5;have eD:=eC.trans s5;dsimp only[Ar];generalize upd HC l4 (.lst (zs.take (zs.length-1)++[V.ref t2]))=HD at s5 g5 eD;refine⟨l,_,_,_,rfl,rfl,A4.of (eD _ _ hl),Bg hx,t,_,1,_,rfl,rfl,A4.of (eD _ _ ht),rfl,l,_,_,_,rfl,rfl,A4.of (eD _ _ hl),Bg hx,t,_,2,_,rfl,rfl,A4.of (eD _ _ ht),rfl,Ai rfl,λl5 h5=>?_⟩;have s6:=A9 h5 (.lst [V.int (p:Int),V.int (sh p:Int),V.ref wy,V.ref l4]);have tk:(Fo.ownP (m+1)).take (zs.length-1)=Fo.ownP m:=by rw[os,List.take_left' (by rw[Ee];lia)]
  have pl':=(hz2.take (zs.length-1)).mono λ_ _ z=>z.over (s2.trans (s34.trans (s5.trans s6)));rw[tk]at pl';have pr':E7 (upd HD l5 (.lst [V.int (p:Int),V.int (sh p:Int),V.ref wy,V.ref l4])) (.ref t2) ((m:Int)+1,0):=⟨t2,rfl,(s5.trans s6) _ _ g3⟩
  exact fin (eD.trans s6) A5 ⟨_,s6 _ _ g5,pl'.snoc pr'⟩ (by rw[Ao,Ee];show m+1<=6;lia) (.inr ⟨rfl,by rw[hm];exact Ux m _⟩)
 dsimp only[Fu];clear e2 H2;refine Ah λ_ zI=>?_;obtain⟨zs,hz1,hz2⟩:=id (hpr.over e3);refine zI ?_;have zl:=hz2.1;refine Iu (λHX=>A8 H HX) (λH4 e4=>?_) (λels=>?_);rotate_left
 .refine⟨rfl,_,rfl,Bq (λ_=>?_) (λ_=>els _ e3)⟩;refine⟨pr,_,rfl,.inl (A4.of hz1),_,rfl,Bq (λc=>?_) (λ_=>els _ e3)⟩;have c:(1:Int)<((zs.length:Nat):Int):=dT c;obtain⟨m,hm⟩:∃m,AS (Rs.map R3.dw) p=m+2:=⟨AS (Rs.map R3.dw) p-2,by lia⟩
  rw[hm]at hz2 zl wl;refine Ah λ_ zJ=>?_;have h1:(Fo.ownP (m+2))[1]?=some ((1:Int),0):=by
   unfold Fo.ownP;rw[Bf,FI (by lia)];rfl
  obtain⟨y,hy,u,rfl,hu⟩:=hz2.get h1;refine zJ ?_;have hy1:Be zs 1=some (V.ref u):=Bg (j:=1) hy;refine⟨l,_,_,_,rfl,rfl,A4.of (e3 _ _ hl),Bg hx,t,_,1,_,rfl,rfl,A4.of (e3 _ _ ht),rfl,l,_,_,_,rfl,rfl,A4.of (e3 _ _ hl),Bg hx,t,_,2,_,rfl,rfl,A4.of (e3 _ _ ht),rfl,pr,_,_,_,rfl,rfl,A4.of hz1,hy1,pr,_,_,_,rfl,rfl,A4.of hz1,hy1,Ai rfl,λl1 h1=>⟨Ai rfl,λl2 h2=>?_⟩⟩;have s1:=A9 h1 (.lst [V.ref u,V.ref u]);have g1:(upd H3 l1 (.lst [V.ref u,V.ref u])) l1=some (.lst [V.ref u,V.ref u]):=A5;have s2:=A9 h2 (.lst [V.int (p:Int),V.int (sh p:Int),V.ref wy,V.ref l1]);have pa:E7 (upd (upd H3 l1 (.lst [V.ref u,V.ref u])) l2 (.lst [V.int (p:Int),V.int (sh p:Int),V.ref wy,V.ref l1])) (.ref u) ((1:Int),0):=⟨u,rfl,(s1.trans s2) _ _ hu⟩
  exact fin (e3.trans (s1.trans s2)) A5 ⟨_,s2 _ _ g1,Am.snoc (Am.snoc .nil pa) pa⟩ (by show 2<=6;decide) (.inr ⟨rfl,by rw[hm];exact Ub m⟩)
 dsimp only[Fu];refine Ah λ_ zK=>?_;obtain⟨zs,hz1,hz2⟩:=id (hpr.over e4);refine zK ?_;have zl:=hz2.1;refine⟨l,_,_,_,rfl,rfl,A4.of (e4 _ _ hl),Bg hx,t,_,1,_,rfl,rfl,A4.of (e4 _ _ ht),rfl,l,_,_,_,rfl,rfl,A4.of (e4 _ _ hl),Bg hx,t,_,2,_,rfl,rfl,A4.of (e4 _ _ ht),rfl,Ai rfl,λt2 h2=>⟨Ai rfl,λl3 h3=>?_⟩⟩;have s3:=A9 h2 (.tup [V.int 0,V.int 0]);have s4:=A9 h3 (.lst [V.ref t2]);have g3:(upd H4 t2 (.tup [V.int 0,V.int 0])) t2=some (.tup [V.int 0,V.int 0]):=A5;have g4:(upd (upd H4 t2 (.tup [V.int 0,V.int 0])) l3 (.lst [V.ref t2])) l3=some (.lst [V.ref t2]):=A5;have g3:=s4 _ _ g3;have s34:=s3.trans s4;have g2:=s34 _ _ hz1;have eC:=e4.trans s34;generalize upd (upd H4 t2 (.tup [V.int 0,V.int 0])) l3 (.lst [V.ref t2])=HC at g2 g3 g4 s34 eC;refine⟨pr,l3,_,_,rfl,rfl,g2,g4,Bp (by show _+1<=1000000;lia),λl4 h4=>?_⟩;have s5:=A9 h4 (.lst (zs++[V.ref t2]));have g5:(upd HC l4 (.lst (zs++[V.ref t2]))) l4=some (.lst (zs++[V.ref t2])):=A5;have eD:=eC.trans s5;generalize upd HC l4 (.lst (zs++[V.ref t2]))=HD at s5 g5 eD;refine⟨Ai rfl,λl5 h5=>?_⟩;have s6:=A9 h5 (.lst [V.int (p:Int),V.int (sh p:Int),V.ref wy,V.ref l4]);have pl':=hz2.mono λ_ _ z=>z.over (s34.trans (s5.trans s6));have pr':E7 (upd HD l5 (.lst [V.int (p:Int),V.int (sh p:Int),V.ref wy,V.ref l4])) (.ref t2) ((0:Int),0):=⟨t2,rfl,(s5.trans s6) _ _ g3⟩
 have ll:(Fo.ownP (AS (Rs.map R3.dw) p)++[((0:Int),(0:Int))]).length=AS (Rs.map R3.dw) p+1:=by rw[Ao,Ee];rfl
 exact fin (eD.trans s6) A5 ⟨_,s6 _ _ g5,pl'.snoc pr'⟩ (by lia) (.inr ⟨rfl,Qw (by lia)⟩)
theorem aF (T:Tx w K mg a):AM P w K mg base AW 112 a.f_Q a.d_Q ["_law_program_here","_law_plan"] (Pr a.c_Program a.c_Deed (CQ a)):=by
 have G_h :=@ND P w K mg base a T;refine T.F_Q.ok LJ (λvs H Q E h=>?_) (λcdv A outer s H vs Q E hr h=>?_)
 .obtain⟨_,_,_,_,_,_,_,_,_,_,rfl,_⟩:=h;rfl
 obtain⟨x,dx,dl,p,sz,xs,Rs,Df,sh,f,rfl,hx,hdl,ax,ok,own,df,n0,hf,bad,q⟩:=h;refine⟨_,(Ab (Aq (i:=2) LJ.nd rfl (.inl rfl) (By A2))
  (Ab (SI (λpn xe Ek hP hR=>(Ae (BG (NZ G_h (hr.mono (by lia)) (by rfl) T.m_h T.F_h.kp T.b_h .nil hP (A0 (pw 0) (A0 (pw 1) A2))))))
  (bI (i:=3) LJ.nd rfl rfl (by rfl) T.mc_NoPlan T.xi_NoPlan.xc (λea=>(Ab (Aq (i:=2) LJ.nd rfl (.inl rfl) (GF (Ac (AZ Ju (by rfl) T.z_isinstance J4 (A0 (pw 3) (A0 (HH (v:=.ref a.c_FurrowError) (by rfl) T.mc_FurrowError rfl) A2))) (Ac (AZ Ju (by rfl) T.z_isinstance J4 (A0 (pw 3) (A0 (SD (v:=.ty "ValueError") (by rfl) T.z_ValueError aZ rfl) A2))) (Ac (AZ Ju (by rfl) T.z_isinstance J4 (A0 (pw 3) (A0 (HH (v:=.ref a.c_TooMany) (by rfl) T.mc_TooMany rfl) A2))) Bz DL) DL) DL)))
  (Ae (BG (BP BN MW MX JI (pw 2) (A0 (By (A0 (AZ Ju (by rfl) T.z_isinstance J4 (A0 (pw 3) (A0 (HH (v:=.ref a.c_BadPlan) (by rfl) T.mc_BadPlan rfl) A2))) (A0 (AZ Ju (by rfl) T.z_isinstance J4 (A0 (pw 3) (A0 (HH (v:=.ref a.c_NoTurning) (by rfl) T.mc_NoTurning rfl) A2))) A2))) A2))))))
  Q7))
  (Ae (AI (Gu (LX (GY hr)) (pw 2) (GF (Ac DI (Ac DI (Ac DI (Ac DI (Ac DI Bz Br) Br) Br) Br) Br)) (AG _)))))),?_⟩
 obtain⟨N,ct⟩:=T.ct_NoPlan;refine⟨Ai rfl,λk0 hk0=>?_⟩;have s0:=A9 hk0 (.lst []);dsimp only[Ar];generalize upd H k0 (.lst [])=H0 at s0;refine Dq (fun σ' H'=>A8 H H'/\∃(kl:Addr) (o3:Option V),σ'=[some (.ref x),some (.ref p),some (.ref kl),o3]/\H' kl=some (.lst [V.bl true,V.bl true,V.bl false,V.bl false,V.bl false])) (fun σ' H' pp=>?_) (λnx=>?_)
 .obtain⟨e,kl,o3,rfl,hk⟩:=pp;refine⟨Ai rfl,λl5 h5=>?_⟩;have s5:=A9 h5 (.lst [V.bl true,V.bl true,V.bl false,V.bl false,V.bl false]);have tr:∀{HX:Hp} {z:Addr},HX z=some (.lst [V.bl true,V.bl true,V.bl false,V.bl false,V.bl false])->BO K HX (.ref z) (.lst [.v (.bl true),.v (.bl true),.v (.bl false),.v (.bl false),.v (.bl false)]):=λh=>.lst (A4.of h) (.cons (.flat rfl) (.cons (.flat rfl) (.cons (.flat rfl) (.cons (.flat rfl) (.cons (.flat rfl) .nil)))));exact aG (tr (s5 _ _ hk)) (tr A5) (by decide) (q _ (e.trans s5))
 refine⟨x,dx,dl,p,sz,xs,Rs,Df,sh,f,rfl,s0 _ _ hx,s0 _ _ hdl,ax.mono λ_ _ z=>z.over s0,ok,own,df.over s0,n0,hf.over s0,.inl ⟨bad,λe H1 e1 he=>?_⟩⟩;have ix:GU H1 e a.c_NoPlan none:=⟨.inr he,.inl rfl⟩
 refine⟨e,_,none,rfl,he,N,_,true,ct,by rw[Rp];exact BB (.inl rfl),BL ?_⟩;refine⟨e,_,none,_,_,_,rfl,rfl,ix,T.xi_NoPlan,T.is_NoPlan_FurrowError,e,_,none,_,_,_,rfl,rfl,ix,T.xi_NoPlan,T.kv_NoPlan,e,_,none,_,_,_,rfl,rfl,ix,T.xi_NoPlan,T.is_NoPlan_TooMany,Ai rfl,λl1 h1=>?_⟩;have s1:=A9 h1 (.lst [V.bl true,V.bl true,V.bl false]);have g1:(upd H1 l1 (.lst [V.bl true,V.bl true,V.bl false])) l1=some (.lst [V.bl true,V.bl true,V.bl false]):=A5;have n1:H l1=none:=(s0.trans e1).free h1;dsimp only[Ar];generalize upd H1 l1 (.lst [V.bl true,V.bl true,V.bl false])=H2 at s1 g1;have ix2:GU H2 e a.c_NoPlan none:=⟨.inr (s1 _ _ he),.inl rfl⟩
 refine⟨.inl ⟨rfl,_,A4.of g1⟩,e,_,none,_,_,_,rfl,rfl,ix2,T.xi_NoPlan,T.is_NoPlan_BadPlan,e,_,none,_,_,_,rfl,rfl,ix2,T.xi_NoPlan,T.is_NoPlan_NoTurning,Ai rfl,λl2 h2=>?_⟩;have s2:=A9 h2 (.lst [V.bl false,V.bl false]);have g2:(upd H2 l2 (.lst [V.bl false,V.bl false])) l2=some (.lst [V.bl false,V.bl false]):=A5;have g12:=s2 _ _ g1;have e2:=s0.trans (e1.trans (s1.trans s2));generalize upd H2 l2 (.lst [V.bl false,V.bl false])=H3 at s2 g2 g12 e2;refine⟨l1,l2,_,_,rfl,rfl,g12,g2,Ai rfl,?_⟩;refine nx _ _ ⟨λb o hb=>?_,l1,none,rfl,A5⟩;rw[Ak (AF hb n1)];exact e2 _ _ hb
theorem Us (T:Tx w K mg a):AM P w K mg base AW 112 a.f_R a.d_R ["_law_program_here","_law_plan"] (Pr a.c_Program a.c_Deed (CQ a)):=by
 have G_h :=@ND P w K mg base a T;refine T.F_R.ok OE (λvs H Q E h=>?_) (λcdv A outer s H vs Q E hr h=>?_)
 .obtain⟨_,_,_,_,_,_,_,_,_,_,rfl,_⟩:=h;rfl
 obtain⟨x,dx,dl,p,sz,xs,Rs,Df,sh,f,rfl,hx,hdl,ax,ok,own,df,n0,hf,bad,q⟩:=h;refine⟨_,(Ab (Aq (i:=2) OE.nd rfl (.inl rfl) DI)
  (Ab (SI (λpn xe Ek hP hR=>(Ae (BG (NZ G_h (hr.mono (by lia)) (by rfl) T.m_h T.F_h.kp T.b_h .nil hP (A0 (pw 0) (A0 (pw 1) A2))))))
  (YX (by rfl) T.mc_FurrowError T.xi_FurrowError.xc (λea=>(Ae (Aq (i:=2) OE.nd rfl (.inl rfl) DI)))
  Q7))
  (Ae (AI (pw 2))))),?_⟩
 refine O1 ?_;obtain⟨N,ct⟩:=T.ct_NoPlan;refine Dq (fun σ' H'=>A8 H H'/\σ'=[some (.ref x),some (.ref p),some (.bl true)]) (fun σ' H' pp=>?_) (λnx=>?_)
 .obtain⟨e,rfl⟩:=pp;exact q _ e
 refine⟨x,dx,dl,p,sz,xs,Rs,Df,sh,f,rfl,hx,hdl,ax,ok,own,df,n0,hf,.inl ⟨bad,λe H1 e1 he=>?_⟩⟩;refine⟨e,_,none,rfl,he,N,_,true,ct,by rw[Rp];exact BB (.inr Cq),BL ?_⟩;exact nx _ _ ⟨e1,rfl⟩
theorem ok_law (T:Tx w K mg a):AM P w K mg base AW 120 a.f_S a.d_S ["_law_script"] (N4 K):=by
 have G_g :=@Uv P w K mg base a T;have G_K :=@YQ P w K mg base a T;have G_O :=@WD P w K mg base a T;have G_P :=@WG P w K mg base a T;have G_M :=@Wv P w K mg base a T;have G_Q :=@aF P w K mg base a T;have G_R :=@Us P w K mg base a T;have G_b :=@Me P w K mg base a T 7;have G_h :=@ND P w K mg base a T;refine T.F_S.ok Hl (λvs H Q E h=>?_) (λcdv A outer s H vs Q E hr h=>?_)
 .obtain⟨_,_,rfl,_⟩:=h;rfl
 obtain⟨p,ns,rfl,hp,h63,_,q⟩:=h;refine⟨_,(Ab (Aq (i:=1) Hl.nd rfl (.inl rfl) (Aa Ap (C0 (Ac A1 (Ac A1 (Ac A1 Bz Br) Br) Br)) (Aj (oJ Co) (Az G_g (hr.mono (by lia)) (by rfl) T.m_g T.F_g.kp T.b_g .nil As (A0 (pw 0) (A0 A1 A2))) A1) (λ_ _=>rfl)))
  (Ab (Aq (i:=2) Hl.nd rfl (.inl rfl) (Az G_K (hr.mono (by lia)) (by rfl) T.m_K T.F_K.kp T.b_K .nil As (A0 (F7 ["_law_k","_law_script"] [none,some 0] (by rfl) (FC (by rfl) T.z_range (A0 A1 A2)) aI (λ_ _ _ _ _ _=>⟨(AD (i:=0) UZ rfl (.inl rfl)),EL,(Az G_g (hr.mono (by lia)) (by rfl) T.m_g T.F_g.kp T.b_g .nil As (A0 (pw 1) (A0 (Aj (B3 BC) A1 (pw 0)) A2)))⟩)) (A0 (pw 1) (A0 A1 A2)))))
  (Ab (Aq (i:=3) Hl.nd rfl (.inl rfl) (Az G_O (hr.mono (by lia)) (by rfl) T.m_O T.F_O.kp T.b_O .nil As (A0 (pw 2) A2)))
  (Ab (Aq (i:=4) Hl.nd rfl (.inl rfl) (Az G_P (hr.mono (by lia)) (by rfl) T.m_P T.F_P.kp T.b_P .nil As (A0 (pw 3) (A0 (Aj (oJ Co) (Az G_g (hr.mono (by lia)) (by rfl) T.m_g T.F_g.kp T.b_g .nil As (A0 (pw 0) (A0 A1 A2))) A1) (A0 (Aj (oJ Co) (Az G_g (hr.mono (by lia)) (by rfl) T.m_g T.F_g.kp T.b_g .nil As (A0 (pw 0) (A0 A1 A2))) (AZ BI (by rfl) T.z_len BK (A0 (pw 3) A2))) A2)))))
  (Ab (Aq (i:=5) Hl.nd rfl (.inl rfl) (Az G_M (hr.mono (by lia)) (by rfl) T.m_M T.F_M.kp T.b_M .nil As (A0 (pw 2) A2)))
  (Ab (Bx ((Ip (Iw (FJ (Az G_Q (hr.mono (by lia)) (by rfl) T.m_Q T.F_Q.kp T.b_Q .nil As (A0 (pw 5) (A0 (pw 4) A2))))) (Kr (Iw (FJ (Az G_R (hr.mono (by lia)) (by rfl) T.m_R T.F_R.kp T.b_R .nil As (A0 (pw 5) (A0 (pw 4) A2)))))))).pt
  (Ae (AI DI))
  BJ)
  (Ab (Aq (i:=6) Hl.nd rfl (.inl rfl) (NZ G_h (hr.mono (by lia)) (by rfl) T.m_h T.F_h.kp T.b_h .nil cj (A0 (pw 5) (A0 (Az G_b (hr.mono (by lia)) (by rfl) T.m_b T.F_b.kp T.b_b .nil As (A0 (pw 3) (A0 A1 A2))) A2))))
  (Ae (AI (Oc (AZ YR (by rfl) T.z_isinstance J4 (A0 (pw 6) (A0 (SD (v:=.ty "tuple") (by rfl) T.z_tuple F4 rfl) A2))) (Oc (Gu C6 (AZ BI (by rfl) T.z_len BK (A0 (pw 6) A2)) A1 (AG _)) (Om (Gu C6 (Aa Ap (pw 6) A1 (λ_ _=>rfl)) BY (AG _)))))))))))))),?_⟩
 refine⟨Ai rfl,λu1 hu1=>?_⟩;have s1:=A9 hu1 (.tup [V.int 1,V.int 2,V.int 3]);have hv1:(upd H u1 (.tup [V.int 1,V.int 2,V.int 3])) u1=some (.tup [V.int 1,V.int 2,V.int 3]):=A5;have hp1:=s1.seq hp;generalize upd H u1 (.tup [V.int 1,V.int 2,V.int 3])=H1 at s1 hv1 hp1;refine Ah λ_ zA=>?_;have c0:=EW (ns.getD (0:Int).toNat 0) (show(3:Int)≠0 by decide);have c1:=Fg (ns.getD (0:Int).toNat 0) (show(0:Int)<3 by decide);obtain⟨many,hmany,m3⟩:=Nf (x:=1) (y:=2) (z:=3) (k:=ns.getD (0:Int).toNat 0%3) (by lia);refine zA ?_;refine⟨p,ns,0,rfl,hp1,by decide,(by show(0:Int)<3;decide),u1,_,_,_,rfl,rfl,A7.of hv1,hmany,?_⟩;dsimp only[Ar];refine⟨5,rfl,by decide,by decide,?_⟩;refine PZ (lo:=0) (n:=5) (λj zs H'=>H'=H1/\∃L:List Int,zs=L.map V.int/\L.length=j) ⟨rfl,[],rfl,rfl⟩ (Bp (by lia)) (λj zs H' hj pp=>by obtain⟨_,L,rfl,h⟩:=pp;rw[Af];lia) (λj zs H' hj pp=>?_) (λzs H' pp cl hcl=>?_)
 .obtain⟨rfl,L,rfl,Ll⟩:=pp;refine⟨p,ns,_,rfl,hp1,by lia,rfl,L++[ns.getD (3+(0+(j:Int))).toNat 0],?_,by rw[Ao,Ll];rfl⟩;rw[BA];rfl
 refine Ah λ_ zB=>?_;obtain⟨rfl,L,rfl,Ll⟩:=pp;refine zB ?_;have s5:=A9 hcl (.lst (L.map V.int));have hc5:(upd H' cl (.lst (L.map V.int))) cl=some (.lst (L.map V.int)):=A5;have hp5:=s5.seq hp1;generalize upd H' cl (.lst (L.map V.int))=H5 at s5 hc5 hp5;refine⟨cl,L,many,0,rfl,A4.of hc5,by lia,by lia,by lia,λrl rv H8 Rs e8 _ hrl ar rbt par Rn Rl=>?_⟩;dsimp only[Ar];have hp8:=e8.seq hp5;clear hcl hu1 s1 s5 hv1 hc5 hp5;have rb:∀R∈Rs,RB R:=λR hR=>(rbt R hR).1;obtain⟨sh,own⟩:=UI Rl rb par;have n0:0<Rs.length:=List.length_pos_iff.mpr Rn;have frm:=LP own;refine⟨rl,rv,Rs,sh,rfl,hrl,ar,own,λbo H9 e9 hbo=>?_⟩;dsimp only[Ar];refine Ah λ_ zC=>?_;obtain⟨bx,hb1,hb2⟩:=id hbo;refine zC ?_;have bl:=hb2.1;rw[Ge]at bl;have hp9:=e9.seq hp8;have k0:=EW (ns.getD (2:Int).toNat 0) (show((bx.length:Nat):Int)≠0 by lia);have k1:=Fg (ns.getD (2:Int).toNat 0) (show(0:Int)<((bx.length:Nat):Int) by lia);obtain⟨pp,hpp⟩:∃pp:Nat,ns.getD (2:Int).toNat 0%((bx.length:Nat):Int)=(pp:Int):=⟨_,(MQ k0).symm⟩
 refine⟨p,ns,1,rfl,hp9,by decide,(by show(0:Int)<8;decide),p,ns,2,rfl,hp9,by decide,bo,_,rfl,.inl (A4.of hb1),(by show(0:Int)<((bx.length:Nat):Int);lia),?_⟩;refine⟨bo,ns.getD (1:Int).toNat 0%8,pp,Rs,sh,congrArg (λz=>[V.ref bo,V.int (ns.getD (1:Int).toNat 0%8),V.int z]) hpp,hbo,own,by lia,λpl H10 f e10 hpl bad=>?_⟩;dsimp only[Ar];have e810:=e9.trans e10;refine⟨rl,rv,Rs,rfl,e810 _ _ hrl,ar.mono λ_ _ z=>z.tk e810.tk,Rl,λR hR=>(rb R hR).m3,λx dx dl xs H11 e11 hx dl0 hdl ax=>?_⟩;dsimp only[Ar];have e811:=e810.trans e11;have tz11:∀R∈Rs,FY H11 R:=λR hR=>(rbt R hR).2.tk e811.tk;have okR:∀R∈Rs,R.r5.Ok:=λR hR=>by
  obtain⟨j,hj⟩:=DG.mp hR;obtain⟨y,hy,r6⟩:=ar.get hj;exact UG (rb R hR) r6
 obtain⟨Df,df⟩:=aA rb tz11;refine⟨x,dx,dl,pl,.int 1000003,xs,Rs,Df,sh,f,rfl,hx,hdl,ax,okR,own,df,n0,hpl.over e11,bad,λH12 e12=>⟨_,rfl,BW ?_⟩⟩;refine⟨x,dx,dl,pl,.int 1000003,xs,Rs,Df,sh,f,rfl,e12 _ _ hx,e12 _ _ hdl,ax.mono λ_ _ z=>z.over e12,okR,own,df.over e12,n0,(hpl.over e11).over e12,bad,λH13 e13=>⟨_,rfl,BW ?_⟩⟩;dsimp only[Fu];have e1113:=e12.trans e13;have e913:=e10.trans (e11.trans e1113);refine⟨bo,0,3,B7 Rs sh,rfl,hbo.over e913,frm,by decide,by decide,λp2 H14 g e14 hp2 hI=>?_⟩;have e1114:=e1113.trans e14;refine⟨x,dx,dl,p2,.int 1000003,xs,Rs,Df,sh,g,rfl,e1114 _ _ hx,e1114 _ _ hdl,ax.mono λ_ _ z=>z.over e1114,okR,own,df.over e1114,n0,hp2,.inr ⟨hI,λv r ys H15 e15 r0 hv hr' _=>?_⟩⟩;dsimp only[Ar];refine⟨_,_,_,_,true,rfl,rfl,.tup hv,rfl,_,rfl,BL ?_⟩;refine⟨v,_,rfl,.inr (A7.of hv),rfl,_,rfl,Bc (v:=true) (BB rfl) (BL ?_)⟩;exact⟨v,_,0,_,rfl,rfl,A7.of hv,rfl,rfl,q _⟩
end
theorem EI {us:List Value}(h:us.length=1):∃x0,us=[x0]:=by
 rcases us with _|⟨x0,us⟩
 .cases h
 rcases us with _|⟨y,us⟩
 .exact⟨x0,rfl⟩
 .simp only[BH]at h;lia
theorem Ew {us:List Value}(h:us.length=2):∃x0 x1,us=[x0,x1]:=by
 rcases us with _|⟨x0,us⟩
 .cases h
 rcases us with _|⟨x1,us⟩
 .cases h
 rcases us with _|⟨y,us⟩
 .exact⟨x0,x1,rfl⟩
 .simp only[BH]at h;lia
theorem DQ {us:List Value}(h:us.length=3):∃x0 x1 x2,us=[x0,x1,x2]:=by
 rcases us with _|⟨x0,us⟩
 .cases h
 rcases us with _|⟨x1,us⟩
 .cases h
 rcases us with _|⟨x2,us⟩
 .cases h
 rcases us with _|⟨y,us⟩
 .exact⟨x0,x1,x2,rfl⟩
 .simp only[BH]at h;lia
theorem Mq {us:List Value}(h:us.length=4):∃x0 x1 x2 x3,us=[x0,x1,x2,x3]:=by
 rcases us with _|⟨x0,us⟩
 .cases h
 rcases us with _|⟨x1,us⟩
 .cases h
 rcases us with _|⟨x2,us⟩
 .cases h
 rcases us with _|⟨x3,us⟩
 .cases h
 rcases us with _|⟨y,us⟩
 .exact⟨x0,x1,x2,x3,rfl⟩
 .simp only[BH]at h;lia
theorem Si {us:List Value}(h:us.length=5):∃x0 x1 x2 x3 x4,us=[x0,x1,x2,x3,x4]:=by
 rcases us with _|⟨x0,us⟩
 .cases h
 rcases us with _|⟨x1,us⟩
 .cases h
 rcases us with _|⟨x2,us⟩
 .cases h
 rcases us with _|⟨x3,us⟩
 .cases h
 rcases us with _|⟨x4,us⟩
 .cases h
 rcases us with _|⟨y,us⟩
 .exact⟨x0,x1,x2,x3,x4,rfl⟩
 .simp only[BH]at h;lia
theorem NX {us:List Value}(h:us.length=6):∃x0 x1 x2 x3 x4 x5,us=[x0,x1,x2,x3,x4,x5]:=by
 rcases us with _|⟨x0,us⟩
 .cases h
 rcases us with _|⟨x1,us⟩
 .cases h
 rcases us with _|⟨x2,us⟩
 .cases h
 rcases us with _|⟨x3,us⟩
 .cases h
 rcases us with _|⟨x4,us⟩
 .cases h
 rcases us with _|⟨x5,us⟩
 .cases h
 rcases us with _|⟨y,us⟩
 .exact⟨x0,x1,x2,x3,x4,x5,rfl⟩
 .simp only[BH]at h;lia
theorem cq {us:List Value}(h:us.length=8):∃x0 x1 x2 x3 x4 x5 x6 x7,us=[x0,x1,x2,x3,x4,x5,x6,x7]:=by
 rcases us with _|⟨x0,us⟩
 .cases h
 rcases us with _|⟨x1,us⟩
 .cases h
 rcases us with _|⟨x2,us⟩
 .cases h
 rcases us with _|⟨x3,us⟩
 .cases h
 rcases us with _|⟨x4,us⟩
 .cases h
 rcases us with _|⟨x5,us⟩
 .cases h
 rcases us with _|⟨x6,us⟩
 .cases h
 rcases us with _|⟨x7,us⟩
 .cases h
 rcases us with _|⟨y,us⟩
 .exact⟨x0,x1,x2,x3,x4,x5,x6,x7,rfl⟩
 .simp only[BH]at h;lia
theorem Wj:B6 "__init__" "Number.__init__" LH ["self","n"]:=λ_ _ _ _ _ _ _ h=>by obtain⟨_,_,rfl⟩:=Ew h;rfl
theorem Ve:B6 "__init__" "Cell.__init__" LM ["self","table","spots"]:=λ_ _ _ _ _ _ _ h=>by obtain⟨_,_,_,rfl⟩:=DQ h;rfl
theorem Xa:B6 "__init__" "Joined.__init__" Mb ["self","sign","left","right"]:=λ_ _ _ _ _ _ _ h=>by obtain⟨_,_,_,_,rfl⟩:=Mq h;rfl
theorem V4:B6 "reads" "Number.reads" LN ["self"]:=λ_ _ _ _ _ _ _ h=>by obtain⟨_,rfl⟩:=EI h;rfl
theorem Uc:B6 "reads" "Cell.reads" Mv ["self"]:=λ_ _ _ _ _ _ _ h=>by obtain⟨_,rfl⟩:=EI h;rfl
theorem UU:B6 "reads" "Joined.reads" Mi ["self"]:=λ_ _ _ _ _ _ _ h=>by obtain⟨_,rfl⟩:=EI h;rfl
theorem Ua:B6 "__init__" "Deed.__init__" Mo ["self","names","lows","highs","table","spots","term","path"]:=λ_ _ _ _ _ _ _ h=>by obtain⟨_,_,_,_,_,_,_,_,rfl⟩:=cq h;rfl
theorem Zh:B6 "__init__" "Program.__init__" LW ["self","size","deeds"]:=λ_ _ _ _ _ _ _ h=>by obtain⟨_,_,_,rfl⟩:=DQ h;rfl
theorem cp:B6 "shared" "shared" Mj ["one","other"]:=λ_ _ _ _ _ _ _ h=>by obtain⟨_,_,rfl⟩:=Ew h;rfl
theorem Zc:B6 "alike_numbers" "alike_numbers" M6 ["path","other","most"]:=λ_ _ _ _ _ _ _ h=>by obtain⟨_,_,_,rfl⟩:=DQ h;rfl
theorem VC:B6 "fits" "fits" Il ["program","plan"]:=λ_ _ _ _ _ _ _ h=>by obtain⟨_,_,rfl⟩:=Ew h;rfl
theorem W1:B6 "deeds_within" "deeds_within" LF ["items","path","cuts"]:=λ_ _ _ _ _ _ _ h=>by obtain⟨_,_,_,rfl⟩:=DQ h;rfl
theorem Zp:B6 "has_bare_sweep" "has_bare_sweep" Kd ["items"]:=λ_ _ _ _ _ _ _ h=>by obtain⟨_,rfl⟩:=EI h;rfl
theorem TM:B6 "well_placed" "well_placed" JO ["deed","places","cuts"]:=λ_ _ _ _ _ _ _ h=>by obtain⟨_,_,_,rfl⟩:=DQ h;rfl
theorem YV:B6 "stand" "stand" MF ["plan","k"]:=λ_ _ _ _ _ _ _ h=>by obtain⟨_,_,rfl⟩:=Ew h;rfl
theorem aP:B6 "round_both" "round_both" KM ["plan","k","l"]:=λ_ _ _ _ _ _ _ h=>by obtain⟨_,_,_,rfl⟩:=DQ h;rfl
theorem cH:B6 "sides" "sides" M4 ["program","plan","k","l"]:=λ_ _ _ _ _ _ _ h=>by obtain⟨_,_,_,_,rfl⟩:=Mq h;rfl
theorem Zy:B6 "side_bonds" "side_bonds" LA ["program","plan","k","l","level","side"]:=λ_ _ _ _ _ _ _ h=>by obtain⟨_,_,_,_,_,_,rfl⟩:=NX h;rfl
theorem VA:B6 "settled" "settled" Kv ["count","bonds"]:=λ_ _ _ _ _ _ _ h=>by obtain⟨_,_,rfl⟩:=Ew h;rfl
theorem WV:B6 "lowered_in_a_round" "lowered_in_a_round" Mx ["bonds","values","lowered_by"]:=λ_ _ _ _ _ _ _ h=>by obtain⟨_,_,_,rfl⟩:=DQ h;rfl
theorem XE:B6 "ring_behind" "ring_behind" Mp ["count","bonds","lowered_by","lowered"]:=λ_ _ _ _ _ _ _ h=>by obtain⟨_,_,_,_,rfl⟩:=Mq h;rfl
theorem U0:B6 "touches" "touches" Kc ["deed"]:=λ_ _ _ _ _ _ _ h=>by obtain⟨_,rfl⟩:=EI h;rfl
theorem TZ:B6 "loop_bonds" "loop_bonds" Lb ["deed","first"]:=λ_ _ _ _ _ _ _ h=>by obtain⟨_,_,rfl⟩:=Ew h;rfl
theorem aO:B6 "like_bonds" "like_bonds" KZ ["spots","names","first","others","other_names","other_first"]:=λ_ _ _ _ _ _ _ h=>by obtain⟨_,_,_,_,_,_,rfl⟩:=NX h;rfl
theorem X4:B6 "unknown_of" "unknown_of" L7 ["spot","names","first"]:=λ_ _ _ _ _ _ _ h=>by obtain⟨_,_,_,rfl⟩:=DQ h;rfl
theorem XH:B6 "meets" "meets" La ["program"]:=λ_ _ _ _ _ _ _ h=>by obtain⟨_,rfl⟩:=EI h;rfl
theorem Tv:B6 "all_touches" "all_touches" Lz ["program"]:=λ_ _ _ _ _ _ _ h=>by obtain⟨_,rfl⟩:=EI h;rfl
theorem Wo:B6 "cases" "cases" Mc ["program","k","l"]:=λ_ _ _ _ _ _ _ h=>by obtain⟨_,_,_,rfl⟩:=DQ h;rfl
theorem bS:B6 "case_bonds" "case_bonds" Lv ["program","k","a","l","b","case"]:=λ_ _ _ _ _ _ _ h=>by obtain⟨_,_,_,_,_,_,rfl⟩:=NX h;rfl
theorem UJ:B6 "order_bonds" "order_bonds" KY ["many","case","behind"]:=λ_ _ _ _ _ _ _ h=>by obtain⟨_,_,_,rfl⟩:=DQ h;rfl
theorem W3:B6 "cases_met" "cases_met" Lw ["program"]:=λ_ _ _ _ _ _ _ h=>by obtain⟨_,rfl⟩:=EI h;rfl
theorem ZL:B6 "answer_of" "answer_of" Kn ["program","k","l","bonds"]:=λ_ _ _ _ _ _ _ h=>by obtain⟨_,_,_,_,rfl⟩:=Mq h;rfl
theorem Zj:B6 "looked" "looked" Mn ["program","plan"]:=λ_ _ _ _ _ _ _ h=>by obtain⟨_,_,rfl⟩:=Ew h;rfl
theorem Zm:B6 "_law_cell_at" "_law_cell_at" Ms ["_law_script","_law_k"]:=λ_ _ _ _ _ _ _ h=>by obtain⟨_,_,rfl⟩:=Ew h;rfl
theorem U8:B6 "_law_mixed" "_law_mixed" Ly ["_law_cell","_law_k"]:=λ_ _ _ _ _ _ _ h=>by obtain⟨_,_,rfl⟩:=Ew h;rfl
theorem Yl:B6 "_law_spot" "_law_spot" Ld ["_law_names","_law_q","_law_far"]:=λ_ _ _ _ _ _ _ h=>by obtain⟨_,_,_,rfl⟩:=DQ h;rfl
theorem YG:B6 "_law_touch" "_law_touch" Mg ["_law_names","_law_q","_law_far"]:=λ_ _ _ _ _ _ _ h=>by obtain⟨_,_,_,rfl⟩:=DQ h;rfl
theorem aX:B6 "_law_loop" "_law_loop" L8 ["_law_names","_law_q","_law_far","_law_turn","_law_last"]:=λ_ _ _ _ _ _ _ h=>by obtain⟨_,_,_,_,_,rfl⟩:=Si h;rfl
theorem Yo:B6 "_law_row" "_law_row" GO ["_law_stack","_law_path","_law_cell","_law_far","_law_limit"]:=λ_ _ _ _ _ _ _ h=>by obtain⟨_,_,_,_,_,rfl⟩:=Si h;rfl
theorem Zd:B6 "_law_rows" "_law_rows" Jv ["_law_cells","_law_limit","_law_far"]:=λ_ _ _ _ _ _ _ h=>by obtain⟨_,_,_,rfl⟩:=DQ h;rfl
theorem Tz:B6 "_law_term" "_law_term" LR ["_law_reads"]:=λ_ _ _ _ _ _ _ h=>by obtain⟨_,rfl⟩:=EI h;rfl
theorem Xx:B6 "_law_program" "_law_program" Mh ["_law_rows_here"]:=λ_ _ _ _ _ _ _ h=>by obtain⟨_,rfl⟩:=EI h;rfl
theorem Y5:B6 "_law_common" "_law_common" LD ["_law_one","_law_other"]:=λ_ _ _ _ _ _ _ h=>by obtain⟨_,_,rfl⟩:=Ew h;rfl
theorem aY:B6 "_law_items" "_law_items" L9 ["_law_boughs","_law_depth"]:=λ_ _ _ _ _ _ _ h=>by obtain⟨_,_,rfl⟩:=Ew h;rfl
theorem Uh:B6 "_law_own_boughs" "_law_own_boughs" Ki ["_law_rows_here"]:=λ_ _ _ _ _ _ _ h=>by obtain⟨_,rfl⟩:=EI h;rfl
theorem XS:B6 "_law_with" "_law_with" KW ["_law_boughs","_law_p","_law_bough"]:=λ_ _ _ _ _ _ _ h=>by obtain⟨_,_,_,rfl⟩:=DQ h;rfl
theorem Vt:B6 "_law_spoilt" "_law_spoilt" LZ ["_law_boughs","_law_kind","_law_p"]:=λ_ _ _ _ _ _ _ h=>by obtain⟨_,_,_,rfl⟩:=DQ h;rfl
theorem WA:B6 "_law_refused" "_law_refused" L4 ["_law_program_here","_law_plan"]:=λ_ _ _ _ _ _ _ h=>by obtain⟨_,_,rfl⟩:=Ew h;rfl
theorem Vi:B6 "_law_refused_by_any" "_law_refused_by_any" MC ["_law_program_here","_law_plan"]:=λ_ _ _ _ _ _ _ h=>by obtain⟨_,_,rfl⟩:=Ew h;rfl
theorem bp:B6 "law" "law" JA ["_law_script"]:=λ_ _ _ _ _ _ _ h=>by obtain⟨_,rfl⟩:=EI h;rfl
theorem txt_mk {w:World}{K:Faa}{h:Heap}{mg:Str->Option Value}{fa:Addr}(X:K.In h)(G:h.Ns mainGlobals mg)(hfa:mg "law"=some (.ref fa))
  {C_Term:Addr} {C_Number:Addr} {C_Cell:Addr} {C_Joined:Addr} {C_Deed:Addr} {C_Program:Addr} {C_FurrowError:Addr} {C_NoPlan:Addr} {C_TooMany:Addr} {C_BadPlan:Addr} {C_NoTurning:Addr} {f1 f2 f3 f4 f5 f6 f7 f8 f9 f10 f11 f12 f13 f14 f15 f16 f17 f18 f19 f20 f21 f22 f23 f24 f25 f26 f27 f28 f29 f30 f31 f32 f33 f34 f35 f36 f37 f38 f39 f40 f41 f42 f43 f44 f45 f46 f47 f48 f49 f50:Addr} {d1 d2 d3 d4 d5 d6 d7 d8 d9 d10 d11 d12 d13 d14 d15 d16 d17 d18 d19 d20 d21 d22 d23 d24 d25 d26 d27 d28 d29 d30 d31 d32 d33 d34 d35 d36 d37 d38 d39 d40 d41 d42 d43 d44 d45 d46 d47 d48 d49 d50:FuncData} {t_MOST_PAIRS:Tok} {t_MOST_SHIFT:Tok} {u_SIDES:Addr} {n_SIDES:Nat} {u_SIDES0:Addr} {h_SIDES0:Int} {k_SIDES0:Tok} {e_SIDES0:Option Addr} {n_SIDES0:Nat} {b_SIDES0:Array (Option Value)} {t_SIDES0_0:Tok} {u_SIDES1:Addr} {h_SIDES1:Int} {k_SIDES1:Tok} {e_SIDES1:Option Addr} {n_SIDES1:Nat} {b_SIDES1:Array (Option Value)} {t_SIDES1_0:Tok} {u_SIDES2:Addr} {h_SIDES2:Int} {k_SIDES2:Tok} {e_SIDES2:Option Addr} {n_SIDES2:Nat} {b_SIDES2:Array (Option Value)} {t_SIDES2_0:Tok} {t_SIDES2_1:Tok}
  (a_Term:ClA K C_Term "Term")
  (a_Number:ClA K C_Number "Number")
  (a_Cell:ClA K C_Cell "Cell")
  (a_Joined:ClA K C_Joined "Joined")
  (a_Deed:ClA K C_Deed "Deed")
  (a_Program:ClA K C_Program "Program")
  (a_FurrowError:PySem.W.nsIn K mainGlobals "FurrowError"=some (some (.ref C_FurrowError)))
  (a_NoPlan:PySem.W.nsIn K mainGlobals "NoPlan"=some (some (.ref C_NoPlan)))
  (a_TooMany:PySem.W.nsIn K mainGlobals "TooMany"=some (some (.ref C_TooMany)))
  (a_BadPlan:PySem.W.nsIn K mainGlobals "BadPlan"=some (some (.ref C_BadPlan)))
  (a_NoTurning:PySem.W.nsIn K mainGlobals "NoTurning"=some (some (.ref C_NoTurning)))
  (h1:Gp K C_Number "__init__" "Number.__init__" LH f1 d1)
  (h2:Gp K C_Cell "__init__" "Cell.__init__" LM f2 d2)
  (h3:Gp K C_Joined "__init__" "Joined.__init__" Mb f3 d3)
  (h4:Gp K C_Number "reads" "Number.reads" LN f4 d4)
  (h5:Gp K C_Cell "reads" "Cell.reads" Mv f5 d5)
  (h6:Gp K C_Joined "reads" "Joined.reads" Mi f6 d6)
  (h7:Gp K C_Deed "__init__" "Deed.__init__" Mo f7 d7)
  (h8:Gp K C_Program "__init__" "Program.__init__" LW f8 d8)
  (h9:Bw K "shared" Mj f9 d9)
  (h10:Bw K "alike_numbers" M6 f10 d10)
  (h11:Bw K "fits" Il f11 d11)
  (h12:Bw K "deeds_within" LF f12 d12)
  (h13:Bw K "has_bare_sweep" Kd f13 d13)
  (h14:Bw K "well_placed" JO f14 d14)
  (h15:Bw K "stand" MF f15 d15)
  (h16:Bw K "round_both" KM f16 d16)
  (h17:Bw K "sides" M4 f17 d17)
  (h18:Bw K "side_bonds" LA f18 d18)
  (h19:Bw K "settled" Kv f19 d19)
  (h20:Bw K "lowered_in_a_round" Mx f20 d20)
  (h21:Bw K "ring_behind" Mp f21 d21)
  (h22:Bw K "touches" Kc f22 d22)
  (h23:Bw K "loop_bonds" Lb f23 d23)
  (h24:Bw K "like_bonds" KZ f24 d24)
  (h25:Bw K "unknown_of" L7 f25 d25)
  (h26:Bw K "meets" La f26 d26)
  (h27:Bw K "all_touches" Lz f27 d27)
  (h28:Bw K "cases" Mc f28 d28)
  (h29:Bw K "case_bonds" Lv f29 d29)
  (h30:Bw K "order_bonds" KY f30 d30)
  (h31:Bw K "cases_met" Lw f31 d31)
  (h32:Bw K "answer_of" Kn f32 d32)
  (h33:Bw K "looked" Mn f33 d33)
  (h34:Bw K "_law_cell_at" Ms f34 d34)
  (h35:Bw K "_law_mixed" Ly f35 d35)
  (h36:Bw K "_law_spot" Ld f36 d36)
  (h37:Bw K "_law_touch" Mg f37 d37)
  (h38:Bw K "_law_loop" L8 f38 d38)
  (h39:Bw K "_law_row" GO f39 d39)
  (h40:Bw K "_law_rows" Jv f40 d40)
  (h41:Bw K "_law_term" LR f41 d41)
  (h42:Bw K "_law_program" Mh f42 d42)
  (h43:Bw K "_law_common" LD f43 d43)
  (h44:Bw K "_law_items" L9 f44 d44)
  (h45:Bw K "_law_own_boughs" Ki f45 d45)
  (h46:Bw K "_law_with" KW f46 d46)
  (h47:Bw K "_law_spoilt" LZ f47 d47)
  (h48:Bw K "_law_refused" L4 f48 d48)
  (h49:Bw K "_law_refused_by_any" MC f49 d49)
  (h50:Bw K "law" JA f50 d50)
  (n_Number_n:PySem.W.findIn K (.ref C_Number) "n"=some none)
  (n_Cell_table:PySem.W.findIn K (.ref C_Cell) "table"=some none)
  (n_Cell_spots:PySem.W.findIn K (.ref C_Cell) "spots"=some none)
  (n_Joined_sign:PySem.W.findIn K (.ref C_Joined) "sign"=some none)
  (n_Joined_left:PySem.W.findIn K (.ref C_Joined) "left"=some none)
  (n_Joined_right:PySem.W.findIn K (.ref C_Joined) "right"=some none)
  (n_Deed_names:PySem.W.findIn K (.ref C_Deed) "names"=some none)
  (n_Deed_lows:PySem.W.findIn K (.ref C_Deed) "lows"=some none)
  (n_Deed_highs:PySem.W.findIn K (.ref C_Deed) "highs"=some none)
  (n_Deed_table:PySem.W.findIn K (.ref C_Deed) "table"=some none)
  (n_Deed_spots:PySem.W.findIn K (.ref C_Deed) "spots"=some none)
  (n_Deed_term:PySem.W.findIn K (.ref C_Deed) "term"=some none)
  (n_Deed_path:PySem.W.findIn K (.ref C_Deed) "path"=some none)
  (n_Program_size:PySem.W.findIn K (.ref C_Program) "size"=some none)
  (n_Program_deeds:PySem.W.findIn K (.ref C_Program) "deeds"=some none)
  (hn0:PySem.W.specialIn K (.builtin "object.__class__") "__get__"=some (some (.builtin "getset_descriptor.__get__"))) (ht0:PySem.W.takesIn K (.builtin "object.__class__")=some true)
  (xga_FurrowError:PySem.W.findIn K (.ref C_FurrowError) "__getattribute__"=some (some (.builtin "BaseException.__getattribute__"))) (xgh_FurrowError:PySem.W.findIn K (.ref C_FurrowError) "__getattr__"=some none) (xbe_FurrowError:PySem.W.mroIn K C_FurrowError (.type "BaseException")=some true) (xsa_FurrowError:PySem.W.findIn K (.ref C_FurrowError) "__setattr__"=some (some (.builtin "object.__setattr__"))) (xhd_FurrowError:PySem.W.hasDictIn K C_FurrowError=true) (qmt_FurrowError:EX.mroTail K C_FurrowError=true) (xob_FurrowError:PySem.W.mroIn K C_FurrowError (.type "object")=some true) (qct_FurrowError:Hu K C_FurrowError []=true) (xca_FurrowError:PySem.W.findIn K (.ref C_FurrowError) "__class__"=some (some (.builtin "object.__class__"))) (kc_FurrowError:PySem.W.keepIn K (.ref C_FurrowError)=true)
  (xin_FurrowError:PySem.W.findIn K (.ref C_FurrowError) "__init__"=some (some (.builtin "ValueError.__init__")))
  (is_FurrowError_FurrowError:PySem.W.kitOne K (.ref C_FurrowError) (.ref C_FurrowError)=some true)
  (is_FurrowError_NoPlan:PySem.W.kitOne K (.ref C_FurrowError) (.ref C_NoPlan)=some false)
  (is_FurrowError_TooMany:PySem.W.kitOne K (.ref C_FurrowError) (.ref C_TooMany)=some false)
  (is_FurrowError_BadPlan:PySem.W.kitOne K (.ref C_FurrowError) (.ref C_BadPlan)=some false)
  (is_FurrowError_NoTurning:PySem.W.kitOne K (.ref C_FurrowError) (.ref C_NoTurning)=some false)
  (is_FurrowError_VE:PySem.W.kitOne K (.ref C_FurrowError) (.type "ValueError")=some true)
  (xga_NoPlan:PySem.W.findIn K (.ref C_NoPlan) "__getattribute__"=some (some (.builtin "BaseException.__getattribute__"))) (xgh_NoPlan:PySem.W.findIn K (.ref C_NoPlan) "__getattr__"=some none) (xbe_NoPlan:PySem.W.mroIn K C_NoPlan (.type "BaseException")=some true) (xsa_NoPlan:PySem.W.findIn K (.ref C_NoPlan) "__setattr__"=some (some (.builtin "object.__setattr__"))) (xhd_NoPlan:PySem.W.hasDictIn K C_NoPlan=true) (qmt_NoPlan:EX.mroTail K C_NoPlan=true) (xob_NoPlan:PySem.W.mroIn K C_NoPlan (.type "object")=some true) (qct_NoPlan:Hu K C_NoPlan [C_FurrowError]=true) (xca_NoPlan:PySem.W.findIn K (.ref C_NoPlan) "__class__"=some (some (.builtin "object.__class__"))) (kc_NoPlan:PySem.W.keepIn K (.ref C_NoPlan)=true)
  (xin_NoPlan:PySem.W.findIn K (.ref C_NoPlan) "__init__"=some (some (.builtin "ValueError.__init__")))
  (is_NoPlan_FurrowError:PySem.W.kitOne K (.ref C_NoPlan) (.ref C_FurrowError)=some true)
  (is_NoPlan_NoPlan:PySem.W.kitOne K (.ref C_NoPlan) (.ref C_NoPlan)=some true)
  (is_NoPlan_TooMany:PySem.W.kitOne K (.ref C_NoPlan) (.ref C_TooMany)=some false)
  (is_NoPlan_BadPlan:PySem.W.kitOne K (.ref C_NoPlan) (.ref C_BadPlan)=some false)
  (is_NoPlan_NoTurning:PySem.W.kitOne K (.ref C_NoPlan) (.ref C_NoTurning)=some false)
  (is_NoPlan_VE:PySem.W.kitOne K (.ref C_NoPlan) (.type "ValueError")=some true)
  (xga_TooMany:PySem.W.findIn K (.ref C_TooMany) "__getattribute__"=some (some (.builtin "BaseException.__getattribute__"))) (xgh_TooMany:PySem.W.findIn K (.ref C_TooMany) "__getattr__"=some none) (xbe_TooMany:PySem.W.mroIn K C_TooMany (.type "BaseException")=some true) (xsa_TooMany:PySem.W.findIn K (.ref C_TooMany) "__setattr__"=some (some (.builtin "object.__setattr__"))) (xhd_TooMany:PySem.W.hasDictIn K C_TooMany=true) (qmt_TooMany:EX.mroTail K C_TooMany=true) (xob_TooMany:PySem.W.mroIn K C_TooMany (.type "object")=some true) (qct_TooMany:Hu K C_TooMany [C_FurrowError]=true) (xca_TooMany:PySem.W.findIn K (.ref C_TooMany) "__class__"=some (some (.builtin "object.__class__"))) (kc_TooMany:PySem.W.keepIn K (.ref C_TooMany)=true)
  (xin_TooMany:PySem.W.findIn K (.ref C_TooMany) "__init__"=some (some (.builtin "ValueError.__init__")))
  (is_TooMany_FurrowError:PySem.W.kitOne K (.ref C_TooMany) (.ref C_FurrowError)=some true)
  (is_TooMany_NoPlan:PySem.W.kitOne K (.ref C_TooMany) (.ref C_NoPlan)=some false)
  (is_TooMany_TooMany:PySem.W.kitOne K (.ref C_TooMany) (.ref C_TooMany)=some true)
  (is_TooMany_BadPlan:PySem.W.kitOne K (.ref C_TooMany) (.ref C_BadPlan)=some false)
  (is_TooMany_NoTurning:PySem.W.kitOne K (.ref C_TooMany) (.ref C_NoTurning)=some false)
  (is_TooMany_VE:PySem.W.kitOne K (.ref C_TooMany) (.type "ValueError")=some true)
  (xga_BadPlan:PySem.W.findIn K (.ref C_BadPlan) "__getattribute__"=some (some (.builtin "BaseException.__getattribute__"))) (xgh_BadPlan:PySem.W.findIn K (.ref C_BadPlan) "__getattr__"=some none) (xbe_BadPlan:PySem.W.mroIn K C_BadPlan (.type "BaseException")=some true) (xsa_BadPlan:PySem.W.findIn K (.ref C_BadPlan) "__setattr__"=some (some (.builtin "object.__setattr__"))) (xhd_BadPlan:PySem.W.hasDictIn K C_BadPlan=true) (qmt_BadPlan:EX.mroTail K C_BadPlan=true) (xob_BadPlan:PySem.W.mroIn K C_BadPlan (.type "object")=some true) (qct_BadPlan:Hu K C_BadPlan [C_FurrowError]=true) (xca_BadPlan:PySem.W.findIn K (.ref C_BadPlan) "__class__"=some (some (.builtin "object.__class__"))) (kc_BadPlan:PySem.W.keepIn K (.ref C_BadPlan)=true)
  (xin_BadPlan:PySem.W.findIn K (.ref C_BadPlan) "__init__"=some (some (.builtin "ValueError.__init__")))
  (is_BadPlan_FurrowError:PySem.W.kitOne K (.ref C_BadPlan) (.ref C_FurrowError)=some true)
  (is_BadPlan_NoPlan:PySem.W.kitOne K (.ref C_BadPlan) (.ref C_NoPlan)=some false)
  (is_BadPlan_TooMany:PySem.W.kitOne K (.ref C_BadPlan) (.ref C_TooMany)=some false)
  (is_BadPlan_BadPlan:PySem.W.kitOne K (.ref C_BadPlan) (.ref C_BadPlan)=some true)
  (is_BadPlan_NoTurning:PySem.W.kitOne K (.ref C_BadPlan) (.ref C_NoTurning)=some false)
  (is_BadPlan_VE:PySem.W.kitOne K (.ref C_BadPlan) (.type "ValueError")=some true)
  (xga_NoTurning:PySem.W.findIn K (.ref C_NoTurning) "__getattribute__"=some (some (.builtin "BaseException.__getattribute__"))) (xgh_NoTurning:PySem.W.findIn K (.ref C_NoTurning) "__getattr__"=some none) (xbe_NoTurning:PySem.W.mroIn K C_NoTurning (.type "BaseException")=some true) (xsa_NoTurning:PySem.W.findIn K (.ref C_NoTurning) "__setattr__"=some (some (.builtin "object.__setattr__"))) (xhd_NoTurning:PySem.W.hasDictIn K C_NoTurning=true) (qmt_NoTurning:EX.mroTail K C_NoTurning=true) (xob_NoTurning:PySem.W.mroIn K C_NoTurning (.type "object")=some true) (qct_NoTurning:Hu K C_NoTurning [C_FurrowError]=true) (xca_NoTurning:PySem.W.findIn K (.ref C_NoTurning) "__class__"=some (some (.builtin "object.__class__"))) (kc_NoTurning:PySem.W.keepIn K (.ref C_NoTurning)=true)
  (xin_NoTurning:PySem.W.findIn K (.ref C_NoTurning) "__init__"=some (some (.builtin "ValueError.__init__")))
  (is_NoTurning_FurrowError:PySem.W.kitOne K (.ref C_NoTurning) (.ref C_FurrowError)=some true)
  (is_NoTurning_NoPlan:PySem.W.kitOne K (.ref C_NoTurning) (.ref C_NoPlan)=some false)
  (is_NoTurning_TooMany:PySem.W.kitOne K (.ref C_NoTurning) (.ref C_TooMany)=some false)
  (is_NoTurning_BadPlan:PySem.W.kitOne K (.ref C_NoTurning) (.ref C_BadPlan)=some false)
  (is_NoTurning_NoTurning:PySem.W.kitOne K (.ref C_NoTurning) (.ref C_NoTurning)=some true)
  (is_NoTurning_VE:PySem.W.kitOne K (.ref C_NoTurning) (.type "ValueError")=some true)
  (dnd:([C_FurrowError,C_NoPlan,C_TooMany,C_BadPlan,C_NoTurning]:List Addr).Nodup)
  (xbg:PySem.W.specialIn K (.ref C_FurrowError) "__getattribute__"=some (some (.builtin "type.__getattribute__"))) (xbr:PySem.W.readsIn K C_FurrowError (.type "type")=true) (xbf:PySem.W.findCls K (.ref C_FurrowError) (.type "type") "__init__"=some (.val (.builtin "ValueError.__init__")))
  (z_ValueError:PySem.W.nsIn K mainGlobals "ValueError"=some none)
  (z_abs:PySem.W.nsIn K mainGlobals "abs"=some none)
  (z_all:PySem.W.nsIn K mainGlobals "all"=some none)
  (z_any:PySem.W.nsIn K mainGlobals "any"=some none)
  (z_enumerate:PySem.W.nsIn K mainGlobals "enumerate"=some none)
  (z_int:PySem.W.nsIn K mainGlobals "int"=some none)
  (z_isinstance:PySem.W.nsIn K mainGlobals "isinstance"=some none)
  (z_len:PySem.W.nsIn K mainGlobals "len"=some none)
  (z_list:PySem.W.nsIn K mainGlobals "list"=some none)
  (z_min:PySem.W.nsIn K mainGlobals "min"=some none)
  (z_range:PySem.W.nsIn K mainGlobals "range"=some none)
  (z_sorted:PySem.W.nsIn K mainGlobals "sorted"=some none)
  (z_tuple:PySem.W.nsIn K mainGlobals "tuple"=some none)
  (z_zip:PySem.W.nsIn K mainGlobals "zip"=some none)
  (g_MOST_PAIRS:PySem.W.nsIn K mainGlobals "MOST_PAIRS"=some (some (.int 6 t_MOST_PAIRS)))
  (g_MOST_SHIFT:PySem.W.nsIn K mainGlobals "MOST_SHIFT"=some (some (.int 1000000000000000000 t_MOST_SHIFT)))
  (g_SIDES:PySem.W.nsIn K mainGlobals "SIDES"=some (some (.ref u_SIDES)))
  (q_SIDES:K.lookup u_SIDES=some ⟨.type "dict",none,.dict #[⟨h_SIDES0,.str "up" k_SIDES0,.ref u_SIDES0⟩,⟨h_SIDES1,.str "down" k_SIDES1,.ref u_SIDES1⟩,⟨h_SIDES2,.str "any" k_SIDES2,.ref u_SIDES2⟩] n_SIDES,#[]⟩)
  (q_SIDES0:K.lookup u_SIDES0=some ⟨.type "tuple",e_SIDES0,.seq #[.str "more" t_SIDES0_0] n_SIDES0,b_SIDES0⟩)
  (hh_SIDES0:h_SIDES0=hashStr w "up")
  (q_SIDES1:K.lookup u_SIDES1=some ⟨.type "tuple",e_SIDES1,.seq #[.str "less" t_SIDES1_0] n_SIDES1,b_SIDES1⟩)
  (hh_SIDES1:h_SIDES1=hashStr w "down")
  (q_SIDES2:K.lookup u_SIDES2=some ⟨.type "tuple",e_SIDES2,.seq #[.str "less" t_SIDES2_0,.str "more" t_SIDES2_1] n_SIDES2,b_SIDES2⟩)
  (hh_SIDES2:h_SIDES2=hashStr w "any") :
  ∃a:Ad,Tx w K mg a/\fa=a.f_S/\(∀(s:Shared) (v:Value),BindsTo s a.d_S ⟨[v],[]⟩ [("_law_script",v)]):=by
 have e:=hfa.symm.trans (AU X G h50.a);cases e;obtain⟨_,_,_,_,_,_,_,_,_,rfl,_⟩:=h50.F.ex;exact⟨⟨f1,d1,f2,d2,f3,d3,f4,d4,f5,d5,f6,d6,f7,d7,f8,d8,f9,d9,f10,d10,f11,d11,f12,d12,f13,d13,f14,d14,f15,d15,f16,d16,f17,d17,f18,d18,f19,d19,f20,d20,f21,d21,f22,d22,f23,d23,f24,d24,f25,d25,f26,d26,f27,d27,f28,d28,f29,d29,f30,d30,f31,d31,f32,d32,f33,d33,f34,d34,f35,d35,f36,d36,f37,d37,f38,d38,f39,d39,f40,d40,f41,d41,f42,d42,f43,d43,f44,d44,f45,d45,f46,d46,f47,d47,f48,d48,f49,d49,fa,_,C_Term,C_Number,C_Cell,C_Joined,C_Deed,C_Program,C_FurrowError,C_NoPlan,C_TooMany,C_BadPlan,C_NoTurning,.int 6 t_MOST_PAIRS,.int 1000000000000000000 t_MOST_SHIFT,u_SIDES,u_SIDES0,u_SIDES1,u_SIDES2⟩,⟨h1.F,
  h1.F.binds Wj,
  h2.F,
  h2.F.binds Ve,
  h3.F,
  h3.F.binds Xa,
  h4.F,
  h4.F.binds V4,
  h5.F,
  h5.F.binds Uc,
  h6.F,
  h6.F.binds UU,
  h7.F,
  h7.F.binds Ua,
  h8.F,
  h8.F.binds Zh,
  h9.F,
  h9.F.binds cp,
  AU X G h9.a,
  h10.F,
  h10.F.binds Zc,
  AU X G h10.a,
  h11.F,
  h11.F.binds VC,
  AU X G h11.a,
  h12.F,
  h12.F.binds W1,
  AU X G h12.a,
  h13.F,
  h13.F.binds Zp,
  AU X G h13.a,
  h14.F,
  h14.F.binds TM,
  AU X G h14.a,
  h15.F,
  h15.F.binds YV,
  AU X G h15.a,
  h16.F,
  h16.F.binds aP,
  AU X G h16.a,
  h17.F,
  h17.F.binds cH,
  AU X G h17.a,
  h18.F,
  h18.F.binds Zy,
  AU X G h18.a,
  h19.F,
  h19.F.binds VA,
  AU X G h19.a,
  h20.F,
  h20.F.binds WV,
  AU X G h20.a,
  h21.F,
  h21.F.binds XE,
  AU X G h21.a,
  h22.F,
  h22.F.binds U0,
  AU X G h22.a,
  h23.F,
  h23.F.binds TZ,
  AU X G h23.a,
  h24.F,
  h24.F.binds aO,
  AU X G h24.a,
  h25.F,
  h25.F.binds X4,
  AU X G h25.a,
  h26.F,
  h26.F.binds XH,
  AU X G h26.a,
  h27.F,
  h27.F.binds Tv,
  AU X G h27.a,
  h28.F,
  h28.F.binds Wo,
  AU X G h28.a,
  h29.F,
  h29.F.binds bS,
  AU X G h29.a,
  h30.F,
  h30.F.binds UJ,
  AU X G h30.a,
  h31.F,
  h31.F.binds W3,
  AU X G h31.a,
  h32.F,
  h32.F.binds ZL,
  AU X G h32.a,
  h33.F,
  h33.F.binds Zj,
  AU X G h33.a,
  h34.F,
  h34.F.binds Zm,
  AU X G h34.a,
  h35.F,
  h35.F.binds U8,
  AU X G h35.a,
  h36.F,
  h36.F.binds Yl,
  AU X G h36.a,
  h37.F,
  h37.F.binds YG,
  AU X G h37.a,
  h38.F,
  h38.F.binds aX,
  AU X G h38.a,
  h39.F,
  h39.F.binds Yo,
  AU X G h39.a,
  h40.F,
  h40.F.binds Zd,
  AU X G h40.a,
  h41.F,
  h41.F.binds Tz,
  AU X G h41.a,
  h42.F,
  h42.F.binds Xx,
  AU X G h42.a,
  h43.F,
  h43.F.binds Y5,
  AU X G h43.a,
  h44.F,
  h44.F.binds aY,
  AU X G h44.a,
  h45.F,
  h45.F.binds Uh,
  AU X G h45.a,
  h46.F,
  h46.F.binds XS,
  AU X G h46.a,
  h47.F,
  h47.F.binds Vt,
  AU X G h47.a,
  h48.F,
  h48.F.binds WA,
  AU X G h48.a,
  h49.F,
  h49.F.binds Vi,
  AU X G h49.a,
  h50.F,
  h50.F.binds bp,
  AU X G h50.a,
  ⟨a_Term.pg,a_Term.hd,a_Term.po,a_Term.sa⟩,
  AU X G a_Term.a,
  ⟨a_Number.pg,a_Number.hd,a_Number.po,a_Number.sa⟩,
  AU X G a_Number.a,
  ⟨a_Number.mi,h1.a,h1.i,a_Number.kc⟩,
  ⟨h4.a,h4.i,h4.F.kp⟩,
  n_Number_n,
  ⟨a_Cell.pg,a_Cell.hd,a_Cell.po,a_Cell.sa⟩,
  AU X G a_Cell.a,
  ⟨a_Cell.mi,h2.a,h2.i,a_Cell.kc⟩,
  ⟨h5.a,h5.i,h5.F.kp⟩,
  n_Cell_table,
  n_Cell_spots,
  ⟨a_Joined.pg,a_Joined.hd,a_Joined.po,a_Joined.sa⟩,
  AU X G a_Joined.a,
  ⟨a_Joined.mi,h3.a,h3.i,a_Joined.kc⟩,
  ⟨h6.a,h6.i,h6.F.kp⟩,
  n_Joined_sign,
  n_Joined_left,
  n_Joined_right,
  ⟨a_Deed.pg,a_Deed.hd,a_Deed.po,a_Deed.sa⟩,
  AU X G a_Deed.a,
  ⟨a_Deed.mi,h7.a,h7.i,a_Deed.kc⟩,
  n_Deed_names,
  n_Deed_lows,
  n_Deed_highs,
  n_Deed_table,
  n_Deed_spots,
  n_Deed_term,
  n_Deed_path,
  ⟨a_Program.pg,a_Program.hd,a_Program.po,a_Program.sa⟩,
  AU X G a_Program.a,
  ⟨a_Program.mi,h8.a,h8.i,a_Program.kc⟩,
  n_Program_size,
  n_Program_deeds,
  AU X G a_FurrowError,
  ⟨⟨xga_FurrowError,xgh_FurrowError,xbe_FurrowError,xsa_FurrowError,xhd_FurrowError,qmt_FurrowError,xob_FurrowError,(DU qct_FurrowError).elim λN z=>⟨N,_,z⟩⟩,xca_FurrowError,hn0,ht0⟩,
  DU qct_FurrowError,
  ⟨⟨xga_FurrowError,xgh_FurrowError,xbe_FurrowError,xsa_FurrowError,xhd_FurrowError,qmt_FurrowError,xob_FurrowError,(DU qct_FurrowError).elim λN z=>⟨N,_,z⟩⟩,xin_FurrowError,kc_FurrowError⟩,
  is_FurrowError_FurrowError,
  is_FurrowError_NoPlan,
  is_FurrowError_TooMany,
  is_FurrowError_BadPlan,
  is_FurrowError_NoTurning,
  is_FurrowError_VE,
  AU X G a_NoPlan,
  ⟨⟨xga_NoPlan,xgh_NoPlan,xbe_NoPlan,xsa_NoPlan,xhd_NoPlan,qmt_NoPlan,xob_NoPlan,(DU qct_NoPlan).elim λN z=>⟨N,_,z⟩⟩,xca_NoPlan,hn0,ht0⟩,
  DU qct_NoPlan,
  ⟨⟨xga_NoPlan,xgh_NoPlan,xbe_NoPlan,xsa_NoPlan,xhd_NoPlan,qmt_NoPlan,xob_NoPlan,(DU qct_NoPlan).elim λN z=>⟨N,_,z⟩⟩,xin_NoPlan,kc_NoPlan⟩,
  is_NoPlan_FurrowError,
  is_NoPlan_NoPlan,
  is_NoPlan_TooMany,
  is_NoPlan_BadPlan,
  is_NoPlan_NoTurning,
  is_NoPlan_VE,
  AU X G a_TooMany,
  ⟨⟨xga_TooMany,xgh_TooMany,xbe_TooMany,xsa_TooMany,xhd_TooMany,qmt_TooMany,xob_TooMany,(DU qct_TooMany).elim λN z=>⟨N,_,z⟩⟩,xca_TooMany,hn0,ht0⟩,
  DU qct_TooMany,
  ⟨⟨xga_TooMany,xgh_TooMany,xbe_TooMany,xsa_TooMany,xhd_TooMany,qmt_TooMany,xob_TooMany,(DU qct_TooMany).elim λN z=>⟨N,_,z⟩⟩,xin_TooMany,kc_TooMany⟩,
  is_TooMany_FurrowError,
  is_TooMany_NoPlan,
  is_TooMany_TooMany,
  is_TooMany_BadPlan,
  is_TooMany_NoTurning,
  is_TooMany_VE,
  AU X G a_BadPlan,
  ⟨⟨xga_BadPlan,xgh_BadPlan,xbe_BadPlan,xsa_BadPlan,xhd_BadPlan,qmt_BadPlan,xob_BadPlan,(DU qct_BadPlan).elim λN z=>⟨N,_,z⟩⟩,xca_BadPlan,hn0,ht0⟩,
  DU qct_BadPlan,
  ⟨⟨xga_BadPlan,xgh_BadPlan,xbe_BadPlan,xsa_BadPlan,xhd_BadPlan,qmt_BadPlan,xob_BadPlan,(DU qct_BadPlan).elim λN z=>⟨N,_,z⟩⟩,xin_BadPlan,kc_BadPlan⟩,
  is_BadPlan_FurrowError,
  is_BadPlan_NoPlan,
  is_BadPlan_TooMany,
  is_BadPlan_BadPlan,
  is_BadPlan_NoTurning,
  is_BadPlan_VE,
  AU X G a_NoTurning,
  ⟨⟨xga_NoTurning,xgh_NoTurning,xbe_NoTurning,xsa_NoTurning,xhd_NoTurning,qmt_NoTurning,xob_NoTurning,(DU qct_NoTurning).elim λN z=>⟨N,_,z⟩⟩,xca_NoTurning,hn0,ht0⟩,
  DU qct_NoTurning,
  ⟨⟨xga_NoTurning,xgh_NoTurning,xbe_NoTurning,xsa_NoTurning,xhd_NoTurning,qmt_NoTurning,xob_NoTurning,(DU qct_NoTurning).elim λN z=>⟨N,_,z⟩⟩,xin_NoTurning,kc_NoTurning⟩,
  is_NoTurning_FurrowError,
  is_NoTurning_NoPlan,
  is_NoTurning_TooMany,
  is_NoTurning_BadPlan,
  is_NoTurning_NoTurning,
  is_NoTurning_VE,
  dnd,
  ⟨xbg,xbr,xbf⟩,
  EB X G z_ValueError,
  EB X G z_abs,
  EB X G z_all,
  EB X G z_any,
  EB X G z_enumerate,
  EB X G z_int,
  EB X G z_isinstance,
  EB X G z_len,
  EB X G z_list,
  EB X G z_min,
  EB X G z_range,
  EB X G z_sorted,
  EB X G z_tuple,
  EB X G z_zip,
  AU X G g_MOST_PAIRS,
  ⟨_,rfl⟩,
  AU X G g_MOST_SHIFT,
  ⟨_,rfl⟩,
  AU X G g_SIDES,
  rfl,
  λH=>.inr ⟨_,_,_,q_SIDES0,rfl,rfl,Ai rfl,(.cons ⟨_,rfl⟩ .nil)⟩,
  λH=>.inr ⟨_,_,_,q_SIDES1,rfl,rfl,Ai rfl,(.cons ⟨_,rfl⟩ .nil)⟩,
  λH=>.inr ⟨_,_,_,q_SIDES2,rfl,rfl,Ai rfl,(.cons ⟨_,rfl⟩ (.cons ⟨_,rfl⟩ .nil))⟩,
  λP=>ZG q_SIDES hh_SIDES0 hh_SIDES1 hh_SIDES2 (by decide +kernel)⟩,rfl,λs v=>.of_eq rfl⟩
end Fw
open PySem PySem.W PyProof.Rows
namespace PySem.W.Fast
def tw10016109119536052402:=True
def tw10037431121590909571:=True
def tw10041227789642028131:=True
def tw10065604432848448672:=True
def tw10075895251102874698:=True
def tw10081146790463899592:=True
def tw1009704407612611270:=True
def tw10114553533149039788:=True
def tw10243203812541275986:=True
def tw10327374623680802079:=True
def tw10351199845638480669:=True
def tw10353021013724109537:=True
def tw10376628343910944629:=True
def tw1038623832802003316:=True
def tw10441979901516148985:=True
def tw10468663201494530201:=True
def tw10476480259399452577:=True
def tw10486778020715375277:=True
def tw10498782850677827:=True
def tw10509963187613373943:=True
def tw10534453703092684346:=True
def tw10558271716699284468:=True
def tw10656391479335122917:=True
def tw10679609780025824202:=True
def tw1068351996258337692:=True
def tw10697837756654963508:=True
def tw10734953903423516967:=True
def tw10744979440919012773:=True
def tw10747275128957992204:=True
def tw10749621910792465860:=True
def tw10766706050703067024:=True
def tw10789128339364404054:=True
def tw10794369480988755687:=True
def tw10881424590867380823:=True
def tw10981572431448259926:=True
def tw11011607974794360633:=True
def tw11058341258986188777:=True
def tw1112232615744811332:=True
def tw11145164822499106450:=True
def tw11146937757989802598:=True
def tw11199542472861163696:=True
def tw1121784565344588394:=True
def tw11241904530177231234:=True
def tw11278552402865323256:=True
def tw11289451563020592760:=True
def tw11384487637582918439:=True
def tw11390400092017323739:=True
def tw11408824336593731310:=True
def tw11426407177485049362:=True
def tw11461303501556719597:=True
def tw11489141877120149544:=True
def tw11492847467011104059:=True
def tw11638519457948932664:=True
def tw11642764891863892190:=True
def tw11702316443022172600:=True
def tw11745287025504335512:=True
def tw11818663792578194859:=True
def tw118371287580684705:=True
def tw11857556343648594043:=True
def tw1188314390537268649:=True
def tw11957196353821469419:=True
def tw1199518072915660911:=True
def tw12004923434662384981:=True
def tw12030622327663309354:=True
def tw12108542817322526504:=True
def tw12126838999647908117:=True
def tw12138218721405508585:=True
def tw12186191845812398764:=True
def tw12199668151632600345:=True
def tw12355199760567607236:=True
def tw12360682508808700609:=True
def tw12370209118658526486:=True
def tw1238550232639217594:=True
def tw1240503162526667826:=True
def tw12406035548247965964:=True
def tw12448868361915563546:=True
def tw12450721815436622127:=True
def tw12536991102164418718:=True
def tw12585827291197564454:=True
def tw12589263631692996437:=True
def tw1259487857267440610:=True
def tw12653128847983035959:=True
def tw12679415979721145162:=True
def tw12740259289156023491:=True
def tw12952357571908138476:=True
def tw12953267140184679132:=True
def tw12977405216050807703:=True
def tw12986458386136884237:=True
def tw13013479137288776896:=True
def tw13014443679201414101:=True
def tw13053385839175516609:=True
def tw13107923416800109903:=True
def tw1314468583631722631:=True
def tw13175368108950847524:=True
def tw13177951358854076103:=True
def tw13201431417338437063:=True
def tw13214076160243166909:=True
def tw13238727451372383374:=True
def tw13292956819403254964:=True
def tw13314597167704632329:=True
def tw13324204324040173187:=True
def tw13350608610521480238:=True
def tw13363290466504211593:=True
def tw13368168547612483027:=True
def tw13436847937239412458:=True
def tw13449842638844720217:=True
def tw13464021923834259291:=True
def tw1350778667390919737:=True
def tw13518962786302152901:=True
def tw13536894371487290082:=True
def tw13575846924769230602:=True
def tw13578032614640952188:=True
def tw1358601453785254859:=True
def tw13592268159283917309:=True
def tw1360586783227399101:=True
def tw13668828675681236653:=True
def tw13670319103850282237:=True
def tw13670987924230371390:=True
def tw13693046606539448639:=True
def tw13700471440749703196:=True
def tw13700970770881741943:=True
def tw13708393484534521601:=True
def tw13769964236108404157:=True
def tw13771427596427811557:=True
def tw13789363769920350676:=True
def tw1382182765119932601:=True
def tw13858917073338657403:=True
def tw13870832589096599147:=True
def tw13903630990290256763:=True
def tw13999765443352808755:=True
def tw14084605294809091372:=True
def tw14086030015021788087:=True
def tw14125876750750709861:=True
def tw14150061283600239866:=True
def tw14165535571764120859:=True
def tw14174482550863511583:=True
def tw14178991091092418265:=True
def tw14223065706196299199:=True
def tw14237071227353713794:=True
def tw14260274182158571944:=True
def tw14299456788402955692:=True
def tw14328091238609108570:=True
def tw14362978900460909553:=True
def tw14372368878243388327:=True
def tw14372853802519568536:=True
def tw1438329013628138470:=True
def tw14391017182302664747:=True
def tw14403285740432772567:=True
def tw14411569989104981735:=True
def tw1442084413221540622:=True
def tw14425313022067421709:=True
def tw14440235494450381131:=True
def tw14457960264174204223:=True
def tw1447111615439446139:=True
def tw14624263725866907699:=True
def tw1465672359718768336:=True
def tw14705613871626776167:=True
def tw14719559770085177878:=True
def tw14737936759556172635:=True
def tw1476220820715140451:=True
def tw14768584689391267471:=True
def tw14845241692423471136:=True
def tw14888858752846188066:=True
def tw14900051150001726276:=True
def tw14935130599508331131:=True
def tw14974083797101720340:=True
def tw14991254439743034061:=True
def tw14996547564155012500:=True
def tw15005315591341030199:=True
def tw15010073515001172856:=True
def tw15010791262070072454:=True
def tw15038930212349296410:=True
def tw15094610657107948683:=True
def tw15101581356884407023:=True
def tw15102032173308166674:=True
def tw15122563321022033093:=True
def tw15133189967853880534:=True
def tw15135576167656579364:=True
def tw15159653828429224575:=True
def tw15193172227231258324:=True
def tw1523966597377218209:=True
def tw15261538634206648961:=True
def tw15314324406113358811:=True
def tw15319059212342801366:=True
def tw15359460349763121741:=True
def tw15362060016031450491:=True
def tw15369632508362382961:=True
def tw15411049866192305072:=True
def tw15442650705932409198:=True
def tw15459944457445362456:=True
def tw15546560305287185599:=True
def tw15560167458711128407:=True
def tw1556189907665039594:=True
def tw15624300480572150209:=True
def tw15625313679657159440:=True
def tw15627565213891215415:=True
def tw15655021520347474267:=True
def tw15666038779542806791:=True
def tw15669751068466096906:=True
def tw15681242259859043548:=True
def tw15709145870035229261:=True
def tw15715846693353311661:=True
def tw1571911579728964049:=True
def tw15721021180053814853:=True
def tw15726229931533807453:=True
def tw15768413961141342211:=True
def tw15779406124000759905:=True
def tw15792084636662960234:=True
def tw1579781997177150715:=True
def tw15798969131990576469:=True
def tw15834239049337127245:=True
def tw15836974585853235800:=True
def tw15842216867847052113:=True
def tw1591296797104190082:=True
def tw15913226554141768371:=True
def tw15923942199305020280:=True
def tw15965270109523417677:=True
def tw15967879181177785414:=True
def tw16013533615926430086:=True
def tw16098927564307551070:=True
def tw16104811982007273059:=True
def tw16178094059782885959:=True
def tw16198708357343797143:=True
def tw16213440808046938026:=True
def tw16223721169535899041:=True
def tw1628637054268482207:=True
def tw16307145713350703378:=True
def tw16391892222521301126:=True
def tw16425575329031825458:=True
def tw16456157405207960314:=True
def tw16513597567365925869:=True
def tw16530265522487954770:=True
def tw166076406528411589:=True
def tw16626044201865851093:=True
def tw16657271685316661857:=True
def tw16667336375221372045:=True
def tw16729990904340410767:=True
def tw16742406007217771548:=True
def tw1677676061714997020:=True
def tw16967111456744029100:=True
def tw17013401548145636796:=True
def tw17023623629115786681:=True
def tw17089718910948075493:=True
def tw17130632230992385845:=True
def tw17259577877463240751:=True
def tw17309060216049772820:=True
def tw17355614480428356304:=True
def tw17380377786999706910:=True
def tw17380792182732286538:=True
def tw17385880693907543626:=True
def tw17420814779477634421:=True
def tw17467177201859990479:=True
def tw17525925003635242274:=True
def tw17618264087927681395:=True
def tw17641518488230222416:=True
def tw17642652897111787438:=True
def tw17670857773476077162:=True
def tw17710352970929125478:=True
def tw17717996747800670359:=True
def tw1772680440263657539:=True
def tw17760458846528274221:=True
def tw17791502587506503002:=True
def tw17840611685056454259:=True
def tw1790003079392135054:=True
def tw17956684048331322086:=True
def tw17986846663871028178:=True
def tw18003238894224624016:=True
def tw1803276829285392867:=True
def tw18053742467832370290:=True
def tw18057241546027788843:=True
def tw18097307752130483594:=True
def tw18125214961535553163:=True
def tw18133142480010872881:=True
def tw18148229515252049379:=True
def tw18169883294917807894:=True
def tw18214752645901031450:=True
def tw18220886065347363348:=True
def tw18245230161258676083:=True
def tw18262243396277724380:=True
def tw18312741285041697568:=True
def tw18313086760840439033:=True
def tw18350449661526984094:=True
def tw18373642455725634939:=True
def tw18411645884032850001:=True
def tw18444916338908681502:=True
def tw1862686040584706966:=True
def tw1944586852570567251:=True
def tw2007000921229473325:=True
def tw2018829287909258340:=True
def tw2157958618805524686:=True
def tw2218659827932408988:=True
def tw2242267953448493413:=True
def tw2294106605006620412:=True
def tw232149489966349426:=True
def tw2334963647669612582:=True
def tw2362205083167619663:=True
def tw237406303829859782:=True
def tw2439078927240532335:=True
def tw2463845579657061375:=True
def tw2495978533814583538:=True
def tw2511513180037433114:=True
def tw2558031437634982224:=True
def tw25826588217529541:=True
def tw2591443534855954314:=True
def tw2610714556274462913:=True
def tw265810218787233028:=True
def tw2663535510155044167:=True
def tw2664454747170478408:=True
def tw2681698769601168966:=True
def tw2702395382501060483:=True
def tw2703225830258357609:=True
def tw2720331756209975586:=True
def tw2731864193067347577:=True
def tw2738391841711750417:=True
def tw2817995810816070922:=True
def tw2829126161655427888:=True
def tw2849017298529896978:=True
def tw286580971582696966:=True
def tw2901731446726098406:=True
def tw2909683041993318918:=True
def tw2953249235421097970:=True
def tw2973275358285157328:=True
def tw2973437103191373543:=True
def tw3026095876632868924:=True
def tw3070619231106908634:=True
def tw30982441008423385:=True
def tw3126156692918806002:=True
def tw3130066635619081966:=True
def tw3186127401186594239:=True
def tw3207668588013898753:=True
def tw3239438219109726148:=True
def tw3242062690528451560:=True
def tw3244225643002566928:=True
def tw3251781971117854255:=True
def tw3300248497551096256:=True
def tw3307392907395657274:=True
def tw334748761492797760:=True
def tw3396171857113398797:=True
def tw3425568747896791821:=True
def tw3431243185707532818:=True
def tw3474084739118696298:=True
def tw3562430103467576255:=True
def tw3578259541237868081:=True
def tw3594909203608152668:=True
def tw3612311625285986133:=True
def tw3617430866285681503:=True
def tw3686090022617775041:=True
def tw3698771774279610132:=True
def tw3708355220370727924:=True
def tw3725550601738959725:=True
def tw3756744790908253839:=True
def tw3811466689374044733:=True
def tw3848641815113504969:=True
def tw3859646338635078469:=True
def tw3894571412055529619:=True
def tw3905531365441333833:=True
def tw3915456760384136346:=True
def tw3962715145444352160:=True
def tw3972984367185753197:=True
def tw4050748574930459280:=True
def tw4130669795629846987:=True
def tw4176371868142238444:=True
def tw4183435801346864766:=True
def tw4188426027038582989:=True
def tw4204488141188756140:=True
def tw4243243789978901910:=True
def tw4254671896338828541:=True
def tw4270502037225546521:=True
def tw4298430838106501966:=True
def tw4298877242168365960:=True
def tw4339631143591369196:=True
def tw4379572550148580823:=True
def tw437969089385207287:=True
def tw4386277587125740560:=True
def tw4432359167744918306:=True
def tw4484153133007587354:=True
def tw4489606490709399359:=True
def tw4553105830948076500:=True
def tw4554009799748949782:=True
def tw4561152061760050732:=True
def tw4561525644828089127:=True
def tw467560235460243389:=True
def tw474759774669825030:=True
def tw487009149074695322:=True
def tw4877026092513879815:=True
def tw4887814450885844381:=True
def tw4889411614697856540:=True
def tw4978132744362354496:=True
def tw4987720679132636223:=True
def tw5057453286295963780:=True
def tw505942504526941010:=True
def tw5100441558866636580:=True
def tw5108996317315326930:=True
def tw5129697051064855764:=True
def tw5187606521899533318:=True
def tw5347524028426754087:=True
def tw537978300606096012:=True
def tw5393323481738096055:=True
def tw5441510295615220338:=True
def tw5446264295038403031:=True
def tw5485404519447225243:=True
def tw5510780378519400869:=True
def tw5524993798789106206:=True
def tw5554940704903173042:=True
def tw5566279856239498374:=True
def tw5586128745005068785:=True
def tw5595269453233733550:=True
def tw5663178385122285339:=True
def tw5663990027746137815:=True
def tw5689282310036609415:=True
def tw5728860740274351340:=True
def tw5794962354326341292:=True
def tw5823633767780951909:=True
def tw5828660116129833261:=True
def tw5870909802812947432:=True
def tw5873940345245778777:=True
def tw5881148140212910264:=True
def tw5908559193414541324:=True
def tw5940052672286869500:=True
def tw5945910863006285682:=True
def tw5949550276235019374:=True
def tw5971688385019258789:=True
def tw597679548735513854:=True
def tw5984031756613434891:=True
def tw5986962169028993759:=True
def tw6019432668122433287:=True
def tw6029038659255055163:=True
def tw6052890445640336502:=True
def tw6064247866856368692:=True
def tw6099634032597800393:=True
def tw6190643931518560518:=True
def tw6198505891145342145:=True
def tw6204208969767141180:=True
def tw6208222240300679043:=True
def tw6234368917024106076:=True
def tw6252112018762815543:=True
def tw6284210838581291510:=True
def tw6299193923257347103:=True
def tw637117512875313288:=True
def tw6387564299947227015:=True
def tw6401457475077821860:=True
def tw6412961568212831731:=True
def tw6437899757964365715:=True
def tw643931991830799617:=True
def tw6475677319414176078:=True
def tw6478602220008538800:=True
def tw6506992673091767441:=True
def tw6510511371625455002:=True
def tw6552782112180610787:=True
def tw6647767288733709173:=True
def tw671422087453989323:=True
def tw6729905454018167813:=True
def tw6741922149389111162:=True
def tw6802567292675878206:=True
def tw6816927186545244650:=True
def tw6840113885964720093:=True
def tw6874722343984644646:=True
def tw6895971200092099245:=True
def tw689930582989318704:=True
def tw6910052083359253122:=True
def tw6913991144220047313:=True
def tw692754331666179970:=True
def tw6933307769103654654:=True
def tw6958106862356711607:=True
def tw6984526415493485254:=True
def tw7084589630376269486:=True
def tw7092708202794440106:=True
def tw7093311030243302791:=True
def tw7115606592568922277:=True
def tw7233765901513819706:=True
def tw7235898646913986043:=True
def tw7273089922309344615:=True
def tw7287784815513260256:=True
def tw7320181107422078952:=True
def tw7325362282823353279:=True
def tw7383979335025291835:=True
def tw7425666910042292876:=True
def tw7460305601593401944:=True
def tw7499500207673145211:=True
def tw7551698823892528347:=True
def tw7589936233114591004:=True
def tw7700858926418616694:=True
def tw7713014307025321908:=True
def tw7742025034367404995:=True
def tw7776244288320504624:=True
def tw7787656211449309499:=True
def tw7852539442637164641:=True
def tw7857964658050070997:=True
def tw7863370205121968668:=True
def tw789094360417390695:=True
def tw7903574547656974445:=True
def tw7953768231393926209:=True
def tw7985217671616706796:=True
def tw7990067318444054556:=True
def tw7994129111783704595:=True
def tw8026544614306864106:=True
def tw8033968276342076179:=True
def tw8075511971645248558:=True
def tw8086075207185317306:=True
def tw8088034391557915620:=True
def tw8106388238924840642:=True
def tw8124052391194083943:=True
def tw8182530067415778709:=True
def tw8204473900916351300:=True
def tw8301458408275852412:=True
def tw8302146720900693593:=True
def tw8308910462038770603:=True
def tw8331814492488723734:=True
def tw8344672891121354802:=True
def tw8346508350821736883:=True
def tw8406671147679560917:=True
def tw847967550433502451:=True
def tw8482355292201515895:=True
def tw8498256776317247451:=True
def tw8542844961055200822:=True
def tw8563771222827667564:=True
def tw8567851845182161106:=True
def tw8585043267957516465:=True
def tw8623408895005418912:=True
def tw8629191010255537546:=True
def tw8658519380192043237:=True
def tw8660061178372030068:=True
def tw8698436611335110178:=True
def tw8703000231357328853:=True
def tw8705946478569189799:=True
def tw8717346424851546325:=True
def tw8726258968101945991:=True
def tw8735446833283858957:=True
def tw8759628439397962521:=True
def tw8780690889205294159:=True
def tw8793119142928627683:=True
def tw8812473190136725539:=True
def tw8852585917274975061:=True
def tw888297665106926578:=True
def tw8905587374051863148:=True
def tw895517871704536683:=True
def tw90287179720150921:=True
def tw9029728122882672170:=True
def tw9031628038074286580:=True
def tw9032434484484099821:=True
def tw9042706859499690176:=True
def tw9060468144419127797:=True
def tw9064253514923292389:=True
def tw9069258888139469271:=True
def tw9092236104250708127:=True
def tw9093236308616412275:=True
def tw9104584446850764363:=True
def tw9107615593085627550:=True
def tw9115583788216302650:=True
def tw9159069732116886385:=True
def tw916150893745342842:=True
def tw9216535310615042128:=True
def tw9289303752132913525:=True
def tw9322516299066454527:=True
def tw9329185600141478615:=True
def tw9353798649623655740:=True
def tw9417592223190527971:=True
def tw9467173672672693817:=True
def tw9473359692614114073:=True
def tw9509493169327128854:=True
def tw9527693834937501249:=True
def tw954421431929006444:=True
def tw9616892309509345297:=True
def tw9619182448167136488:=True
def tw9638950634309902965:=True
def tw9647627329315559908:=True
def tw9706976128445387886:=True
def tw9722830051434389714:=True
def tw9738156738908257477:=True
def tw9810969313826321105:=True
def tw9815828183267513265:=True
def tw9818621052736554690:=True
def tw9833004759070201874:=True
def tw9842806018703572591:=True
def tw9856047655357779767:=True
def tw9861497489354053653:=True
def tw9922392498031771349:=True
def tw9931577477719146138:=True
def tw9944030599770812036:=True
end PySem.W.Fast
set_option maxRecDepth 100000 in
set_option maxHeartbeats 0 in
theorem PySem.Challenge.cw_furrow_k78_plans_that_do_not_fit_holds : PySem.Challenge.rw_furrow_k78_plans_that_do_not_fit.Holds := by
 w_on;o_law;k_head;(case hw=>w_witness2)
 k_fill
 refine L2.law_walk (l:=PySem.Challenge.rw_furrow_k78_plans_that_do_not_fit) (x:="_law_script") 120 (by decide) rfl rfl (λw h Y=>PySem.W.kIn_of Y) ?F
 case F=>
  intro w mg fa h KX G hmg
  suffices hh:∃a:Fw.Ad,Fw.Tx w _ mg a/\fa=a.f_S/\(∀(s:Shared) (v:Value),BindsTo s a.d_S ⟨[v],[]⟩ [("_law_script",v)]) by
   obtain⟨a,T,e,b⟩:=hh;subst e;exact⟨a.d_S,b,λbase _ _=>Fw.ok_law T⟩
  refine' Fw.txt_mk KX G hmg ?a_Term ?a_Number ?a_Cell ?a_Joined ?a_Deed ?a_Program ?a_FurrowError ?a_NoPlan ?a_TooMany ?a_BadPlan ?a_NoTurning ?h1 ?h2 ?h3 ?h4 ?h5 ?h6 ?h7 ?h8 ?h9 ?h10 ?h11 ?h12 ?h13 ?h14 ?h15 ?h16 ?h17 ?h18 ?h19 ?h20 ?h21 ?h22 ?h23 ?h24 ?h25 ?h26 ?h27 ?h28 ?h29 ?h30 ?h31 ?h32 ?h33 ?h34 ?h35 ?h36 ?h37 ?h38 ?h39 ?h40 ?h41 ?h42 ?h43 ?h44 ?h45 ?h46 ?h47 ?h48 ?h49 ?h50 ?n_Number_n ?n_Cell_table ?n_Cell_spots ?n_Joined_sign ?n_Joined_left ?n_Joined_right ?n_Deed_names ?n_Deed_lows ?n_Deed_highs ?n_Deed_table ?n_Deed_spots ?n_Deed_term ?n_Deed_path ?n_Program_size ?n_Program_deeds ?hn0 ?ht0 ?xga_FurrowError ?xgh_FurrowError ?xbe_FurrowError ?xsa_FurrowError ?xhd_FurrowError ?qmt_FurrowError ?xob_FurrowError ?qct_FurrowError ?xca_FurrowError ?kc_FurrowError ?xin_FurrowError ?is_FurrowError_FurrowError ?is_FurrowError_NoPlan ?is_FurrowError_TooMany ?is_FurrowError_BadPlan ?is_FurrowError_NoTurning ?is_FurrowError_VE ?xga_NoPlan ?xgh_NoPlan ?xbe_NoPlan ?xsa_NoPlan ?xhd_NoPlan ?qmt_NoPlan ?xob_NoPlan ?qct_NoPlan ?xca_NoPlan ?kc_NoPlan ?xin_NoPlan ?is_NoPlan_FurrowError ?is_NoPlan_NoPlan ?is_NoPlan_TooMany ?is_NoPlan_BadPlan ?is_NoPlan_NoTurning ?is_NoPlan_VE ?xga_TooMany ?xgh_TooMany ?xbe_TooMany ?xsa_TooMany ?xhd_TooMany ?qmt_TooMany ?xob_TooMany ?qct_TooMany ?xca_TooMany ?kc_TooMany ?xin_TooMany ?is_TooMany_FurrowError ?is_TooMany_NoPlan ?is_TooMany_TooMany ?is_TooMany_BadPlan ?is_TooMany_NoTurning ?is_TooMany_VE ?xga_BadPlan ?xgh_BadPlan ?xbe_BadPlan ?xsa_BadPlan ?xhd_BadPlan ?qmt_BadPlan ?xob_BadPlan ?qct_BadPlan ?xca_BadPlan ?kc_BadPlan ?xin_BadPlan ?is_BadPlan_FurrowError ?is_BadPlan_NoPlan ?is_BadPlan_TooMany ?is_BadPlan_BadPlan ?is_BadPlan_NoTurning ?is_BadPlan_VE ?xga_NoTurning ?xgh_NoTurning ?xbe_NoTurning ?xsa_NoTurning ?xhd_NoTurning ?qmt_NoTurning ?xob_NoTurning ?qct_NoTurning ?xca_NoTurning ?kc_NoTurning ?xin_NoTurning ?is_NoTurning_FurrowError ?is_NoTurning_NoPlan ?is_NoTurning_TooMany ?is_NoTurning_BadPlan ?is_NoTurning_NoTurning ?is_NoTurning_VE ?dnd ?xbg ?xbr ?xbf ?z_ValueError ?z_abs ?z_all ?z_any ?z_enumerate ?z_int ?z_isinstance ?z_len ?z_list ?z_min ?z_range ?z_sorted ?z_tuple ?z_zip ?g_MOST_PAIRS ?g_MOST_SHIFT ?g_SIDES ?q_SIDES ?q_SIDES0 ?hh_SIDES0 ?q_SIDES1 ?hh_SIDES1 ?q_SIDES2 ?hh_SIDES2
  any_goals first|refine'⟨?_,L2.fun_mk ?_ ?_ ?_⟩|refine'⟨?_,?_,L2.fun_mk ?_ ?_ ?_⟩|refine' Fw.ClA.mk ?_ ?_ ?_ ?_ ?_ ?_ ?_
  any_goals first|k_is|kit_is|exact rfl|kernel_rfl|decide
#print axioms PySem.Challenge.cw_furrow_k78_plans_that_do_not_fit_holds
