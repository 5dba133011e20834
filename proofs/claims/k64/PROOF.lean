import PyProof.Rows.All
import Wide.All
import OpenK.AllK
import Wide.FinOn
import Lean
import PyProof.EqAt
import PyProof.EqKinds
import PyProof.TupleCall
import PyProof.ListMulRoad
import PyProof.DictItems
import KE.KItemsList
import PySem.Challenge.RW_furrow_k64_ends_of_cut_sweeps
set_option genSizeOf false
set_option genInjectivity false
set_option compiler.extract_closed false
set_option Elab.async false
set_option linter.all false
set_option maxRecDepth 100000
set_option maxHeartbeats 4000000
noncomputable section
abbrev Faa:=PySem.W.Frag
def A1:=@PySem.wpAny_bind
def Ab:=@if_neg
def Ae:=@PySem.wpAny_pure
def Ah:=@Nat.le_refl
def Aj:=@if_pos
def Al:=@List.length_map
def As:=@List.getElem?_eq_some_iff
def Aw:=@PySem.Heap.get?_push_of_some
def AA:=@PySem.Heap.lt_size
def AC:=@List.getElem?_eq_getElem
def AF:=@List.length_append
def AN:=@Nat.ne_of_lt
def AO:=@List.mem_of_getElem?
def AQ:=@List.getElem?_map
def AS:=@List.mem_cons
def AV:=@List.length_take
def AZ:=@List.size_toArray
def B3:=@List.map_append
def B8:=@PySem.Heap.get?_push_size
def B9:=@List.length_cons
def Bf:=@List.length_singleton
def Bk:=@Nat.zero_le
def Br:=@PySem.W.mg_of
def Bz:=@List.mem_singleton
def BH:=@List.getElem?_append_right
def BN:=@List.mem_cons_self
def BO:=@List.mem_append
def BS:=@Nat.lt_of_lt_of_le
def BU:=@Nat.ne_of_gt
def BY:=@List.map_cons
def C6:=@List.mem_cons_of_mem
def C7:=@List.mem_append_right
def C8:=@List.getElem?_append_left
def C9:=@List.mem_map
def Cd:=@List.getD_eq_getElem?_getD
def Cp:=@Option.some.inj
def Cq:=@Nat.sub_self
def Cr:=@PySem.F.plainAttrs_list
def Cz:=@Nat.le_trans
def CA:=@List.mem_append_left
def CH:=@Bool.false_ne_true
def CI:=@Nat.le_add_right
def CS:=@List.getElem?_take_of_lt
def CU:=@List.take_of_length_le
def CV:=@PySem.wpAny_mono
def D7:=@Nat.lt_irrefl
def D8:=@decide_eq_false
def D9:=@PySem.wpAny_field
def Da:=@decide_eq_true
def DF:=@Array.length_toList
def DG:=@PySem.Heap.get?_update_self
def DH:=@List.append_assoc
def DI:=@List.not_mem_nil
def DJ:=@Nat.lt_or_ge
def DK:=@PySem.F.slot_list_append
def DL:=@PySem.F.type_list_append
def DM:=@PySem.wpAny_holding
def DZ:=@PySem.Heap.get?_update_other
def Ei:=@Int.emod_nonneg
def Ej:=@Int.emod_lt_of_pos
def EG:=@Int.toNat_natCast
def EH:=@List.length_range
def EI:=@PySem.wpAny_seqItems
def F6:=@Nat.le_succ
def F7:=@Bool.and_eq_true
def F8:=@PySem.wpAny_setField_rec
def Ft:=@PySem.W.mg_none_of
def Fu:=@PySem.wpAny_newObj_type
def FO:=@List.mem_range
def FP:=@Nat.le_of_lt
def FQ:=@PySem.W.kia_one
def FR:=@List.append_nil
def FS:=@PySem.wpAny_letGo
def Ge:=@PyProof.Rows.callWith_type1
def Gf:=@PySem.Heap.size_push
def Gg:=@PySem.Heap.SameBut.update
def Gh:=@PySem.sizeLine_eq
def Gi:=@PySem.wpAny_Call_Name_kw
def Gj:=@PySem.wpAny_call_entry
def GN:=@List.length_drop
def GO:=@List.lookup_cons
def GP:=@Int.le_refl
def GQ:=@List.mem_iff_getElem?
def GR:=@beq_iff_eq
def GS:=@PySem.call_meets
def Ie:=@Nat.lt_succ_self
def Ig:=@List.nodup_cons
def Ih:=@List.nil_append
def Ii:=@List.length_nil
def Ij:=@Nat.min_eq_left
def Ik:=@List.pairwise_map
def Il:=@List.map_map
def Im:=@List.range_succ
def Io:=@List.getElem?_drop
def Ip:=@Array.getElem?_eq_some_iff
def Iq:=@Int.mul_sub
def Ir:=@List.pairwise_iff_getElem
def Iu:=@beq_eq_false_iff_ne
def Iv:=@PySem.wpAny_call
def Iw:=@if_false
def Iy:=@if_true
def IA:=@of_decide_eq_true
def IB:=@PySem.wpAny_setField
def IC:=@PySem.numAt_eq
def ID:=@PySem.wpAny_updateSeq
def IE:=@PySem.wpAny_dictEpoch
def IF:=@PySem.codeAny_builtin
def IG:=@PySem.plainId_quiet
def Jx:=@List.length_set
def Jy:=@List.replicate_succ
def Jz:=@Nat.succ_mul
def JA:=@Option.map_some
def JB:=@List.getElem?_range
def JC:=@Option.getD_some
def JD:=@List.drop_eq_getElem_cons
def JE:=@Nat.not_lt_zero
def JF:=@List.eq_nil_of_length_eq_zero
def JG:=@PySem.wpAny_standAt
def JH:=@PySem.wpAny_passesOwn
def JI:=@PySem.codeAny_mono
def JJ:=@PySem.wpAny_loadPart_at
def L7:=@List.getElem?_set_self
def L8:=@Bool.eq_iff_iff
def L9:=@List.find?_cons
def La:=@List.drop_zero
def Lb:=@Nat.zero_add
def Lc:=@List.ext_getElem?
def Ld:=@Array.getElem?_eq_getElem
def Le:=@List.getElem?_cons_succ
def Lf:=@List.take_left'
def Lg:=@Nat.mul_le_mul_right
def Lh:=@PySem.wpAny_truthy_bool
def Li:=@PySem.wpAny_pyIter_zip
def Lj:=@PySem.intItems_at
def Lk:=@PySem.wpAny_isOneOf_itemiter
def N3:=@List.getElem?_eq_none_iff
def N4:=@List.getElem?_set_ne
def N5:=@PySem.mem_of_lookup
def N6:=@List.any_cons
def N7:=@Bool.and_false
def N8:=@Nat.add_comm
def N9:=@List.map_nil
def Na:=@List.forIn_cons
def Nb:=@List.mem_iff_getElem
def Nc:=@List.getElem_mem
def Nd:=@Nat.sub_zero
def Nf:=@List.drop_eq_nil_of_le
def Ng:=@PySem.Heap.get?_push_cases
def Nh:=@List.take_length
def Ni:=@Classical.choose_spec
def Nj:=@List.head?_eq_getElem?
def Nk:=@Nat.not_lt
def Nl:=@Nat.eq_zero_or_pos
def Nm:=@PySem.F.plain_extend_loop
def Nn:=@Int.zero_add
def Np:=@PySem.wpAny_execs_nil
def Nq:=@PySem.wpAny_pyIter_list
def Nr:=@PySem.nums_intItems
def Nt:=@PySem.wpAny_rule
def Nu:=@PySem.wpAny_onRaise
def Nv:=@PySem.wpAny_attempt
def Nw:=@PySem.wpAny_isInstance
def Nx:=@PySem.isSubtype_stop
def Ny:=@PySem.wpAny_tryCatch
def P2:=@Nat.le_of_eq
def P3:=@PySem.W.callWith_K
def P4:=@PyProof.Rows.slot_tuple_getitem
def P5:=@List.flatten_cons
def P6:=@Array.getElem?_toList
def P7:=@Nat.lt_trans
def P8:=@List.nodup_nil
def P9:=@List.map_congr_left
def Pa:=@List.getElem?_set
def Pb:=@List.getElem?_eq_none
def Pc:=@List.take_take
def Pd:=@Nat.lt_trichotomy
def Pe:=@Bool.false_eq_true
def Pf:=@List.countP_cons
def Pg:=@Int.le_of_lt
def Ph:=@Int.mul_comm
def Pi:=@Int.zero_ediv
def Pj:=@Int.neg_mul
def Pk:=@List.nodup_append
def Pl:=@Int.natCast_nonneg
def Pm:=@PySem.wpAny_typeOf
def Pn:=@PySem.call_meetsIn
def Po:=@PySem.wpAny_pyIter_enum
def Pq:=@PySem.wpAny_handled
def Pr:=@PySem.wpAny_throw
def Pt:=@PySem.wpAny_newTuple
def Pu:=@PySem.wpAny_pyIter_tuple
def Px:=@PySem.wpAny_isSubtype_exc
def Py:=@PySem.wpAny_typeNameOfWhole_itemiter
def Ta:=@List.mem_filter
def Tb:=@List.filterMap_cons
def Tc:=@List.of_mem_zip
def Td:=@PySem.F.slot_tuple_add
def Te:=@PySem.F.entry_tuple_add
def Tf:=@PySem.F.args_tuple_add_2
def Tg:=@PySem.evalArgs_none
def Th:=@List.length_reverse
def Ti:=@PySem.F.slot_dict_get
def Tj:=@PySem.F.plainAttrs_dict
def Tn:=@List.all_eq_true
def To:=@List.any_eq_true
def Tp:=@List.mem_erase_of_ne
def Tq:=@List.length_erase_of_mem
def Ts:=@List.nodup_iff_pairwise_ne
def Tu:=@Nat.lt_or_eq_of_le
def Tv:=@List.countP_append
def Tz:=@PySem.F.slot_list_extend
def TB:=@PySem.F.type_list_extend
def TC:=@PySem.noFill_tuple_add
def TF:=@PySem.tupleKind_room_in1
def TH:=@PySem.wpAny_Call_method
def TJ:=@decide_eq_true_eq
def TL:=@PySem.wpAny_letOwnedTupleGo_zip
def TM:=@beq_self_eq_true
def TN:=@PySem.codeAny_call_builtin
def TQ:=@PySem.wpAny_ite_split
def TR:=@PySem.wpAny_isOneOf_valiter
def cY:=@PyProof.Rows.callWith_builtin1
def cZ:=@Int.mul_le_mul_of_nonneg_left
def da:=@List.take_append_of_le_length
def dc:=@PySem.plainObj_wpAny_Assign_Attribute
def df:=@PySem.wpAny_typeNameOfWhole_valiter
namespace L2
open PySem PySem.Spec PyProof.Rows
abbrev Ap:=Sum Int Str
def IS:Ap->Value->Bool
 |.inl k,v=>Value.isInt k v
 |.inr x,v=>Value.isStrOf x v
def TX (w:World):Ap->Int
 |.inl k=>hashInt k
 |.inr x=>hashStr w x
theorem Gc:∀{k:Ap} {v:Value},IS k v=true->(∃i t,k=Sum.inl i/\v=Value.int i t)\/(∃x t,k=Sum.inr x/\v=Value.str x t)
 |
  .inl i,v,h=>by
  obtain⟨t,e⟩:=Value.isInt_shape (k:=i) (v:=v) h
  exact .inl ⟨i,t,rfl,e⟩
 |
  .inr x,v,h=>by
  obtain⟨t,e⟩:=Value.isStrOf_shape (x:=x) (v:=v) h
  exact .inr ⟨x,t,rfl,e⟩
theorem X8 (i:Int)(t:Tok):IS (.inl i) (.int i t)=true:=by simp[IS,Value.isInt]
theorem Yn (x:Str)(t:Tok):IS (.inr x) (.str x t)=true:=by simp[IS,Value.isStrOf]
theorem Yo (a b:Int):decide ((Sum.inl a:Ap)=Sum.inl b)=(a==b):=by
 by_cases e:a=b
 .subst e;simp
 .have h:¬(Sum.inl a:Ap)=Sum.inl b:=fun q=>e (Sum.inl.inj q)
  rw[D8 h]
  exact(Iu.mpr e).symm
theorem aB (a b:Str):decide ((Sum.inr a:Ap)=Sum.inr b)=decide (a=b):=by
 by_cases e:a=b
 .subst e;simp
 .have h:¬(Sum.inr a:Ap)=Sum.inr b:=fun q=>e (Sum.inr.inj q)
  rw[D8 h,D8 e]
theorem UJ (a:Int)(b:Str):decide ((Sum.inl a:Ap)=Sum.inr b)=false:=D8 (fun q=>nomatch q)
theorem XO (a:Str)(b:Int):decide ((Sum.inr a:Ap)=Sum.inl b)=false:=D8 (fun q=>nomatch q)
def Dt (prog:Program)(w:World):PySem.KeyKind prog w Ap where
 is:=IS
 hash:=TX w
 inj:=fun v a b ha hb=>by
  rcases Gc ha with⟨i,t,rfl,rfl⟩|⟨x,t,rfl,rfl⟩
  .rcases Gc hb with⟨j,u,rfl,e⟩|⟨y,u,rfl,e⟩
   .injection e with e1 _;rw[e1]
   .exact nomatch e
  .rcases Gc hb with⟨j,u,rfl,e⟩|⟨y,u,rfl,e⟩
   .exact nomatch e
   .injection e with e1 _;rw[e1]
 byValue:=fun k v h=>by
  rcases Gc h with⟨i,t,rfl,rfl⟩|⟨x,t,rfl,rfl⟩<;>rfl
 pyHash:=fun hv h=>by
  rcases Gc hv with⟨i,t,rfl,rfl⟩|⟨x,t,rfl,rfl⟩
  .exact wpAny_pyHash_int h
  .exact wpAny_pyHash_str h
 eqBool:=fun hu hv h=>by
  rcases Gc hu with⟨i,t,rfl,rfl⟩|⟨x,t,rfl,rfl⟩
  .rcases Gc hv with⟨j,u,rfl,rfl⟩|⟨y,u,rfl,rfl⟩
   .rw[Yo]at h;exact wpAny_eqBool_int h
   .rw[UJ]at h;exact SeqAt.EqAt.int_str i t y u _ _ _ _ h
  .rcases Gc hv with⟨j,u,rfl,rfl⟩|⟨y,u,rfl,rfl⟩
   .rw[XO]at h;exact SeqAt.EqAt.str_int x t j u _ _ _ _ h
   .rw[aB]at h;exact wpAny_eqBool_str h
 «strs» := fun k x t v h=>by
  rcases Gc h with⟨i,u,rfl,e⟩|⟨y,u,rfl,e⟩
  .exact nomatch e
  .injection e with e1 _
   subst e1
   cases v<;>rfl
theorem Uo (prog:Program)(w:World)(i:Int)(t:Tok):(Dt prog w).is (.inl i) (.int i t)=true:=X8 i t
theorem VW (prog:Program)(w:World)(x:Str)(t:Tok):(Dt prog w).is (.inr x) (.str x t)=true:=Yn x t
set_option genInjectivity true in
inductive V where
 |non|bl (b:Bool)|int (i:Int)|str (x:Str)|byt (b:Array UInt8)|flt (b:UInt64)|ref (a:Addr)|ty (n:String)
 deriving DecidableEq
def AD:V->Value->Prop
 |.non,u=>u=Value.none
 |.bl b,u=>u=Value.bool b
 |.int i,u=>∃t,u=Value.int i t
 |.str x,u=>∃t,u=Value.str x t
 |.byt b,u=>∃t,u=Value.bytes b t
 |.flt b,u=>∃t,u=Value.float b t
 |.ref a,u=>u=Value.ref a
 |.ty n,u=>u=Value.type n
abbrev Az:List V->List Value->Prop:=Paired AD
theorem Az.length {xs:List V}{us:List Value}(r:Az xs us):xs.length=us.length:=Paired.length r
theorem Az.get:∀{xs:List V} {us:List Value} {i:Nat} {x:V},Az xs us->xs[i]?=some x->∃u,us[i]?=some u/\AD x u
 |_,_,_,_,.nil,e=>by simp at e
 |_,_,0,_,.cons r _,e=>by simp at e;subst e;exact⟨_,rfl,r⟩
 |
  _,_,i+1,x,.cons _ t,e=>by
  obtain⟨u,h1,h2⟩:=Az.get (i:=i) (x:=x) t (by simpa using e)
  exact⟨u,by simpa using h1,h2⟩
theorem Az.set {x:V}{u:Value}(r:AD x u):∀{xs:List V} {us:List Value} (i:Nat),Az xs us->Az (xs.set i x) (us.set i u)
 |_,_,_,.nil=>.nil
 |_,_,0,.cons _ t=>.cons r t
 |_,_,i+1,.cons q t=>.cons q (Az.set r i t)
theorem Az.append:∀{xs ys:List V} {us ws:List Value},Az xs us->Az ys ws->Az (xs++ys) (us++ws)
 |_,_,_,_,.nil,s=>s
 |_,_,_,_,.cons r t,s=>.cons r (Az.append t s)
theorem Az.take:∀{xs:List V} {us:List Value} (n:Nat),Az xs us->Az (xs.take n) (us.take n)
 |_,_,0,_=>.nil
 |_,_,_+1,.nil=>.nil
 |_,_,n+1,.cons r t=>.cons r (Az.take n t)
theorem Az.drop:∀{xs:List V} {us:List Value} (n:Nat),Az xs us->Az (xs.drop n) (us.drop n)
 |_,_,0,r=>r
 |_,_,_+1,.nil=>.nil
 |_,_,n+1,.cons _ t=>Az.drop n t
theorem Az.none_of:∀{xs:List V} {us:List Value} {i:Nat},Az xs us->xs[i]?=none->us[i]?=none:=fun{xs us i} r e=>by
 have h1:=r.length
 have h2:xs.length<=i:=N3.mp e
 exact N3.mpr (by lia)
def DW:Option V->Option Value->Prop
 |some v,some u=>AD v u
 |none,none=>True
 |_,_=>False
def KV {κ:Type}:List (κ×V)->List (κ×Value)->Prop:=Paired fun(p:κ×V) (q:κ×Value)=>p.1=q.1/\AD p.2 q.2
def kV:Ap->V
 |.inl i=>.int i
 |.inr x=>.str x
set_option genInjectivity true in
inductive HO where
 |lst (xs:List V)
 |tup (xs:List V)
 |dK (kvs:List (Ap×V))|dT (kvs:List (List Ap×V))
 |set (S:Int->Bool) (n:Nat)
 |ins (C dx:Addr) (fs:List (Str×V))
 |own (x:Addr)
 |xd (fs:List (Str×V))
 |met (f x:Addr)
 |rng (lo hi:Int)
 |frz (o:Obj) (u:HO)
 |tbl (ps:Array Value)
 |ext (φ:Heap->Prop)
abbrev Hp:=Addr->Option HO
def upd (H:Hp)(a:Addr)(o:HO):Hp:=fun b=>if b=a then some o else H b
theorem A6 {H:Hp}{a:Addr}{o:HO}:upd H a o a=some o:=by unfold upd;rw[Aj rfl]
theorem Af {H:Hp}{a b:Addr}{o:HO}(h:b≠a):upd H a o b=H b:=by unfold upd;rw[Ab h]
theorem VA {H:Hp}{a:Addr}{o u:HO}:upd (upd H a o) a u=upd H a u:=by
 funext b;unfold upd;split<;>rfl
theorem EZ {H:Hp}{a b:Addr}{o u:HO}(h:H a=some o)(h':H b=some u)(d:o≠u):a≠b:=by
 intro e;subst e;rw[h]at h';exact d (Cp h')
theorem AI {H:Hp}{a b:Addr}{o:HO}(h:H a=some o)(h':H b=none):a≠b:=by
 intro e;subst e;rw[h]at h';cases h'
section
variable (P:Program)(w:World)
def ED (h:Heap)(a:Addr)(its:Array Value):Prop := ∃o,h.get? a=some o/\o.cls = .type "tuple"/\(∃n,o.data = .seq its n)/\o.dict=none
theorem ED.tup {h:Heap}{a:Addr}{its:Array Value}(x:ED h a its):IsTup h a its:=let ⟨o,e,c,d,_⟩:=x;⟨o,e,c,d⟩
theorem ED.new (h:Heap)(its:Array Value):ED (h.push {cls:=.type "tuple",data:=.seq its}) h.objs.size its:=⟨_,B8 _ rfl,rfl,⟨_,rfl⟩,rfl⟩
def BB (H:Hp)(h:Heap)(a:Addr):HO->Prop
 |.lst xs=>xs.length<=sizeLine/\∃(its:List Value) (n:Nat),Az xs its/\h.get? a=some {cls:=.type "list",data:=.seq its.toArray n}
 |.tup xs=>xs.length<=sizeLine/\∃its:List Value,Az xs its/\ED h a its.toArray
 |.dK kvs=>kvs.length<=sizeLine/\(a==sysModules)=false/\∃vs,KV kvs vs/\h.DictOf (Dt P w) a vs
 |.dT kvs=>kvs.length<=sizeLine/\(a==sysModules)=false/\∃xs:List (List Ap×Addr×Value),
  Paired (fun(p:List Ap×V) (q:List Ap×Addr×Value)=>p.1=q.1/\H q.2.1=some (.tup (p.1.map kV))/\AD p.2 q.2.2) kvs xs/\
  ∃o es ep,h.get? a=some o/\o.ExactDict/\o.data = .dict es ep/\es.toList=xs.map (entryOfKey (tupleKind (Dt P w)))/\(xs.map (·.1)).Nodup
 |.set S n=>h.SetOf (intKind P w) a S n
 |.ins C dx fs=>H dx=some (.own a)/\fs.length<=1000/\dx≠a/\h.get? a=some (PySem.W.instObj C dx)/\
  ∃mA,h.Ns1 dx mA/\(∀f,DW (fs.lookup f) (mA f))/\PySem.Within mA (fs.map (·.1))
 |.own _=>∃o,h.get? a=some o
 |.xd fs=>∃mA,h.Ns1 a mA/\∀f,DW (fs.lookup f) (mA f)
 |.rng lo hi=>∃t u v,h.get? a=some {cls:=.type "range",data:=.fields #[.int lo t,.int hi u,.int 1 v]}
 |.frz o u=>h.get? a=some o/\BB H h a u
 |.tbl ps=>h.get? a=some {cls:=.none,data:=.fields ps}
 |.met f x=>h.get? a=some (PySem.W.methodObj (.ref f) (.ref x))
 |.ext φ=>φ h/\(∃o,h.get? a=some o)/\∀h1 h2:Heap,φ h1->(∀o,h1.get? a=some o->h2.get? a=some o)->φ h2
def Bv (H:Hp)(h:Heap):Prop := ∀a o,H a=some o->BB P w H h a o
end
section
variable {P:Program}{w:World}{H H':Hp}{h h':Heap}{a:Addr}{o:HO}
theorem BB.lt (x:BB P w H h a o):a<h.objs.size:=by
 cases o with
 |lst xs=>obtain⟨_,_,_,_,e⟩:=x;exact AA e
 |tup xs=>obtain⟨_,_,_,p⟩:=x;exact p.tup.lt
 |dK kvs=>obtain⟨_,_,_,_,o,_,_,e,_⟩:=x;exact AA e
 |dT kvs=>obtain⟨_,_,_,_,o,_,_,e,_⟩:=x;exact AA e
 |set S n=>obtain⟨o,_,_,_,e,_⟩:=x;exact AA e
 |ins C dx fs=>obtain⟨_,_,_,e,_⟩:=x;exact AA e
 |own y=>obtain⟨_,e⟩:=x;exact AA e
 |xd fs=>obtain⟨_,⟨_,_,_,e,_⟩,_⟩:=x;exact AA e
 |rng lo hi=>obtain⟨_,_,_,e⟩:=x;exact AA e
 |frz ob u=>obtain⟨e,_⟩:=x;exact AA e
 |tbl ps=>exact AA (show h.get? a=some _ from x)
 |met f y=>exact AA (show h.get? a=some _ from x)
 |ext φ=>obtain⟨_,⟨_,e⟩,_⟩:=x;exact AA e
theorem Paired.mapP {α β:Type}{F G:α->β->Prop}:∀{l₁:List α} {l₂:List β},Paired F l₁ l₂->(∀a b,F a b->G a b)->Paired G l₁ l₂
 |_,_,.nil,_=>.nil
 |_,_,.cons r t,f=>.cons (f _ _ r) (Paired.mapP t f)
theorem BB.stay (x:BB P w H h a o)(k:∀b u,(b=a\/H b=some (.own a))->h.get? b=some u->h'.get? b=some u)
  (ho:∀b,H b=some (.own a)->H' b=some (.own a)) (ht:∀b xs,H b=some (.tup xs)->H' b=some (.tup xs)):BB P w H' h' a o:=by
 induction o with
 |lst xs=>obtain⟨z,its,n,r,e⟩:=x;exact⟨z,its,n,r,k _ _ (.inl rfl) e⟩
 |tup xs=>obtain⟨z,its,r,ob,e,c⟩:=x;exact⟨z,its,r,ob,k _ _ (.inl rfl) e,c⟩
 |dK kvs=>obtain⟨z,y,vs,r,ob,es,ep,e,c⟩:=x;exact⟨z,y,vs,r,ob,es,ep,k _ _ (.inl rfl) e,c⟩
 |
  dT kvs=>
  obtain⟨z,y,xs,r,ob,es,ep,e,c⟩:=x
  exact⟨z,y,xs,Paired.mapP r fun p q z=>⟨z.1,ht _ _ z.2.1,z.2.2⟩,ob,es,ep,k _ _ (.inl rfl) e,c⟩
 |set S n=>obtain⟨ob,es,ep,t,e,c⟩:=x;exact⟨ob,es,ep,t,k _ _ (.inl rfl) e,c⟩
 |
  ins C dx fs=>
  obtain⟨d,z,ne,e,mA,⟨od,es,ep,e2,c⟩,r⟩:=x
  exact⟨ho _ d,z,ne,k _ _ (.inl rfl) e,mA,⟨od,es,ep,k _ _ (.inr d) e2,c⟩,r⟩
 |own y=>obtain⟨ob,e⟩:=x;exact⟨ob,k _ _ (.inl rfl) e⟩
 |xd fs=>obtain⟨mA,⟨od,es,ep,e,c⟩,r⟩:=x;exact⟨mA,⟨od,es,ep,k _ _ (.inl rfl) e,c⟩,r⟩
 |rng lo hi=>obtain⟨t,u,v,e⟩:=x;exact⟨t,u,v,k _ _ (.inl rfl) e⟩
 |frz ob u ih=>obtain⟨e,q⟩:=x;exact⟨k _ _ (.inl rfl) e,ih q⟩
 |
  tbl ps=>
  have e:h.get? a=some {cls:=.none,data:=.fields ps}:=x
  show h'.get? a=some {cls:=.none,data:=.fields ps}
  exact k a _ (.inl rfl) e
 |
  met f y=>
  have e:h.get? a=some (PySem.W.methodObj (.ref f) (.ref y)):=x
  show h'.get? a=some (PySem.W.methodObj (.ref f) (.ref y))
  exact k a _ (.inl rfl) e
 |ext φ=>obtain⟨p,⟨o,e⟩,st⟩:=x;exact⟨st _ _ p fun o q=>k _ _ (.inl rfl) q,⟨o,k _ _ (.inl rfl) e⟩,st⟩
theorem Bv.lt (x:Bv P w H h)(e:H a=some o):a<h.objs.size:=(x a o e).lt
theorem Bv.fresh (x:Bv P w H h)(e:h.objs.size<=a):H a=none:=by
 cases q:H a with
 |none=>rfl
 |some u=>exact absurd (BS (x.lt q) e) (D7 _)
theorem Bv.kept (x:Bv P w H h)(k:∀b u,h.get? b=some u->h'.get? b=some u):Bv P w H h':=fun a o e=>
 (x a o e).stay (fun b u _ q=>k b u q) (fun _ q=>q) fun _ _ q=>q
theorem Bv.laid (x:Bv P w H h)(k:∀b u,h.get? b=some u->h'.get? b=some u)(hp:h.objs.size<=a)(new:BB P w (upd H a o) h' a o):Bv P w (upd H a o) h':=fun b u e=>by
 have hn:=x.fresh hp
 by_cases hb:b=a
 .subst hb;rw[A6]at e;cases e;exact new
 .rw[Af hb]at e
  exact(x b u e).stay (fun c v _ q=>k c v q) (fun c q=>by rw[Af (AI q hn)];exact q) fun c xs q=>by rw[Af (AI q hn)];exact q
end
def Rd (H:Hp)(a:Addr)(u:HO):Prop:=H a=some u\/∃o,H a=some (.frz o u)
theorem Rd.ok {P:Program}{w:World}{H:Hp}{h:Heap}{a:Addr}{u:HO}(r:Rd H a u)(x:Bv P w H h):BB P w H h a u:=by
 rcases r with r|⟨o,r⟩
 .exact x a u r
 .obtain⟨_,q⟩:=x a _ r
  exact q
def JN:Option HO->Prop
 |some (.lst _)=>True
 |some (.dK _)=>True
 |some (.dT _)=>True
 |some (.set _ _)=>True
 |some (.ins _ _ _)=>True
 |some (.ext _)=>True
 |_=>False
section
variable {P:Program}{w:World}{H:Hp}{h h':Heap}{x e:Addr}{o':HO}
theorem Bv.write (ok:Bv P w H h)(mu:JN (H x))(he:e=x\/H e=some (.own x))(k:∀b u,b≠e->h.get? b=some u->h'.get? b=some u)(heo:∃u,h'.get? e=some u)
  (new:BB P w (upd H x o') h' x o'):Bv P w (upd H x o') h':=fun b u q=>by
 have nown:∀c y,H c=some (.own y)->c≠x:=fun c y r z=>by subst z;rw[r]at mu;exact mu
 have ntup:∀c xs,H c=some (.tup xs)->c≠x:=fun c xs r z=>by subst z;rw[r]at mu;exact mu
 by_cases hb:b=x
 .subst hb;rw[A6]at q;cases q;exact new
 .rw[Af hb]at q
  by_cases hbe:b=e
  .have q':H b=some (.own x):=by
    rcases he with z|z
    .exact absurd (hbe.trans z) hb
    .rw[hbe];exact z
   rw[q]at q';cases q'
   obtain⟨v,hv⟩:=heo
   exact⟨v,by rw[hbe];exact hv⟩
  .refine(ok b u q).stay (fun c v hc r=>k c v ?_ r) (fun c r=>by rw[Af (nown c b r)];exact r) fun c xs r=>by rw[Af (ntup c xs r)];exact r
   rcases hc with rfl|hc
   .exact hbe
   .rintro rfl
    rcases he with z|z
    .exact nown c b hc z
    .rw[hc]at z;cases z;exact hb rfl
end
structure Un (fs ex:List Addr)(H H':Hp)(h h':Heap):Prop where
 keep:∀b o,h.get? b=some o->H b=none->b∉fs->b∉ex->h'.get? b=some o
 slot:∀b o,h.get? b=some o->H b=none->b∈fs->b∉ex->∃sl,h'.get? b=some {o with slots:=sl}
 free:∀b o,h.get? b=some o->H b=none->b∉ex->H' b=none
 there:∀b o,h.get? b=some o->b∉ex->∃o',h'.get? b=some o'
 tups:∀b xs,H b=some (.tup xs)->H' b=some (.tup xs)
 frzs:∀b o u,H b=some (.frz o u)->H' b=some (.frz o u)
 tbls:∀b ps,H b=some (.tbl ps)->∃more,H' b=some (.tbl (ps++more))
section
variable {fs fs' ex ex':List Addr}{H H1 H2:Hp}{h h1 h2 h':Heap}{a x e:Addr}{o:HO}
theorem Un.any (u:Un fs ex H H1 h h1){b:Addr}{ob:Obj}(q:h.get? b=some ob)(n:H b=none)(hx:b∉ex):∃sl,h1.get? b=some {ob with slots:=sl}:=by
 by_cases hb:b∈fs
 .exact u.slot b ob q n hb hx
 .exact⟨ob.slots,u.keep b ob q n hb hx⟩
theorem Un.kept (k:∀b u,h.get? b=some u->h'.get? b=some u):Un fs ex H H h h':=
 ⟨fun b ob q _ _ _=>k b ob q,fun b ob q _ _ _=>⟨ob.slots,k b ob q⟩,fun _ _ _ n _=>n,fun b ob q _=>⟨ob,k b ob q⟩,fun _ _ q=>q,fun _ _ _ q=>q,fun _ ps q=>⟨#[],by rw[q];simp⟩⟩
theorem Un.refl:Un fs ex H H h h:=Un.kept fun _ _ q=>q
theorem Un.laid (k:∀b u,h.get? b=some u->h'.get? b=some u)(hp:h.objs.size<=a)(hn:H a=none):Un fs ex H (upd H a o) h h' where
 keep:=fun b u q _ _ _=>k b u q
 slot:=fun b u q _ _ _=>⟨u.slots,k b u q⟩
 free:=fun b u q n _=>by rw[Af (AN (BS (AA q) hp))];exact n
 there:=fun b u q _=>⟨u,k b u q⟩
 tups:=fun b xs q=>by rw[Af (AI q hn)];exact q
 frzs:=fun b u xs q=>by rw[Af (AI q hn)];exact q
 tbls:=fun b ps q=>⟨#[],by rw[Af (AI q hn),q];simp⟩
theorem Un.write (mu:JN (H x))(he:e=x\/H e=some (.own x))(k:∀b u,b≠e->h.get? b=some u->h'.get? b=some u)(heo:∃u,h'.get? e=some u):Un fs ex H (upd H x o) h h':=by
 have hx:∀b,H b=none->b≠x:=fun b n z=>by subst z;rw[n]at mu;exact mu
 have hb:∀b,H b=none->b≠e:=fun b n z=>by
  subst z
  rcases he with r|r
  .exact hx b n r
  .rw[n]at r;cases r
 have hm:∀b u,H b=some u->¬JN (some u)->b≠x:=fun b u q nm z=>by subst z;rw[q]at mu;exact nm mu
 refine⟨fun b u q n _ _=>k b u (hb b n) q,fun b u q n _ _=>⟨u.slots,k b u (hb b n) q⟩,fun b u q n _=>by rw[Af (hx b n)];exact n,fun b u q _=>?_,
  fun b xs q=>by rw[Af (hm b _ q fun z=>z)];exact q,fun b u xs q=>by rw[Af (hm b _ q fun z=>z)];exact q,fun b ps q=>⟨#[],by rw[Af (hm b _ q fun z=>z),q];simp⟩⟩
 by_cases hbe:b=e
 .subst hbe;exact heo
 .exact⟨u,k b u hbe q⟩
end
def Lw (h:Heap)(H:Hp):List Addr:=(List.range h.objs.size).filter fun a=>(H a).isSome
def G6 (h:Heap)(H:Hp):Heap:=PySem.W.hideAll h (Lw h H)
theorem VU (h:Heap)(H:Hp):(G6 h H).objs.size=h.objs.size:=PySem.W.hideAll_size _ _
theorem cM {h:Heap}{H:Hp}{b:Addr}{o:Obj}(e:h.get? b=some o)(n:H b=none):(G6 h H).get? b=some o:=
 PySem.W.hideAll_get _ e fun hm=>by
  have q:(H b).isSome=true:=(Ta.mp hm).2
  rw[n]at q;simp at q
theorem UD {h:Heap}{H:Hp}{b:Addr}{o:Obj}(e:(G6 h H).get? b=some o):h.get? b=some o/\H b=none:=by
 have e':h.get? b=some o:=PySem.W.of_hideAll (Lw h H) e
 refine⟨e',?_⟩
 cases q:H b with
 |none=>rfl
 |
  some x=>
  have hm:b∈Lw h H:=Ta.mpr ⟨FO.mpr (AA e'),by simp[q]⟩
  have z:(G6 h H).get? b=none:=PySem.W.hideAll_none (Lw h H) hm
  rw[z]at e;cases e
structure Mod (K:Faa)(mg:Str->Option Value)(base:Heap):Prop where
 kin:K.In base
 glob:base.Ns mainGlobals mg
 blt:∃mb,base.Ns builtinsNs mb/\∀x:Str,x≠"__name__"->mb x=bootBuiltins x
 nolimit:base.NoLimit
structure Cx where
 prog:Program
 w:World
 K:Faa
 mg:Str->Option Value
 base:Heap
 A:Around
 N:List Str
 s₀:Shared
 H₀:Hp
 env:Env
 outer:List Env
 stack:List Env
 ex:List Addr
 fn:Str->Bool
 calm:Bool
 pn:List (Addr×Obj)
 xe:Value->Shared->Prop
def DV (l:List Env):List Addr:=l.filterMap (·.frame)
abbrev Cx.fs (X:Cx):List Addr:=DV X.outer
def Ky (sc:Scope)(x:Str):Prop:=sc.names.lookup x=some .local\/sc.names.lookup x=some .cell\/sc.names.lookup x=some .free
def Jb (sc:Scope)(x:Str):Prop:=sc.names.lookup x=some .local\/sc.names.lookup x=some .cell
def Vg (env:Env)(h:Heap)(m:Str->Option Value)(x:Str)(u:Value):Prop:=
 (env.kindOf x=some .local/\m x=some u)\/((env.kindOf x=some .cell\/env.kindOf x=some .free)/\∃c,env.cells.lookup x=some c/\h.IsCell c (some u))
structure Cx.Ok (X:Cx):Prop where
 mod:Mod X.K X.mg X.base
 kind:X.env.scope.kind = .function
 glob:X.env.globals=mainGlobals
 blt:X.env.builtins=builtinsNs
 above:X.s₀.heap.objs.size<=X.env.locals
 inj:∀x y c,X.env.cells.lookup x=some c->X.env.cells.lookup y=some c->x=y
 has:∀x,(X.env.kindOf x=some .cell\/X.env.kindOf x=some .free)->∃c,X.env.cells.lookup x=some c
 cab:∀x c,X.fn x=true->X.env.cells.lookup x=some c->X.s₀.heap.objs.size<=c
 hd:X.calm=true->X.A.handled=none
 frames:X.A.frames=some X.stack
 stk:X.stack=X.outer\/(X.stack=X.env::X.outer/\X.env.frame=some X.env.locals)
 exf:∀b∈X.ex,b≠X.env.locals/\∀x c,X.env.cells.lookup x=some c->c≠b
 bs:∀b o,X.base.get? b=some o->X.s₀.heap.get? b=some o/\X.H₀ b=none
 bsz:X.base.objs.size<=X.s₀.heap.objs.size
 noex:∀b o,X.base.get? b=some o->b∉X.ex
 exfs:∀b∈X.ex,b∉X.fs
 funs:X.s₀.heap.FunFrames X.base X.outer
 frf:∀b∈X.fs,X.H₀ b=none
structure A2 (X:Cx)(pins:List (Addr×Obj))(σ:List (Option V))(H:Hp)(s:Shared):Prop where
 ok:X.Ok
 os:s.os=X.s₀.os
 bare:AllBare s.gens
 base:Un X.fs X.ex X.H₀ H X.s₀.heap s.heap
 loc:∃m,s.heap.Ns X.env.locals m/\∀(i:Nat) (x:Str) (v:V),X.N[i]?=some x->σ[i]?=some (some v)->Ky X.env.scope x->∃u,AD v u/\Vg X.env s.heap m x u
 cell:∀x c,X.env.cells.lookup x=some c->∃v,s.heap.IsCell c v
 free:H X.env.locals=none
 freeC:∀x c,X.env.cells.lookup x=some c->H c=none
 pin:∀p∈X.pn++pins,s.heap.get? p.1=some p.2/\H p.1=none/\p.1≠X.env.locals/\p.1∉X.fs/\∀v,p.2.data≠.cell v
 hok:Bv X.prog X.w H s.heap
 len:σ.length=X.N.length
section
variable {X:Cx}{pins:List (Addr×Obj)}{σ:List (Option V)}{H H':Hp}{s:Shared}{h':Heap}
theorem Cx.Ok.nofr (ok:X.Ok){b:Addr}{o:Obj}(e:X.base.get? b=some o):b∉X.fs:=fun hb=>by
 have:=(ok.funs.mem hb).1
 rw[e]at this;cases this
theorem A2.bs (I:A2 X pins σ H s):∀b o,X.base.get? b=some o->s.heap.get? b=some o/\H b=none:=fun b o e=>
 ⟨I.base.keep b o (I.ok.bs b o e).1 (I.ok.bs b o e).2 (I.ok.nofr e) (I.ok.noex b o e),I.base.free b o (I.ok.bs b o e).1 (I.ok.bs b o e).2 (I.ok.noex b o e)⟩
theorem A2.bk (I:A2 X pins σ H s):∀b o,X.base.get? b=some o->s.heap.get? b=some o:=fun b o e=>(I.bs b o e).1
theorem A2.mod (I:A2 X pins σ H s):Mod X.K X.mg X.base:=I.ok.mod
theorem A2.kIn (I:A2 X pins σ H s):X.K.In s.heap:=I.ok.mod.kin.keeps I.bk
theorem A2.lt (I:A2 X pins σ H s):X.env.locals<s.heap.objs.size:=let ⟨_,hn,_⟩:=I.loc;hn.lt
theorem A2.sz (I:A2 X pins σ H s):X.s₀.heap.objs.size<=s.heap.objs.size:=Cz I.ok.above (FP I.lt)
theorem A2.nofs (I:A2 X pins σ H s){a:Addr}(h:s.heap.objs.size<=a):a∉X.fs:=fun hb=>by
 obtain⟨_,o,ho,_⟩:=I.ok.funs.mem hb
 exact absurd (BS (AA ho) (Cz I.sz h)) (D7 _)
theorem A2.cne (I:A2 X pins σ H s):∀x c,X.env.cells.lookup x=some c->c≠X.env.locals:=fun x c e z=>by
 obtain⟨v,o,ho,hd⟩:=I.cell x c e
 obtain⟨m,⟨o',es,ep,ho',hd',_⟩,_⟩:=I.loc
 rw[z,ho']at ho;cases ho;rw[hd']at hd;cases hd
theorem A2.funs (I:A2 X pins σ H s):s.heap.FunFrames X.base X.outer:=by
 have all:∀(l:List Env),(∀b∈DV l,b∈X.fs)->X.s₀.heap.FunFrames X.base l->s.heap.FunFrames X.base l:=by
  intro l
  induction l with
  |nil=>intro _ _;trivial
  |
   cons env r ih=>
   intro hs hl
   obtain⟨hk,⟨L,o,hf,hn,ho,hd⟩,hr⟩:=hl
   have hL:L∈X.fs:=hs L (by unfold DV;rw[Tb,hf];exact BN)
   obtain⟨sl,e⟩:=I.base.slot L o ho (I.ok.frf L hL) hL fun z=>I.ok.exfs L z hL
   exact⟨hk,⟨L,_,hf,hn,e,hd⟩,ih (fun b hb=>hs b (by unfold DV;rw[Tb,hf];exact C6 _ hb)) hr⟩
 exact all X.outer (fun _ hb=>hb) I.ok.funs
theorem A2.stack (I:A2 X pins σ H s):s.heap.FunFrames X.base X.stack:=by
 rcases I.ok.stk with e|⟨e,hf⟩
 .rw[e];exact I.funs
 .rw[e]
  obtain⟨m,hn,_⟩:=I.loc
  refine .cons (by rw[I.ok.kind];decide) hf hn ?_ I.funs
  exact Heap.get?_none_of_le (Cz I.ok.bsz I.ok.above)
theorem A2.stkSub (I:A2 X pins σ H s):∀b∈DV X.stack,b∈X.env.locals::X.fs:=fun b hb=>by
 rcases I.ok.stk with e|⟨e,hf⟩
 .rw[e]at hb;exact C6 _ hb
 .rw[e]at hb
  unfold DV at hb
  rw[Tb,hf]at hb
  exact hb
theorem A2.stkFree (I:A2 X pins σ H s):∀b∈DV X.stack,H b=none:=fun b hb=>by
 rcases AS.mp (I.stkSub b hb) with e|hb
 .rw[e];exact I.free
 .obtain⟨_,o,ho,_⟩:=I.ok.funs.mem hb
  exact I.base.free b o ho (I.ok.frf b hb) fun z=>I.ok.exfs b z hb
theorem A2.step {g':Array GenState}{t':Nat}{d':Drawn}{ch:List Addr}(I:A2 X pins σ H s)
  (hch:∀b∈ch,(b∈X.ex\/X.s₀.heap.objs.size<=b)/\b≠X.env.locals/\(∀x c,X.env.cells.lookup x=some c->c≠b)/\∀p∈X.pn++pins,p.1≠b)
  (keep:∀b o,b≠X.env.locals->b∉X.fs->b∉ch->s.heap.get? b=some o->H b=none->h'.get? b=some o)
  (slot:∀b o,b≠X.env.locals->b∈X.fs->b∉ch->s.heap.get? b=some o->H b=none->∃sl,h'.get? b=some {o with slots:=sl}) (free:∀b o,b∉ch->s.heap.get? b=some o->H b=none->H' b=none)
  (there:∀b o,b∉ch->s.heap.get? b=some o->∃o',h'.get? b=some o')
  (tups:∀b xs,H b=some (.tup xs)->H' b=some (.tup xs)) (frzs:∀b o u,H b=some (.frz o u)->H' b=some (.frz o u)) (tbls:∀b ps,H b=some (.tbl ps)->∃more,H' b=some (.tbl (ps++more)))
  (ns:∀m,s.heap.Ns X.env.locals m->h'.Ns X.env.locals m) (hok:Bv X.prog X.w H' h') (hg:AllBare g') :
  A2 X pins σ H' {s with heap:=h',gens:=g',drawn:=d',toks:=t'}:=by
 have neL:∀b o,X.s₀.heap.get? b=some o->b≠X.env.locals:=fun b o e=>AN (BS (AA e) I.ok.above)
 have neC:∀b o,X.s₀.heap.get? b=some o->b∉X.ex->b∉ch:=fun b o e hx hb=>by
  rcases(hch b hb).1 with z|z
  .exact hx z
  .exact absurd (BS (AA e) z) (D7 _)
 have cellK:∀x c,X.env.cells.lookup x=some c->∀v,s.heap.IsCell c v->h'.IsCell c v:=fun x c e v ⟨o,ho,hd⟩=>by
  have nch:c∉ch:=fun z=>(hch c z).2.2.1 x c e rfl
  by_cases hc:c∈X.fs
  .obtain⟨sl,q⟩:=slot c o (I.cne x c e) hc nch ho (I.freeC x c e)
   exact⟨_,q,hd⟩
  .exact⟨o,keep c o (I.cne x c e) hc nch ho (I.freeC x c e),hd⟩
 refine⟨I.ok,I.os,hg,⟨fun b o e n hb hx=>?_,fun b o e n hb hx=>?_,fun b o e n hx=>?_,fun b o e hx=>?_,fun b xs e=>tups b xs (I.base.tups b xs e),fun b o xs e=>frzs b o xs (I.base.frzs b o xs e),fun b ps e=>?_⟩,?_,fun x c e=>?_,?_,fun x c e=>?_,fun p hp=>?_,hok,I.len⟩
 .exact keep b o (neL b o e) hb (neC b o e hx) (I.base.keep b o e n hb hx) (I.base.free b o e n hx)
 .obtain⟨sl,e1⟩:=I.base.slot b o e n hb hx
  obtain⟨sl',e2⟩:=slot b _ (neL b o e) hb (neC b o e hx) e1 (I.base.free b o e n hx)
  exact⟨sl',e2⟩
 .obtain⟨o',e1⟩:=I.base.there b o e hx
  exact free b o' (neC b o e hx) e1 (I.base.free b o e n hx)
 .obtain⟨o',e1⟩:=I.base.there b o e hx
  exact there b o' (neC b o e hx) e1
 .obtain⟨m1,e1⟩:=I.base.tbls b ps e
  obtain⟨m2,e2⟩:=tbls b _ e1
  exact⟨m1++m2,by rw[e2,Array.append_assoc]⟩
 .obtain⟨m,hn,hl⟩:=I.loc
  refine⟨m,ns m hn,fun i x v e1 e2 e3=>?_⟩
  obtain⟨u,r,l⟩:=hl i x v e1 e2 e3
  refine⟨u,r,?_⟩
  rcases l with l|⟨k,c,e,z⟩
  .exact .inl l
  .exact .inr ⟨k,c,e,cellK x c e _ z⟩
 .obtain⟨v,z⟩:=I.cell x c e
  exact⟨v,cellK x c e v z⟩
 .obtain⟨m,⟨o,_,_,ho,_⟩,_⟩:=I.loc
  exact free _ o (fun z=>(hch _ z).2.1 rfl) ho I.free
 .obtain⟨v,o,ho,hd⟩:=I.cell x c e
  exact free c o (fun z=>(hch c z).2.2.1 x c e rfl) ho (I.freeC x c e)
 .obtain⟨e,n,ne,nf,d⟩:=I.pin p hp
  have nch:p.1∉ch:=fun z=>(hch p.1 z).2.2.2 p hp rfl
  exact⟨keep p.1 p.2 ne nf nch e n,free p.1 p.2 nch e n,ne,nf,d⟩
theorem A2.un {t':Nat}(I:A2 X pins σ H s)(u:Un X.fs [] H H' s.heap h')(hok:Bv X.prog X.w H' h'):A2 X pins σ H' {s with heap:=h',toks:=t'}:=by
 obtain⟨m,⟨o,es,ep,ho,r⟩,_⟩:=id I.loc
 obtain⟨sl,hL⟩:=u.any ho I.free (by simp)
 exact I.step (g':=s.gens) (d':=s.drawn) (ch:=[]) (fun _ z=>nomatch z) (fun b o _ hb _ e n=>u.keep b o e n hb (by simp)) (fun b o _ hb _ e n=>u.slot b o e n hb (by simp)) (fun b o _ e n=>u.free b o e n (by simp)) (fun b o _ e=>u.there b o e (by simp)) u.tups u.frzs u.tbls (fun m' hm=>by
  obtain⟨o',es',ep',ho',r'⟩:=hm
  rw[ho]at ho';cases ho'
  exact⟨_,es',ep',hL,r'⟩) hok I.bare
theorem A2.call {g':Array GenState}{t':Nat}{d':Drawn}{ch:List Addr}(I:A2 X pins σ H s)(u:Un (DV X.stack) ch H H' s.heap h')(hok:Bv X.prog X.w H' h')(hg:AllBare g')
  (hch:∀b∈ch,(b∈X.ex\/X.s₀.heap.objs.size<=b)/\b≠X.env.locals/\(∀x c,X.env.cells.lookup x=some c->c≠b)/\∀p∈X.pn++pins,p.1≠b) :
  A2 X pins σ H' {s with heap:=h',gens:=g',drawn:=d',toks:=t'}:=by
 obtain⟨m,⟨o,es,ep,ho,r⟩,_⟩:=id I.loc
 obtain⟨sl,hL⟩:=u.any ho I.free fun z=>(hch _ z).2.1 rfl
 exact I.step (ch:=ch) hch (fun b o hL hb hc e n=>u.keep b o e n (fun z=>(AS.mp (I.stkSub b z)).elim hL hb) hc) (fun b o _ _ hc e n=>u.any e n hc) (fun b o hc e n=>u.free b o e n hc) (fun b o hc e=>u.there b o e hc) u.tups u.frzs u.tbls (fun m' hm=>by
  obtain⟨o',es',ep',ho',r'⟩:=hm
  rw[ho]at ho';cases ho'
  exact⟨_,es',ep',hL,r'⟩) hok hg
theorem A2.turned {t':Nat}{it:Addr}(I:A2 X pins σ H s)(k:∀b o,b≠it->s.heap.get? b=some o->h'.get? b=some o)(hn:H it=none)(hL:it≠X.env.locals)
  (h1:it∈X.ex\/X.s₀.heap.objs.size<=it) (h2:∀x c,X.env.cells.lookup x=some c->c≠it) (h3:∀p∈X.pn++pins,p.1≠it):A2 X pins σ H {s with heap:=h',toks:=t'}:=by
 have nit:∀b u,H b=some u->b≠it:=fun b u e z=>by rw[z,hn]at e;cases e
 refine I.step (g':=s.gens) (d':=s.drawn) (ch:=[it]) (fun b hb=>?_) (fun b o _ _ hc e _=>k b o (fun z=>hc (by simp[z])) e) (fun b o _ _ hc e _=>⟨o.slots,k b o (fun z=>hc (by simp[z])) e⟩) (fun _ _ _ _ n=>n)
  (fun b o hc e=>⟨o,k b o (fun z=>hc (by simp[z])) e⟩) (fun _ _ e=>e) (fun _ _ _ e=>e) (fun b ps e=>⟨#[],by rw[e];simp⟩) (fun m hm=>?_) (fun b u e=>?_) I.bare
 .have e:b=it:=by simpa using hb
  subst e
  exact⟨h1,hL,h2,h3⟩
 .obtain⟨o,es,ep,ho,r⟩:=hm
  exact⟨o,es,ep,k _ o (Ne.symm hL) ho,r⟩
 .refine(I.hok b u e).stay (fun c v hc q=>k c v ?_ q) (fun _ q=>q) fun _ _ q=>q
  rcases hc with z|z
  .rw[z];exact nit b u e
  .exact nit c _ z
theorem A2.tok (I:A2 X pins σ H s)(t:Nat):A2 X pins σ H {s with toks:=t}:=I.un (h':=s.heap) (t':=t) Un.refl I.hok
theorem A2.kept {t':Nat}(I:A2 X pins σ H s)(k:∀b u,s.heap.get? b=some u->h'.get? b=some u):A2 X pins σ H {s with heap:=h',toks:=t'}:=I.un (Un.kept k) (I.hok.kept k)
theorem A2.laid {a:Addr}{o:HO}{t':Nat}(I:A2 X pins σ H s)(k:∀b u,s.heap.get? b=some u->h'.get? b=some u)(hp:s.heap.objs.size<=a)(new:BB X.prog X.w (upd H a o) h' a o) :
 A2 X pins σ (upd H a o) {s with heap:=h',toks:=t'}:=I.un (Un.laid k hp (I.hok.fresh hp)) (I.hok.laid k hp new)
theorem A2.write {x e:Addr}{o:HO}{t':Nat}(I:A2 X pins σ H s)(mu:JN (H x))(he:e=x\/H e=some (.own x))(k:∀b u,b≠e->s.heap.get? b=some u->h'.get? b=some u)(heo:∃u,h'.get? e=some u)
 (new:BB X.prog X.w (upd H x o) h' x o):A2 X pins σ (upd H x o) {s with heap:=h',toks:=t'}:=I.un (Un.write mu he k heo) (I.hok.write mu he k heo new)
theorem A2.weak {σ':List (Option V)}(I:A2 X pins σ H s)(hl:σ'.length=σ.length)(w:∀(i:Nat) v,σ'[i]?=some (some v)->σ[i]?=some (some v)):A2 X pins σ' H s:=
 ⟨I.ok,I.os,I.bare,I.base,let ⟨m,hn,hl'⟩:=I.loc;⟨m,hn,fun i x v e1 e2 e3=>hl' i x v e1 (w i v e2) e3⟩,I.cell,I.free,I.freeC,I.pin,I.hok,hl.trans I.len⟩
theorem A2.pins_of {pins':List (Addr×Obj)}(I:A2 X pins σ H s)(h:∀p∈pins',s.heap.get? p.1=some p.2/\H p.1=none/\p.1≠X.env.locals/\p.1∉X.fs/\∀v,p.2.data≠.cell v):A2 X pins' σ H s:=
 ⟨I.ok,I.os,I.bare,I.base,I.loc,I.cell,I.free,I.freeC,fun p hp=>(BO.mp hp).elim (fun z=>I.pin p (CA _ z)) (h p),I.hok,I.len⟩
theorem Qf {N:List Str}(hN:N.Nodup){i j:Nat}{x:Str}(a:N[i]?=some x)(b:N[j]?=some x):i=j:=by
 obtain⟨h1,e1⟩:=As.mp a
 obtain⟨h2,e2⟩:=As.mp b
 exact(List.getElem_inj hN).mp (e1.trans e2.symm)
theorem ZL {M:Model}{A:Around}{E:Value->Shared->Prop}{i:Nat}{x:Str}{v:V}{u:Value}{Q:Unit->Shared->Prop}(I:A2 X pins σ H s)(hN:X.N.Nodup)(hi:X.N[i]?=some x)(hx:Jb X.env.scope x)(r:AD v u)
  (h:∀s',A2 X pins (σ.set i (some v)) H s'->(∃a,Heap.SameBut a s.heap s'.heap/\(a=X.env.locals\/X.env.cells.lookup x=some a))->Q () s') (hf:X.fn x=true\/X.env.scope.names.lookup x=some .local:=by first|exact .inl rfl|exact .inr rfl|assumption):wpAny M A (storeName X.env x u) Q E s:=by
 obtain⟨m,hn,hl⟩:=id I.loc
 have hcls:(X.env.scope.kind == .class||(X.env.scope.kind == .module&&X.env.locals != X.env.globals))=false:=by rw[I.ok.kind];rfl
 have hiσ:i<σ.length:=by rw[I.len];exact(As.mp hi).1
 have cne:=I.cne
 have tracked:∀{a:Addr} {h':Heap},(∃o,s.heap.get? a=some o/\H a=none)->Heap.SameBut a s.heap h'->Bv X.prog X.w H h':=fun{a h'} ha hs b ob e=>by
  obtain⟨_,_,hfree⟩:=ha
  refine(I.hok b ob e).stay (fun c w' hc q=>(hs.2 c ?_).trans q) (fun _ q=>q) fun _ _ q=>q
  rintro rfl
  rcases hc with rfl|hc
  .rw[hfree]at e;cases e
  .rw[hfree]at hc;cases hc
 rcases hx with hk|hk
 .refine wpAny_storeName_local hk hn (fun h' hn' hs=>?_) hcls
  obtain⟨oL,_,_,hoL,_⟩:=id hn
  refine h _ ⟨I.ok,I.os,I.bare,⟨fun b o e n hb hx=>?_,fun b o e n hb hx=>?_,I.base.free,fun b o e hx=>?_,I.base.tups,I.base.frzs,I.base.tbls⟩,⟨_,hn',fun j y v' e1 e2 e3=>?_⟩,fun y c e=>?_,I.free,I.freeC,fun p hp=>?_,tracked ⟨oL,hoL,I.free⟩ hs,by simpa using I.len⟩ ⟨_,hs,.inl rfl⟩
  .exact(hs.2 b (AN (BS (AA e) I.ok.above))).trans (I.base.keep b o e n hb hx)
  .obtain⟨sl,e1⟩:=I.base.slot b o e n hb hx
   exact⟨sl,(hs.2 b (AN (BS (AA e) I.ok.above))).trans e1⟩
  .obtain⟨o',e1⟩:=I.base.there b o e hx
   exact⟨o',(hs.2 b (AN (BS (AA e) I.ok.above))).trans e1⟩
  .by_cases hj:j=i
   .subst hj
    rw[hi]at e1;cases e1
    rw[L7 hiσ]at e2
    cases e2
    exact⟨u,r,.inl ⟨hk,by simp⟩⟩
   .rw[N4 (Ne.symm hj)]at e2
    obtain⟨u',r',q⟩:=hl j y v' e1 e2 e3
    refine⟨u',r',?_⟩
    rcases q with⟨k,e⟩|⟨k,c,e,z⟩
    .refine .inl ⟨k,?_⟩
     have:y≠x:=fun e=>hj (Qf hN e1 (e▸hi))
     simp[this,e]
    .exact .inr ⟨k,c,e,z.sameBut hs (cne y c e)⟩
  .obtain⟨w',z⟩:=I.cell y c e
   exact⟨w',z.sameBut hs (cne y c e)⟩
  .obtain⟨e,n,ne,nf,d⟩:=I.pin p hp
   exact⟨(hs.2 p.1 ne).trans e,n,ne,nf,d⟩
 .have hfn:X.fn x=true:=by
   rcases hf with z|z
   .exact z
   .rw[z]at hk;cases hk
  obtain⟨c,hc⟩:=I.ok.has x (.inl hk)
  obtain⟨w',z⟩:=I.cell x c hc
  refine wpAny_storeName_cell I.ok.kind hk hc z (fun h' hc' hs=>?_)
  obtain⟨oc,hoc,hocd⟩:=id z
  refine h {s with heap:=h'} ⟨I.ok,I.os,I.bare,⟨fun b o e n hb hx=>?_,fun b o e n hb hx=>?_,I.base.free,fun b o e hx=>?_,I.base.tups,I.base.frzs,I.base.tbls⟩,⟨m,hn.sameBut hs (Ne.symm (cne x c hc)),fun j y v' e1 e2 e3=>?_⟩,fun y c' e=>?_,I.free,I.freeC,fun p hp=>?_,tracked ⟨oc,hoc,I.freeC x c hc⟩ hs,by simpa using I.len⟩ ⟨c,hs,.inr hc⟩
  .exact(hs.2 b (AN (BS (AA e) (I.ok.cab x c hfn hc)))).trans (I.base.keep b o e n hb hx)
  .obtain⟨sl,e1⟩:=I.base.slot b o e n hb hx
   exact⟨sl,(hs.2 b (AN (BS (AA e) (I.ok.cab x c hfn hc)))).trans e1⟩
  .obtain⟨o',e1⟩:=I.base.there b o e hx
   exact⟨o',(hs.2 b (AN (BS (AA e) (I.ok.cab x c hfn hc)))).trans e1⟩
  .by_cases hj:j=i
   .subst hj
    rw[hi]at e1;cases e1
    rw[L7 hiσ]at e2
    cases e2
    exact⟨u,r,.inr ⟨.inl hk,c,hc,hc'⟩⟩
   .rw[N4 (Ne.symm hj)]at e2
    obtain⟨u',r',q⟩:=hl j y v' e1 e2 e3
    refine⟨u',r',?_⟩
    rcases q with q|⟨k,c',e,z'⟩
    .exact .inl q
    .refine .inr ⟨k,c',e,z'.sameBut hs ?_⟩
     rintro rfl
     exact hj (Qf hN e1 (I.ok.inj _ _ _ e hc▸hi))
  .by_cases hcc:c'=c
   .subst hcc;exact⟨_,hc'⟩
   .obtain⟨w2,z2⟩:=I.cell y c' e
    exact⟨w2,z2.sameBut hs hcc⟩
  .obtain⟨e,n,ne,nf,d⟩:=I.pin p hp
   refine⟨(hs.2 p.1 ?_).trans e,n,ne,nf,d⟩
   intro q
   rw[q,hoc]at e
   have q':oc=p.2:=Cp e
   exact d w' (by rw[←q'];exact hocd)
theorem OF {M:Model}{A:Around}{E:Value->Shared->Prop}{i:Nat}{x:Str}{v:V}{u:Value}{Q:Unit->Shared->Prop}(I:A2 X pins σ H s)(hN:X.N.Nodup)(hi:X.N[i]?=some x)(hx:Jb X.env.scope x)(r:AD v u)
  (h:∀s',A2 X pins (σ.set i (some v)) H s'->Q () s') (hf:X.fn x=true\/X.env.scope.names.lookup x=some .local:=by first|exact .inl rfl|exact .inr rfl|assumption):wpAny M A (storeName X.env x u) Q E s:=
 ZL I hN hi hx r (fun s' I' _=>h s' I') hf
theorem A2.call' {s':Shared}{ch:List Addr}(I:A2 X pins σ H s)(ho:s'.os=s.os)(u:Un (DV X.stack) ch H H' s.heap s'.heap)(hok:Bv X.prog X.w H' s'.heap)(hg:AllBare s'.gens)
  (hch:∀b∈ch,(b∈X.ex\/X.s₀.heap.objs.size<=b)/\b≠X.env.locals/\(∀x c,X.env.cells.lookup x=some c->c≠b)/\∀p∈X.pn++pins,p.1≠b):A2 X pins σ H' s':=by
 obtain⟨h',g',d',t',o'⟩:=s'
 have e:o'=s.os:=ho
 subst e
 exact I.call (g':=g') (t':=t') (d':=d') u hok hg hch
end
abbrev XK:=Value->Option Addr->Hp->Prop
abbrev St:=List (Option V)
abbrev VK:=V->Hp->Prop
abbrev TE:=St->Hp->VK->Prop
abbrev TT:=St->Hp->(Bool->Hp->Prop)->Prop
abbrev TA:=St->Hp->(List V->Hp->Prop)->Prop
structure CL where
 nx:St->Hp->Prop
 rt:VK
 bk:St->Hp->Prop:=fun _ _=>False
 ct:St->Hp->Prop:=fun _ _=>False
abbrev TS:=CL->St->Hp->Prop
def EP (X:Cx)(pins:List (Addr×Obj))(σ:St)(Q:VK)(u:Value)(s':Shared):Prop := ∃v H',A2 X pins σ H' s'/\AD v u/\Q v H'
def TP (X:Cx)(pins:List (Addr×Obj))(σ:St)(Q:Bool->Hp->Prop)(b:Bool)(s':Shared):Prop := ∃H',A2 X pins σ H' s'/\Q b H'
def AP (X:Cx)(pins:List (Addr×Obj))(σ:St)(Q:List V->Hp->Prop)(us:List Value)(s':Shared):Prop := ∃vs H',A2 X pins σ H' s'/\Az vs us/\Q vs H'
def SP (X:Cx)(pins:List (Addr×Obj))(D:CL)(f:Flow)(s':Shared):Prop:=
 match f with
 |.next=>∃σ' H',A2 X pins σ' H' s'/\D.nx σ' H'
 |.brk=>∃σ' H',A2 X pins σ' H' s'/\D.bk σ' H'
 |.cont=>∃σ' H',A2 X pins σ' H' s'/\D.ct σ' H'
 |.ret u=>∃v σ' H',A2 X pins σ' H' s'/\AD v u/\D.rt v H'
def PE (X:Cx)(e:Expr)(t:TE):Prop:=
 ∀(pins:List (Addr×Obj)) (s:Shared) (σ:St) (H:Hp) (Q:VK),A2 X pins σ H s->t σ H Q->wpAny (model X.prog X.w) X.A (eval e X.env) (EP X pins σ Q) X.xe s
def PT (X:Cx)(e:Expr)(t:TT):Prop:=
 ∀(pins:List (Addr×Obj)) (s:Shared) (σ:St) (H:Hp) (Q:Bool->Hp->Prop),A2 X pins σ H s->t σ H Q->wpAny (model X.prog X.w) X.A (isTrue e X.env (eval e X.env)) (TP X pins σ Q) X.xe s
def PW (X:Cx)(e:Expr)(t:TT):Prop:=
 ∀(whole:Sem Value) (pins:List (Addr×Obj)) (s:Shared) (σ:St) (H:Hp) (Q:Bool->Hp->Prop),A2 X pins σ H s->t σ H Q->wpAny (model X.prog X.w) X.A (isTrue e X.env whole) (TP X pins σ Q) X.xe s
theorem PW.pt {X:Cx}{e:Expr}{t:TT}(h:PW X e t):PT X e t:=h _
def PA (X:Cx)(es:List Expr)(t:TA):Prop:=
 ∀(pos:Pos) (pins:List (Addr×Obj)) (s:Shared) (σ:St) (H:Hp) (Q:List V->Hp->Prop),A2 X pins σ H s->t σ H Q->wpAny (model X.prog X.w) X.A (spliced (backTo pos (starEach es X.env))) (AP X pins σ Q) X.xe s
def PS (X:Cx)(st:Stmt)(t:TS):Prop:=
 ∀(pins:List (Addr×Obj)) (s:Shared) (σ:St) (H:Hp) (D:CL),A2 X pins σ H s->t D σ H->wpAny (model X.prog X.w) X.A (exec st X.env) (SP X pins D) X.xe s
def DS (X:Cx)(st:List Stmt)(t:TS):Prop:=
 ∀(pins:List (Addr×Obj)) (s:Shared) (σ:St) (H:Hp) (D:CL),A2 X pins σ H s->t D σ H->wpAny (model X.prog X.w) X.A (execs st X.env) (SP X pins D) X.xe s
theorem Ax {α:Type}{t:Sem α}{Q Q':α->Shared->Prop}{M:Model}{A:Around}{E:Value->Shared->Prop}{s:Shared}(h:wpAny M A t Q E s)(hQ:∀a s,Q a s->Q' a s):wpAny M A t Q' E s:=CV h hQ fun _ _ x=>x
section
variable {X:Cx}
def SK (i:Nat):TE:=fun σ H Q=>∃v,σ[i]?=some (some v)/\Q v H
def tC (v:V):TE:=fun _ H Q=>Q v H
theorem WL {i:Nat}{x:Str}{pos:Pos}(hN:X.N[i]?=some x)(hv:Ky X.env.scope x)(hd:(x==("__debug__":Str))=false:=by decide)(hcd:(x==("__classdict__":Str))=false:=by decide):PE X (.Name x pos) (SK i):=by
 intro pins s σ H Q I h
 obtain⟨v,e,h⟩:=h
 obtain⟨m,hn,hl⟩:=I.loc
 obtain⟨u,r,l⟩:=hl i x v hN e hv
 have fin:EP X pins σ Q u s:=⟨v,H,I,r,h⟩
 rcases l with⟨hk,hm⟩|⟨hk,c,hc,hcell⟩
 .exact wpAny_Name (wpAny_loadName_local I.ok.kind hk hn hm fin) hd
 .rcases hk with hk|hk
  .exact wpAny_Name (wpAny_loadName_cell I.ok.kind hk hc hcell fin) hd
  .exact wpAny_Name (wpAny_loadName_free I.ok.kind hk hc hcell fin hcd) hd
theorem A3 {i j pos}:PE X (.Constant (.int i) j pos) (tC (.int i)):=fun _ _ _ H _ I h=>wpAny_Constant_int ⟨.int i,H,I.tok _,⟨_,rfl⟩,h⟩
theorem FF {b j pos}:PE X (.Constant (.bool b) j pos) (tC (.bl b)):=fun _ _ _ H _ I h=>Constant_bool ⟨.bl b,H,I,rfl,h⟩
theorem F3 {j pos}:PE X (.Constant .none j pos) (tC .non):=fun _ _ _ H _ I h=>Constant_none ⟨.non,H,I,rfl,h⟩
theorem Cj {x j pos}:PE X (.Constant (.str x) j pos) (tC (.str x)):=fun _ _ _ H _ I h=>Calls.Constant_str ⟨.str x,H,I.tok _,⟨_,rfl⟩,h⟩
def Gl (X:Cx)(x:Str):Prop:=X.env.kindOf x=some .globalImplicit
theorem IW {E:Value->Shared->Prop}{pins:List (Addr×Obj)}{s:Shared}{σ:St}{H:Hp}{x:Str}{u:Value}{pos:Pos}{Q:Value->Shared->Prop}(I:A2 X pins σ H s)(hg:Gl X x)(hm:X.mg x=some u)(h:Q u s)
  (hd:(x==("__debug__":Str))=false:=by decide):wpAny (model X.prog X.w) X.A (eval (.Name x pos) X.env) Q E s:=
 Calls.Name_function_global I.ok.kind hg (Calls.loadGlobal_global (by rw[I.ok.glob];exact I.mod.glob.keeps I.bk) hm h) hd
theorem Ed {E:Value->Shared->Prop}{pins:List (Addr×Obj)}{s:Shared}{σ:St}{H:Hp}{x:Str}{u:Value}{pos:Pos}{Q:Value->Shared->Prop}(I:A2 X pins σ H s)(hg:Gl X x)(hm:X.mg x=none)(hv:bootBuiltins x=some u)(h:Q u s)
  (hn:x≠"__name__":=by decide) (hd:(x==("__debug__":Str))=false:=by decide):wpAny (model X.prog X.w) X.A (eval (.Name x pos) X.env) Q E s:=by
 obtain⟨mb,h1,h2⟩:=I.mod.blt
 exact Calls.Name_function_global I.ok.kind hg (Calls.loadGlobal_builtin (by rw[I.ok.glob];exact I.mod.glob.keeps I.bk) hm (by rw[I.ok.blt];exact h1.keeps I.bk) ((h2 x hn).trans hv) h) hd
theorem LU {x:Str}{v:V}{u:Value}{pos:Pos}(hg:Gl X x)(hm:X.mg x=none)(hv:bootBuiltins x=some u)(r:AD v u)(hn:x≠"__name__":=by decide)(hd:(x==("__debug__":Str))=false:=by decide):PE X (.Name x pos) (tC v):=
 fun _ _ _ H _ I h=>Ed I hg hm hv ⟨v,H,I,r,h⟩ hn hd
variable {a b:Expr}{ta tb:TE}{pos:Pos}
def tB (t:TE):TT:=fun σ H Q=>t σ H fun x H1=>∃c,x = .bl c/\Q c H1
theorem E9 {e:Expr}{t:TE}(h:PE X e t)(he:∀whole,isTrue e X.env whole=(do let v ←whole;standAt e.pos;holding [v] (truthy v)):=by intro _;rfl):PT X e (tB t):=by
 intro pins s σ H Q I hw
 refine isTrue_plain (Ax (h pins s σ H _ I hw) fun v s1 zz=>?_) (he _)
 obtain⟨x,H1,I1,r1,q1⟩:=zz
 obtain⟨d,rfl,q⟩:=q1
 cases r1
 exact Lh ⟨H1,I1,q⟩
variable {tA tB':TT}{rest:List Expr}
def Sb (t u:TT):TT:=fun σ H Q=>t σ H fun c H1=>if c=true then u σ H1 Q else Q false H1
def VD (t u:TT):TT:=fun σ H Q=>t σ H fun c H1=>if c=true then Q true H1 else u σ H1 Q
def Zc (t:TT):TT:=fun σ H Q=>t σ H fun c H1=>Q (!c) H1
theorem Ju (ha:PT X a tA):PW X (.BoolOp .And [a] pos) tA:=by
 intro wh pins s σ H Q I h
 refine isTrue_and (Ax (ha pins s σ H Q I h) fun c s1 e=>?_)
 cases c with
 |true=>exact isTrue_and_nil e
 |false=>exact e
theorem Mg (ha:PT X a tA):PW X (.BoolOp .Or [a] pos) tA:=by
 intro wh pins s σ H Q I h
 refine isTrue_or (Ax (ha pins s σ H Q I h) fun c s1 e=>?_)
 cases c with
 |false=>exact isTrue_or_nil e
 |true=>exact e
theorem Ht (ha:PT X a tA)(hb:PW X (.BoolOp .And (b::rest) pos) tB'):PW X (.BoolOp .And (a::b::rest) pos) (Sb tA tB'):=by
 intro wh pins s σ H Q I h
 refine isTrue_and (Ax (ha pins s σ H _ I h) fun c s1 zz=>?_)
 obtain⟨H1,I1,q1⟩:=zz
 cases c with
 |true=>exact hb wh pins s1 σ H1 Q I1 q1
 |false=>exact⟨H1,I1,q1⟩
theorem KN (ha:PT X a tA)(hb:PW X (.BoolOp .Or (b::rest) pos) tB'):PW X (.BoolOp .Or (a::b::rest) pos) (VD tA tB'):=by
 intro wh pins s σ H Q I h
 refine isTrue_or (Ax (ha pins s σ H _ I h) fun c s1 zz=>?_)
 obtain⟨H1,I1,q1⟩:=zz
 cases c with
 |true=>exact⟨H1,I1,q1⟩
 |false=>exact hb wh pins s1 σ H1 Q I1 q1
theorem Gq (ha:PT X a tA):PT X (.UnaryOp .Not a pos) (Zc tA):=by
 intro pins s σ H Q I h
 exact isTrue_not (ha pins s σ H (fun c H1=>Q (!c) H1) I h)
def bW (ta tb:TE):TE:=fun σ H Q=>ta σ H fun x H1=>∃c,x = .bl c/\if c=true then tb σ H1 Q else Q (.bl false) H1
def Xi (ta tb:TE):TE:=fun σ H Q=>ta σ H fun x H1=>∃c,x = .bl c/\if c=true then Q (.bl true) H1 else tb σ H1 Q
def YS (ta:TE):TE:=fun σ H Q=>ta σ H fun x H1=>∃c,x = .bl c/\Q (.bl (!c)) H1
theorem Jv {op}{t:TE}(h:PE X a t):PE X (.BoolOp op [a] pos) t:=fun pins s σ H Q I hw=>BoolOp_one (h pins s σ H Q I hw)
theorem Mm (ha:PE X a ta)(hb:PE X (.BoolOp .And (b::rest) pos) tb):PE X (.BoolOp .And (a::b::rest) pos) (bW ta tb):=by
 intro pins s σ H Q I h
 refine BoolOp_and (Ax (ha pins s σ H _ I h) fun v s1 zz=>?_)
 obtain⟨x,H1,I1,r1,q1⟩:=zz
 obtain⟨c,rfl,q1⟩:=q1
 cases r1
 refine Lh ?_
 cases c with
 |true=>exact hb pins s1 σ H1 Q I1 q1
 |false=>exact⟨.bl false,H1,I1,rfl,q1⟩
theorem Qp (ha:PE X a ta)(hb:PE X (.BoolOp .Or (b::rest) pos) tb):PE X (.BoolOp .Or (a::b::rest) pos) (Xi ta tb):=by
 intro pins s σ H Q I h
 refine BoolOp_or (Ax (ha pins s σ H _ I h) fun v s1 zz=>?_)
 obtain⟨x,H1,I1,r1,q1⟩:=zz
 obtain⟨c,rfl,q1⟩:=q1
 cases r1
 refine Lh ?_
 cases c with
 |false=>exact hb pins s1 σ H1 Q I1 q1
 |true=>exact⟨.bl true,H1,I1,rfl,q1⟩
theorem NZ (ha:PE X a ta):PE X (.UnaryOp .Not a pos) (YS ta):=by
 intro pins s σ H Q I h
 refine UnaryOp_ (Ax (ha pins s σ H _ I h) fun v s1 zz=>?_)
 obtain⟨x,H1,I1,r1,q1⟩:=zz
 obtain⟨c,rfl,q1⟩:=q1
 cases r1
 exact not_of (Lh ⟨.bl (!c),H1,I1,rfl,q1⟩)
end
def A5 (K:Faa)(H:Hp)(a:Addr)(xs:List V):Prop:=
 Rd H a (.lst xs)\/
  ∃(o:Obj) (its:Array Value) (n:Nat),K.lookup a=some o/\o.cls = .type "list"/\o.dict=none/\o.data = .seq its n/\its.size<=sizeLine/\Az xs its.toList
def A9 (K:Faa)(H:Hp)(a:Addr)(xs:List V):Prop:=
 Rd H a (.tup xs)\/
  ∃(o:Obj) (its:Array Value) (n:Nat),K.lookup a=some o/\o.cls = .type "tuple"/\o.data = .seq its n/\its.size<=sizeLine/\Az xs its.toList
def UX:Value->Option V
 |.none=>some .non
 |.bool b=>some (.bl b)
 |.int i _=>some (.int i)
 |.str x _=>some (.str x)
 |.bytes b _=>some (.byt b)
 |.float b _=>some (.flt b)
 |.ref a=>some (.ref a)
 |.type n=>some (.ty n)
 |_=>none
theorem AD.abs {x:V}{u:Value}(r:AD x u):UX u=some x:=by
 cases x with
 |non=>cases r;rfl
 |bl _=>cases r;rfl
 |int _=>obtain⟨t,rfl⟩:=r;rfl
 |str _=>obtain⟨t,rfl⟩:=r;rfl
 |byt _=>obtain⟨t,rfl⟩:=r;rfl
 |flt _=>obtain⟨t,rfl⟩:=r;rfl
 |ref _=>cases r;rfl
 |ty _=>cases r;rfl
theorem AD.inj {x y:V}{u:Value}(r:AD x u)(q:AD y u):x=y:=Cp (r.abs.symm.trans q.abs)
theorem Az.inj:∀{xs ys:List V} {us:List Value},Az xs us->Az ys us->xs=ys:=by
 intro xs
 induction xs with
 |
  nil=>
  intro ys us h k
  cases h
  cases k
  rfl
 |
  cons x xs ih=>
  intro ys us h k
  cases h with
  |
   cons r t=>
   cases k with
   |cons r' t'=>rw[r.inj r',ih t t']
section
variable {X:Cx}{pins:List (Addr×Obj)}{σ:St}{H:Hp}{s:Shared}{a:Addr}{xs ys:List V}
theorem A5.of {K:Faa}(h:H a=some (.lst xs)):A5 K H a xs:=.inl (.inl h)
theorem A9.of {K:Faa}(h:H a=some (.tup xs)):A9 K H a xs:=.inl (.inl h)
theorem A2.list (I:A2 X pins σ H s)(h:A5 X.K H a xs):∃its:List Value,Az xs its/\PlainL s.heap a its.toArray/\xs.length<=sizeLine:=by
 rcases h with h|⟨o,its,n,hk,hc,hd,hs,hz,r⟩
 .obtain⟨z,its,n,r,e⟩:=h.ok I.hok
  exact⟨its,r,⟨_,n,e,rfl,rfl,rfl⟩,z⟩
 .refine⟨its.toList,r,⟨o,n,I.kIn a o hk,hc,hd,by simpa using hs⟩,?_⟩
  have e:=r.length
  simp only[DF]at e
  lia
theorem A2.tuple (I:A2 X pins σ H s)(h:A9 X.K H a xs):∃its:List Value,Az xs its/\IsTup s.heap a its.toArray/\xs.length<=sizeLine:=by
 rcases h with h|⟨o,its,n,hk,hc,hs,hz,r⟩
 .obtain⟨z,its,r,p⟩:=h.ok I.hok
  exact⟨its,r,p.tup,z⟩
 .refine⟨its.toList,r,⟨o,I.kIn a o hk,hc,n,by simpa using hs⟩,?_⟩
  have e:=r.length
  simp only[DF]at e
  lia
theorem A2.list_inj (I:A2 X pins σ H s)(h:A5 X.K H a xs)(h':A5 X.K H a ys):xs=ys:=by
 obtain⟨its,r,⟨o,n,e,_,_,d⟩,_⟩:=I.list h
 obtain⟨its',r',⟨o',n',e',_,_,d'⟩,_⟩:=I.list h'
 rw[e]at e';cases e'
 rw[d]at d'
 injection d' with d1 _
 have:its=its':=by simpa using congrArg Array.toList d1
 subst this
 exact r.inj r'
theorem A2.tuple_inj (I:A2 X pins σ H s)(h:A9 X.K H a xs)(h':A9 X.K H a ys):xs=ys:=by
 obtain⟨its,r,⟨o,e,_,n,d⟩,_⟩:=I.tuple h
 obtain⟨its',r',⟨o',e',_,n',d'⟩,_⟩:=I.tuple h'
 rw[e]at e';cases e'
 rw[d]at d'
 injection d' with d1 _
 have:its=its':=by simpa using congrArg Array.toList d1
 subst this
 exact r.inj r'
end
abbrev Cx.wish (X:Cx)(E:Value->Shared->Prop):Cx:={X with xe:=E}
abbrev Cx.nox (X:Cx):Cx:=X.wish fun _ _=>False
theorem Cx.Ok.wish {X:Cx}(ok:X.Ok)(E:Value->Shared->Prop):(X.wish E).Ok:=
 ⟨ok.mod,ok.kind,ok.glob,ok.blt,ok.above,ok.inj,ok.has,ok.cab,ok.hd,ok.frames,ok.stk,ok.exf,ok.bs,ok.bsz,ok.noex,ok.exfs,ok.funs,ok.frf⟩
theorem Cx.Ok.unwish {X:Cx}{E:Value->Shared->Prop}(ok:(X.wish E).Ok):X.Ok:=
 ⟨ok.mod,ok.kind,ok.glob,ok.blt,ok.above,ok.inj,ok.has,ok.cab,ok.hd,ok.frames,ok.stk,ok.exf,ok.bs,ok.bsz,ok.noex,ok.exfs,ok.funs,ok.frf⟩
section
variable {X:Cx}{pins:List (Addr×Obj)}{σ:St}{H:Hp}{s:Shared}{E:Value->Shared->Prop}
theorem A2.wish (I:A2 X pins σ H s)(E:Value->Shared->Prop):A2 (X.wish E) pins σ H s:=⟨I.ok.wish E,I.os,I.bare,I.base,I.loc,I.cell,I.free,I.freeC,I.pin,I.hok,I.len⟩
theorem A2.unwish (I:A2 (X.wish E) pins σ H s):A2 X pins σ H s:=⟨I.ok.unwish,I.os,I.bare,I.base,I.loc,I.cell,I.free,I.freeC,I.pin,I.hok,I.len⟩
theorem SP.unwish {D:CL}{f:Flow}{s':Shared}(h:SP (X.wish E) pins D f s'):SP X pins D f s':=by
 cases f with
 |next=>obtain⟨σ',H',I,q⟩:=h;exact⟨σ',H',I.unwish,q⟩
 |brk=>obtain⟨σ',H',I,q⟩:=h;exact⟨σ',H',I.unwish,q⟩
 |cont=>obtain⟨σ',H',I,q⟩:=h;exact⟨σ',H',I.unwish,q⟩
 |ret u=>obtain⟨v,σ',H',I,r,q⟩:=h;exact⟨v,σ',H',I.unwish,r,q⟩
theorem DS.nox {st:List Stmt}{t:TS}(h:DS X.nox st t):DS X st t:=fun pins s σ H D I hw=>
 CV (h pins s σ H D (I.wish _) hw) (fun _ _ q=>q.unwish) fun _ _ z=>False.elim z
end
section
variable {X:Cx}{st:Stmt}{rest:List Stmt}{t u:TS}{e:Expr}{te:TE}{pos:Pos}
def Lm:TS:=fun D σ H=>D.nx σ H
def Jl (t u:TS):TS:=fun D σ H=>t {D with nx:=u D} σ H
theorem BE:DS X [] Lm:=fun _ _ σ H _ I h=>Np ⟨σ,H,I,h⟩
theorem A7 (h1:PS X st t)(h2:DS X rest u):DS X (st::rest) (Jl t u):=by
 intro pins s σ H D I h
 refine wpAny_execs_cons (Ax (h1 pins s σ H {D with nx:=u D} I h) fun f s1 q=>?_)
 cases f with
 |
  next=>
  obtain⟨σ',H',I',q⟩:=q
  exact h2 pins s1 σ' H' D I' q
 |ret v=>exact q
 |brk=>exact q
 |cont=>exact q
theorem Ak (h1:PS X st t):DS X [st] t:=by
 intro pins s σ H D I h
 refine wpAny_execs_cons (Ax (h1 pins s σ H D I h) fun f s1 q=>?_)
 cases f with
 |next=>exact Np q
 |ret v=>exact q
 |brk=>exact q
 |cont=>exact q
def WY:TS:=fun D σ H=>D.bk σ H
theorem V7:PS X (.Break pos) WY:=fun _ _ σ H _ I h=>wpAny_Break ⟨σ,H,I,h⟩
theorem A2.quiet {pins:List (Addr×Obj)}{σ:St}{H:Hp}{s:Shared}(I:A2 X pins σ H s):interactive X.env=false:=by simp[interactive,I.ok.kind]
def ZT (te:TE):TS:=fun D σ H=>te σ H fun _ H1=>D.nx σ H1
theorem Ck (he:PE X e te)(hs:swapsWith e none pos.line X.env=pure false:=by rfl):PS X (.Expr e pos) (ZT te):=by
 intro pins s σ H D I h
 refine wpAny_Expr_any (Ax (he pins s σ H _ I h) fun v s1 zz=>?_) I.quiet hs
 obtain⟨x,H1,I1,r1,q1⟩:=zz
 exact⟨σ,H1,I1,q1⟩
def O2 (te:TE):TS:=fun D σ H=>te σ H D.rt
theorem AR (he:PE X e te):PS X (.Return (some e) pos) (O2 te):=by
 intro pins s σ H D I h
 refine wpAny_Return_some (Ax (he pins s σ H _ I h) fun v s1 zz=>?_)
 obtain⟨x,H1,I1,r1,q1⟩:=zz
 exact⟨x,σ,H1,I1,r1,q1⟩
def Hw (c:TT)(t u:TS):TS:=fun D σ H=>c σ H fun b H1=>if b=true then t D σ H1 else u D σ H1
theorem Bi {c:Expr}{a b:List Stmt}{tc:TT}(hc:PT X c tc)(ha:DS X a t)(hb:DS X b u):PS X (.If c a b pos) (Hw tc t u):=by
 intro pins s σ H D I h
 refine wpAny_If (Ax (hc pins s σ H _ I h) fun d s1 zz=>?_)
 obtain⟨H1,I1,q1⟩:=zz
 cases d with
 |true=>exact ha pins s1 σ H1 D I1 q1
 |false=>exact hb pins s1 σ H1 D I1 q1
end
abbrev TG:=V->St->Hp->(St->Hp->Prop)->Prop
abbrev Fn:=List V->St->Hp->(St->Hp->Prop)->Prop
def PG (X:Cx)(target:Expr)(t:TG):Prop:=
 ∀(pins:List (Addr×Obj)) (s:Shared) (σ:St) (H:Hp) (v:V) (u:Value) (Q:St->Hp->Prop),A2 X pins σ H s->AD v u->t v σ H Q->
  wpAny (model X.prog X.w) X.A (assign target X.env u) (fun _ s'=>∃σ' H',A2 X pins σ' H' s'/\Q σ' H') X.xe s
def Hd (X:Cx)(ts:List Expr)(t:Fn):Prop:=
 ∀(pins:List (Addr×Obj)) (s:Shared) (σ:St) (H:Hp) (vs:List V) (us:List Value) (Q:St->Hp->Prop),A2 X pins σ H s->Az vs us->t vs σ H Q->
  wpAny (model X.prog X.w) X.A (assignInOrder ((assignEach ts X.env).map (·.2)) us) (fun _ s'=>∃σ' H',A2 X pins σ' H' s'/\Q σ' H') X.xe s
abbrev Of:=V->V->V->Hp->(Hp->Prop)->Prop
def R4 (X:Cx)(t:Of):Prop:=
 ∀(pins:List (Addr×Obj)) (s:Shared) (σ:St) (H:Hp) (o i v:V) (ov iv u:Value) (Q:Hp->Prop),A2 X pins σ H s->AD o ov->AD i iv->AD v u->t o i v H Q->
  wpAny (model X.prog X.w) X.A (setItem ov iv u) (fun _ s'=>∃H',A2 X pins σ H' s'/\Q H') X.xe s
section
variable {X:Cx}{pos:Pos}
def Aq (i:Nat):TG:=fun v σ H Q=>Q (σ.set i (some v)) H
theorem AB {i:Nat}{x:Str}(hN:X.N.Nodup)(hi:X.N[i]?=some x)(hx:Jb X.env.scope x)(hf:X.fn x=true\/X.env.scope.names.lookup x=some .local:=by first|exact .inl rfl|exact .inr rfl|assumption):PG X (.Name x pos) (Aq i):=by
 intro pins s σ H v u Q I r h
 exact wpAny_assign_Name (OF I hN hi hx r (fun s' I'=>⟨_,H,I',h⟩) hf)
def Vi:Fn:=fun vs σ H Q=>vs=[]/\Q σ H
def aS (t:TG)(u:Fn):Fn:=fun vs σ H Q=>∃v r,vs=v::r/\t v σ H fun σ' H'=>u r σ' H' Q
theorem Cy:Hd X [] Vi:=by
 intro pins s σ H vs us Q I r h
 obtain⟨e,h⟩:=h
 subst e
 cases r
 exact assignInOrder_nil ⟨σ,H,I,h⟩
theorem Xf {e:Expr}{es:List Expr}{t:TG}{u:Fn}(h1:PG X e t)(h2:Hd X es u)
  (hs:(assignEach (e::es) X.env).map (·.2)=assign e X.env::(assignEach es X.env).map (·.2):=by rfl):Hd X (e::es) (aS t u):=by
 intro pins s σ H vs us Q I r h
 obtain⟨v,vr,e1,h⟩:=h
 subst e1
 cases r with
 |
  cons r rr=>
  rw[hs]
  refine assignInOrder_cons (Ax (h1 pins s σ H _ _ _ I r h) fun _ s1 zz=>?_)
  obtain⟨σ1,H1,I1,q1⟩:=zz
  exact h2 pins s1 σ1 H1 _ _ Q I1 rr q1
def Ra (K:Faa)(n:Nat)(t:Fn):TG:=fun v σ H Q=>∃a xs,v = .ref a/\A9 K H a xs/\xs.length=n/\t xs σ H Q
theorem De {es:List Expr}{k:Nat}{t:Fn}{n:Nat}(hc:X.calm=true)(h:Hd X es t)
  (hn:(assignEach es X.env).length=n:=by rfl) (hst:(assignEach es X.env).findIdx? (·.1)=none:=by rfl):PG X (.Tuple es k pos) (Ra X.K n t):=by
 intro pins s σ H v u Q I r hw
 obtain⟨a,xs,e1,hq,hl,hw⟩:=hw
 subst e1
 cases r
 obtain⟨its,rv,ht,hz⟩:=I.tuple hq
 refine assign_Tuple_tuple (I.ok.hd hc) ht (by simp[hn,←hl,rv.length]) hst fun h' hx=>?_
 have I1:A2 X pins σ H {s with heap:=h'}:=I.kept (t':=s.toks) fun b o e=>hx b o (AN (AA e)) e
 exact h pins _ σ H xs _ Q I1 (by simpa using rv) hw
def c9 (to ti:TE)(t:Of):TG:=fun v σ H Q=>to σ H fun o H1=>ti σ H1 fun i H2=>t o i v H2 fun H3=>Q σ H3
theorem K0 {o i:Expr}{to ti:TE}{t:Of}(ho:PE X o to)(hi:PE X i ti)(hs:R4 X t)
  (ha:∀v,assign (.Subscript o i pos) X.env v=(do
   let ov ←holding [v] (eval o X.env)
   let iv ←holding [v,ov] (eval i X.env)
   standAt pos
   holding [v,ov,iv] (setItem ov iv v)
   release [v,ov,iv] []):=by intro _;rfl):PG X (.Subscript o i pos) (c9 to ti t):=by
 intro pins s σ H v u Q I r h
 rw[ha]
 refine A1 (DM (Ax (ho pins s σ H _ I h) fun ov s1 zz=>?_))
 obtain⟨x,H1,I1,r1,q1⟩:=zz
 refine A1 (DM (Ax (hi pins s1 σ H1 _ I1 q1) fun iv s2 zz=>?_))
 obtain⟨y,H2,I2,r2,q2⟩:=zz
 refine A1 (JG (A1 (DM (Ax (hs pins s2 σ H2 x y v ov iv u _ I2 r1 r2 r q2) fun _ s3 zz=>?_))))
 obtain⟨H3,I3,q3⟩:=zz
 exact wpAny_release ⟨σ,H3,I3,q3⟩
def J7 (te:TE)(g:TG):TS:=fun D σ H=>te σ H fun x H1=>g x σ H1 D.nx
theorem Ee {tg e:Expr}{te:TE}{g:TG}(he:PE X e te)(hg:PG X tg g)(hs:swapsWithSole [tg] e pos.line X.env=pure false:=by rfl)(hw:swappedStores [tg] e X.env=pure none:=by rfl)
  (h1:(assignEach [tg] X.env).map (·.2)=[assign tg X.env]:=by rfl):PS X (.Assign [tg] e pos) (J7 te g):=by
 intro pins s σ H D I h
 refine wpAny_Assign_stores (Ax (he pins s σ H _ I h) fun v s1 zz=>?_) hs hw
 obtain⟨x,H1,I1,r1,q1⟩:=zz
 rw[h1]
 exact Ax (hg pins s1 σ H1 x v _ I1 r1 q1) fun _ s2 q=>q
theorem Ai {i:Nat}{x:Str}{e:Expr}{te:TE}{pos':Pos}(hN:X.N.Nodup)(hi:X.N[i]?=some x)(hx:Jb X.env.scope x)(he:PE X e te)(hs:swapsWith e (some (.Name x pos')) pos.line X.env=pure false:=by rfl)(hf:X.fn x=true\/X.env.scope.names.lookup x=some .local:=by first|exact .inl rfl|exact .inr rfl|assumption) :
  PS X (.Assign [.Name x pos'] e pos) (J7 te (Aq i)):=by
 intro pins s σ H D I h
 refine wpAny_Assign_Name (Ax (he pins s σ H _ I h) fun v s1 zz=>?_) hs
 obtain⟨y,H1,I1,r1,q1⟩:=zz
 exact OF I1 hN hi hx r1 (fun s2 I2=>⟨_,H1,I2,q1⟩) hf
end
section
variable {X:Cx}{pos:Pos}
def LB (c:TT)(tb:TS):TS:=fun D σ H=>∃W:Nat->St->Hp->Prop,(∃m,W m σ H)/\∀m σ H,W m σ H->
 c σ H fun b H1=>if b=true then ∃N:St->Hp->Prop,(∀σ' H',N σ' H'->∃m',m'<m/\W m' σ' H')/\tb {D with nx:=N,ct:=N,bk:=D.nx} σ H1 else D.nx σ H1
theorem Gp {c:Expr}{body:List Stmt}{tc:TT}{tb:TS}(hp:PassesOwn (model X.prog X.w) X.A X.env X.xe)(hc:PT X c tc)(hb:DS X body tb):PS X (.While c body [] pos) (LB tc tb):=by
 intro pins s σ H D I h
 obtain⟨W,⟨m0,w0⟩,turn⟩:=h
 refine wpAny_While (codeAny_whileLoop (fun n s'=>∃σ' H',A2 X pins σ' H' s'/\W n σ' H') ?_ m0 ⟨σ,H,I,w0⟩)
 rintro n s1 ⟨σ1,H1,I1,w1⟩
 refine JH hp (Ax (hc pins s1 σ1 H1 _ I1 (turn n σ1 H1 w1)) fun b s2 zz=>?_)
 obtain⟨H2,I2,q2⟩:=zz
 cases b with
 |
  true=>
  obtain⟨N,hN,q2⟩:=q2
  rw[Aj rfl]
  refine JH hp (Ax (hb pins s2 σ1 H2 _ I2 q2) fun f s3 q3=>?_)
  cases f with
  |
   next=>
   obtain⟨σ3,H3,I3,n3⟩:=q3
   obtain⟨m',hm,w3⟩:=hN σ3 H3 n3
   exact⟨m',hm,σ3,H3,I3,w3⟩
  |
   cont=>
   obtain⟨σ3,H3,I3,n3⟩:=q3
   obtain⟨m',hm,w3⟩:=hN σ3 H3 n3
   exact⟨m',hm,σ3,H3,I3,w3⟩
  |brk=>exact q3
  |ret v=>exact q3
 |
  false=>
  rw[Ab CH]
  exact Np ⟨σ1,H2,I2,q2⟩
end
structure It where
 go:Nat->Hp->Prop
 yld:Nat->Hp->V->Hp->Prop
 stop:Nat->Hp->Prop
def F4 (X:Cx)(pins:List (Addr×Obj))(H:Hp)(b:Addr):Prop:=
 H b=none/\b≠X.env.locals/\b∉X.fs/\(b∈X.ex\/X.s₀.heap.objs.size<=b)/\(∀x c,X.env.cells.lookup x=some c->c≠b)/\∀p∈X.pn++pins,p.1≠b
theorem A2.fpOk {X:Cx}{pins:List (Addr×Obj)}{σ:St}{H H':Hp}{s:Shared}{b:Addr}(I:A2 X pins σ H s)(hb:s.heap.objs.size<=b)(hn:H' b=none):F4 X pins H' b:=by
 refine⟨hn,BU (BS I.lt hb),I.nofs hb,.inr (Cz I.sz hb),fun x c e z=>?_,fun p hp z=>?_⟩
 .obtain⟨v,q⟩:=I.cell x c e
  exact absurd (BS q.lt (by rw[z];exact hb)) (D7 _)
 .exact absurd (BS (AA (I.pin p hp).1) (by rw[z];exact hb)) (D7 _)
structure Gn (P:Program)(w:World)(K:Faa)(tg:Expr)(J:It)(fp:List Addr)(it:Addr)(tn:Nat->Heap->Prop):Prop where
 mem:it∈fp
 obj:∀i h,tn i h->∀b∈fp,∃o,h.get? b=some o/\∀v,o.data≠.cell v
 keep:∀i h h',tn i h->(∀b∈fp,∀o,h.get? b=some o->h'.get? b=some o)->tn i h'
 item:∀(X:Cx),X.prog=P->X.w=w->X.K=K->X.calm=true->∀(i:Nat) (pins:List (Addr×Obj)) (s:Shared) (σ:St) (H:Hp) (E:Value->Shared->Prop),A2 X pins σ H s->(∀b∈fp,F4 X pins H b)->tn i s.heap->J.go i H->
  wpAny (model P w) X.A (pyNext (.ref it)) (fun r s1=>∃u,r=some u/\
   wpAny (model P w) X.A (letOwnedTupleGo tg (.ref it) u) (fun _ s2=>∃x H',A2 X pins σ H' s2/\AD x u/\J.yld i H x H'/\tn (i+1) s2.heap/\∀b∈fp,H' b=none) E s1) E s
 done:∀(X:Cx),X.prog=P->X.w=w->X.K=K->X.calm=true->∀(i:Nat) (pins:List (Addr×Obj)) (s:Shared) (σ:St) (H:Hp) (E:Value->Shared->Prop),A2 X pins σ H s->(∀b∈fp,F4 X pins H b)->tn i s.heap->J.stop i H->
  wpAny (model P w) X.A (pyNext (.ref it)) (fun r s1=>r=none/\A2 X pins σ H s1) E s
 self:∀(A:Around) (i:Nat) (s:Shared) (Q:Value->Shared->Prop) (E:Value->Shared->Prop),tn i s.heap->Q (.ref it) s->wpAny (model P w) A (pyIter (.ref it)) Q E s
abbrev TI:=St->Hp->(It->Hp->Prop)->Prop
def QN (X:Cx)(pins:List (Addr×Obj))(σ:St)(tg:Expr)(R:It->Hp->Prop)(itv:Value)(s2:Shared):Prop:=
 ∃(it:Addr) (fp:List Addr) (tn:Nat->Heap->Prop) (J:It) (H':Hp),itv = .ref it/\A2 X pins σ H' s2/\Gn X.prog X.w X.K tg J fp it tn/\tn 0 s2.heap/\(∀b∈fp,F4 X pins H' b)/\R J H'
def PI (X:Cx)(tg iter:Expr)(wi:TI):Prop:=
 ∀(pins:List (Addr×Obj)) (s:Shared) (σ:St) (H:Hp) (R:It->Hp->Prop),A2 X pins σ H s->wi σ H R->
  wpAny (model X.prog X.w) X.A (eval iter X.env) (fun v s1=>wpAny (model X.prog X.w) X.A (pyIter v) (QN X pins σ tg R) X.xe s1) X.xe s
theorem Q9 {M:Model}{A:Around}{E:Value->Shared->Prop}{s:Shared}{tg:Expr}{it:Addr}{u:Value}{o:Obj}{n:String}{vs:Array Value}{Q:Unit->Shared->Prop}(ho:s.heap.get? it=some o)(hc:o.cls = .type n)(hd:o.data = .fields vs)
  (hn:["enumerate","zip","dict_itemiterator","dict_reverseitemiterator","odict_iterator","itertools.zip_longest","itertools.pairwise"].contains n=false) (hQ:Q () s):wpAny M A (letOwnedTupleGo tg (.ref it) u) Q E s:=by
 unfold letOwnedTupleGo
 cases tg<;>first
  |exact Ae hQ
  |(cases u<;>first
   |exact Ae hQ
   |(
    refine A1 (wpAny_load ho ?_)
    rw[hc,hd]
    show wpAny M A (if(["enumerate","zip","dict_itemiterator","dict_reverseitemiterator","odict_iterator","itertools.zip_longest","itertools.pairwise"].contains n&&vs[0]?==some (rawInt _))=true then _ else _) Q E s
    rw[Ab (by intro h;rw[hn,Bool.false_and]at h;cases h)]
    exact Ae hQ))
def Ha (K:Faa)(a:Addr):It:=
 ⟨fun i H=>∃xs x,A5 K H a xs/\xs[i]?=some x,fun i H x H'=>H'=H/\∀xs,A5 K H a xs->xs[i]?=some x,fun i H=>∃xs,A5 K H a xs/\xs.length<=i⟩
def Gx (lo:Int)(n:Nat):It:=⟨fun i _=>i<n,fun i H x H'=>H'=H/\x = .int (lo+i),fun i _=>n<=i⟩
theorem U0 {P:Program}{w:World}{K:Faa}{tg:Expr}(a it:Addr):Gn P w K tg (Ha K a) [it] it (fun i h=>h.IsListIter it a i) where
 mem:=by simp
 obj:=fun i h st b hb=>by
  have e:b=it:=by simpa using hb
  subst e
  obtain⟨o,e,c,d⟩:=st
  exact⟨o,e,fun v z=>by rw[d]at z;cases z⟩
 keep:=fun i h h' st k=>st.at fun o e=>k it (by simp) o e
 item:=by
  intro X hP hw hK hc i pins s σ H E I hf st hg
  subst hP hw hK
  obtain⟨xs,x,hq,hx⟩:=hg
  obtain⟨its,rv,p,hz⟩:=I.list hq
  obtain⟨u,hu,ru⟩:=rv.get hx
  obtain⟨f0,f1,f2,f3,f4,f5⟩:=hf it (by simp)
  refine wpAny_pyNext_list_item st p.isList (x:=u) (by simpa using hu) fun h' st' sb=>?_
  have I1:A2 X pins σ H {s with heap:=h'}:=I.turned (t':=s.toks) (fun b o hb e=>(sb.2 b hb).trans e) f0 f1 f3 f4 f5
  obtain⟨o,e,c,d⟩:=id st'
  exact⟨u,rfl,Q9 (s:={s with heap:=h'}) e c d (by decide) ⟨x,H,I1,ru,⟨rfl,fun ys hy=>by rw[I.list_inj hy hq];exact hx⟩,st',fun b hb=>(hf b hb).1⟩⟩
 done:=by
  intro X hP hw hK hc i pins s σ H E I hf st hg
  subst hP hw hK
  obtain⟨xs,hq,hx⟩:=hg
  obtain⟨its,rv,p,hz⟩:=I.list hq
  obtain⟨f0,f1,f2,f3,f4,f5⟩:=hf it (by simp)
  have hl:=rv.length
  exact wpAny_pyNext_list_end (I.ok.hd hc) st p.isList (by simp;lia) fun h' eb=>⟨rfl,I.turned (t':=s.toks) (fun b o hb e=>eb b o hb e) f0 f1 f3 f4 f5⟩
 self:=fun _ _ _ _ _ st h=>wpAny_pyIter_listiter st h
theorem bY {P:Program}{w:World}{K:Faa}{tg:Expr}(it:Addr)(lo:Int)(n:Nat):Gn P w K tg (Gx lo n) [it] it (fun i h=>IsRangeIter h it (lo+(i:Nat)*1) ((n:Int)-(i:Nat)) 1) where
 mem:=by simp
 obj:=fun i h st b hb=>by
  have e:b=it:=by simpa using hb
  subst e
  exact⟨_,st,fun v z=>by
   have z':Data.fields _=Data.cell v:=z
   cases z'⟩
 keep:=fun i h h' st k=>k it (by simp) _ st
 item:=by
  intro X hP hw hK hc i pins s σ H E I hf st hg
  subst hP hw hK
  obtain⟨f0,f1,f2,f3,f4,f5⟩:=hf it (by simp)
  have W:=Walks.range (prog:=X.prog) (w:=X.w) (I.ok.hd hc) it lo 1 n
  refine W.item i s _ _ hg st fun v h' tk hv st' kk=>?_
  obtain⟨t,rfl⟩:=hv
  have I1:A2 X pins σ H {s with heap:=h',toks:=tk}:=I.turned (fun b o hb e=>kk b o (by simpa using hb) e) f0 f1 f3 f4 f5
  refine⟨_,rfl,Q9 (s:={s with heap:=h',toks:=tk}) (n:="range_iterator") st' rfl rfl (by decide) ⟨.int (lo+i),H,I1,⟨t,?_⟩,⟨rfl,rfl⟩,st',fun b hb=>(hf b hb).1⟩⟩
  rw[Int.mul_one]
 done:=by
  intro X hP hw hK hc i pins s σ H E I hf st hg
  subst hP hw hK
  obtain⟨f0,f1,f2,f3,f4,f5⟩:=hf it (by simp)
  exact wpAny_pyNext_range_end (I.ok.hd hc) st (by have:n<=i:=hg;lia) fun h' eb=>⟨rfl,I.turned (t':=s.toks) (fun b o hb e=>eb b o hb e) f0 f1 f3 f4 f5⟩
 self:=fun _ _ _ _ _ st h=>wpAny_pyIter_rangeiter st h
section
variable {X:Cx}{tg:Expr}
def ZH (K:Faa)(tl:TE):TI:=fun σ H R=>tl σ H fun x H1=>∃a,x = .ref a/\(∃xs,A5 K H1 a xs)/\R (Ha K a) H1
theorem Dp {l:Expr}{tl:TE}(hl:PE X l tl):PI X tg l (ZH X.K tl):=by
 intro pins s σ H R I h
 refine Ax (hl pins s σ H _ I h) fun v s1 zz=>?_
 obtain⟨x,H1,I1,r1,q1⟩:=zz
 obtain⟨a,e,⟨xs,hq⟩,q⟩:=q1
 subst e
 cases r1
 obtain⟨its,rv,p,hz⟩:=I1.list hq
 refine Nq p.isList ?_
 refine⟨s1.heap.objs.size,[s1.heap.objs.size],_,_,H1,rfl,I1.kept (t':=s1.toks) fun b o e=>Aw _ e,U0 a _,⟨_,B8 _ rfl,rfl,rfl⟩,fun b hb=>?_,q⟩
 have e:b=s1.heap.objs.size:=by simpa using hb
 subst e
 exact I1.fpOk (Ah _) (I1.hok.fresh (Ah _))
theorem Qz {pins:List (Addr×Obj)}{σ:St}{H:Hp}{s:Shared}{R:It->Hp->Prop}{E:Value->Shared->Prop}{lo hi:Int}{t u v:Tok}{tk:Nat}(I:A2 X pins σ H s)(h1 : -(2 ^ 62)<=lo)(h2:lo<2 ^ 62)(h3 : -(2 ^ 62)<=hi)(h4:hi<2 ^ 62)
  (q:R (Gx lo (hi-lo).toNat) H):wpAny (model X.prog X.w) X.A (pyIter (.ref s.heap.objs.size)) (QN X pins σ tg R) E {s with heap:=s.heap.push {cls:=.type "range",data:=.fields #[.int lo t,.int hi u,.int 1 v]},toks:=tk}:=by
 refine wpAny_pyIter_range (IsRange.new ..) (small_one h1 h2 h3 h4) ?_
 have I1:A2 X pins σ H {s with heap:=s.heap.push {cls:=.type "range",data:=.fields #[.int lo t,.int hi u,.int 1 v]},toks:=tk}:=I.kept fun b o e=>Aw _ e
 refine⟨(s.heap.push {cls:=.type "range",data:=.fields #[.int lo t,.int hi u,.int 1 v]}).objs.size,[(s.heap.push {cls:=.type "range",data:=.fields #[.int lo t,.int hi u,.int 1 v]}).objs.size],_,_,H,rfl,
  I1.kept (t':=tk) fun b o e=>Aw _ e,bY _ lo (hi-lo).toNat,?_,fun b hb=>?_,q⟩
 .have e1:lo+((0:Nat):Int)*1=lo:=by simp
  have e2:(((hi-lo).toNat:Nat):Int)-((0:Nat):Int)=Builtin.Range.rangeSize lo hi 1:=by rw[rangeSize_one];split<;>lia
  show IsRangeIter _ _ (lo+((0:Nat):Int)*1) ((((hi-lo).toNat:Nat):Int)-((0:Nat):Int)) 1
  rw[e1,e2]
  exact B8 _ rfl
 .have e:b=(s.heap.push {cls:=.type "range",data:=.fields #[.int lo t,.int hi u,.int 1 v]}).objs.size:=by simpa using hb
  subst e
  exact I1.fpOk (Ah _) (I1.hok.fresh (Ah _))
def UR (ta:TA):TI:=fun σ H R=>ta σ H fun vs H1=>∃j:Int,vs=[.int j]/\-(2 ^ 62)<=j/\j<2 ^ 62/\R (Gx 0 j.toNat) H1
def Zz (ta:TA):TI:=fun σ H R=>ta σ H fun vs H1=>∃i j:Int,vs=[.int i,.int j]/\(-(2 ^ 62)<=i/\i<2 ^ 62/\-(2 ^ 62)<=j/\j<2 ^ 62)/\R (Gx i (j-i).toNat) H1
theorem Hu {a:Expr}{ta:TA}{p pos:Pos}(hg:Gl X "range")(hm:X.mg "range"=none)(ha:PA X [a] ta)(hs:starEach [a] X.env=[(false,eval a X.env)]:=by rfl):PI X tg (.Call (.Name "range" p) [a] [] pos) (UR ta):=by
 intro pins s σ H R I h
 refine Call_ (Ed I hg hm boot_range (Ge (Ax (ha pos pins s σ H _ I h) fun us s1 zz=>?_) hs rfl))
 obtain⟨vs,H1,I1,r1,q1⟩:=zz
 obtain⟨j,e,q1,q2,q⟩:=q1
 subst e
 cases r1 with
 |
  cons r rr=>
  cases rr
  obtain⟨t,rfl⟩:=r
  exact call_range_1 (Qz I1 (by lia) (by lia) q1 q2 (by simpa using q))
theorem aE {a b:Expr}{ta:TA}{p pos:Pos}(hg:Gl X "range")(hm:X.mg "range"=none)(ha:PA X [a,b] ta)(hs:starEach [a,b] X.env=[(false,eval a X.env),(false,eval b X.env)]:=by rfl)(hs2:starEach [b] X.env=[(false,eval b X.env)]:=by rfl) :
  PI X tg (.Call (.Name "range" p) [a,b] [] pos) (Zz ta):=by
 intro pins s σ H R I h
 refine Call_ (Ed I hg hm boot_range (Ge (Ax (ha pos pins s σ H _ I h) fun us s1 zz=>?_) (by rw[hs,hs2]) (by rw[hs2];rfl)))
 obtain⟨vs,H1,I1,r1,q1⟩:=zz
 obtain⟨i,j,e,⟨q1,q2,q3,q4⟩,q⟩:=q1
 subst e
 cases r1 with
 |
  cons r rr=>
  cases rr with
  |
   cons r' rr=>
   cases rr
   obtain⟨t,rfl⟩:=r
   obtain⟨t',rfl⟩:=r'
   exact call_range_2 (Qz I1 q1 q2 q3 q4 q)
def XT (wi:TI)(g:TG)(tb:TS):TS:=fun D σ H=>wi σ H fun J H1=>∃W:Nat->Nat->St->Hp->Prop,(∃m,W 0 m σ H1)/\∀i m σ H,W i m σ H->
 (J.stop i H/\D.nx σ H)\/(J.go i H/\∃N:St->Hp->Prop,(∀σ' H',N σ' H'->∃m',m'<m/\W (i+1) m' σ' H')/\∀x H',J.yld i H x H'->g x σ H' fun σ2 H2=>tb {D with nx:=N,ct:=N,bk:=D.nx} σ2 H2)
def J4 (fp:List Addr)(h:Heap):List (Addr×Obj):=fp.filterMap fun b=>(h.get? b).map fun o=>(b,o)
theorem Kw {fp:List Addr}{h:Heap}{b:Addr}{o:Obj}(hb:b∈fp)(e:h.get? b=some o):(b,o)∈J4 fp h:=List.mem_filterMap.mpr ⟨b,hb,by rw[e];rfl⟩
theorem aH {fp:List Addr}{h:Heap}{p:Addr×Obj}(hp:p∈J4 fp h):p.1∈fp/\h.get? p.1=some p.2:=by
 obtain⟨b,hb,e⟩:=List.mem_filterMap.mp hp
 cases q:h.get? b with
 |none=>rw[q]at e;cases e
 |
  some o=>
  rw[q]at e
  have e':(b,o)=p:=Cp e
  subst e'
  exact⟨hb,q⟩
theorem A2.pinned {pins:List (Addr×Obj)}{σ:St}{H:Hp}{s:Shared}{fp:List Addr}(I:A2 X pins σ H s)(hf:∀b∈fp,F4 X pins H b)(ho:∀b∈fp,∃o,s.heap.get? b=some o/\∀v,o.data≠.cell v):A2 X (pins++J4 fp s.heap) σ H s:=
 I.pins_of fun p hp=>(BO.mp hp).elim (fun z=>I.pin p (C7 _ z)) fun z=>by
  obtain⟨hb,e⟩:=aH z
  obtain⟨f0,f1,f2,_⟩:=hf p.1 hb
  obtain⟨o,e',d⟩:=ho p.1 hb
  rw[e]at e';cases e'
  exact⟨e,f0,f1,f2,d⟩
theorem A2.unpinned {pins pl:List (Addr×Obj)}{σ:St}{H:Hp}{s:Shared}(I:A2 X (pins++pl) σ H s):A2 X pins σ H s:=I.pins_of fun p hp=>I.pin p (C7 _ (CA _ hp))
theorem CD {iter:Expr}{body:List Stmt}{wi:TI}{g:TG}{tb:TS}{pos:Pos}(hp:PassesOwn (model X.prog X.w) X.A X.env X.xe)(hc:X.calm=true)(hi:PI X tg iter wi)(hg:PG X tg g)(hb:DS X body tb)
  (hs:∀x,foldedSetIterable iter X.env x=pure x:=by intro _;rfl):PS X (.For tg iter body [] pos) (XT wi g tb):=by
 intro pins s σ H D I h
 refine wpAny_For (Ax (hi pins s σ H _ I h) fun v s1 h1=>Ax h1 fun itv s2 h2=>?_) hs
 obtain⟨it,fp,tn,J,H2,e,I2,T,st2,f2,W,⟨m0,w0⟩,turn⟩:=h2
 subst e
 have stat:∀{H':Hp},(∀b∈fp,H' b=none)->∀b∈fp,F4 X pins H' b:=fun hn b hb=>⟨hn b hb,(f2 b hb).2⟩
 refine codeAny_forLoop_any (fun n s'=>∃i σ' H',A2 X pins σ' H' s'/\tn i s'.heap/\(∀b∈fp,H' b=none)/\W i n σ' H') ?_ m0 ⟨0,σ,H2,I2,st2,fun b hb=>(f2 b hb).1,w0⟩
 rintro n s3 ⟨i,σ3,H3,I3,st3,fr3,w3⟩
 rcases turn i n σ3 H3 w3 with⟨stop,qn⟩|⟨go,N,hN,step⟩
 .refine JH hp (Ax (T.done X rfl rfl rfl hc i pins s3 σ3 H3 X.xe I3 (stat fr3) st3 stop) fun r s4 zz=>?_)
  obtain⟨hr,I4⟩:=zz
  subst hr
  exact Np ⟨σ3,H3,I4,qn⟩
 .refine JH hp (Ax (T.item X rfl rfl rfl hc i pins s3 σ3 H3 X.xe I3 (stat fr3) st3 go) fun r s4 zz=>?_)
  obtain⟨u,hr,h4⟩:=zz
  subst hr
  refine JH hp (Ax h4 fun _ s5 zz=>?_)
  obtain⟨x,H5,I5,r5,y5,st5,fr5⟩:=zz
  have I5':=I5.pinned (stat fr5) (T.obj _ _ st5)
  refine JH hp (Ax (hg _ s5 σ3 H5 x u _ I5' r5 (step x H5 y5)) fun _ s6 zz=>?_)
  obtain⟨σ6,H6,I6,q6⟩:=zz
  refine JH hp (Ax (hb _ s6 σ6 H6 _ I6 q6) fun f s7 q7=>?_)
  have again:∀{σ7:St} {H7:Hp},A2 X (pins++J4 fp s5.heap) σ7 H7 s7->N σ7 H7->∃m,m<n/\∃i σ' H',A2 X pins σ' H' s7/\tn i s7.heap/\(∀b∈fp,H' b=none)/\W i m σ' H':=fun{σ7 H7} I7 n7=>by
   obtain⟨m',hm,w7⟩:=hN σ7 H7 n7
   refine⟨m',hm,i+1,σ7,H7,I7.unpinned,T.keep _ _ _ st5 fun b hb o e=>(I7.pin (b,o) (C7 _ (C7 _ (Kw hb e)))).1,fun b hb=>?_,w7⟩
   obtain⟨o,e,d⟩:=T.obj _ _ st5 b hb
   exact(I7.pin (b,o) (C7 _ (C7 _ (Kw hb e)))).2.1
  cases f with
  |next=>obtain⟨σ7,H7,I7,n7⟩:=q7;exact again I7 n7
  |cont=>obtain⟨σ7,H7,I7,n7⟩:=q7;exact again I7 n7
  |brk=>obtain⟨σ7,H7,I7,q7⟩:=q7;exact⟨σ7,H7,I7.unpinned,q7⟩
  |ret v=>obtain⟨x7,σ7,H7,I7,r7,q7⟩:=q7;exact⟨x7,σ7,H7,I7.unpinned,r7,q7⟩
end
theorem Hl {K:Faa}{a:Addr}{xs:List V}{g:TG}{tb:TS}{D:CL}{σ:St}{H:Hp}(Pv:Nat->St->Hp->Prop)(h0:Pv 0 σ H)(hl:∀i σ H,i<=xs.length->Pv i σ H->A5 K H a xs)
  (hs:∀i x σ H,xs[i]?=some x->Pv i σ H->g x σ H fun σ2 H2=>tb {D with nx:=Pv (i+1),ct:=Pv (i+1),bk:=D.nx} σ2 H2) (hd:∀σ H,Pv xs.length σ H->D.nx σ H) :
  ∃W:Nat->Nat->St->Hp->Prop,(∃m,W 0 m σ H)/\∀i m σ H,W i m σ H->
   ((Ha K a).stop i H/\D.nx σ H)\/((Ha K a).go i H/\∃N:St->Hp->Prop,(∀σ' H',N σ' H'->∃m',m'<m/\W (i+1) m' σ' H')/\∀x H',(Ha K a).yld i H x H'->g x σ H' fun σ2 H2=>tb {D with nx:=N,ct:=N,bk:=D.nx} σ2 H2):=by
 refine⟨fun i m σ H=>m=xs.length-i/\i<=xs.length/\Pv i σ H,⟨xs.length,by simp,Bk _,h0⟩,?_⟩
 rintro i m σ H ⟨rfl,hi,p⟩
 have q:=hl i σ H hi p
 by_cases hlt:i<xs.length
 .refine .inr ⟨⟨xs,xs[i],q,by simp[hlt]⟩,Pv (i+1),fun σ' H' p'=>⟨xs.length-(i+1),by lia,rfl,hlt,p'⟩,fun x H' y=>?_⟩
  obtain⟨e,y⟩:=y
  subst e
  exact hs i x σ _ (y xs q) p
 .have e:i=xs.length:=by lia
  subst e
  exact .inl ⟨⟨xs,q,Ah _⟩,hd σ H p⟩
theorem K4 {lo:Int}{n:Nat}{g:TG}{tb:TS}{D:CL}{σ:St}{H:Hp}(Pv:Nat->St->Hp->Prop)(h0:Pv 0 σ H)
  (hs:∀i σ H,i<n->Pv i σ H->g (.int (lo+i)) σ H fun σ2 H2=>tb {D with nx:=Pv (i+1),ct:=Pv (i+1),bk:=D.nx} σ2 H2) (hd:∀σ H,Pv n σ H->D.nx σ H) :
  ∃W:Nat->Nat->St->Hp->Prop,(∃m,W 0 m σ H)/\∀i m σ H,W i m σ H->
   ((Gx lo n).stop i H/\D.nx σ H)\/((Gx lo n).go i H/\∃N:St->Hp->Prop,(∀σ' H',N σ' H'->∃m',m'<m/\W (i+1) m' σ' H')/\∀x H',(Gx lo n).yld i H x H'->g x σ H' fun σ2 H2=>tb {D with nx:=N,ct:=N,bk:=D.nx} σ2 H2):=by
 refine⟨fun i m σ H=>m=n-i/\i<=n/\Pv i σ H,⟨n,by simp,Bk _,h0⟩,?_⟩
 rintro i m σ H ⟨rfl,hi,p⟩
 by_cases hlt:i<n
 .refine .inr ⟨hlt,Pv (i+1),fun σ' H' p'=>⟨n-(i+1),by lia,rfl,hlt,p'⟩,fun x H' y=>?_⟩
  obtain⟨e,y⟩:=y
  subst e y
  exact hs i σ _ hlt p
 .have e:i=n:=by lia
  subst e
  exact .inl ⟨Ah _,hd σ H p⟩
abbrev R2:=V->V->Hp->VK->Prop
def BP (X:Cx)(f:Value->Value->Sem Value)(r:R2):Prop:=
 ∀(pins:List (Addr×Obj)) (s:Shared) (σ:St) (H:Hp) (x y:V) (v u:Value) (Q:VK),A2 X pins σ H s->AD x v->AD y u->r x y H Q->
  wpAny (model X.prog X.w) X.A (f v u) (EP X pins σ Q) X.xe s
def OM (X:Cx)(f:Value->Sem Value)(r:V->Hp->VK->Prop):Prop:=
 ∀(pins:List (Addr×Obj)) (s:Shared) (σ:St) (H:Hp) (x:V) (v:Value) (Q:VK),A2 X pins σ H s->AD x v->r x H Q->
  wpAny (model X.prog X.w) X.A (f v) (EP X pins σ Q) X.xe s
def E8 (X:Cx)(f:Value)(r:List V->Hp->VK->Prop):Prop:=
 ∀(pins:List (Addr×Obj)) (s:Shared) (σ:St) (H:Hp) (xs:List V) (us:List Value) (Q:VK),A2 X pins σ H s->Az xs us->r xs H Q->
  wpAny (model X.prog X.w) X.A (call f us) (EP X pins σ Q) X.xe s
def KD (r:R2)(ta tb:TE):TE:=fun σ H Q=>ta σ H fun x H1=>tb σ H1 fun y H2=>r x y H2 Q
def Uj (r:V->Hp->VK->Prop)(ta:TE):TE:=fun σ H Q=>ta σ H fun x H1=>r x H1 Q
def rI (C:Int->Int->Prop)(g:Int->Int->V):R2:=fun x y H Q=>∃i j,x = .int i/\y = .int j/\C i j/\Q (g i j) H
def Hj (g:Int->Int->V):R2:=fun x y H Q=>∃i j,x = .int i/\y = .int j/\Q (g i j) H
def rU (g:Int->V):V->Hp->VK->Prop:=fun x H Q=>∃i,x = .int i/\Q (g i) H
section
variable {X:Cx}{a b c:Expr}{ta tb tc:TE}{pos:Pos}
theorem OZ (ha:PE X a ta)(hb:PE X b tb){pins:List (Addr×Obj)}{s:Shared}{σ:St}{H:Hp}{R:V->V->Hp->Prop}(I:A2 X pins σ H s)
  (h:ta σ H fun x H1=>tb σ H1 fun y H2=>R x y H2) {Q:Value->Shared->Prop} {f:Value->Value->Sem Value}
  (hf:∀v u s2 x y H2,A2 X pins σ H2 s2->AD x v->AD y u->R x y H2->wpAny (model X.prog X.w) X.A (f v u) Q X.xe s2) :
  wpAny (model X.prog X.w) X.A (eval a X.env) (fun v s₁=>wpAny (model X.prog X.w) X.A (eval b X.env) (fun u s₂=>wpAny (model X.prog X.w) X.A (f v u) Q X.xe s₂) X.xe s₁) X.xe s:=by
 refine Ax (ha pins s σ H _ I h) fun v s1 zz=>?_
 obtain⟨x,H1,I1,r1,q1⟩:=zz
 refine Ax (hb pins s1 σ H1 _ I1 q1) fun u s2 zz=>?_
 obtain⟨y,H2,I2,r2,q2⟩:=zz
 exact hf v u s2 x y H2 I2 r1 r2 q2
theorem Aa {op:Operator}{r:R2}(ho:BP X (binaryOp op) r)(ha:PE X a ta)(hb:PE X b tb):PE X (.BinOp a op b pos) (KD r ta tb):=by
 intro pins s σ H Q I h
 exact wpAny_BinOp (OZ ha hb I h fun v u s2 x y H2 I2 rx ry q=>ho pins s2 σ H2 x y v u Q I2 rx ry q)
theorem PZ {op:UnaryOp}{r:V->Hp->VK->Prop}(ho:OM X (unaryOp op) r)(ha:PE X a ta):PE X (.UnaryOp op a pos) (Uj r ta):=by
 intro pins s σ H Q I h
 refine UnaryOp_ (Ax (ha pins s σ H _ I h) fun v s1 zz=>?_)
 obtain⟨x,H1,I1,r1,q1⟩:=zz
 exact ho pins s1 σ H1 x v Q I1 r1 q1
theorem M5 {f:Value->Value->Sem Value}{C:Int->Int->Prop}{g:Int->Int->Int}
  (rule:∀(i j:Int) (t u:Tok) (s:Shared) (Q:Value->Shared->Prop) (E:Value->Shared->Prop),C i j->Q (.int (g i j) s.toks) {s with toks:=s.toks+1}->wpAny (model X.prog X.w) X.A (f (.int i t) (.int j u)) Q E s) :
  BP X f (rI C fun i j=>.int (g i j)):=by
 intro pins s σ H x y v u Q I rx ry h
 obtain⟨i,j,rfl,rfl,hc,q⟩:=h
 obtain⟨t,rfl⟩:=rx
 obtain⟨t',rfl⟩:=ry
 exact rule i j t t' s _ _ hc ⟨.int (g i j),H,I.tok _,⟨_,rfl⟩,q⟩
theorem RL {f:Value->Value->Sem Value}{g:Int->Int->Int}
  (rule:∀(i j:Int) (t u:Tok) (s:Shared) (Q:Value->Shared->Prop) (E:Value->Shared->Prop),Q (.int (g i j) s.toks) {s with toks:=s.toks+1}->wpAny (model X.prog X.w) X.A (f (.int i t) (.int j u)) Q E s) :
  BP X f (Hj fun i j=>.int (g i j)):=by
 intro pins s σ H x y v u Q I rx ry h
 obtain⟨i,j,rfl,rfl,q⟩:=h
 obtain⟨t,rfl⟩:=rx
 obtain⟨t',rfl⟩:=ry
 exact rule i j t t' s _ _ ⟨.int (g i j),H,I.tok _,⟨_,rfl⟩,q⟩
theorem QM {f:Value->Value->Sem Value}{g:Int->Int->Bool}
  (rule:∀(i j:Int) (t u:Tok) (s:Shared) (Q:Value->Shared->Prop) (E:Value->Shared->Prop),Q (.bool (g i j)) s->wpAny (model X.prog X.w) X.A (f (.int i t) (.int j u)) Q E s) :
  BP X f (Hj fun i j=>.bl (g i j)):=by
 intro pins s σ H x y v u Q I rx ry h
 obtain⟨i,j,rfl,rfl,q⟩:=h
 obtain⟨t,rfl⟩:=rx
 obtain⟨t',rfl⟩:=ry
 exact rule i j t t' s _ _ ⟨.bl (g i j),H,I,rfl,q⟩
def Wg (i j:Int):Prop:=0<j/\j<1073741824
def UP (i j:Int):Prop:=0<=j/\j<=1000000/\i.natAbs<2 ^ 64
def O6 (i j:Int):Prop:=(-(2 ^ 64)<i/\i<2 ^ 64)\/(-(2 ^ 64)<j/\j<2 ^ 64)
theorem O6.ok {i j:Int}(h:O6 i j):IntMulOk i j:=by
 rcases h with⟨h1,h2⟩|⟨h1,h2⟩
 .exact .of_left (intBits_le_64 h1 h2)
 .exact .of_right (intBits_le_64 h1 h2)
theorem AL:BP X (binaryOp .Add) (Hj fun i j=>.int (i+j)):=RL fun _ _ _ _ _ _ _ q=>add_int q
theorem CB:BP X (binaryOp .Sub) (Hj fun i j=>.int (i-j)):=RL fun _ _ _ _ _ _ _ q=>sub_int q
theorem CK:BP X (binaryOp .Mult) (rI O6 fun i j=>.int (i*j)):=M5 fun _ _ _ _ _ _ _ hc q=>mul_int q hc.ok
theorem He:BP X (binaryOp .FloorDiv) (rI Wg fun i j=>.int (i/j)):=M5 fun i j _ _ _ _ _ hc q=>by
 have h1:(0:Int)<j:=hc.1
 have h2:j<1073741824:=hc.2
 exact floordiv_int (by lia) (by rw[Int.fdiv_eq_ediv_of_nonneg i (by lia)];exact q) (.inl (PyProof.noPylong_small (by lia)))
theorem Cg:BP X (binaryOp .Mod) (rI (fun _ j=>0<j) fun i j=>.int (i%j)):=M5 fun i j _ _ _ _ _ hc q=>by
 have h1:(0:Int)<j:=hc
 exact mod_int' (by lia) (by rw[Int.fmod_eq_emod_of_nonneg i (by lia)];exact q)
theorem J3:BP X (binaryOp .Pow) (rI UP fun i j=>.int (i ^ j.toNat)):=M5 fun _ _ _ _ _ _ _ hc q=>pow_int_small hc.1 hc.2.1 hc.2.2 q
theorem aN {f:Value->Sem Value}{g:Int->Int}
  (rule:∀(i:Int) (t:Tok) (s:Shared) (Q:Value->Shared->Prop) (E:Value->Shared->Prop),Q (.int (g i) s.toks) {s with toks:=s.toks+1}->wpAny (model X.prog X.w) X.A (f (.int i t)) Q E s) :
  OM X f (rU fun i=>.int (g i)):=by
 intro pins s σ H x v Q I rx h
 obtain⟨i,rfl,q⟩:=h
 obtain⟨t,rfl⟩:=rx
 exact rule i t s _ _ ⟨.int (g i),H,I.tok _,⟨_,rfl⟩,q⟩
theorem Sq:OM X (unaryOp .USub) (rU fun i=>.int (-i)):=aN fun _ _ _ _ _ q=>neg_int q
end
def Sg:V->V->Bool
 |.non,.non=>true|.non,.int _=>true|.int _,.non=>true|.non,.bl _=>true|.bl _,.non=>true|.non,.str _=>true|.str _,.non=>true
 |.int _,.int _=>true|.bl _,.bl _=>true|.str _,.str _=>true|.byt _,.byt _=>true
 |.int _,.str _=>true|.str _,.int _=>true|.bl _,.str _=>true|.str _,.bl _=>true
 |_,_=>false
def Vd:R2:=fun x y H Q=>Sg x y=true/\Q (.bl (decide (x=y))) H
def Y9:R2:=fun x y H Q=>Sg x y=true/\Q (.bl (!decide (x=y))) H
theorem Sh {i j:Int}:decide (V.int i=V.int j)=(i==j):=by
 rw[L8]
 simp
theorem Rk {i j:Bool}:decide (V.bl i=V.bl j)=(i==j):=by
 rw[L8]
 simp
theorem SE {i j:Str}:decide (V.str i=V.str j)=(i==j):=by
 rw[L8]
 simp
theorem R8 {i j:Array UInt8}:decide (V.byt i=V.byt j)=(i.toList==j.toList):=by
 rw[L8]
 cases i
 cases j
 simp
section
variable {X:Cx}{a b c:Expr}{ta tb tc:TE}{pos:Pos}
theorem BQ {pins:List (Addr×Obj)}{σ:St}{H:Hp}{s:Shared}{Q:VK}{k k':Bool}(I:A2 X pins σ H s)(q:Q (.bl k) H)(e:k=k'):EP X pins σ Q (.bool k') s:=by
 subst e
 exact⟨.bl k,H,I,rfl,q⟩
theorem Cc:BP X (compareOp .Eq) Vd:=by
 intro pins s σ H x y v u Q I rx ry h
 obtain⟨hs,q⟩:=h
 cases x with
 |
  non=>
  cases rx
  cases y with
  |non=>cases ry;exact PySem.EqNone.eq_none_none (BQ I q (by simp))
  |bl j=>cases ry;exact PySem.EqNone.eq_none_bool (BQ I q (by simp))
  |int j=>obtain⟨t',rfl⟩:=ry;exact PySem.EqNone.eq_none_int (BQ I q (by simp))
  |str j=>obtain⟨t',rfl⟩:=ry;exact PySem.EqNone.eq_none_str (BQ I q (by simp))
  |_=>exact absurd (show false=true from hs) CH
 |
  bl i=>
  cases rx
  cases y with
  |non=>cases ry;exact PySem.EqNone.eq_bool_none (BQ I q (by simp))
  |bl j=>cases ry;exact eq_bool (BQ I q Rk)
  |str j=>obtain⟨t',rfl⟩:=ry;exact PySem.EqMixed.eq_bool_str (BQ I q (by simp))
  |_=>exact absurd (show false=true from hs) CH
 |
  int i=>
  obtain⟨t,rfl⟩:=rx
  cases y with
  |non=>cases ry;exact PySem.EqNone.eq_int_none (BQ I q (by simp))
  |int j=>obtain⟨t',rfl⟩:=ry;exact eq_int (BQ I q Sh)
  |str j=>obtain⟨t',rfl⟩:=ry;exact PySem.EqMixed.eq_int_str (BQ I q (by simp))
  |_=>exact absurd (show false=true from hs) CH
 |
  str i=>
  obtain⟨t,rfl⟩:=rx
  cases y with
  |non=>cases ry;exact PySem.EqNone.eq_str_none (BQ I q (by simp))
  |bl j=>cases ry;exact PySem.EqMixed.eq_str_bool (BQ I q (by simp))
  |int j=>obtain⟨t',rfl⟩:=ry;exact PySem.EqMixed.eq_str_int (BQ I q (by simp))
  |str j=>obtain⟨t',rfl⟩:=ry;exact eq_str (BQ I q SE)
  |_=>exact absurd (show false=true from hs) CH
 |
  byt i=>
  obtain⟨t,rfl⟩:=rx
  cases y with
  |byt j=>obtain⟨t',rfl⟩:=ry;exact PySem.W.eq_bytes (BQ I q R8)
  |_=>exact absurd (show false=true from hs) CH
 |_=>cases y<;>exact absurd (show false=true from hs) CH
theorem Mt:BP X (compareOp .NotEq) Y9:=by
 intro pins s σ H x y v u Q I rx ry h
 obtain⟨hs,q⟩:=h
 cases x with
 |
  non=>
  cases rx
  cases y with
  |non=>cases ry;exact PySem.EqNone.ne_none_none (BQ I q (by simp))
  |bl j=>cases ry;exact PySem.EqNone.ne_none_bool (BQ I q (by simp))
  |int j=>obtain⟨t',rfl⟩:=ry;exact PySem.EqNone.ne_none_int (BQ I q (by simp))
  |str j=>obtain⟨t',rfl⟩:=ry;exact PySem.EqNone.ne_none_str (BQ I q (by simp))
  |_=>exact absurd (show false=true from hs) CH
 |
  bl i=>
  cases rx
  cases y with
  |non=>cases ry;exact PySem.EqNone.ne_bool_none (BQ I q (by simp))
  |bl j=>cases ry;exact ne_bool (BQ I q (congrArg not Rk))
  |str j=>obtain⟨t',rfl⟩:=ry;exact PySem.EqMixed.ne_bool_str (BQ I q (by simp))
  |_=>exact absurd (show false=true from hs) CH
 |
  int i=>
  obtain⟨t,rfl⟩:=rx
  cases y with
  |non=>cases ry;exact PySem.EqNone.ne_int_none (BQ I q (by simp))
  |int j=>obtain⟨t',rfl⟩:=ry;exact ne_int (BQ I q (congrArg not Sh))
  |str j=>obtain⟨t',rfl⟩:=ry;exact PySem.EqMixed.ne_int_str (BQ I q (by simp))
  |_=>exact absurd (show false=true from hs) CH
 |
  str i=>
  obtain⟨t,rfl⟩:=rx
  cases y with
  |non=>cases ry;exact PySem.EqNone.ne_str_none (BQ I q (by simp))
  |bl j=>cases ry;exact PySem.EqMixed.ne_str_bool (BQ I q (by simp))
  |int j=>obtain⟨t',rfl⟩:=ry;exact PySem.EqMixed.ne_str_int (BQ I q (by simp))
  |str j=>obtain⟨t',rfl⟩:=ry;exact ne_str (BQ I q (congrArg not SE))
  |_=>exact absurd (show false=true from hs) CH
 |
  byt i=>
  obtain⟨t,rfl⟩:=rx
  cases y with
  |byt j=>obtain⟨t',rfl⟩:=ry;exact PySem.W.ne_bytes (BQ I q (congrArg not R8))
  |_=>exact absurd (show false=true from hs) CH
 |_=>cases y<;>exact absurd (show false=true from hs) CH
theorem Gu:BP X (compareOp .Lt) (Hj fun i j=>.bl (decide (i<j))):=QM fun _ _ _ _ _ _ _ q=>lt_int q
theorem FL:BP X (compareOp .Gt) (Hj fun i j=>.bl (decide (j<i))):=QM fun _ _ _ _ _ _ _ q=>gt_int q
theorem LK:BP X (compareOp .Is) (fun x y H Q=>y = .non/\Q (.bl (decide (x = .non))) H):=by
 intro pins s σ H x y v u Q I rx ry h
 obtain⟨rfl,q⟩:=h
 cases ry
 refine is_none_gen (BQ I q ?_)
 cases x<;>first
  |(cases rx;rfl)
  |(obtain⟨t,rfl⟩:=rx;rfl)
theorem Xw:BP X (compareOp .IsNot) (fun x y H Q=>y = .non/\Q (.bl (!decide (x = .non))) H):=by
 intro pins s σ H x y v u Q I rx ry h
 obtain⟨rfl,q⟩:=h
 cases ry
 refine isnot_none_gen (BQ I q ?_)
 cases x<;>first
  |(cases rx;rfl)
  |(obtain⟨t,rfl⟩:=rx;rfl)
theorem AM (b:Expr){op:CmpOp}(h:op≠.In:=by decide)(h2:op≠.NotIn:=by decide):behindInMarks op b=false:=by
 have e1:(op==CmpOp.In)=false:=by cases op<;>first|rfl|exact absurd rfl h
 have e2:(op==CmpOp.NotIn)=false:=by cases op<;>first|rfl|exact absurd rfl h2
 cases b<;>simp[behindInMarks,e1,e2]
theorem Ef {op:CmpOp}{r:R2}(ho:BP X (compareOp op) r)(ha:PE X a ta)(hb:PE X b tb)(hm:behindInMarks op b=false):PE X (.Compare a [op] [b] pos) (KD r ta tb):=by
 intro pins s σ H Q I h
 exact wpAny_Compare1 (OZ ha hb I h fun v u s2 x y H2 I2 rx ry q=>ho pins s2 σ H2 x y v u Q I2 rx ry q) hm
def Qb (t:TE):TT:=fun σ H Q=>t σ H fun x H'=>∃k,x = .bl k/\Q k H'
theorem AX {op:CmpOp}{r:R2}(ho:BP X (compareOp op) r)(ha:PE X a ta)(hb:PE X b tb)(hm:behindInMarks op b=false):PT X (.Compare a [op] [b] pos) (Qb (KD r ta tb)):=by
 intro pins s σ H Q I h
 refine wpAny_isTrue_Compare1 (Ax (ha pins s σ H _ I h) fun v s1 ⟨x,H1,I1,r1,q1⟩=>Ax (hb pins s1 σ H1 _ I1 q1) fun u s2 ⟨y,H2,I2,r2,q2⟩=>
  Ax (ho pins s2 σ H2 x y v u _ I2 r1 r2 q2) fun c s3 ⟨z,H3,I3,r3,k,e,q3⟩=>?_) hm
 subst e
 cases r3
 exact Lh ⟨H3,I3,q3⟩
theorem L5:(sizeLine:Nat)<2 ^ 63:=by rw[Gh];decide
theorem R5:BP X (binaryOp .Add) (fun x y H Q=>∃i j,x = .str i/\y = .str j/\i.length+j.length<=sizeLine/\Q (.str (i++j)) H):=by
 intro pins s σ H x y v u Q I rx ry h
 obtain⟨i,j,rfl,rfl,hz,q⟩:=h
 obtain⟨t,rfl⟩:=rx
 obtain⟨t',rfl⟩:=ry
 exact add_str (fun t' tk=>⟨.str (i++j),H,I.tok _,⟨_,rfl⟩,q⟩) hz
theorem EK {x:V}{us:List Value}(r:Az [x] us):∃u,us=[u]/\AD x u:=by
 cases r with
 |cons r1 r2=>cases r2;exact⟨_,rfl,r1⟩
theorem b7 {x y:V}{us:List Value}(r:Az [x,y] us):∃u w',us=[u,w']/\AD x u/\AD y w':=by
 cases r with
 |
  cons r1 r2=>
  cases r2 with
  |cons r3 r4=>cases r4;exact⟨_,_,rfl,r1,r3⟩
theorem aK (hc:X.calm=true):E8 X (.builtin "min") (fun xs H Q=>∃i j,xs=[.int i,.int j]/\Q (.int (if j<i then j else i)) H):=by
 intro pins s σ H xs us Q I r h
 obtain⟨i,j,rfl,q⟩:=h
 obtain⟨u,w',rfl,⟨t,rfl⟩,⟨t',rfl⟩⟩:=b7 r
 refine min_two_ints (I.ok.hd hc) fun h' tk k=>⟨_,H,I.kept k,?_,q⟩
 by_cases hj:j<i
 .rw[Aj hj,Aj hj];exact⟨_,rfl⟩
 .rw[Ab hj,Ab hj];exact⟨_,rfl⟩
theorem Fv:E8 X (.type "int") (fun xs H Q=>(∃i,xs=[.int i]/\Q (.int i) H)\/∃k,xs=[.bl k]/\Q (.int (if k then 1 else 0)) H):=by
 intro pins s σ H xs us Q I r h
 rcases h with⟨i,rfl,q⟩|⟨k,rfl,q⟩
 .obtain⟨u,rfl,t,rfl⟩:=EK r
  exact call_int_int ⟨.int i,H,I,⟨_,rfl⟩,q⟩
 .obtain⟨u,rfl,r1⟩:=EK r
  cases r1
  exact call_int_bool ⟨.int (if k then 1 else 0),H,I.tok _,⟨_,rfl⟩,q⟩
end
structure Jr (h:Heap)(x dx C:Addr)(mA:Str->Option Value):Prop where
 obj:h.get? x=some (PySem.W.instObj C dx)
 ns:h.Ns1 dx mA
 ne:dx≠x
theorem Y2 {h:Heap}{dx:Addr}{mA:Str->Option Value}(n:h.Ns1 dx mA):∃od,h.get? dx=some od/\∀name,PySem.W.lookIn name od=some (mA name):=by
 obtain⟨o,es,ep,ho,hd,hk,_,hm⟩:=n
 refine⟨o,ho,fun name=>?_⟩
 have e:=hm name
 unfold nsFind findBy at e
 rw[←Array.find?_toList]at e
 unfold PySem.W.lookIn
 rw[hd]
 dsimp only
 split
 .rename_i y q
  rw[q]at e
  exact congrArg some e
 .rename_i q
  rw[q]at e
  have a:es.toList.any (·.refKey)=false:=by
   rw[List.any_eq_false]
   intro y hy
   obtain⟨z,t,hkey⟩:=hk y (Array.mem_toList_iff.mp hy)
   simp[DictEntry.refKey,hkey]
  have a':¬es.toList.any (·.refKey)=true:=by rw[a];exact CH
  rw[Ab a']
  exact congrArg some e
theorem Jr.look {h:Heap}{x dx C:Addr}{mA:Str->Option Value}(I:Jr h x dx C mA):∃od,PySem.W.InstAt h x (PySem.W.instObj C dx) C (some od)/\∀name,PySem.W.lookIn name od=some (mA name):=
 let ⟨od,ho,hl⟩:=Y2 I.ns
 ⟨od,⟨I.obj,rfl,rfl,ho⟩,hl⟩
section
variable {prog:Program}{w:World}{A:Around}{E:Value->Shared->Prop}{s:Shared}{K:Faa}{x dx C f:Addr}{mA:Str->Option Value}{name:Str}{v:Value}
theorem TY {expr:Bool}{Q:Value->Shared->Prop}(X:K.In s.heap)(I:Jr s.heap x dx C mA)(hg:PySem.W.plainGet K C name=true)(hh:PySem.W.hasDictIn K C=true)
  (ha:PySem.W.findIn K (.ref C) name=some none) (hv:mA name=some v) (hv':PySem.W.handedIn v=true) (h:Q v {s with toks:=s.toks+1}) :
  wpAny (model prog w) A (getAttr (.ref x) name expr) Q E s:=by
 obtain⟨od,J,hl⟩:=I.look
 exact PySem.W.get_value X J (PySem.W.plainGet_of hg).1 (PySem.W.findObj_own hh ha rfl (by rw[hl,hv])) hv' h
theorem YM {ns:List Str}{Q:Unit->Shared->Prop}(X:K.In s.heap)(I:Jr s.heap x dx C mA)
  (hs:PySem.W.findIn K (.ref C) "__setattr__"=some (some (.builtin "object.__setattr__"))) (hp:PySem.W.plainOver K C=true) (ht:PySem.W.takerIn K C name=some none) (hh:PySem.W.hasDictIn K C=true)
  (hw:PySem.Within mA ns) (hsz:ns.length<=sizeLine)
  (h:∀h',Jr h' x dx C (fun y=>if y=name then some v else mA y)->Heap.SameBut dx s.heap h'->Q () {s with heap:=h',toks:=s.toks+2}) :
  wpAny (model prog w) A (setAttr (.ref x) name v) Q E s:=by
 obtain⟨od,J,hl⟩:=I.look
 refine PySem.W.set_plain X J hs (PySem.W.osa_open (s:={s with toks:=s.toks+1}) (r:=none) X J hp ht fun b=>?_)
 obtain⟨cd,hc,hd'⟩:=PySem.W.any_some hh
 have hx:s.heap.get? x=some ⟨.ref C,some dx,.plain,#[]⟩:=I.obj
 refine A1 (Ae (A1 (A1 (wpAny_loadPart hx (A1 (PySem.W.Looks.here (s:={s with toks:=s.toks+1}) (PySem.W.looks_clsIn X hc) ?_))))))
 rw[hd']
 refine Ae (a:=some dx) (A1 (Ae (A1 ?_)))
 refine wpAny_nsSet1 (s:={s with toks:=s.toks+1}) I.ns fun h' hn2 hs2=>?_
 obtain⟨oD,esD,epD,hoD,hdD,hcD⟩:=hn2.count (PySem.Within.cons name v hw)
 refine A1 (wpAny_lookBehind hoD (by rw[hdD];exact pastItsLine_dict (Cz hcD (by rw[B9];lia))) ?_)
 exact Ae (h _ ⟨(hs2.2 _ (Ne.symm I.ne)).trans I.obj,hn2,I.ne⟩ hs2)
theorem bO {R:Result->Shared->Prop}{vs:List Value}{kw:List (Str×Value)}(X:K.In s.heap)(hm:PySem.W.makesIn K C=true)
  (hi:PySem.W.findIn K (.ref C) "__init__"=some (some (.ref f))) (hf:PySem.W.typeIn K (.ref f)=some (.type "function"))
  (h:codeAny (model prog w) (A.under (.builtin "type.__call__" ⟨.ref C::vs,kw⟩)) (.call (.ref f) ⟨.ref (s.heap.objs.size+1)::vs,kw⟩) (PySem.W.InitBack (s.heap.objs.size+1) R)
   {s with heap:=(s.heap.push PySem.W.emptyDict).push (PySem.W.instObj C s.heap.objs.size)}) :
  codeAny (model prog w) A (.call (.ref C) ⟨vs,kw⟩) R s:=by
 obtain⟨hh,g,d,t,os⟩:=s
 exact PySem.W.make_core (PySem.W.makes_of X hm) (PySem.W.looks_findIn X hi) (fun self=>PySem.W.bind_fn X self hf) (.inl rfl) h
end
def DO (f:Str)(v:V):List (Str×V)->List (Str×V)
 |[]=>[(f,v)]
 |(g,x)::r=>if g=f then(g,v)::r else(g,x)::DO f v r
theorem Sm (f g:Str)(v:V):∀fs:List (Str×V),(DO f v fs).lookup g=if g=f then some v else fs.lookup g
 |
  []=>by
  show List.lookup g [(f,v)]=_
  by_cases h:g=f
  .have hb:(g==f)=true:=GR.mpr h
   simp only[List.lookup,hb,Aj h]
  .have hb:(g==f)=false:=Iu.mpr h
   simp only[List.lookup,hb,Ab h]
 |
  (k,x)::r=>by
  have ih:=Sm f g v r
  rw[show DO f v ((k,x)::r)=(if k=f then(k,v)::r else(k,x)::DO f v r) from rfl]
  by_cases hk:k=f
  .rw[Aj hk]
   by_cases h:g=k
   .have hb:(g==k)=true:=GR.mpr h
    simp only[List.lookup,hb,Aj (h.trans hk)]
   .have hb:(g==k)=false:=Iu.mpr h
    simp only[List.lookup,hb,Ab (fun e:g=f=>h (e.trans hk.symm))]
  .rw[Ab hk]
   by_cases h:g=k
   .have hb:(g==k)=true:=GR.mpr h
    simp only[List.lookup,hb,Ab (fun e:g=f=>hk (h.symm.trans e))]
   .have hb:(g==k)=false:=Iu.mpr h
    simp only[List.lookup,hb]
    exact ih
theorem OA (f:Str)(v:V):∀fs:List (Str×V),f∈(DO f v fs).map (·.1)/\∀g,g∈fs.map (·.1)->g∈(DO f v fs).map (·.1)
 |[]=>⟨by simp[DO],fun g h=>by simp at h⟩
 |
  (k,x)::r=>by
  obtain⟨i1,i2⟩:=OA f v r
  rw[show DO f v ((k,x)::r)=(if k=f then(k,v)::r else(k,x)::DO f v r) from rfl]
  by_cases hk:k=f
  .rw[Aj hk]
   subst hk
   exact⟨by simp,fun g h=>by simpa using h⟩
  .rw[Ab hk]
   refine⟨?_,fun g h=>?_⟩
   .rw[BY]
    exact C6 _ i1
   .rw[BY]at h ⊢
    rcases AS.mp h with e|e
    .exact AS.mpr (.inl e)
    .exact C6 _ (i2 g e)
theorem T5 (f:Str)(v:V):∀fs:List (Str×V),(DO f v fs).length<=fs.length+1
 |[]=>by simp[DO]
 |
  (k,x)::r=>by
  have ih:=T5 f v r
  rw[show DO f v ((k,x)::r)=(if k=f then(k,v)::r else(k,x)::DO f v r) from rfl]
  by_cases hk:k=f
  .rw[Aj hk,B9,B9];lia
  .rw[Ab hk,B9,B9];lia
theorem DW.some_of {v:V}{o:Option Value}(r:DW (some v) o):∃u,o=some u/\AD v u:=by
 cases o with
 |none=>exact(show False from r).elim
 |some u=>exact⟨u,rfl,r⟩
theorem ai {v:V}{u:Value}(r:AD v u):PySem.W.handedIn u=true:=by
 cases v with
 |non=>cases (show u=Value.none from r);rfl
 |bl b=>cases (show u=Value.bool b from r);rfl
 |int i=>obtain⟨t,e⟩:=(show ∃t,u=Value.int i t from r);cases e;rfl
 |str x=>obtain⟨t,e⟩:=(show ∃t,u=Value.str x t from r);cases e;rfl
 |byt b=>obtain⟨t,e⟩:=(show ∃t,u=Value.bytes b t from r);cases e;rfl
 |flt b=>obtain⟨t,e⟩:=(show ∃t,u=Value.float b t from r);cases e;rfl
 |ref a=>cases (show u=Value.ref a from r);rfl
 |ty n=>cases (show u=Value.type n from r);rfl
section
variable {P:Program}{w:World}{H H':Hp}{h h':Heap}{a C dx:Addr}{fs fs':List (Str×V)}
theorem Oi (hok:Bv P w H h)(e:H a=some (.ins C dx fs)):∃mA,Jr h a dx C mA/\(∀f,DW (fs.lookup f) (mA f))/\PySem.Within mA (fs.map (·.1))/\fs.length<=1000/\H dx=some (.own a):=by
 obtain⟨d,z,ne,ob,mA,n,r,q⟩:=(show BB P w H h a (.ins C dx fs) from hok a _ e)
 exact⟨mA,⟨ob,n,ne⟩,r,q,z,d⟩
end
structure Fy (K:Faa)(C:Addr):Prop where
 pg:PySem.W.plainGet K C Str.empty=true
 hd:PySem.W.hasDictIn K C=true
 po:PySem.W.plainOver K C=true
 sa:PySem.W.findIn K (.ref C) "__setattr__"=some (some (.builtin "object.__setattr__"))
theorem Fy.get {K:Faa}{C:Addr}(c:Fy K C)(f:Str):PySem.W.plainGet K C f=true:=c.pg
def Di (K:Faa)(C:Addr)(f:Str):Prop:=PySem.W.findIn K (.ref C) f=some none
theorem Di.taker {K:Faa}{C:Addr}{f:Str}(n:Di K C f):PySem.W.takerIn K C f=some none:=by
 unfold PySem.W.takerIn
 rw[show PySem.W.findIn K (.ref C) f=some none from n]
 rfl
section
variable {X:Cx}{pins:List (Addr×Obj)}{σ:St}{H:Hp}{s:Shared}{a C dx:Addr}{fs:List (Str×V)}{f:Str}{v:V}{A:Around}{E:Value->Shared->Prop}
theorem Yc {b:Bool}{Q:Value->Shared->Prop}(I:A2 X pins σ H s)(e:H a=some (.ins C dx fs))(c:Fy X.K C)(n:Di X.K C f)(l:fs.lookup f=some v)
  (h:∀u s',A2 X pins σ H s'->AD v u->Q u s'):wpAny (model X.prog X.w) A (getAttr (.ref a) f b) Q E s:=by
 obtain⟨mA,O,r,_,_,_⟩:=Oi I.hok e
 obtain⟨u,hu,ru⟩:=DW.some_of (v:=v) (o:=mA f) (by rw[←l];exact r f)
 exact TY I.kIn O (c.get f) c.hd n hu (ai ru) (h u _ (I.tok _) ru)
theorem bX {y:V}{u:Value}{Q:Unit->Shared->Prop}(I:A2 X pins σ H s)(e:H a=some (.ins C dx fs))(c:Fy X.K C)(n:Di X.K C f)(hl:fs.length<1000)(ry:AD y u)
  (h:∀s',A2 X pins σ (upd H a (.ins C dx (DO f y fs))) s'->Q () s'):wpAny (model X.prog X.w) A (setAttr (.ref a) f u) Q E s:=by
 obtain⟨mA,O,r,wi,_,ho⟩:=Oi I.hok e
 have hz:(fs.map (·.1)).length<=sizeLine:=by rw[Al,Gh];lia
 refine YM I.kIn O c.sa c.po n.taker c.hd wi hz fun h' O' sb=>h _ ?_
 have hd:∃o,h'.get? dx=some o:=let ⟨o,_,_,e',_⟩:=O'.ns;⟨o,e'⟩
 refine I.write (x:=a) (e:=dx) (by rw[e];exact True.intro) (.inr ho) (fun b q hb z=>(sb.2 b hb).trans z) hd ?_
 refine⟨by rw[Af O.ne];exact ho,?_,O.ne,O'.obj,_,O'.ns,fun g=>?_,fun g hg=>?_⟩
 .have:=T5 f y fs;lia
 .show DW ((DO f y fs).lookup g) (if g=f then some u else mA g)
  rw[Sm]
  by_cases q:g=f
  .rw[Aj q,Aj q];exact ry
  .rw[Ab q,Ab q];exact r g
 .by_cases q:g=f
  .rw[q];exact(OA f y fs).1
  .refine(OA f y fs).2 g (wi g fun z=>hg ?_)
   show(if g=f then some u else mA g)=none
   rw[Ab q];exact z
theorem A2.made (I:A2 X pins σ H s):A2 X pins σ (upd (upd H s.heap.objs.size (.own (s.heap.objs.size+1))) (s.heap.objs.size+1) (.ins C s.heap.objs.size []))
  {s with heap:=(s.heap.push PySem.W.emptyDict).push (PySem.W.instObj C s.heap.objs.size)}:=by
 have e1:(s.heap.push PySem.W.emptyDict).get? s.heap.objs.size=some PySem.W.emptyDict:=B8 s.heap rfl
 have e2:((s.heap.push PySem.W.emptyDict).push (PySem.W.instObj C s.heap.objs.size)).get? (s.heap.objs.size+1)=some (PySem.W.instObj C s.heap.objs.size):=by
  have:=B8 (s.heap.push PySem.W.emptyDict) (o:=PySem.W.instObj C s.heap.objs.size) rfl
  rwa [Gf]at this
 have e3:(s.heap.push PySem.W.emptyDict).Ns s.heap.objs.size (fun _=>none):=⟨PySem.W.emptyDict,#[],_,e1,rfl,(fun e he=>absurd he (by simp)),fun _=>rfl⟩
 have I1:=I.laid (a:=s.heap.objs.size) (o:=.own (s.heap.objs.size+1)) (h':=s.heap.push PySem.W.emptyDict) (t':=s.toks) (fun b u q=>Aw _ q) (Ah _) ⟨_,e1⟩
 refine I1.laid (a:=s.heap.objs.size+1) (o:=.ins C s.heap.objs.size []) (t':=s.toks) (fun b u q=>Aw _ q) (P2 (Gf _ _)) ?_
 have ne:s.heap.objs.size≠s.heap.objs.size+1:=AN (Ie _)
 refine⟨by rw[Af ne,A6],Bk _,ne,e2,fun _=>none,(Heap.Ns1.of_empty e3).at fun o q=>Aw _ q,fun _=>True.intro,fun y hy=>absurd rfl hy⟩
theorem VG {prog:Program}{w:World}{env:Env}{e:Expr}{f:Str}{pos:Pos}{s:Shared}{Q:Value->Shared->Prop}(hb:attributeBase e f env (eval e env)=eval e env)
  (h:wpAny (model prog w) A (eval e env) (fun o s₁=>wpAny (model prog w) A (getAttr o f true) Q E s₁) E s):wpAny (model prog w) A (eval (.Attribute e f pos) env) Q E s:=
 Attribute_any_ h (by rw[arm_eval_Attribute,hb])
end
def Ws (K:Faa)(ta:TE)(f:Str):TE:=fun σ H Q=>ta σ H fun x H1=>∃a C dx fs v,x = .ref a/\H1 a=some (.ins C dx fs)/\Fy K C/\Di K C f/\fs.lookup f=some v/\Q v H1
def Yw (K:Faa)(ta tv:TE)(f:Str):TS:=fun D σ H=>tv σ H fun y H1=>ta σ H1 fun x H2=>∃a C dx fs,x = .ref a/\H2 a=some (.ins C dx fs)/\Fy K C/\Di K C f/\fs.length<1000/\
 D.nx σ (upd H2 a (.ins C dx (DO f y fs)))
section
variable {X:Cx}{o e value:Expr}{f:Str}{pos pos' tpos:Pos}{ta tv:TE}
theorem GX (he:PE X e ta)(hb:attributeBase e f X.env (eval e X.env)=eval e X.env):PE X (.Attribute e f pos) (Ws X.K ta f):=by
 intro pins s σ H Q I h
 refine VG hb (Ax (he pins s σ H _ I h) fun u s1 zz=>?_)
 obtain⟨x,H1,I1,rx,a,C,dx,fs,v,ex,ea,c,n,l,q⟩:=zz
 subst ex
 obtain rfl:u=Value.ref a:=rx
 exact Yc I1 ea c n l fun u' s2 I2 ru=>⟨v,H1,I2,ru,q⟩
theorem FB (ha:PE X o ta)(hv:PE X value tv)(hs:swapsWith value (some (.Attribute o f pos')) pos.line X.env=pure false):PS X (.Assign [.Attribute o f pos'] value pos) (Yw X.K ta tv f):=by
 intro pins s σ H D I h
 refine dc (Ax (hv pins s σ H _ I h) fun u s1 zz=>?_) hs
 obtain⟨y,H1,I1,ry,q⟩:=zz
 refine Ax (ha pins s1 σ H1 _ I1 q) fun ov s2 zz=>?_
 obtain⟨x,H2,I2,rx,a,C,dx,fs,ex,ea,c,n,l,q2⟩:=zz
 subst ex
 obtain rfl:ov=Value.ref a:=rx
 exact bX I2 ea c n l ry fun s3 I3=>⟨σ,_,I3,q2⟩
end
section
variable {X:Cx}{pins:List (Addr×Obj)}{σ:St}{H:Hp}{s:Shared}{A:Around}{E:Value->Shared->Prop}{Q:Value->Shared->Prop}{c:Value}{b:Bool}
inductive EA (K:Faa)(H:Hp):V->Value->Prop where
 |non:EA K H .non (.type "NoneType")
 |bl (x:Bool):EA K H (.bl x) (.type "bool")
 |int (i:Int):EA K H (.int i) (.type "int")
 |str (x:Str):EA K H (.str x) (.type "str")
 |flt (x:UInt64):EA K H (.flt x) (.type "float")
 |lst {a:Addr} {xs:List V} (e:H a=some (.lst xs)):EA K H (.ref a) (.type "list")
 |frz {a:Addr} {o:Obj} {xs:List V} (e:H a=some (.frz o (.lst xs))):EA K H (.ref a) (.type "list")
 |tup {a:Addr} {xs:List V} (e:H a=some (.tup xs)):EA K H (.ref a) (.type "tuple")
 |dK {a:Addr} {kvs:List (Ap×V)} (e:H a=some (.dK kvs)):EA K H (.ref a) (.type "dict")
 |dT {a:Addr} {kvs:List (List Ap×V)} (e:H a=some (.dT kvs)):EA K H (.ref a) (.type "dict")
 |ins {a C dx:Addr} {fs:List (Str×V)} (e:H a=some (.ins C dx fs)) (cl:Fy K C) (ha:PySem.W.findIn K (.ref C) "__class__"=some (some (.builtin "object.__class__")))
  (hn:PySem.W.specialIn K (.builtin "object.__class__") "__get__"=some (some (.builtin "getset_descriptor.__get__"))) (htk:PySem.W.takesIn K (.builtin "object.__class__")=some true)
  (hm:PySem.W.mroIn K C (.type "object")=some true):EA K H (.ref a) (.ref C)
theorem W5 {x:V}{u t:Value}(I:A2 X pins σ H s)(rx:AD x u)(ty:EA X.K H x t)(e:PySem.W.kitOne X.K t c=some b)(h:∀tk,Q (.bool b) {s with toks:=tk}) :
  wpAny (model X.prog X.w) A (call (.builtin "isinstance") [u,c]) Q E s:=by
 cases ty with
 |non=>cases (show u=Value.none from rx);exact FQ PySem.W.kitx_none I.kIn True.intro e (fun z=>nomatch z) h
 |bl y=>cases (show u=Value.bool y from rx);exact FQ PySem.W.kitx_bool I.kIn True.intro e (fun z=>nomatch z) h
 |int i=>obtain⟨t,q⟩:=(show ∃t,u=Value.int i t from rx);cases q;exact FQ PySem.W.kitx_int I.kIn True.intro e (fun z=>nomatch z) h
 |str y=>obtain⟨t,q⟩:=(show ∃t,u=Value.str y t from rx);cases q;exact FQ PySem.W.kitx_str I.kIn True.intro e (fun z=>nomatch z) h
 |flt y=>obtain⟨t,q⟩:=(show ∃t,u=Value.float y t from rx);cases q;exact FQ PySem.W.kitx_float I.kIn True.intro e (fun z=>nomatch z) h
 |
  @lst a xs ea=>
  cases (show u=Value.ref a from rx)
  obtain⟨_,_,n,_,h1⟩:=(show BB X.prog X.w H s.heap a (.lst xs) from I.hok a _ ea)
  exact FQ PySem.W.kitx_list I.kIn ⟨_,h1,rfl⟩ e (fun z=>nomatch z) h
 |
  @frz a ob xs ea=>
  cases (show u=Value.ref a from rx)
  obtain⟨_,_,_,n,_,h1⟩:=(show BB X.prog X.w H s.heap a (.frz ob (.lst xs)) from I.hok a _ ea)
  exact FQ PySem.W.kitx_list I.kIn ⟨_,h1,rfl⟩ e (fun z=>nomatch z) h
 |
  @tup a xs ea=>
  cases (show u=Value.ref a from rx)
  obtain⟨_,_,_,p⟩:=(show BB X.prog X.w H s.heap a (.tup xs) from I.hok a _ ea)
  obtain⟨o,h1,h2,_⟩:=p
  exact FQ PySem.W.kitx_tuple I.kIn ⟨o,h1,h2⟩ e (fun z=>nomatch z) h
 |
  @dK a kvs ea=>
  cases (show u=Value.ref a from rx)
  obtain⟨_,_,vs,_,p⟩:=(show BB X.prog X.w H s.heap a (.dK kvs) from I.hok a _ ea)
  obtain⟨o,es,ep,h1,h2,_⟩:=p
  exact FQ PySem.W.kitx_dict I.kIn ⟨o,h1,h2.1⟩ e (fun z=>nomatch z) h
 |
  @dT a kvs ea=>
  cases (show u=Value.ref a from rx)
  obtain⟨_,_,xs,_,o,es,ep,h1,h2,_⟩:=(show BB X.prog X.w H s.heap a (.dT kvs) from I.hok a _ ea)
  exact FQ PySem.W.kitx_dict I.kIn ⟨o,h1,h2.1⟩ e (fun z=>nomatch z) h
 |
  @ins a C dx fs ea cl ha hn htk hm=>
  cases (show u=Value.ref a from rx)
  obtain⟨mA,O,_⟩:=Oi I.hok ea
  obtain⟨od,J,_⟩:=O.look
  exact FQ (PySem.W.kitx_own (cl.get _) cl.hd ha hn htk hm) I.kIn J e (fun z=>nomatch z) h
end
structure Cb (k:Nat)(A:Around):Prop where
 hd:A.handled=none
 dp:A.depth+3*k+5<recursionLimit
 un:A.units+16*k+200<cLine
 gd:A.guards=some []
theorem Cb.mono {j k:Nat}{A:Around}(r:Cb k A)(h:j<=k):Cb j A:=⟨r.hd,by have:=r.dp;lia,by have:=r.un;lia,r.gd⟩
theorem Cb.deeper {k:Nat}{A:Around}(r:Cb (k+1) A)(env:Env):Cb k (A.deeper env):=
 ⟨r.hd,by have:=r.dp;show A.depth+1+3*k+5<_;lia,by have:=r.un;show A.units+3+16*k+200<_;lia,r.gd⟩
theorem ZQ {A:Around}{C:Addr}{us:List Value}{kw:List (Str×Value)}:(A.under (.builtin "type.__call__" ⟨.ref C::us,kw⟩)).depth=A.depth+1:=by
 first|rfl|simp[Around.under,Code.weight,Code.isCreation,Code.isGuard,Code.isCaller,Code.frames,Code.isFrame,guardIds]
theorem Uy {A:Around}{C:Addr}{us:List Value}{kw:List (Str×Value)}:(A.under (.builtin "type.__call__" ⟨.ref C::us,kw⟩)).units=A.units+1:=by
 first|rfl|simp[Around.under,Code.cUnits,Code.frames,Code.isFrame]
theorem YY {A:Around}{C:Addr}{us:List Value}{kw:List (Str×Value)}:(A.under (.builtin "type.__call__" ⟨.ref C::us,kw⟩)).guards=A.guards:=by
 have:Code.guards (.builtin "type.__call__" ⟨.ref C::us,kw⟩)=[]:=by first|rfl|simp[Code.guards,Code.isGuard,guardIds]
 show pushGuards (Code.guards (.builtin "type.__call__" ⟨.ref C::us,kw⟩)) A.guards=A.guards
 rw[this]
 cases A.guards<;>rfl
theorem Cb.make {k:Nat}{A:Around}(r:Cb (k+1) A)(C:Addr)(us:List Value)(kw:List (Str×Value)):Cb k (A.under (.builtin "type.__call__" ⟨.ref C::us,kw⟩)):=
 ⟨r.hd,by have:=r.dp;rw[ZQ];lia,by have:=r.un;rw[Uy];lia,by rw[YY];exact r.gd⟩
theorem Cb.depth {k:Nat}{A:Around}(r:Cb k A):A.depth<recursionLimit:=by have:=r.dp;lia
theorem Cb.units {k:Nat}{A:Around}(r:Cb k A):A.units+64<cLine:=by have:=r.un;lia
def O8:TA:=fun _ H Q=>Q [] H
def Ol (ta:TE)(tr:TA):TA:=fun σ H Q=>ta σ H fun x H1=>tr σ H1 fun xs H2=>Q (x::xs) H2
section
variable {X:Cx}{e:Expr}{es:List Expr}{te:TE}{t:TA}{pos:Pos}
theorem A4:PA X [] O8:=fun _ _ _ _ H Q I h=>Calls.spliced_nil ⟨[],H,I,.nil,h⟩
theorem A0 (ha:PE X e te)(hr:PA X es t)(hs:starEach (e::es) X.env=(false,eval e X.env)::starEach es X.env:=by rfl):PA X (e::es) (Ol te t):=by
 intro pos pins s σ H Q I h
 rw[hs]
 show wpAny _ _ (spliced ((false,eval e X.env)::backTo pos (starEach es X.env))) _ _ s
 refine Calls.spliced_cons (Ax (ha pins s σ H _ I h) fun u s1 zz=>?_)
 obtain⟨x,H1,I1,r1,q1⟩:=zz
 refine Ax (hr pos pins s1 σ H1 _ I1 q1) fun us s2 zz=>?_
 obtain⟨xs,H2,I2,r2,q2⟩:=zz
 exact⟨x::xs,H2,I2,.cons r1 r2,q2⟩
def RG (t:TA):TE:=fun σ H Q=>t σ H fun xs H1=>xs.length<=sizeLine/\∀p,H1 p=none->Q (.ref p) (upd H1 p (.tup xs))
def Q5 (t:TA):TE:=fun σ H Q=>t σ H fun xs H1=>xs.length<=sizeLine/\∀p,H1 p=none->Q (.ref p) (upd H1 p (.lst xs))
theorem Bq {x1}(h:PA X es t):PE X (.Tuple es x1 pos) (RG t):=by
 intro pins s σ H Q I hq
 refine wpAny_Tuple_spliced (Ax (h pos pins s σ H _ I hq) fun us s1 zz=>?_)
 obtain⟨xs,H1,I1,r,z,q⟩:=zz
 refine⟨by rw[←r.length];exact z,?_⟩
 have hf:H1 s1.heap.objs.size=none:=I1.hok.fresh (Ah _)
 refine⟨.ref s1.heap.objs.size,upd H1 s1.heap.objs.size (.tup xs),I1.laid (t':=s1.toks) (fun b u e=>Aw _ e) (Ah _) ?_,rfl,q _ hf⟩
 exact⟨z,us,r,⟨_,B8 _ rfl,rfl,⟨_,rfl⟩,rfl⟩⟩
theorem BA (h:PA X es t):PE X (.List es pos) (Q5 t):=by
 intro pins s σ H Q I hq
 refine wpAny_List_spliced (Ax (h pos pins s σ H _ I hq) fun us s1 zz=>?_)
 obtain⟨xs,H1,I1,r,z,q⟩:=zz
 refine⟨by rw[←r.length];exact z,?_⟩
 have hf:H1 s1.heap.objs.size=none:=I1.hok.fresh (Ah _)
 refine⟨.ref s1.heap.objs.size,upd H1 s1.heap.objs.size (.lst xs),I1.laid (t':=s1.toks) (fun b u e=>Aw _ e) (Ah _) ?_,rfl,q _ hf⟩
 exact⟨z,us,0,r,B8 _ rfl⟩
end
abbrev Sp:=List V->Hp->VK->XK->Prop
abbrev EE:=List Env->Hp->Shared->XK->Value->Shared->Prop
structure Hn (P:Program)(w:World)(K:Faa)(mg:Str->Option Value)(base:Heap)(A:Around)(outer:List Env)(s:Shared)(H:Hp):Prop where
 frames:A.frames=some outer
 mod:Mod K mg base
 bs:∀b o,base.get? b=some o->s.heap.get? b=some o/\H b=none
 bsz:base.objs.size<=s.heap.objs.size
 funs:s.heap.FunFrames base outer
 frf:∀b∈DV outer,H b=none
 hok:Bv P w H s.heap
 bare:AllBare s.gens
def CE (outer:List Env)(P:Program)(w:World)(H:Hp)(s:Shared)(Q:VK)(u:Value)(s':Shared):Prop:=
 ∃v H',s'.os=s.os/\AllBare s'.gens/\Un (DV outer) [] H H' s.heap s'.heap/\Bv P w H' s'.heap/\AD v u/\Q v H'
def CR (CX:EE)(outer:List Env)(P:Program)(w:World)(H:Hp)(s:Shared)(Q:VK)(E:XK)(r:Result)(s':Shared):Prop:=
 match r with
 |.ok (.ret u)=>CE outer P w H s Q u s'
 |.ok _=>False
 |.error e=>CX outer H s E e s'
structure AU (P:Program)(w:World)(K:Faa)(mg:Str->Option Value)(base:Heap)(CX:EE)(k:Nat)(f:Addr)(fd:FuncData)(ps:List Str)(sp:Sp):Prop where
 len:∀vs H Q E,sp vs H Q E->vs.length=ps.length
 run:∀(A:Around) (outer:List Env) (s:Shared) (H:Hp) (args:Args) (us:List Value) (vs:List V) (Q:VK) (E:XK),Cb k A->Hn P w K mg base A outer s H->BindsTo s fd args (ps.zip us)->Az vs us->sp vs H Q E->
  codeAny (model P w) A (.call (.ref f) args) (CR CX outer P w H s Q E) s
theorem Hn.make {P:Program}{w:World}{K:Faa}{mg:Str->Option Value}{base:Heap}{A:Around}{outer:List Env}{s:Shared}{H:Hp}(e:Hn P w K mg base A outer s H)(C:Addr)(us:List Value)(kw:List (Str×Value)) :
 Hn P w K mg base (A.under (.builtin "type.__call__" ⟨.ref C::us,kw⟩)) outer s H:=⟨by first|exact e.frames|(simpa[Around.under,Code.envs,Code.isFrame,pushEnvs] using e.frames),e.mod,e.bs,e.bsz,e.funs,e.frf,e.hok,e.bare⟩
section
variable {X:Cx}{pins:List (Addr×Obj)}{σ:St}{H:Hp}{s s':Shared}
theorem A2.env0 (I:A2 X pins σ H s):Hn X.prog X.w X.K X.mg X.base X.A X.stack s H:=
 ⟨I.ok.frames,I.ok.mod,I.bs,Cz I.ok.bsz I.sz,I.stack,I.stkFree,I.hok,I.bare⟩
theorem A2.after {Q:VK}{u:Value}(I:A2 X pins σ H s)(h:CE X.stack X.prog X.w H s Q u s'):EP X pins σ Q u s':=by
 obtain⟨v,H',os,bare,un,hok,r,q⟩:=h
 obtain⟨hh,g,d,t,os'⟩:=s'
 obtain rfl:os'=s.os:=os
 exact⟨v,H',I.call (h':=hh) (g':=g) (d':=d) (t':=t) (ch:=[]) un hok bare (fun b z=>absurd z (by simp)),r,q⟩
end
def ZD (sp:Sp)(dvs:List V)(E:XK)(t:TA):TE:=fun σ H Q=>t σ H fun vs H1=>sp (vs++dvs) H1 Q E
def Yq (C:Addr)(sp:Sp)(dvs:List V)(E:XK)(t:TA):TE:=fun σ H Q=>t σ H fun vs H1=>∀x dx,H1 x=none->H1 dx=none->dx≠x->
 sp (.ref x::(vs++dvs)) (upd (upd H1 dx (.own x)) x (.ins C dx [])) (fun v H2=>v = .non/\Q (.ref x) H2) E
def AY (K:Faa)(fd:FuncData)(ps:List Str)(ds:List Value):Prop:=
 ∀(s:Shared) (us:List Value),K.In s.heap->(us++ds).length=ps.length->BindsTo s fd ⟨us,[]⟩ (ps.zip (us++ds))
theorem AY.all {K:Faa}{fd:FuncData}{ps:List Str}(h:∀us:List Value,us.length=ps.length->bindArgs fd ⟨us,[]⟩=pure (ps.zip us)):AY K fd ps []:=fun s us _ hl=>by
 rw[FR]at hl ⊢
 exact .of_eq (h us hl)
def J6 (CX:EE)(X:Cx)(E:XK):Prop := ∀(pins:List (Addr×Obj)) (σ:St) (H:Hp) (s:Shared) (e:Value) (s':Shared),A2 X pins σ H s->CX X.stack H s E e s'->X.xe e s'
section
variable {X:Cx}{CX:EE}{k:Nat}{f C:Addr}{fd:FuncData}{ps:List Str}{sp:Sp}{dvs:List V}{ds:List Value}{E:XK}{x m:Str}{p pos apos:Pos}{e o:Expr}{es:List Expr}{ta:TE}{t:TA}
theorem bw {pins:List (Addr×Obj)}{σ:St}{H:Hp}{s:Shared}{Q:VK}{us:List Value}{vs:List V}(F:AU X.prog X.w X.K X.mg X.base CX k f fd ps sp)(hr:Cb k X.A)(hb:AY X.K fd ps ds)(hd:Az dvs ds)(hx:J6 CX X E)
  (I:A2 X pins σ H s) (r:Az vs us) (h:sp (vs++dvs) H Q E):wpAny (model X.prog X.w) X.A (call (.ref f) us) (EP X pins σ Q) X.xe s:=by
 have r2:Az (vs++dvs) (us++ds):=r.append hd
 have hl:(us++ds).length=ps.length:=by rw[←r2.length];exact F.len _ _ _ _ h
 refine Iv (JI (F.run X.A X.stack s H ⟨us,[]⟩ (us++ds) (vs++dvs) Q E hr I.env0 (hb s us I.kIn hl) r2 h) fun r s' hq=>?_)
 cases r with
 |error e=>exact hx pins σ H s e s' I hq
 |
  ok fl=>
  cases fl with
  |ret u=>exact I.after hq
  |next=>exact False.elim hq
  |brk=>exact False.elim hq
  |cont=>exact False.elim hq
theorem AJ (F:AU X.prog X.w X.K X.mg X.base CX k f fd ps sp)(hr:Cb k X.A)(hg:Gl X x)(hm:X.mg x=some (.ref f))(hk:PySem.W.keepIn X.K (.ref f)=true)(hb:AY X.K fd ps ds)(hd:Az dvs ds)(hx:J6 CX X E)
  (ha:PA X (e::es) t) (hdb:(x==("__debug__":Str))=false:=by decide) (he:starEach (e::es) X.env=(false,eval e X.env)::starEach es X.env:=by rfl) (hpl:(backTo pos (starEach es X.env)).any (·.1)=false:=by rfl) :
  PE X (.Call (.Name x p) (e::es) [] pos) (ZD sp dvs E t):=by
 intro pins s σ H Q I h
 refine Gi (IW I hg hm ?_ hdb)
 refine P3 (h₀:=X.base) I.ok.mod.kin hk (Ax (ha pos pins s σ H _ I h) fun us s1 zz=>?_) he hpl
 obtain⟨vs,H1,I1,r,q⟩:=zz
 refine⟨I1.kIn,?_⟩
 exact bw F hr hb hd hx I1 r q
structure Mk (K:Faa)(C f:Addr):Prop where
 makes:PySem.W.makesIn K C=true
 init:PySem.W.findIn K (.ref C) "__init__"=some (some (.ref f))
 fn:PySem.W.isFn K (.ref f)=true
 kp:PySem.W.keepIn K (.ref C)=true
theorem WD {pins:List (Addr×Obj)}{σ:St}{H:Hp}{s:Shared}{Q:VK}{us:List Value}{vs:List V}(M:Mk X.K C f)(F:AU X.prog X.w X.K X.mg X.base CX k f fd ps sp)(hr:Cb (k+1) X.A)(hb:AY X.K fd ps ds)(hd:Az dvs ds)
  (hx:J6 CX X E) (I:A2 X pins σ H s) (r:Az vs us)
  (h:∀x dx,H x=none->H dx=none->dx≠x->sp (.ref x::(vs++dvs)) (upd (upd H dx (.own x)) x (.ins C dx [])) (fun v H2=>v = .non/\Q (.ref x) H2) E) :
  wpAny (model X.prog X.w) X.A (call (.ref C) us) (EP X pins σ Q) X.xe s:=by
 have hq:=h (s.heap.objs.size+1) s.heap.objs.size (I.hok.fresh (F6 _)) (I.hok.fresh (Ah _)) (AN (Ie _))
 have I2:=A2.made (C:=C) I
 have r2:Az (V.ref (s.heap.objs.size+1)::(vs++dvs)) (Value.ref (s.heap.objs.size+1)::(us++ds)):=.cons rfl (r.append hd)
 have hl:(Value.ref (s.heap.objs.size+1)::us++ds).length=ps.length:=by
  have e:=r2.length
  rw[F.len _ _ _ _ hq]at e
  exact e.symm
 refine Iv (bO (f:=f) I.kIn M.makes M.init (GR.mp M.fn) (JI (F.run _ X.stack _ _ ⟨Value.ref (s.heap.objs.size+1)::us,[]⟩ (Value.ref (s.heap.objs.size+1)::(us++ds)) _ _ E (hr.make C us [])
  (I2.env0.make C us []) (hb _ (Value.ref (s.heap.objs.size+1)::us) I2.kIn hl) r2 hq) fun r s' hq'=>?_))
 cases r with
 |error e=>exact hx pins σ _ _ e s' I2 hq'
 |
  ok fl=>
  cases fl with
  |
   ret u=>
   obtain⟨v,H',I3,rv,ev,q3⟩:=I2.after hq'
   subst ev
   exact⟨rv,⟨V.ref (s.heap.objs.size+1),H',I3,rfl,q3⟩⟩
  |next=>exact False.elim hq'
  |brk=>exact False.elim hq'
  |cont=>exact False.elim hq'
theorem Lv (M:Mk X.K C f)(F:AU X.prog X.w X.K X.mg X.base CX k f fd ps sp)(hr:Cb (k+1) X.A)(hg:Gl X x)(hm:X.mg x=some (.ref C))(hb:AY X.K fd ps ds)(hd:Az dvs ds)(hx:J6 CX X E)
  (ha:PA X (e::es) t) (hdb:(x==("__debug__":Str))=false:=by decide) (he:starEach (e::es) X.env=(false,eval e X.env)::starEach es X.env:=by rfl) (hpl:(backTo pos (starEach es X.env)).any (·.1)=false:=by rfl) :
  PE X (.Call (.Name x p) (e::es) [] pos) (Yq C sp dvs E t):=by
 intro pins s σ H Q I h
 refine Gi (IW I hg hm ?_ hdb)
 refine P3 (h₀:=X.base) I.ok.mod.kin M.kp (Ax (ha pos pins s σ H _ I h) fun us s1 zz=>?_) he hpl
 obtain⟨vs,H1,I1,r,q⟩:=zz
 refine⟨I1.kIn,?_⟩
 exact WD M F hr hb hd hx I1 r q
end
section
variable {X:Cx}{CX:EE}{k:Nat}{f C:Addr}{fd:FuncData}{ps ks:List Str}{sp:Sp}{E:XK}{x m:Str}{p pos apos kpos:Pos}{e o:Expr}{es:List Expr}{kws:List Keyword}{te ta:TE}{t tk:TA}{nm:Option Str}
variable {g:List Value->List Value->List Value}{gV:List V->List V->List V}
end
structure B7 (N P:List Str)(sc:Scope):Prop where
 kind:sc.kind = .function
 co:sc.isCoroutine=false
 gen:sc.isGenerator=false
 nd:N.Nodup
 pre:N.take P.length=P
 par:∀x∈P,sc.names.lookup x=some .local\/sc.names.lookup x=some .cell
 nofree:∀y∈sc.names,y.2≠.free
theorem SG {kindOf:Str->Option NameKind}{x:Str}:∀{binds:List (Str×Value)} {m:Str->Option Value},(∀v,(x,v)∉binds)->bindL kindOf binds m x=m x
 |[],_,_=>rfl
 |
  (n,v)::r,m,h=>by
  unfold bindL
  rw[SG fun w hw=>h w (C6 _ hw)]
  split
  .have:x≠n:=by rintro rfl;exact h v BN
   simp[this]
  .rfl
theorem PU {kindOf:Str->Option NameKind}{x:Str}:∀{binds:List (Str×Value)} {m:Str->Option Value},(∀v,(x,v)∉binds)->bindC kindOf binds m x=m x
 |[],_,_=>rfl
 |
  (n,v)::r,m,h=>by
  unfold bindC
  rw[PU fun w hw=>h w (C6 _ hw)]
  split
  .rfl
  .have:x≠n:=by rintro rfl;exact h v BN
   simp[this]
theorem S9 {kindOf:Str->Option NameKind}{x:Str}{v:Value}:∀{P:List Str} {vs:List Value} {i:Nat} {m:Str->Option Value},P.Nodup->P[i]?=some x->vs[i]?=some v->kindOf x=some .local->
  bindL kindOf (P.zip vs) m x=some v
 |[],_,_,_,_,h,_,_=>by simp at h
 |_::_,[],_,_,_,_,h,_=>by simp at h
 |
  p::P,w::vs,0,m,nd,h1,h2,hk=>by
  simp at h1 h2;subst h1;subst h2
  show bindL kindOf ((p,w)::P.zip vs) m p=_
  unfold bindL
  rw[SG fun v hv=>(Ig.mp nd).1 (Tc hv).1,Aj hk]
  simp
 |
  p::P,w::vs,i+1,m,nd,h1,h2,hk=>by
  show bindL kindOf ((p,w)::P.zip vs) m x=_
  unfold bindL
  exact S9 (i:=i) (Ig.mp nd).2 (by simpa using h1) (by simpa using h2) hk
theorem SC {kindOf:Str->Option NameKind}{x:Str}{v:Value}:∀{P:List Str} {vs:List Value} {i:Nat} {m:Str->Option Value},P.Nodup->P[i]?=some x->vs[i]?=some v->kindOf x≠some .local->
  bindC kindOf (P.zip vs) m x=some v
 |[],_,_,_,_,h,_,_=>by simp at h
 |_::_,[],_,_,_,_,h,_=>by simp at h
 |
  p::P,w::vs,0,m,nd,h1,h2,hk=>by
  simp at h1 h2;subst h1;subst h2
  show bindC kindOf ((p,w)::P.zip vs) m p=_
  unfold bindC
  rw[PU fun v hv=>(Ig.mp nd).1 (Tc hv).1,Ab hk]
  simp
 |
  p::P,w::vs,i+1,m,nd,h1,h2,hk=>by
  show bindC kindOf ((p,w)::P.zip vs) m x=_
  unfold bindC
  exact SC (i:=i) (Ig.mp nd).2 (by simpa using h1) (by simpa using h2) hk
def start (N:List Str)(vs:List V):St:=vs.map some++List.replicate (N.length-vs.length) none
def GL (CX:EE)(P:Program)(w:World)(K:Faa)(mg:Str->Option Value)(base:Heap)(N:List Str)(qual:Str)(scope:Scope)(f:Addr)(cd:Value)(A:Around)(outer:List Env)(s:Shared)(H:Hp)(E:XK):Cx where
 prog:=P
 w:=w
 K:=K
 mg:=mg
 base:=base
 A:=A.deeper (envOfC qual scope s.heap.objs.size f cd)
 N:=N
 s₀:=s
 H₀:=H
 env:=envOfC qual scope s.heap.objs.size f cd
 outer:=outer
 stack:=envOfC qual scope s.heap.objs.size f cd::outer
 ex:=[]
 calm:=true
 fn:=fun _=>true
 pn:=[]
 xe:=fun e s'=>wpAny (model P w) (A.deeper (envOfC qual scope s.heap.objs.size f cd)) (leaving (envOfC qual scope s.heap.objs.size f cd) e) (fun _ s''=>CX outer H s E e s'') (fun e' s''=>CX outer H s E e' s'') s'
theorem Qc {sc:Scope}{n:Nat}{x:Str}(h:sc.names.lookup x=some .cell):∃c,(cellsFrom n sc.names []).lookup x=some c:=by
 have q:=PySem.W.cellsFrom_some sc.names n [] (.inl h)
 exact Option.isSome_iff_exists.mp q
theorem Xu {CX:EE}{P:Program}{w:World}{K:Faa}{mg:Str->Option Value}{base:Heap}{N ps:List Str}{qual:Str}{scope:Scope}{f:Addr}{cd:Value}{A:Around}{outer:List Env}{s s1:Shared}{H:Hp}{E:XK}{us:List Value}{vs:List V}
  (S:B7 N ps scope) (hd:A.handled=none) (e0:Hn P w K mg base A outer s H) (hl:vs.length=ps.length) (r:Az vs us)
  (x:InCallC s s.heap.objs.size (bindL (envOfC qual scope s.heap.objs.size f cd).kindOf (ps.zip us) fun _=>none) (cellsFrom (s.heap.objs.size+1) scope.names []) (bindC (envOfC qual scope s.heap.objs.size f cd).kindOf (ps.zip us) fun _=>none) s1) :
  A2 (GL CX P w K mg base N qual scope f cd A outer s H E) [] (start N vs) H s1:=by
 have hpl:ps.length<=N.length:=by have:=congrArg List.length S.pre;rw[AV]at this;lia
 obtain⟨h1,tk,rfl,hk⟩:=x.done
 have noA:∀b:Addr,b∉(GL CX P w K mg base N qual scope f cd A outer s H E).ex:=fun b z=>absurd (show b∈([]:List Addr) from z) (by simp)
 refine⟨⟨e0.mod,S.kind,rfl,rfl,Ah _,fun y z c h1 h2=>?_,fun y hy=>?_,fun y c _ h=>?_,fun _=>hd,Around.frames_deeper e0.frames,.inr ⟨rfl,rfl⟩,fun b z=>absurd z (noA b),e0.bs,e0.bsz,fun b _ _=>noA b,fun b z=>absurd z (noA b),e0.funs,e0.frf⟩,
  rfl,e0.bare,Un.kept hk,⟨_,x.toInCall.ns,fun i y v h1 h2 h3=>?_⟩,fun y c h=>⟨_,x.cell y c h⟩,e0.hok.fresh (Ah _),fun y c h=>?_,fun p hp=>absurd (show p∈([]:List (Addr×Obj)) from hp) (by simp),e0.hok.kept hk,?_⟩
 .exact name_of_addr x.apart (N5 h1) (N5 h2)
 .have hy:scope.names.lookup y=some .cell\/scope.names.lookup y=some .free:=hy
  rcases hy with hy|hy
  .exact Qc hy
  .exact absurd rfl (S.nofree _ (N5 hy))
 .exact FP (x.above y c (N5 h))
 .have hi:i<vs.length:=by
   unfold start at h2
   by_cases hi:i<vs.length
   .exact hi
   .rw[BH (by simpa using hi)]at h2
    rw[List.getElem?_replicate]at h2
    split at h2<;>cases h2
  have ha:vs[i]?=some v:=by
   unfold start at h2
   rw[C8 (by simpa using hi),AQ]at h2
   cases e:vs[i]? with
   |none=>rw[e]at h2;cases h2
   |some a=>rw[e]at h2;cases h2;rfl
  obtain⟨u,hu,rv⟩:=r.get ha
  have hp:ps[i]?=some y:=by
   rw[←S.pre,CS (by lia)];exact h1
  have ndP:ps.Nodup:=by rw[←S.pre];exact S.nd.sublist (List.take_sublist _ _)
  refine⟨u,rv,?_⟩
  rcases S.par y (AO hp) with k|k
  .exact .inl ⟨k,S9 ndP hp hu k⟩
  .obtain⟨c,e⟩:=Qc (n:=s.heap.objs.size+1) k
   refine .inr ⟨.inl k,c,e,?_⟩
   have q:=x.cell y c e
   rw[SC ndP hp hu (by show scope.names.lookup y≠_;rw[k];decide)]at q
   exact q
 .exact e0.hok.fresh (FP (x.above y c (N5 h)))
 .unfold start
  show _=N.length
  rw[AF,Al,List.length_replicate]
  lia
theorem Se {CX:EE}{P:Program}{w:World}{K:Faa}{mg:Str->Option Value}{base:Heap}{k:Nat}{f:Addr}{name qual:Str}{params:Arguments}{body:List Stmt}{scope:Scope}{dV kV doc pm cdv ct oc:Value}{an od:Option Addr}
  {osl:Array (Option Value)} {N ps:List Str} {sp:Sp} (lk:K.lookup f=some ⟨oc,od,.func (PySem.W.fnOf name qual params body scope dV kV doc pm an cdv ct),osl⟩) (hcd:PySem.W.codeIn K cdv qual=true) (S:B7 N ps scope)
  (len:∀vs H Q E,sp vs H Q E->vs.length=ps.length)
  (hbody:∀(A:Around) (outer:List Env) (s:Shared) (H:Hp) (vs:List V) (Q:VK) (E:XK),Cb k (A.deeper (envOfC qual scope s.heap.objs.size f cdv))->sp vs H Q E->
   ∃t,DS (GL CX P w K mg base N qual scope f cdv A outer s H E) body t/\t {nx:=fun _ H'=>Q .non H',rt:=Q} (start N vs) H) :
  AU P w K mg base CX (k+1) f (PySem.W.fnOf name qual params body scope dV kV doc pm an cdv ct) ps sp:=by
 refine⟨len,fun A outer s H args us vs Q E hr e0 hb r hsp=>?_⟩
 have hl:=len _ _ _ _ hsp
 have KX:K.In s.heap:=e0.mod.kin.keeps fun b o e=>(e0.bs b o e).1
 have lim:s.heap.NoLimit:=e0.mod.nolimit.keeps fun b o e=>(e0.bs b o e).1
 have hkind:∀y∈ps.zip us,scope.names.lookup y.1=some .local\/(scope.names.lookup y.1=some .cell/\((cellsFrom (s.heap.objs.size+1) scope.names []).lookup y.1).isSome=true):=fun⟨n,v⟩ hy=>by
  rcases S.par n (Tc hy).1 with q|q
  .exact .inl q
  .exact .inr ⟨q,PySem.W.cellsFrom_some _ _ _ (.inl q)⟩
 refine codeAny_call_function hr.depth (KX _ _ lk) rfl S.co S.gen rfl (PySem.W.codeRec_of KX hcd) (hb _ _ _ _ ?_)
 refine wpAny_newFunctionEnv_cells S.kind hkind fun env he s1 x=>?_
 subst he
 refine⟨lim.keeps x.toInCall.keep,codeAny_func ?_⟩
 obtain⟨t,ht,hq⟩:=hbody A outer s H vs Q E (hr.deeper _) hsp
 have I:A2 (GL CX P w K mg base N qual scope f cdv A outer s H E) [] (start N vs) H s1:=Xu S hr.hd e0 hl r x
 refine CV (ht [] s1 (start N vs) H _ I hq) (fun fl s' hs=>?_) fun e s' hs=>hs
 have fin:∀{σ':St} {H':Hp} {v:V} {u:Value},A2 (GL CX P w K mg base N qual scope f cdv A outer s H E) [] σ' H' s'->AD v u->Q v H'->CE outer P w H s Q u s':=
  fun{σ' H' v u} J rv q=>⟨v,H',J.os,J.bare,J.base,J.hok,rv,q⟩
 cases fl with
 |
  ret u=>
  obtain⟨v,σ',H',J,rv,q⟩:=hs
  exact fin J rv q
 |
  next=>
  obtain⟨σ',H',J,q⟩:=hs
  exact fin (v:=V.non) (u:=Value.none) J rfl q
 |
  brk=>
  obtain⟨_,_,_,q⟩:=hs
  exact False.elim q
 |
  cont=>
  obtain⟨_,_,_,q⟩:=hs
  exact False.elim q
section
variable {X:Cx}{x:Str}{p pos:Pos}{e:Expr}{es:List Expr}{t:TA}{id T:String}{r:List V->Hp->VK->Prop}
def Ou (r:List V->Hp->VK->Prop)(t:TA):TE:=fun σ H Q=>t σ H fun vs H1=>r vs H1 Q
theorem Bc (hc:E8 X (.builtin id) r)(hg:Gl X x)(hm:X.mg x=none)(hv:bootBuiltins x=some (.builtin id))(ha:PA X (e::es) t)(hn:x≠"__name__":=by decide)(hdb:(x==("__debug__":Str))=false:=by decide)
  (he:starEach (e::es) X.env=(false,eval e X.env)::starEach es X.env:=by rfl) (hpl:(backTo pos (starEach es X.env)).any (·.1)=false:=by rfl):PE X (.Call (.Name x p) (e::es) [] pos) (Ou r t):=by
 intro pins s σ H Q I h
 refine Gi (Ed I hg hm hv ?_ hn hdb)
 refine cY (Ax (ha pos pins s σ H _ I h) fun us s1 zz=>?_) he hpl
 obtain⟨vs,H1,I1,r1,q1⟩:=zz
 exact hc pins s1 σ H1 vs us Q I1 r1 q1
theorem Dj (hc:E8 X (.type T) r)(hg:Gl X x)(hm:X.mg x=none)(hv:bootBuiltins x=some (.type T))(ha:PA X (e::es) t)(hn:x≠"__name__":=by decide)(hdb:(x==("__debug__":Str))=false:=by decide)
  (he:starEach (e::es) X.env=(false,eval e X.env)::starEach es X.env:=by rfl) (hpl:(backTo pos (starEach es X.env)).any (·.1)=false:=by rfl):PE X (.Call (.Name x p) (e::es) [] pos) (Ou r t):=by
 intro pins s σ H Q I h
 refine Gi (Ed I hg hm hv ?_ hn hdb)
 refine Ge (Ax (ha pos pins s σ H _ I h) fun us s1 zz=>?_) he hpl
 obtain⟨vs,H1,I1,r1,q1⟩:=zz
 exact hc pins s1 σ H1 vs us Q I1 r1 q1
end
end L2
namespace HT
open PySem PyProof.Rows
section
open PySem.SeqAt
open PySem.AutoSeq1 (wpAny_loadPart')
open PySem.MeetsSeq PySem.MeetsSeq2 PySem.MeetsSeq3
end
section
variable {prog:Program}{w:World}{A:Around}{E:Value->Shared->Prop}{s:Shared}
theorem cat_tup {t b:Addr}{vs ws:List Value}{Q:Value->Shared->Prop}(ht:IsTup s.heap t vs.toArray)(hb:IsTup s.heap b ws.toArray)(hv:vs≠[])
  (h1:ws=[]->Q (.ref t) s) (h2:ws≠[]->Q (.ref s.heap.objs.size) {s with heap:=s.heap.push {cls:=.type "tuple",data:=.seq (vs++ws).toArray}})
  (hsz:vs.length+ws.length<=sizeLine):wpAny (model prog w) A (binaryOp .Add (.ref t) (.ref b)) Q E s:=by
 obtain⟨⟨cls,dd,data,sl⟩,ho,hc,n,hd⟩:=id ht
 obtain⟨⟨cls2,dd2,data2,sl2⟩,ho2,hc2,n2,hd2⟩:=id hb
 simp only at hc hd hc2 hd2
 subst hc hd hc2 hd2
 have e:vs.toArray++ws.toArray=(vs++ws).toArray:=by simp
 by_cases hw:ws=[]
 .exact concat_meets ⟨_,ho,rfl⟩ ⟨_,ho2,rfl⟩ TC seq_tuple_add Td Te (Tf _ _)
   (tuple_addW1 t b vs.toArray ws.toArray n n2 dd dd2 sl sl2 (by simpa using hv) (by simp[hw])) ⟨ho,ho2,h1 hw⟩
 .refine concat_meets ⟨_,ho,rfl⟩ ⟨_,ho2,rfl⟩ TC seq_tuple_add Td Te (Tf _ _)
   (tuple_addW2 t b vs.toArray ws.toArray n n2 dd dd2 sl sl2 (by simpa using hv) (by simpa using hw) (by rw[AZ,AZ];exact hsz)) ⟨ho,ho2,?_⟩
  rw[e]
  exact h2 hw
def sIx (n d:Nat):Option Int->Nat
 |none=>d
 |some v=>if v<0 then(v+(n:Int)).toNat else min v.toNat n
theorem sIx_none (n d:Nat):sIx n d none=d:=rfl
theorem sIx_nat (n d k:Nat):sIx n d (some (k:Int))=min k n:=by
 show(if(k:Int)<0 then((k:Int)+(n:Int)).toNat else min (k:Int).toNat n)=min k n
 rw[Ab (by lia),EG]
theorem bh (n d:Nat)(hd:d<=n)(o:Option Int):sIx n d o<=n:=by
 cases o with
 |none=>exact hd
 |
  some v=>
  show(if v<0 then(v+(n:Int)).toNat else min v.toNat n)<=n
  by_cases hv:v<0
  .rw[Aj hv];lia
  .rw[Ab hv];exact Nat.min_le_right _ _
theorem Sa (v:Int)(n d:Nat):(if v<0 then max (v+(n:Int)) 0 else min v (n:Int))=((sIx n d (some v):Nat):Int):=by
 show(if v<0 then max (v+(n:Int)) 0 else min v (n:Int))=(((if v<0 then(v+(n:Int)).toNat else min v.toNat n):Nat):Int)
 by_cases hv:v<0
 .simp only[Aj hv];lia
 .simp only[Ab hv];lia
theorem Ua (lo hi:Option Int)(n:Nat):Builtin.Slice.sliceAdjust lo hi 1 (n:Int)=(((sIx n 0 lo:Nat):Int),((sIx n n hi:Nat):Int)):=by
 have h1:¬((1:Int)<0):=by lia
 unfold Builtin.Slice.sliceAdjust
 simp only[h1,Iw]
 refine Prod.ext ?_ ?_
 .cases lo with
  |none=>rfl
  |some v=>exact Sa v n 0
 .cases hi with
  |none=>rfl
  |some v=>exact Sa v n n
theorem Y3 (i j:Nat):Builtin.Slice.slicePlaces (i:Int) (j:Int) 1=j-i:=by
 unfold Builtin.Slice.slicePlaces
 have h1:(1:Int)>0:=by lia
 simp only[h1,Iy,Int.ediv_one]
 split<;>lia
theorem PR {v:Value}{o:Option Int}{Q:Option Int->Shared->Prop}(p:IsPart v o)(h:Q o s):wpAny (model prog w) A (Builtin.Slice.slicePartIndex v) Q E s:=by
 cases p with
 |none=>exact slicePart_none h
 |int i t=>exact slicePart_int h
theorem Rt {sl:Addr}{vl vu:Value}{lo hi:Option Int}{n:Nat}{Q:Int×Int×Nat->Shared->Prop}(hs:s.heap.IsSliceOf sl vl vu .none)(pl:IsPart vl lo)(pu:IsPart vu hi)
  (h:Q (((sIx n 0 lo:Nat):Int),1,sIx n n hi-sIx n 0 lo) s):wpAny (model prog w) A (Builtin.Slice.sliceApplied (.ref sl) (pure (n:Int))) Q E s:=by
 obtain⟨os,hos,hcs,hds⟩:=id hs
 unfold Builtin.Slice.sliceApplied Builtin.Slice.sliceFields
 refine A1 (A1 (D9 hos hds (x:=vl) rfl (A1 (D9 hos hds (x:=vu) rfl (A1 (D9 hos hds (x:=.none) rfl (Ae ?_)))))))
 refine A1 (slicePart_none ?_)
 show wpAny _ _ (if((1:Int)==0)=true then _ else _) _ _ s
 rw[Ab (by decide)]
 refine A1 (PR pl (A1 (PR pu (A1 (Ae ?_)))))
 show wpAny _ _ (match Builtin.Slice.sliceAdjust lo hi 1 (n:Int) with|(lo,hi)=>pure (lo,(1:Int),Builtin.Slice.slicePlaces lo hi 1)) _ _ s
 rw[Ua lo hi n]
 show wpAny _ _ (pure (((sIx n 0 lo:Nat):Int),(1:Int),Builtin.Slice.slicePlaces ((sIx n 0 lo:Nat):Int) ((sIx n n hi:Nat):Int) 1)) _ _ s
 rw[Y3]
 exact Ae h
theorem Yt (xs:Array Value)(i k:Nat):((List.range k).filterMap fun(m:Nat)=>xs[((i:Int)+(m:Int)*1).toNat]?).toArray=((xs.toList.drop i).take k).toArray:=by
 have e:(fun(m:Nat)=>xs[((i:Int)+(m:Int)*1).toNat]?)=fun m=>xs[i+m]?:=by
  funext m
  have:((i:Int)+(m:Int)*1).toNat=i+m:=by lia
  rw[this]
 rw[e]
 have:=pick_run xs i k
 rw[List.filterMap_map]at this
 have e2:((fun x=>xs[x]?)∘fun x=>i+x)=fun m=>xs[i+m]?:=rfl
 rw[e2]at this
 rw[this]
theorem getItem_tuple_cut {t sl:Addr}{items:Array Value}{vl vu:Value}{lo hi:Option Int}{Q:Value->Shared->Prop}(ht:IsTup s.heap t items)(hs:s.heap.IsSliceOf sl vl vu .none)(pl:IsPart vl lo)(pu:IsPart vu hi)
  (hw:¬(sIx items.size 0 lo=0/\sIx items.size items.size hi=items.size))
  (h:Q (.ref s.heap.objs.size) {s with heap:=s.heap.push {cls:=.type "tuple",data:=.seq ((items.toList.drop (sIx items.size 0 lo)).take (sIx items.size items.size hi-sIx items.size 0 lo)).toArray}})
  (hsz:items.size<=sizeLine):wpAny (model prog w) A (getItem (.ref t) (.ref sl)) Q E s:=by
 have htake:sizeOk (.seq ((items.toList.drop (sIx items.size 0 lo)).take (sIx items.size items.size hi-sIx items.size 0 lo)).toArray):=by
  show((items.toList.drop (sIx items.size 0 lo)).take (sIx items.size items.size hi-sIx items.size 0 lo)).toArray.size<=sizeLine
  rw[AZ,AV,GN,DF]
  lia
 have hj:sIx items.size items.size hi<=items.size:=bh _ _ (Ah _) hi
 obtain⟨os,hos,hcs,hds⟩:=id hs
 have hTs:s.TypeIs (.ref sl) "slice":=⟨os,hos,hcs⟩
 unfold getItem
 try with_reducible refine DM ?_
 first|refine A1 (Ae ?_)|skip
 refine A1 (wpAny_sequenceKey ht.typeIs (by decide) ?_)
 refine A1 (wpAny_callSpecial?_slot (name:=Str.ofString "__getitem__") ht.typeIs P4
  (Gj P4 ht.typeIs entry_tuple_getitem ?_ (args_tuple_getitem _ _)))
 show wpAny _ _ (Builtin.Tuple.tupleItemsOf (.ref t)>>=_) _ _ s
 refine A1 (tupleItemsOf_ ht ?_)
 refine A1 (Pm hTs ?_)
 rw[Aj (by decide)]
 refine A1 (Rt hs pl pu ?_)
 have hno:¬((((sIx items.size 0 lo:Nat):Int)==0&&(1:Int)==1&&(sIx items.size items.size hi-sIx items.size 0 lo)==items.size)=true):=by
  intro q
  rw[F7,F7]at q
  have q1:((sIx items.size 0 lo:Nat):Int)=0:=eq_of_beq q.1.1
  have q2:sIx items.size items.size hi-sIx items.size 0 lo=items.size:=eq_of_beq q.2
  exact hw ⟨by lia,by lia⟩
 show wpAny _ _ (if(((sIx items.size 0 lo:Nat):Int)==0&&(1:Int)==1&&(sIx items.size items.size hi-sIx items.size 0 lo)==items.size)=true then _ else _) _ _ s
 rw[Ab hno,Yt]
 first
  |exact A1 (m:=Builtin.Tuple.tupleExact _) (Fu (Ae ⟨_,rfl,Ae h⟩) htake)
  |exact A1 (m:=Builtin.Tuple.tupleExact _) (Fu (A1 (Ae (Ae ⟨_,rfl,Ae h⟩))) htake)
  |exact A1 (A1 (m:=Builtin.Tuple.tupleExact _) (Fu (Ae (Ae ⟨_,rfl,Ae h⟩)) htake))
  |exact A1 (A1 (m:=Builtin.Tuple.tupleExact _) (Fu (Ae ⟨_,rfl,Ae h⟩) htake))
end
end HT
namespace L2
open PySem PySem.Spec PyProof.Rows
abbrev TO:=St->Hp->(Option Int->Hp->Prop)->Prop
def PO (X:Cx)(e:Option Expr)(t:TO):Prop:=
 ∀(pins:List (Addr×Obj)) (s:Shared) (σ:St) (H:Hp) (Q:Option Int->Hp->Prop),A2 X pins σ H s->t σ H Q->
  wpAny (model X.prog X.w) X.A (evalPart e X.env) (fun u s'=>∃o H',A2 X pins σ H' s'/\IsPart u o/\Q o H') X.xe s
def ZC:TO:=fun _ H Q=>Q none H
def Ur (t:TE):TO:=fun σ H Q=>t σ H fun x H1=>∃i,x = .int i/\Q (some i) H1
section
variable {X:Cx}{e:Expr}{te:TE}{lo hi:Option Expr}{tl th:TO}{pos p2:Pos}
theorem Hg:PO X none ZC:=by
 intro pins s σ H Q I h
 rw[evalPart_none]
 exact Ae ⟨none,H,I,.none,h⟩
theorem Ga (h:PE X e te):PO X (some e) (Ur te):=by
 intro pins s σ H Q I hw
 rw[evalPart_some]
 refine Ax (h pins s σ H _ I hw) fun u s1 zz=>?_
 obtain⟨x,H1,I1,r1,q1⟩:=zz
 obtain⟨i,rfl,q⟩:=q1
 obtain⟨t,rfl⟩:=r1
 exact⟨some i,H1,I1,.int i t,q⟩
def N0 (X:Cx)(r:V->Option Int->Option Int->Hp->VK->Prop):Prop:=
 ∀(pins:List (Addr×Obj)) (s:Shared) (σ:St) (H:Hp) (x:V) (v vl vu:Value) (lo hi:Option Int) (sl:Addr) (Q:VK),A2 X pins σ H s->AD x v->s.heap.IsSliceOf sl vl vu .none->IsPart vl lo->IsPart vu hi->r x lo hi H Q->
  ∃T id,typeLookup (.type T) "__getitem__"=pure (some (.builtin id))/\s.TypeIs v T/\wpAny (model X.prog X.w) X.A (getItem v (.ref sl)) (EP X pins σ Q) X.xe s
def YC (r:V->Option Int->Option Int->Hp->VK->Prop)(te:TE)(tl th:TO):TE:=fun σ H Q=>te σ H fun x H1=>tl σ H1 fun l H2=>th σ H2 fun u H3=>r x l u H3 Q
theorem GK {r:V->Option Int->Option Int->Hp->VK->Prop}(hr:N0 X r)(he:PE X e te)(hl:PO X lo tl)(hu:PO X hi th):PE X (.Subscript e (.Slice lo hi none p2) pos) (YC r te tl th):=by
 intro pins s σ H Q I h
 refine Subscript_ (Ax (he pins s σ H _ I h) fun v s1 zz=>?_)
 obtain⟨x,H1,I1,r1,q1⟩:=zz
 refine wpAny_Slice (Ax (hl pins s1 σ H1 _ I1 q1) fun vl s2 zz=>?_)
 obtain⟨l,H2,I2,pl,q2⟩:=zz
 refine Ax (hu pins s2 σ H2 _ I2 q2) fun vu s3 zz=>?_
 obtain⟨u,H3,I3,pu,q3⟩:=zz
 rw[evalPart_none]
 refine Ae ?_
 have I4:A2 X pins σ H3 {s3 with heap:=s3.heap.push {cls:=.type "slice",data:=.fields #[vl,vu,.none]}}:=I3.kept (t':=s3.toks) fun b ob q=>Aw _ q
 obtain⟨T,id,hT,ht,hg⟩:=hr pins {s3 with heap:=s3.heap.push {cls:=.type "slice",data:=.fields #[vl,vu,.none]}} σ H3 x v vl vu l u s3.heap.objs.size Q I4 r1 (Heap.IsSliceOf.new ..) pl pu q3
 show wpAny (model X.prog X.w) X.A (subscriptTail e (.Slice lo hi none p2) v (.ref s3.heap.objs.size)) (EP X pins σ Q) X.xe {s3 with heap:=s3.heap.push {cls:=.type "slice",data:=.fields #[vl,vu,.none]}}
 exact tail_any (ops:=[.ref s3.heap.objs.size,v]) ht hT hg (by with_unfolding_all rfl)
def Cv (xs:List V)(lo hi:Option Int):List V:=(xs.drop (HT.sIx xs.length 0 lo)).take (HT.sIx xs.length xs.length hi-HT.sIx xs.length 0 lo)
theorem T3 (xs:List V)(lo hi:Option Int):(Cv xs lo hi).length<=xs.length:=by
 unfold Cv
 rw[AV,GN]
 lia
def Xa (K:Faa):V->Option Int->Option Int->Hp->VK->Prop:=fun x lo hi H Q=>∃a xs,x = .ref a/\A9 K H a xs/\
 ¬(HT.sIx xs.length 0 lo=0/\HT.sIx xs.length xs.length hi=xs.length)/\∀p,H p=none->Q (.ref p) (upd H p (.tup (Cv xs lo hi)))
theorem TZ:N0 X (Xa X.K):=by
 intro pins s σ H x v vl vu lo hi sl Q I rx hs pl pu h
 obtain⟨a,xs,rfl,hx,hw,q⟩:=h
 cases rx
 obtain⟨its,r,ht,hz⟩:=I.tuple hx
 have hlen:its.toArray.size=xs.length:=by rw[AZ];exact r.length.symm
 refine⟨"tuple",_,PyProof.Rows.slot_tuple_getitem.lookup,ht.typeIs,?_⟩
 refine HT.getItem_tuple_cut ht hs pl pu (by rw[hlen];exact hw) ?_ (by rw[hlen];exact hz)
 rw[hlen]
 refine⟨.ref s.heap.objs.size,_,I.laid (t':=s.toks) (o:=.tup (Cv xs lo hi)) (fun b ob q=>Aw _ q) (Ah _) ?_,rfl,q _ (I.hok.fresh (Ah _))⟩
 exact⟨Cz (T3 xs lo hi) hz,_,(r.drop (HT.sIx xs.length 0 lo)).take (HT.sIx xs.length xs.length hi-HT.sIx xs.length 0 lo),ED.new _ _⟩
def cK (K:Faa):R2:=fun x y H Q=>∃a b xs ys,x = .ref a/\y = .ref b/\A9 K H a xs/\A9 K H b ys/\xs≠[]/\xs.length+ys.length<=sizeLine/\
 (ys=[]->Q (.ref a) H)/\(ys≠[]->∀p,H p=none->Q (.ref p) (upd H p (.tup (xs++ys))))
theorem Az.nil_iff {xs:List V}{us:List Value}(r:Az xs us):us=[]↔xs=[]:=by
 cases r with
 |nil=>simp
 |cons _ _=>simp
theorem Wr:BP X (binaryOp .Add) (cK X.K):=by
 intro pins s σ H x y v u Q I rx ry h
 obtain⟨a,b,xs,ys,rfl,rfl,ha,hb,hx,hz,q1,q2⟩:=h
 cases rx
 cases ry
 obtain⟨its,r1,p1,_⟩:=I.tuple ha
 obtain⟨its2,r2,p2,_⟩:=I.tuple hb
 refine HT.cat_tup p1 p2 (fun z=>hx (r1.nil_iff.mp z)) (fun z=>⟨.ref a,H,I,rfl,q1 (r2.nil_iff.mp z)⟩) (fun z=>?_) (by rw[←r1.length,←r2.length];exact hz)
 refine⟨.ref s.heap.objs.size,_,I.laid (t':=s.toks) (o:=.tup (xs++ys)) (fun b ob q=>Aw _ q) (Ah _) ?_,rfl,q2 (fun w=>z (r2.nil_iff.mpr w)) _ (I.hok.fresh (Ah _))⟩
 exact⟨by rw[AF];exact hz,_,r1.append r2,ED.new _ _⟩
end
def FW (n:Nat)(i:Int):Option Nat:=if 0<=i then(if i<n then some i.toNat else none) else if -(n:Int)<=i then some (i+n).toNat else none
def Bh {α:Type}(xs:List α)(i:Int):Option α:=(FW xs.length i).bind fun j=>xs[j]?
theorem Q2 {n:Nat}{i:Int}{j:Nat}(h:FW n i=some j):seqIndex? i n=some j/\j<n/\-(n:Int)<=i/\i<n:=by
 unfold FW at h
 by_cases h0:0<=i
 .rw[Aj h0]at h
  by_cases h1:i<n
  .rw[Aj h1]at h
   have e:i.toNat=j:=Cp h
   exact⟨by rw[seqIndex_of h0 h1,e],by lia,by lia,h1⟩
  .rw[Ab h1]at h;cases h
 .rw[Ab h0]at h
  by_cases h1 : -(n:Int)<=i
  .rw[Aj h1]at h
   have e:(i+n).toNat=j:=Cp h
   exact⟨by rw[seqIndex_neg (by lia) h1,e],by lia,h1,by lia⟩
  .rw[Ab h1]at h;cases h
theorem O0 {α:Type}{xs:List α}{i:Int}{v:α}(h:Bh xs i=some v):∃j,seqIndex? i xs.length=some j/\xs[j]?=some v/\j<xs.length/\-(xs.length:Int)<=i/\i<xs.length:=by
 unfold Bh at h
 cases e:FW xs.length i with
 |none=>rw[e]at h;cases h
 |
  some j=>
  rw[e]at h
  obtain⟨h1,h2,h3,h4⟩:=Q2 e
  exact⟨j,h1,h,h2,h3,h4⟩
theorem CQ {α:Type}{xs:List α}{j:Nat}{v:α}(h:xs[j]?=some v):Bh xs (j:Int)=some v:=by
 have hj:j<xs.length:=(As.mp h).1
 have e:FW xs.length (j:Int)=some j:=by
  unfold FW
  rw[Aj (by lia),Aj (by lia)];simp
 unfold Bh;rw[e];exact h
def bq (b:Expr):Prop := ∀o i,subscripted b false o i=operate [o,i] (getItem o i)
def Dg (X:Cx)(r:R2):Prop:=
 ∀(value slice:Expr) (pins:List (Addr×Obj)) (s:Shared) (σ:St) (H:Hp) (x y:V) (v u:Value) (Q:VK),A2 X pins σ H s->AD x v->AD y u->r x y H Q->
  subscripted slice false v u=operate [v,u] (getItem v u)->wpAny (model X.prog X.w) X.A (subscriptTail value slice v u) (EP X pins σ Q) X.xe s
def Ro (X:Cx)(id:String)(r:V->List V->Hp->VK->Prop):Prop:=
 ∀(pins:List (Addr×Obj)) (s:Shared) (σ:St) (H:Hp) (x:V) (xs:List V) (v:Value) (us:List Value) (Q:VK),A2 X pins σ H s->AD x v->Az xs us->r x xs H Q->
  wpAny (model X.prog X.w) X.A (call (.builtin id) (v::us)) (EP X pins σ Q) X.xe s
section
variable {X:Cx}{a b:Expr}{ta tb:TE}{pos:Pos}
theorem Ag {r:R2}(hr:Dg X r)(ha:PE X a ta)(hb:PE X b tb)(hs:bq b):PE X (.Subscript a b pos) (KD r ta tb):=by
 intro pins s σ H Q I h
 exact Subscript_ (OZ ha hb I h fun v u s2 x y H2 I2 rx ry q=>hr a b pins s2 σ H2 x y v u Q I2 rx ry q (hs _ _))
def Jt (K:Faa):R2:=fun x y H Q=>∃p xs i v,x = .ref p/\y = .int i/\A5 K H p xs/\Bh xs i=some v/\Q v H
def Ea (K:Faa):R2:=fun x y H Q=>∃p xs i v,x = .ref p/\y = .int i/\A9 K H p xs/\Bh xs i=some v/\Q v H
def Ww:R2:=fun x y H Q=>∃z i c,x = .str z/\y = .int i/\z.length<=sizeLine/\Bh z.cps.toList i=some c/\Q (.str ⟨#[c]⟩) H
theorem B4:Dg X (Jt X.K):=by
 intro value slice pins s σ H x y v u Q I rx ry h hs
 obtain⟨p,xs,i,z,rfl,rfl,hq,he,q⟩:=h
 cases rx
 obtain⟨t,rfl⟩:=ry
 obtain⟨its,r,pl,hz⟩:=I.list hq
 obtain⟨j,h1,h2,h3,h4,h5⟩:=O0 he
 obtain⟨w,ew,rw'⟩:=r.get h2
 have hl:=r.length
 have hn:=L5
 have fin:EP X pins σ Q w s:=⟨z,H,I,rw',q⟩
 by_cases h0:0<=i
 .have hj:i.toNat=j:=by
   rw[seqIndex_of h0 h5]at h1
   exact Cp h1
  exact item_listR pl.isList h0 (by lia) (by rw[hj];simpa using ew) fin hs
 .have hj:(i+(its.toArray.size:Int)).toNat=j:=by
   rw[seqIndex_neg (by lia) h4]at h1
   rw[AZ,←hl]
   exact Cp h1
  exact subscriptTail_builtinR (x:=w) pl.isList.typeIs slot_list_getitem.lookup
   (wpAny_getItem_list_neg (Q:=fun r s'=>r=w/\EP X pins σ Q r s') pl.isList (by lia) (by rw[AZ]<;>lia) (by lia) (by rw[hj];simpa using ew) ⟨rfl,fin⟩) hs
theorem Ay:Dg X (Ea X.K):=by
 intro value slice pins s σ H x y v u Q I rx ry h hs
 obtain⟨p,xs,i,z,rfl,rfl,hq,he,q⟩:=h
 cases rx
 obtain⟨t,rfl⟩:=ry
 obtain⟨its,r,pl,hz⟩:=I.tuple hq
 obtain⟨j,h1,h2,h3,h4,h5⟩:=O0 he
 obtain⟨w,ew,rw'⟩:=r.get h2
 have hl:=r.length
 have hn:=L5
 have fin:EP X pins σ Q w s:=⟨z,H,I,rw',q⟩
 exact subscriptTail_builtinR (x:=w) pl.typeIs slot_tuple_getitem.lookup
  (getItem_tuple (j:=j) (Q:=fun r s'=>r=w/\EP X pins σ Q r s') pl (by lia) (by lia) (by rw[AZ,←hl];exact h1) (by simpa using ew) ⟨rfl,fin⟩) hs
theorem Rv:Dg X Ww:=by
 intro value slice pins s σ H x y v u Q I rx ry h hs
 obtain⟨z,i,c,rfl,rfl,hz,he,q⟩:=h
 obtain⟨t,rfl⟩:=rx
 obtain⟨t',rfl⟩:=ry
 obtain⟨j,h1,h2,h3,h4,h5⟩:=O0 he
 have hl:z.cps.toList.length=z.length:=by simp[Str.length]
 rw[hl]at h1 h4 h5
 have hn:=L5
 exact tail_any (typeIs_str s z t) slot_str_getitem.lookup (getItem_str (c:=c) (by
  have e1:decide (i < -(2 ^ 63:Int))=false:=D8 (by lia)
  have e2:decide (i≥2 ^ 63)=false:=D8 (by lia)
  rw[e1,e2,Bool.or_false]) (by rw[h1];simpa using h2) ⟨.str ⟨#[c]⟩,H,I.tok _,⟨_,rfl⟩,q⟩) hs
theorem TV (its:List Value)(n j:Nat)(u:Value):Obj.mapSeq (·.setIfInBounds j u) {cls:=.type "list",data:=.seq its.toArray n}={cls:=.type "list",data:=.seq (its.set j u).toArray n}:=by
 simp[Obj.mapSeq]
theorem A2.lst {pins:List (Addr×Obj)}{σ:St}{H:Hp}{s:Shared}{p:Addr}{xs:List V}(I:A2 X pins σ H s)(h:H p=some (.lst xs)) :
  ∃(its:List Value) (n:Nat),Az xs its/\s.heap.get? p=some {cls:=.type "list",data:=.seq its.toArray n}/\xs.length<=sizeLine:=by
 obtain⟨z,its,n,r,e⟩:=I.hok p _ h
 exact⟨its,n,r,e,z⟩
theorem A2.lstUpd {pins:List (Addr×Obj)}{σ:St}{H:Hp}{s:Shared}{p:Addr}{xs ys:List V}{its its':List Value}{n n':Nat}{f:Obj->Obj}(I:A2 X pins σ H s)(h:H p=some (.lst xs))
  (ho:s.heap.get? p=some {cls:=.type "list",data:=.seq its.toArray n}) (hf:f {cls:=.type "list",data:=.seq its.toArray n}={cls:=.type "list",data:=.seq its'.toArray n'}) (r:Az ys its') (hz:ys.length<=sizeLine) (t:Nat) :
  A2 X pins σ (upd H p (.lst ys)) {s with heap:=s.heap.update p f,toks:=t}:=by
 have e:(s.heap.update p f).get? p=some {cls:=.type "list",data:=.seq its'.toArray n'}:=by
  rw[DG f ho (by rw[hf]<;>rfl),hf]
 refine I.write (x:=p) (e:=p) (by rw[h];trivial) (.inl rfl) (fun b u hb q=>(DZ _ _ (Ne.symm hb)).trans q) ⟨_,e⟩ ?_
 exact⟨hz,its',n',r,e⟩
def WG:V->V->V->Hp->(Hp->Prop)->Prop:=fun o i v H Q=>∃p xs k j,o = .ref p/\i = .int k/\H p=some (.lst xs)/\FW xs.length k=some j/\Q (upd H p (.lst (xs.set j v)))
theorem KO:R4 X WG:=by
 intro pins s σ H o i v ov iv u Q I ro ri rv h
 obtain⟨p,xs,k,j,rfl,rfl,hp,hj,q⟩:=h
 cases ro
 obtain⟨t,rfl⟩:=ri
 obtain⟨its,n,r,ho,hz⟩:=I.lst hp
 obtain⟨h1,h2,h3,h4⟩:=Q2 hj
 have hl:=r.length
 have hn:=L5
 have I':A2 X pins σ (upd H p (.lst (xs.set j v))) {s with heap:=s.heap.update p (Obj.mapSeq (·.setIfInBounds j u))}:=
  I.lstUpd hp ho (TV its n j u) (r.set rv j) (by rw[Jx];exact hz) s.toks
 by_cases h0:0<=k
 .have hk:k.toNat=j:=by
   rw[seqIndex_of h0 h4]at h1
   exact Cp h1
  exact PySem.W.ki_setAt ho h0 (by lia) (by rw[AZ,←hl];exact h4) (by rw[hk];exact⟨_,I',q⟩)
 .have hk:(k+(its.toArray.size:Int)).toNat=j:=by
   rw[seqIndex_neg (by lia) h3]at h1
   rw[AZ,←hl]
   exact Cp h1
  exact PySem.W.ki_setBack ho (by lia) (by rw[AZ,←hl];exact h3) (by lia) (by rw[hk];exact⟨_,I',q⟩)
theorem Vl (lo hi:Option Int)(n:Nat):(sliceBounds lo hi none n).1=((HT.sIx n 0 lo:Nat):Int)/\(sliceBounds lo hi none n).2.1=((HT.sIx n n hi:Nat):Int)/\(sliceBounds lo hi none n).2.2=1:=by
 refine⟨?_,?_,rfl⟩
 .cases lo with
  |none=>simp[sliceBounds,HT.sIx]
  |
   some i=>
   simp only[sliceBounds,HT.sIx,Option.getD_none,show(1:Int)>0 by decide,Iy]
   by_cases h:i<0
   .simp only[h,Iy]<;>lia
   .simp only[h,Iw]<;>lia
 .cases hi with
  |none=>simp[sliceBounds,HT.sIx]
  |
   some i=>
   simp only[sliceBounds,HT.sIx,Option.getD_none,show(1:Int)>0 by decide,Iy]
   by_cases h:i<0
   .simp only[h,Iy]<;>lia
   .simp only[h,Iw]<;>lia
theorem Wk (its:List Value)(lo hi:Option Int):slicePick its.toArray lo hi none=((its.drop (HT.sIx its.length 0 lo)).take (HT.sIx its.length its.length hi-HT.sIx its.length 0 lo)).toArray:=by
 obtain⟨h1,h2,h3⟩:=Vl lo hi its.toArray.size
 unfold slicePick
 rw[h1,h2,h3]
 simp only[sliceRange_one,pick_run,AZ]<;>rfl
def X3 (K:Faa):V->Option Int->Option Int->Hp->VK->Prop:=fun x lo hi H Q=>∃a xs,x = .ref a/\A5 K H a xs/\∀p,H p=none->Q (.ref p) (upd H p (.lst (Cv xs lo hi)))
theorem Jd:N0 X (X3 X.K):=by
 intro pins s σ H x v vl vu lo hi sl Q I rx hs pl pu h
 obtain⟨a,xs,rfl,hx,q⟩:=h
 cases rx
 obtain⟨its,r,ht,hz⟩:=I.list hx
 have hlen:=r.length
 refine⟨"list",_,slot_list_getitem.lookup,ht.isList.typeIs,?_⟩
 refine wpAny_getItem_list_slice ht.isList hs pl pu .none (by simp) ?_ (by rw[AZ]<;>lia)
 rw[Wk,←hlen]
 refine⟨.ref s.heap.objs.size,_,I.laid (t':=s.toks) (o:=.lst (Cv xs lo hi)) (fun b ob q=>Aw _ q) (Ah _) ?_,rfl,q _ (I.hok.fresh (Ah _))⟩
 exact⟨Cz (T3 xs lo hi) hz,_,0,(r.drop (HT.sIx xs.length 0 lo)).take (HT.sIx xs.length xs.length hi-HT.sIx xs.length 0 lo),B8 _ rfl⟩
def F5:V->Bool
 |.non=>true
 |.bl _=>true
 |.int _=>true
 |.str _=>true
 |_=>false
def DX:V->V->Bool
 |.non,.non=>true
 |.bl a,.bl b=>a==b
 |.bl a,.int b=>(if a then 1 else 0)==b
 |.int a,.bl b=>a==(if b then 1 else 0)
 |.int a,.int b=>a==b
 |.str a,.str b=>a==b
 |_,_=>false
theorem On {A:Around}{s:Shared}{y x:V}{u v:Value}(ry:AD y u)(rx:AD x v)(fy:F5 y=true)(fx:F5 x=true):SeqAt.EqAt A s u v (DX y x):=by
 cases y with
 |
  non=>
  cases ry
  cases x with
  |non=>cases rx;exact SeqAt.EqAt.same _
  |bl b=>cases rx;exact SeqAt.EqAt.none_bool b
  |int b=>obtain⟨t,rfl⟩:=rx;exact SeqAt.EqAt.none_int b t
  |str b=>obtain⟨t,rfl⟩:=rx;exact SeqAt.EqAt.none_str b t
  |_=>exact absurd (show false=true from fx) CH
 |
  bl a=>
  cases ry
  cases x with
  |non=>cases rx;exact SeqAt.EqAt.bool_none a
  |bl b=>cases rx;exact SeqAt.EqAt.bool_bool a b
  |int b=>obtain⟨t,rfl⟩:=rx;exact SeqAt.EqAt.bool_int a b t
  |str b=>obtain⟨t,rfl⟩:=rx;exact SeqAt.EqAt.bool_str a b t
  |_=>exact absurd (show false=true from fx) CH
 |
  int a=>
  obtain⟨t',rfl⟩:=ry
  cases x with
  |non=>cases rx;exact SeqAt.EqAt.int_none a t'
  |bl b=>cases rx;exact SeqAt.EqAt.int_bool a t' b
  |int b=>obtain⟨t,rfl⟩:=rx;exact SeqAt.EqAt.int_int a t' b t
  |str b=>obtain⟨t,rfl⟩:=rx;exact SeqAt.EqAt.int_str a t' b t
  |_=>exact absurd (show false=true from fx) CH
 |
  str a=>
  obtain⟨t',rfl⟩:=ry
  cases x with
  |non=>cases rx;exact SeqAt.EqAt.str_none a t'
  |bl b=>cases rx;exact SeqAt.EqAt.str_bool a t' b
  |int b=>obtain⟨t,rfl⟩:=rx;exact SeqAt.EqAt.str_int a t' b t
  |str b=>obtain⟨t,rfl⟩:=rx;exact SeqAt.EqAt.str_str a t' b t
  |_=>exact absurd (show false=true from fx) CH
 |_=>exact absurd (show false=true from fy) CH
def FU (x:V)(u:Value):Bool:=match u with
 |.none=>DX .non x
 |.bool b=>DX (.bl b) x
 |.int i _=>DX (.int i) x
 |.str z _=>DX (.str z) x
 |_=>false
theorem RQ {x y:V}{u:Value}(r:AD y u)(f:F5 y=true):FU x u=DX y x:=by
 cases y with
 |non=>cases r;rfl
 |bl b=>cases r;rfl
 |int i=>obtain⟨t,rfl⟩:=r;rfl
 |str z=>obtain⟨t,rfl⟩:=r;rfl
 |_=>exact absurd (show false=true from f) CH
theorem Oh {x:V}:∀{xs:List V} {us:List Value},Az xs us->xs.all F5=true->us.any (FU x)=xs.any fun y=>DX y x
 |_,_,.nil,_=>rfl
 |
  y::xs,u::us,.cons r t,f=>by
  rw[List.all_cons,F7]at f
  rw[N6,N6,RQ r f.1,Oh t f.2]
theorem OU {A:Around}{s:Shared}{x:V}{v:Value}(rx:AD x v)(fx:F5 x=true):∀{xs:List V} {us:List Value},Az xs us->xs.all F5=true->∀u∈us,SeqAt.EqAt A s u v (FU x u)
 |_,_,.nil,_=>fun u hu=>by cases hu
 |
  y::xs,u::us,.cons r t,f=>fun u' hu=>by
  rw[List.all_cons,F7]at f
  rcases AS.mp hu with rfl|hu
  .rw[RQ r f.1];exact On r rx f.1 fx
  .exact OU rx fx t f.2 u' hu
def M6 (x:V)(xs:List V):Bool:=xs.any fun y=>DX y x
def PJ (K:Faa)(neg:Bool):R2:=fun x y H Q=>∃p xs,y = .ref p/\(A5 K H p xs\/A9 K H p xs)/\F5 x=true/\xs.all F5=true/\Q (.bl (if neg then !M6 x xs else M6 x xs)) H
theorem cB:BP X (compareOp .In) (PJ X.K false):=by
 intro pins s σ H x y v u Q I rx ry h
 obtain⟨p,xs,rfl,hq,fx,fs,q⟩:=h
 cases ry
 rcases hq with hq|hq
 .obtain⟨its,r,pl,hz⟩:=I.list hq
  refine SeqAt.in_listAt (FU x) pl.isList (fun w hw=>OU rx fx r fs w (by simpa using hw)) ⟨.bl _,H,I,rfl,?_⟩
  rw[show its.toArray.any (FU x)=its.any (FU x) by simp,Oh r fs]
  exact q
 .obtain⟨its,r,pl,hz⟩:=I.tuple hq
  refine SeqAt.in_tupleAt (FU x) pl (fun w hw=>OU rx fx r fs w (by simpa using hw)) ⟨.bl _,H,I,rfl,?_⟩
  rw[show its.toArray.any (FU x)=its.any (FU x) by simp,Oh r fs]
  exact q
theorem BM:E8 X (.builtin "len") (fun xs H Q=>∃p ys,xs=[.ref p]/\(A5 X.K H p ys\/A9 X.K H p ys)/\Q (.int ys.length) H):=by
 intro pins s σ H xs us Q I r h
 obtain⟨p,ys,rfl,hq,q⟩:=h
 obtain⟨u,rfl,rx⟩:=EK r
 cases rx
 have hn:=L5
 rcases hq with hq|hq
 .obtain⟨its,r',pl,hz⟩:=I.list hq
  have hlen:=r'.length
  exact Calls.call_len_list pl.isList (by simp only[AZ]<;>lia) ⟨.int ys.length,H,I.tok _,⟨s.toks+1,by rw[AZ,hlen]⟩,q⟩
 .obtain⟨its,r',pl,hz⟩:=I.tuple hq
  have hlen:=r'.length
  exact len_tuple pl (by simp only[AZ]<;>lia) ⟨.int ys.length,H,I.tok _,⟨s.toks+1,by rw[AZ,hlen]⟩,q⟩
theorem OT:E8 X (.type "list") (fun xs H Q=>∃p ys,xs=[.ref p]/\(A5 X.K H p ys\/A9 X.K H p ys)/\∀l,H l=none->Q (.ref l) (upd H l (.lst ys))):=by
 intro pins s σ H xs us Q I r h
 obtain⟨p,ys,rfl,hq,q⟩:=h
 obtain⟨u,rfl,rx⟩:=EK r
 cases rx
 have fin:∀(its:List Value),Az ys its->ys.length<=sizeLine->∀(h':Heap) (c':Nat),(∀b o',s.heap.get? b=some o'->h'.get? b=some o')->
   h'.get? s.heap.objs.size=some {cls:=.type "list",dict:=none,data:=.seq its.toArray c',slots := #[]}->EP X pins σ Q (.ref s.heap.objs.size) {s with heap:=h'}:=fun its r' hz h' c' kp e=>
  ⟨.ref s.heap.objs.size,_,I.laid (t':=s.toks) kp (Ah _) (show BB X.prog X.w _ h' _ (.lst ys) from⟨hz,its,c',r',e⟩),rfl,q _ (I.hok.fresh (Ah _))⟩
 rcases hq with hq|hq
 .obtain⟨its,r',pl,hz⟩:=I.list hq
  have hlen:=r'.length
  obtain⟨o,ho,hc,n,hd⟩:=pl.isList
  exact call_list_seq p (.inl rfl) ho hc hd (fun h' c' kp e=>fin its r' hz h' c' kp e) (by simp only[AZ]<;>lia)
 .obtain⟨its,r',pl,hz⟩:=I.tuple hq
  have hlen:=r'.length
  obtain⟨o,ho,hc,n,hd⟩:=pl
  exact call_list_seq p (.inr rfl) ho hc hd (fun h' c' kp e=>fin its r' hz h' c' kp e) (by simp only[AZ]<;>lia)
theorem Kb:E8 X (.type "tuple") (fun xs H Q=>∃p ys,xs=[.ref p]/\((A5 X.K H p ys/\∀l,H l=none->Q (.ref l) (upd H l (.tup ys)))\/(A9 X.K H p ys/\Q (.ref p) H))):=by
 intro pins s σ H xs us Q I r h
 obtain⟨p,ys,rfl,h⟩:=h
 obtain⟨u,rfl,rx⟩:=EK r
 cases rx
 rcases h with⟨hq,q⟩|⟨hq,q⟩
 .obtain⟨its,r',pl,hz⟩:=I.list hq
  have hlen:=r'.length
  refine call_tuple_list pl.isList (fun h' kp=>?_) (by simp only[AZ]<;>lia)
  have I1:A2 X pins σ H {s with heap:=h'}:=I.kept (t':=s.toks) kp
  have I2:A2 X pins σ (upd H h'.objs.size (.tup ys)) {s with heap:=h'.push {cls:=.type "tuple",data:=.seq its.toArray}}:=
   I1.laid (t':=s.toks) (fun b o e=>Aw _ e) (Ah _) (show BB X.prog X.w _ _ _ (.tup ys) from⟨hz,its,r',ED.new _ _⟩)
  exact⟨.ref h'.objs.size,_,I2,rfl,q _ (I1.hok.fresh (Ah _))⟩
 .obtain⟨its,r',pl,hz⟩:=I.tuple hq
  exact call_tuple_same pl ⟨.ref p,H,I,rfl,q⟩
def NP (K:Faa)(T:String)(x:V)(H:Hp):Prop:=match x with
 |.str _=>T="str"
 |.int _=>T="int"
 |.ref p=>(T="list"/\∃xs,A5 K H p xs)\/(T="tuple"/\∃o,K.lookup p=some o/\o.cls = .type "tuple"/\o.dict=none)\/
  (T="dict"/\((∃kvs,H p=some (.dK kvs))\/∃kvs,H p=some (.dT kvs)))\/(T="set"/\∃S n,H p=some (.set S n))
 |_=>False
theorem Rx {pins:List (Addr×Obj)}{σ:St}{H:Hp}{s:Shared}{T:String}{x:V}{v:Value}(I:A2 X pins σ H s)(r:AD x v)(ty:NP X.K T x H) :
  s.TypeIs v T/\∀a,v = .ref a->∃ob,s.heap.get? a=some ob/\ob.dict=none:=by
 cases x with
 |
  str z=>
  obtain⟨t,rfl⟩:=r
  cases (show T="str" from ty)
  exact⟨typeIs_str s z t,fun _ e=>nomatch e⟩
 |
  int i=>
  obtain⟨t,rfl⟩:=r
  cases (show T="int" from ty)
  exact⟨typeIs_int s i t,fun _ e=>nomatch e⟩
 |
  ref p=>
  cases r
  rcases ty with⟨rfl,xs,hq⟩|⟨rfl,o,hk,hc,hd⟩|⟨rfl,hk⟩|⟨rfl,S,n,hk⟩
  .obtain⟨its,_,pl,_⟩:=I.list hq
   refine⟨pl.isList.typeIs,fun a e=>?_⟩
   cases e
   obtain⟨o,n,e,c,hd,_⟩:=pl
   exact⟨o,e,hd⟩
  .refine⟨⟨o,I.kIn p o hk,hc⟩,fun a e=>?_⟩
   cases e
   exact⟨o,I.kIn _ o hk,hd⟩
  .have z:∃o,s.heap.get? p=some o/\o.ExactDict:=by
    rcases hk with⟨kvs,hk⟩|⟨kvs,hk⟩
    .obtain⟨_,_,_,_,o,_,_,e,ex,_⟩:=I.hok p _ hk
     exact⟨o,e,ex⟩
    .obtain⟨_,_,_,_,o,_,_,e,ex,_⟩:=I.hok p _ hk
     exact⟨o,e,ex⟩
   obtain⟨o,e,ex⟩:=z
   refine⟨⟨o,e,ex.1⟩,fun a e2=>?_⟩
   cases e2
   exact⟨o,e,ex.2.1⟩
  .obtain⟨o,_,_,_,e,ex,_⟩:=I.hok p _ hk
   refine⟨⟨o,e,ex.1⟩,fun a e2=>?_⟩
   cases e2
   exact⟨o,e,ex.2.1⟩
 |_=>exact False.elim ty
def Vt (K:Faa)(T:String)(r:V->List V->Hp->VK->Prop)(to:TE):TE:=fun σ H Q=>to σ H fun x H1=>NP K T x H1/\r x [] H1 Q
def Vm (K:Faa)(T:String)(r:V->List V->Hp->VK->Prop)(to:TE)(t:TA):TE:=fun σ H Q=>to σ H fun x H1=>NP K T x H1/\t σ H1 fun xs H2=>r x xs H2 Q
variable {o e:Expr}{es:List Expr}{to:TE}{t:TA}{name:Str}{apos cpos:Pos}{T id:String}{r:V->List V->Hp->VK->Prop}
theorem T8 (pa:PlainAttrs T)(slot:Slot T name id)(hty:typeOf (.builtin id)=pure (.type "method_descriptor"))(hm:Ro X id r)(ho:PE X o to)
  (hbase:attributeBase o name X.env (eval o X.env)=eval o X.env:=by rfl) (hline:(apos.endLine==cpos.line)=true:=by rfl):PE X (.Call (.Attribute o name apos) [] [] cpos) (Vt X.K T r to):=by
 intro pins s σ H Q I h
 refine wpAny_Call_method0_late hbase hline (Ax (ho pins s σ H _ I h) fun v s1 zz=>?_)
 obtain⟨x,H1,I1,r1,ty,q1⟩:=zz
 obtain⟨h1,h2⟩:=Rx I1 r1 ty
 exact⟨T,id,pa,slot,hty,h1,h2,Calls.callWith_builtin rfl (Tg (hm pins s1 σ H1 x [] v [] Q I1 r1 .nil q1))⟩
theorem Cu (pa:PlainAttrs T)(slot:Slot T name id)(hty:typeOf (.builtin id)=pure (.type "method_descriptor"))(hm:Ro X id r)(ho:PE X o to)(ha:PA X (e::es) t)
  (hbase:attributeBase o name X.env (eval o X.env)=eval o X.env:=by rfl)
  (hfew:((backTo cpos (starEach (e::es) X.env)).all (fun x=>!x.1)&&(backToKw cpos (keywordEach [] X.env)).all (fun x=>x.1.isSome)
   && decide ((e::es).length+([]:List Keyword).length+(if([]:List Keyword).isEmpty then 0 else 1)<30))=true:=by rfl)
  (hline:(apos.endLine==cpos.line)=true:=by rfl) (hs:starEach (e::es) X.env=(false,eval e X.env)::starEach es X.env:=by rfl) (hplain:(backTo cpos (starEach es X.env)).any (·.1)=false:=by rfl) :
  PE X (.Call (.Attribute o name apos) (e::es) [] cpos) (Vm X.K T r to t):=by
 intro pins s σ H Q I h
 refine wpAny_Call_method_late hbase hfew hline rfl (Ax (ho pins s σ H _ I h) fun v s1 zz=>?_)
 obtain⟨x,H1,I1,r1,ty,q1⟩:=zz
 obtain⟨h1,h2⟩:=Rx I1 r1 ty
 refine⟨T,id,pa,slot,hty,h1,h2,?_⟩
 have hA:=ha cpos pins s1 σ H1 _ I1 q1
 rw[hs]at hA ⊢
 refine Calls.callWith_builtin (by show(false||(backTo cpos (starEach es X.env)).any (·.1))=false;rw[hplain]<;>rfl) (Calls.evalArgs_plain ?_)
 refine Ax hA fun us s2 zz=>?_
 obtain⟨vs,H2,I2,r2,q2⟩:=zz
 exact hm pins s2 σ H2 x vs v us Q I2 r1 r2 q2
end
def Hy (X:Cx)(id:String)(r:V->List V->Hp->VK->Prop):Prop:=
 ∀(pins:List (Addr×Obj)) (s:Shared) (σ:St) (H:Hp) (x:V) (xs:List V) (v:Value) (us:List Value) (Q:VK),A2 X pins σ H s->AD x v->Az xs us->r x xs H Q->
  wpAny (model X.prog X.w) X.A (call (.builtin id) (v::us)) (EP X pins σ Q) X.xe s
theorem Az.one:∀{x:V} {us:List Value},Az [x] us->∃u,us=[u]/\AD x u:=by
 intro x us h
 cases h with
 |
  cons r q=>
  cases q
  exact⟨_,rfl,r⟩
theorem Az.two:∀{x y:V} {us:List Value},Az [x,y] us->∃u v,us=[u,v]/\AD x u/\AD y v:=by
 intro x y us h
 cases h with
 |
  cons r q=>
  obtain⟨v,rfl,z⟩:=Az.one q
  exact⟨_,_,rfl,r,z⟩
theorem Az.zero:∀{us:List Value},Az [] us->us=[]
 |_,.nil=>rfl
theorem Az.eraseIdx:∀{xs:List V} {us:List Value} (i:Nat),Az xs us->Az (xs.eraseIdx i) (us.eraseIdx i)
 |_,_,_,.nil=>.nil
 |_,_,0,.cons _ t=>t
 |_,_,i+1,.cons r t=>.cons r (Az.eraseIdx i t)
theorem Az.reverse {xs:List V}{us:List Value}(h:Az xs us):Az xs.reverse us.reverse:=by
 induction h with
 |nil=>exact .nil
 |cons r t ih=>rw[List.reverse_cons,List.reverse_cons];exact Az.append ih (.cons r .nil)
theorem Az.rep {xs:List V}{us:List Value}(h:Az xs us):∀k:Nat,Az (List.replicate k xs).flatten (List.replicate k us).flatten
 |0=>.nil
 |
  k+1=>by
  rw[Jy,Jy,P5,P5]
  exact Az.append h (Az.rep h k)
theorem Rz {α:Type}:∀(l:List α) (i:Nat),(l.eraseIdx i).length<=l.length
 |[],_=>Ah _
 |_::_,0=>F6 _
 |_::r,i+1=>Nat.succ_le_succ (Rz r i)
theorem Qt (its:List Value):∀(k:Nat) (acc:List Value),
  List.foldl (fun x1 x2=>x1++x2) acc.toArray (List.replicate k its.toArray)=(acc++(List.replicate k its).flatten).toArray
 |0,acc=>by simp
 |
  k+1,acc=>by
  have e:acc.toArray++its.toArray=(acc++its).toArray:=by simp
  have e2:(acc++its)++(List.replicate k its).flatten=acc++(List.replicate (k+1) its).flatten:=by
   rw[Jy,P5,DH]
  rw[←e2,←Qt its k (acc++its),←e,Jy,List.foldl_cons]
section
variable {X:Cx}{pins:List (Addr×Obj)}{σ:St}{H:Hp}{s:Shared}{l b:Addr}{xs ys zs:List V}
theorem A2.lset {its its':List Value}{n:Nat}{f:Array Value->Array Value}{t':Nat}(I:A2 X pins σ H s)(hH:H l=some (.lst xs))
  (e:s.heap.get? l=some {cls:=.type "list",data:=.seq its.toArray n}) (hf:f its.toArray=its'.toArray) (hv:Az ys its') (hz:ys.length<=sizeLine) :
  A2 X pins σ (upd H l (.lst ys)) {s with heap:=s.heap.update l (Obj.mapSeq f),toks:=t'}:=by
 have q:=PySem.IsL.update e f
 rw[hf]at q
 refine I.write (x:=l) (e:=l) (by rw[hH];exact trivial) (.inl rfl) (fun b' u hb hu=>(DZ s.heap (Obj.mapSeq f) (Ne.symm hb)).trans hu) ⟨_,q⟩ ?_
 exact⟨hz,its',_,hv,q⟩
theorem A2.lnew {its:List Value}{t':Nat}(I:A2 X pins σ H s)(hv:Az ys its)(hz:ys.length<=sizeLine) :
  A2 X pins σ (upd H s.heap.objs.size (.lst ys)) {s with heap:=s.heap.push {cls:=.type "list",data:=.seq its.toArray},toks:=t'}:=
 I.laid (fun _ _ q=>Aw _ q) (Ah _) ⟨hz,its,0,hv,B8 _ rfl⟩
theorem A2.fresh (I:A2 X pins σ H s):H s.heap.objs.size=none:=I.hok.fresh (Ah _)
theorem A2.lstM (I:A2 X pins σ H s)(hH:H l=some (.lst xs)):xs.length<=sizeLine/\∃(its:List Value) (n:Nat),Az xs its/\xs.length=its.length/\s.heap.get? l=some {cls:=.type "list",data:=.seq its.toArray n}:=by
 obtain⟨z,its,n,r,e⟩:=I.hok l _ hH
 exact⟨z,its,n,r,r.length,e⟩
theorem QF {n:Nat}(h:n<=sizeLine):Builtin.List.listTooLong n=false:=by
 unfold Builtin.List.listTooLong
 exact D8 (by lia)
end
section
variable {X:Cx}
def bL:V->List V->Hp->VK->Prop:=fun x vs H Q=>∃l xs y,x = .ref l/\vs=[y]/\H l=some (.lst xs)/\xs.length<sizeLine/\Q .non (upd H l (.lst (xs++[y])))
theorem Dh:Hy X "list.append" bL:=by
 intro pins s σ H x vs v us Q I rx rv h
 obtain⟨l,xs,y,rfl,rfl,hH,hz,q⟩:=h
 cases rx
 obtain⟨u,rfl,ru⟩:=rv.one
 obtain⟨z,its,n,r,hl,e⟩:=I.lstM hH
 refine GS F.slot_list_append ⟨_,e,rfl⟩ F.entry_list_append (F.args_list_append_2 _ _) (PySem.list_append l its.toArray n u (by rw[AZ];lia)) ⟨e,?_⟩
 refine⟨.non,_,I.lset (its':=its++[u]) hH e (by simp) (r.append (.cons ru .nil)) ?_,rfl,q⟩
 rw[AF,Bf]
 lia
def Ym:V->List V->Hp->VK->Prop:=fun x vs H Q=>∃l b xs zs,x = .ref l/\vs=[.ref b]/\H l=some (.lst xs)/\H b=some (.lst zs)/\xs.length+zs.length<=sizeLine/\Q .non (upd H l (.lst (xs++zs)))
theorem OI:Hy X "list.extend" Ym:=by
 intro pins s σ H x vs v us Q I rx rv h
 obtain⟨l,b,xs,zs,rfl,rfl,hH,hB,hz,q⟩:=h
 cases rx
 obtain⟨u,rfl,ru⟩:=rv.one
 cases ru
 obtain⟨z,its,n,r,hl,e⟩:=I.lstM hH
 obtain⟨z2,its2,n2,r2,hl2,e2⟩:=I.lstM hB
 have hsz:its.toArray.size+its2.toArray.size<=sizeLine:=by rw[AZ,AZ];lia
 have hlong:¬(!its.toArray.isEmpty&&Builtin.List.listTooLong (its.toArray.size+its2.toArray.size))=true:=by
  rw[QF hsz,N7]
  exact CH
 refine GS F.slot_list_extend ⟨_,e,rfl⟩ F.entry_list_extend (F.args_list_extend_2 _ _)
  (AutoSeq1.list_extend_list_list_0 l its.toArray n b its2.toArray n2 hlong (by rw[AZ];lia) (by lia)) ⟨e,e2,?_⟩
 refine⟨.non,_,I.lset (its':=its++its2) hH e (by simp) (r.append r2) ?_,rfl,q⟩
 rw[AF]
 lia
def WO:V->List V->Hp->VK->Prop:=fun x vs H Q=>∃l xs i k y,x = .ref l/\vs=[.int i]/\H l=some (.lst xs)/\-(2 ^ 63)<=i/\i<2 ^ 63/\seqIndex? i xs.length=some k/\xs[k]?=some y/\Q y (upd H l (.lst (xs.eraseIdx k)))
theorem Rh:Hy X "list.pop" WO:=by
 intro pins s σ H x vs v us Q I rx rv h
 obtain⟨l,xs,i,k,y,rfl,rfl,hH,h1,h2,hk,hy,q⟩:=h
 cases rx
 obtain⟨u,rfl,ru⟩:=rv.one
 obtain⟨t,rfl⟩:=ru
 obtain⟨z,its,n,r,hl,e⟩:=I.lstM hH
 obtain⟨w,hw,rw'⟩:=r.get hy
 refine GS F.slot_list_pop ⟨_,e,rfl⟩ F.entry_list_pop (F.args_list_pop_2 _ _)
  (MeetsSeq.list_pop_at l its.toArray n i t k w (fitsIndex_both h1 h2) (by rw[AZ,←hl];exact hk) (by rw[←P6];exact hw) (by rw[AZ];lia)) ⟨e,?_⟩
 refine⟨y,_,I.lset (its':=its.eraseIdx k) hH e ?_ (r.eraseIdx k) ?_,rw',q⟩
 .show its.toArray.eraseIdxIfInBounds k=(its.eraseIdx k).toArray
  rw[List.eraseIdxIfInBounds_toArray]
 .have:=Rz xs k
  lia
def Wp:V->List V->Hp->VK->Prop:=fun x vs H Q=>∃l xs,x = .ref l/\vs=[]/\H l=some (.lst xs)/\Q .non (upd H l (.lst xs.reverse))
theorem S0:Hy X "list.reverse" Wp:=by
 intro pins s σ H x vs v us Q I rx rv h
 obtain⟨l,xs,rfl,rfl,hH,q⟩:=h
 cases rx
 have hus:=rv.zero
 subst hus
 obtain⟨z,its,n,r,hl,e⟩:=I.lstM hH
 refine GS F.slot_list_reverse ⟨_,e,rfl⟩ F.entry_list_reverse (F.args_list_reverse_1 _) (AutoSeq1.list_reverse_list_0 l its.toArray n (by rw[AZ];lia)) ⟨e,?_⟩
 refine⟨.non,_,I.lset (its':=its.reverse) hH e (by simp) r.reverse ?_,rfl,q⟩
 rw[Th]
 lia
def Yg:R2:=fun x y H Q=>∃l b xs zs,x = .ref l/\y = .ref b/\H l=some (.lst xs)/\H b=some (.lst zs)/\xs.length+zs.length<=sizeLine/\∀p,H p=none->Q (.ref p) (upd H p (.lst (xs++zs)))
theorem K1:BP X (binaryOp .Add) Yg:=by
 intro pins s σ H x y v u Q I rx ry h
 obtain⟨l,b,xs,zs,rfl,rfl,hH,hB,hz,q⟩:=h
 cases rx
 cases ry
 obtain⟨z,its,n,r,hl,e⟩:=I.lstM hH
 obtain⟨z2,its2,n2,r2,hl2,e2⟩:=I.lstM hB
 refine PySem.P.add_list e e2 ?_ (by rw[AZ,AZ];lia)
 have ea:its.toArray++its2.toArray=(its++its2).toArray:=by simp
 rw[ea]
 exact⟨.ref _,_,I.lnew (t':=s.toks) (r.append r2) (by rw[AF];lia),rfl,q _ I.fresh⟩
def XM:R2:=fun x y H Q=>∃l k xs,x = .ref l/\y = .int k/\H l=some (.lst xs)/\-(2 ^ 63)<=k/\k<2 ^ 63/\xs.length*k.toNat<=sizeLine/\
 ∀p,H p=none->Q (.ref p) (upd H p (.lst (List.replicate k.toNat xs).flatten))
theorem Vr {α:Type}(xs:List α)(k:Nat):(List.replicate k xs).flatten.length=k*xs.length:=by
 induction k with
 |zero=>simp
 |succ k ih=>rw[Jy,P5,AF,ih,Jz,N8]
theorem LV:BP X (binaryOp .Mult) XM:=by
 intro pins s σ H x y v u Q I rx ry h
 obtain⟨l,k,xs,rfl,rfl,hH,h1,h2,hz,q⟩:=h
 cases rx
 obtain⟨t,rfl⟩:=ry
 obtain⟨z,its,n,r,hl,e⟩:=I.lstM hH
 have hlen:its.toArray.size*k.toNat<=sizeLine:=by rw[AZ,←hl];exact hz
 have hcap:¬its.toArray.size*k.toNat>(2 ^ 63-1)/8:=by
  have:(sizeLine:Nat)<=(2 ^ 63-1)/8:=by decide
  lia
 have hfit:¬(!Builtin.List.listFitsIndex k)=true:=by
  rw[fitsIndex_both h1 h2]
  exact CH
 have hlong:¬Builtin.List.listTooLong (its.toArray.size*k.toNat)=true:=by
  rw[QF hlen]
  exact CH
 have hnew:List.foldl (fun x1 x2=>x1++x2) #[] (List.replicate (if its.toArray.isEmpty=true then 0 else k.toNat) its.toArray)=(List.replicate k.toNat its).flatten.toArray:=by
  have f0:∀m:Nat,List.foldl (fun x1 x2=>x1++x2) #[] (List.replicate m its.toArray)=(List.replicate m its).flatten.toArray:=fun m=>by
   have:=Qt its m []
   rw[Ih]at this
   exact this
  rw[f0]
  cases its with
  |nil=>simp
  |cons a r'=>rw[Ab (by simp)]
 refine wpAny_binaryOp_repeat_ref (T:="list") (U:="int") (by decide) ⟨_,e,rfl⟩ (fun s'=>typeIs_int s' k t) noFill_list_mul F.fills_int_mul F.slot_int_rmul repeat_list F.slot_int_index.lookup
  (GS F.slot_int_rmul (typeIs_int s k t) F.entry_int_rmul (F.args_int_rmul_2 _ _) (int___rmul___int_list k t l its.toArray n)
   ⟨e,rfl,⟨_,e,rfl⟩,GS F.slot_list_mul ⟨_,e,rfl⟩ F.entry_list_mul (F.args_list_mul_2 _ _) (AutoListH.list___mul___list_int_3 l its.toArray n k t hfit hcap hlong) ⟨e,?_⟩⟩)
 rw[hnew]
 exact⟨.ref _,_,I.lnew (t':=s.toks) (r.rep k.toNat) (by rw[Vr,Nat.mul_comm];exact hz),rfl,q _ I.fresh⟩
end
section
variable {prog:Program}{w:World}{A:Around}{E:Value->Shared->Prop}{s:Shared}
set_option maxRecDepth 100000 in
end
section
variable {X:Cx}
end
section
variable {κ:Type}[DecidableEq κ]
def C0 (kvs:List (κ×V))(k:κ):Option V:=(kvs.find? fun kv=>decide (kv.1=k)).map (·.2)
def CM (kvs:List (κ×V))(k:κ)(v:V):List (κ×V):=
 if(kvs.any fun kv=>decide (kv.1=k))=true then kvs.map (fun kv=>if kv.1=k then(kv.1,v) else kv) else kvs++[(k,v)]
theorem EM {p:κ×V}{r:List (κ×V)}{k:κ}(e:p.1=k):C0 (p::r) k=some p.2:=by simp[C0,L9,e]
theorem EJ {p:κ×V}{r:List (κ×V)}{k:κ}(e:¬p.1=k):C0 (p::r) k=C0 r k:=by simp[C0,L9,e]
theorem KB (k:κ):∀kvs:List (κ×V),(kvs.any fun kv=>decide (kv.1=k))=(C0 kvs k).isSome
 |[]=>rfl
 |
  p::r=>by
  rw[N6]
  by_cases e:p.1=k
  .simp only[EM e,Da e,Bool.true_or,Option.isSome_some]
  .rw[EJ e,D8 e,Bool.false_or];exact KB k r
theorem R9 (k j:κ)(y:V):∀kvs:List (κ×V),C0 (kvs.map fun kv=>if kv.1=k then(kv.1,y) else kv) j=(C0 kvs j).map fun x=>if j=k then y else x
 |[]=>rfl
 |
  p::r=>by
  have ih:=R9 k j y r
  rw[BY]
  by_cases h:p.1=k
  .rw[Aj h]
   by_cases e:p.1=j
   .rw[EM (p:=(p.1,y)) e,EM e,JA,Aj (e.symm.trans h)]
   .rw[EJ (p:=(p.1,y)) e,EJ e,ih]
  .rw[Ab h]
   by_cases e:p.1=j
   .rw[EM (p:=p) e,EM e,JA,Ab (fun z=>h (e.trans z))]
   .rw[EJ (p:=p) e,EJ e,ih]
theorem PX (k j:κ)(y:V):∀kvs:List (κ×V),C0 kvs k=none->C0 (kvs++[(k,y)]) j=if j=k then some y else C0 kvs j
 |
  [],_=>by
  by_cases e:k=j
  .rw[Aj e.symm];exact EM (p:=(k,y)) e
  .rw[Ab (fun z=>e z.symm)];exact EJ (p:=(k,y)) e
 |
  p::r,hn=>by
  rw[List.cons_append]
  have hk:¬p.1=k:=fun z=>by rw[EM z]at hn;cases hn
  rw[EJ hk]at hn
  have ih:=PX k j y r hn
  by_cases e:p.1=j
  .rw[EM e,EM e,Ab (fun z=>hk (e.trans z))]
  .rw[EJ e,EJ e,ih]
theorem Kg (kvs:List (κ×V))(k j:κ)(y:V):C0 (CM kvs k y) j=if j=k then some y else C0 kvs j:=by
 unfold CM
 by_cases a:(kvs.any fun kv=>decide (kv.1=k))=true
 .rw[Aj a,R9]
  rw[KB]at a
  by_cases e:j=k
  .obtain⟨x,hx⟩:=Option.isSome_iff_exists.mp a
   rw[Aj e,e,hx,JA,Aj rfl]
  .rw[Ab e]
   cases C0 kvs j with
   |none=>rfl
   |some x=>rw[JA,Ab e]
 .rw[Ab a]
  refine PX k j y kvs ?_
  rw[KB]at a
  cases q:C0 kvs k with
  |none=>rfl
  |some x=>rw[q]at a;exact(a rfl).elim
theorem OW (kvs:List (κ×V))(k:κ)(v:V):(CM kvs k v).length<=kvs.length+1:=by
 unfold CM
 split
 .rw[Al];lia
 .rw[AF,B9,Ii];lia
theorem DW.isSome_eq {o:Option V}{u:Option Value}(r:DW o u):o.isSome=u.isSome:=by
 cases o with
 |
  none=>cases u with
  |none=>rfl
  |some _=>exact(show False from r).elim
 |
  some _=>cases u with
  |none=>exact(show False from r).elim
  |some _=>rfl
theorem DW.getD {o:Option V}{u:Option Value}{d:V}{d':Value}(r:DW o u)(rd:AD d d'):AD (o.getD d) (u.getD d'):=by
 cases o with
 |
  none=>cases u with
  |none=>exact rd
  |some _=>exact(show False from r).elim
 |
  some _=>cases u with
  |none=>exact(show False from r).elim
  |some _=>exact r
theorem KV.val {kvs:List (κ×V)}{vs:List (κ×Value)}(r:KV kvs vs)(k:κ):DW (C0 kvs k) (valueAt vs k):=by
 unfold KV at r
 induction r with
 |nil=>exact True.intro
 |
  @cons p q ps qs h t ih=>
  obtain⟨h1,h2⟩:=h
  by_cases e:p.1=k
  .have e':q.1=k:=h1.symm.trans e
   have b:valueAt (q::qs) k=some q.2:=by simp[valueAt,L9,e']
   rw[EM e,b];exact h2
  .have e':¬q.1=k:=fun z=>e (h1.trans z)
   have b:valueAt (q::qs) k=valueAt qs k:=by simp[valueAt,L9,e']
   rw[EJ e,b];exact ih
theorem KV.any {kvs:List (κ×V)}{vs:List (κ×Value)}(r:KV kvs vs)(k:κ):(kvs.any fun kv=>decide (kv.1=k))=vs.any fun kv=>decide (kv.1=k):=by
 unfold KV at r
 induction r with
 |nil=>rfl
 |cons h t ih=>rw[N6,N6,ih,h.1]
theorem KV.repl {kvs:List (κ×V)}{vs:List (κ×Value)}(r:KV kvs vs)(k:κ){y:V}{u:Value}(ry:AD y u) :
  KV (kvs.map fun kv=>if kv.1=k then(kv.1,y) else kv) (vs.map fun kv=>if kv.1=k then(kv.1,u) else kv):=by
 unfold KV at r ⊢
 induction r with
 |nil=>exact .nil
 |
  @cons p q ps qs h t ih=>
  rw[BY,BY]
  refine .cons ?_ ih
  obtain⟨h1,h2⟩:=h
  by_cases e:p.1=k
  .rw[Aj e,Aj (h1.symm.trans e)];exact⟨h1,ry⟩
  .rw[Ab e,Ab (fun z=>e (h1.trans z))];exact⟨h1,h2⟩
theorem KV.put {kvs:List (κ×V)}{vs:List (κ×Value)}(r:KV kvs vs)(k:κ){y:V}{u:Value}(ry:AD y u):KV (CM kvs k y) (stored vs k u):=by
 unfold CM stored
 rw[r.any k]
 by_cases e:(vs.any fun kv=>decide (kv.1=k))=true
 .rw[Aj e,Aj e];exact r.repl k ry
 .rw[Ab e,Ab e];exact Paired.snoc r ⟨rfl,ry⟩
theorem KV.length {kvs:List (κ×V)}{vs:List (κ×Value)}(r:KV kvs vs):kvs.length=vs.length:=Paired.length r
end
theorem Ks {P:Program}{w:World}{k:Ap}{u:Value}(r:AD (kV k) u):(Dt P w).is k u=true:=by
 cases k with
 |inl i=>obtain⟨t,e⟩:=(show ∃t,u=Value.int i t from r);subst e;exact Uo P w i t
 |inr x=>obtain⟨t,e⟩:=(show ∃t,u=Value.str x t from r);subst e;exact VW P w x t
theorem S1 {P:Program}{w:World}:∀{ks:List Ap} {us:List Value},Az (ks.map kV) us->ItemsAre (Dt P w) ks us
 |[],_,r=>by rw[N9]at r;cases r;exact .nil
 |
  k::ks,_,r=>by
  rw[BY]at r
  cases r with
  |cons h t=>exact .cons (Ks h) (S1 t)
abbrev KT (H:Hp):List (List Ap×V)->List (List Ap×Addr×Value)->Prop:=Paired fun p q=>p.1=q.1/\H q.2.1=some (.tup (p.1.map kV))/\AD p.2 q.2.2
theorem KT.val {H:Hp}{kvs:List (List Ap×V)}{xs:List (List Ap×Addr×Value)}(r:KT H kvs xs)(k:List Ap):DW (C0 kvs k) ((atKey xs k).map (·.2)):=by
 induction r with
 |nil=>exact True.intro
 |
  @cons p q ps qs h t ih=>
  obtain⟨h1,_,h2⟩:=h
  by_cases e:p.1=k
  .have e':q.1=k:=h1.symm.trans e
   have b:atKey (q::qs) k=some q.2:=by simp[atKey,L9,e']
   rw[EM e,b];exact h2
  .have e':¬q.1=k:=fun z=>e (h1.trans z)
   have b:atKey (q::qs) k=atKey qs k:=by simp[atKey,L9,e']
   rw[EJ e,b];exact ih
theorem KT.repl {H:Hp}{kvs:List (List Ap×V)}{xs:List (List Ap×Addr×Value)}(r:KT H kvs xs)(k:List Ap){y:V}{u:Value}(ry:AD y u) :
  KT H (kvs.map fun kv=>if kv.1=k then(kv.1,y) else kv) (xs.map (putAt k u)):=by
 induction r with
 |nil=>exact .nil
 |
  @cons p q ps qs h t ih=>
  rw[BY,BY]
  refine .cons ?_ ih
  obtain⟨h1,h2,h3⟩:=h
  unfold putAt
  by_cases e:p.1=k
  .rw[Aj e,Aj (h1.symm.trans e)];exact⟨h1,h2,ry⟩
  .rw[Ab e,Ab (fun z=>e (h1.trans z))];exact⟨h1,h2,h3⟩
theorem KT.put {H:Hp}{kvs:List (List Ap×V)}{xs:List (List Ap×Addr×Value)}(r:KT H kvs xs)(k:List Ap){b:Addr}{y:V}{u:Value}(hb:H b=some (.tup (k.map kV)))(ry:AD y u) :
  KT H (CM kvs k y) (storedH xs k b u):=by
 have e:(kvs.any fun kv=>decide (kv.1=k))=(atKey xs k).isSome:=by
  rw[KB,(r.val k).isSome_eq,Option.isSome_map]
 unfold CM storedH
 rw[e]
 by_cases q:(atKey xs k).isSome=true
 .rw[Aj q,Aj q];exact r.repl k ry
 .rw[Ab q,Ab q];exact Paired.snoc r ⟨rfl,hb,ry⟩
theorem KT.keeps {H H':Hp}{kvs:List (List Ap×V)}{xs:List (List Ap×Addr×Value)}(r:KT H kvs xs)(ht:∀b ys,H b=some (.tup ys)->H' b=some (.tup ys)):KT H' kvs xs:=
 Paired.mapP r fun _ _ z=>⟨z.1,ht _ _ z.2.1,z.2.2⟩
section
variable {P:Program}{w:World}{H:Hp}{h:Heap}{a:Addr}
theorem SA {u:HO}(ok:Bv P w H h)(e:Rd H a u):BB P w H h a u:=e.ok ok
theorem KM {kvs:List (Ap×V)}(ok:Bv P w H h)(e:Rd H a (.dK kvs)):kvs.length<=sizeLine/\(a==sysModules)=false/\∃vs,KV kvs vs/\h.DictOf (Dt P w) a vs:=
 show BB P w H h a (.dK kvs) from SA ok e
theorem Su {kvs:List (Ap×V)}(ok:Bv P w H h)(e:H a=some (.dK kvs)):kvs.length<=sizeLine/\(a==sysModules)=false/\∃vs,KV kvs vs/\h.DictOf (Dt P w) a vs:=KM ok (.inl e)
theorem N1 {ks:List Ap}(ok:Bv P w H h)(e:H a=some (.tup (ks.map kV))):(tupleKind (Dt P w)).is h ks a:=by
 obtain⟨_,its,r,o,h1,h2,⟨n,h3⟩,_⟩:=(show BB P w H h a (.tup (ks.map kV)) from ok a _ e)
 exact⟨o,its.toArray,n,h1,h2,h3,by simpa using S1 r⟩
theorem JZ {kvs:List (List Ap×V)}(ok:Bv P w H h)(e:Rd H a (.dT kvs)):kvs.length<=sizeLine/\(a==sysModules)=false/\
  ∃xs,KT H kvs xs/\h.DictOfH (tupleKind (Dt P w)) a xs:=by
 obtain⟨z,y,xs,r,o,es,ep,h1,h2,h3,h4,h5⟩:=(show BB P w H h a (.dT kvs) from SA ok e)
 refine⟨z,y,xs,r,o,es,ep,h1,h2,h3,h4,fun x hx=>?_,h5⟩
 have all:∀{l:List (List Ap×V)} {m:List (List Ap×Addr×Value)},KT H l m->∀x∈m,(tupleKind (Dt P w)).is h x.1 x.2.1:=by
  intro l m q
  induction q with
  |nil=>intro x hx;exact nomatch hx
  |
   @cons p q ps qs hq t ih=>
   intro x hx
   rcases AS.mp hx with e|hx
   .subst e
    exact N1 ok (by rw[←hq.1];exact hq.2.1)
   .exact ih x hx
 exact all r x hx
theorem OV {kvs:List (List Ap×V)}(ok:Bv P w H h)(e:H a=some (.dT kvs)):kvs.length<=sizeLine/\(a==sysModules)=false/\
 ∃xs,KT H kvs xs/\h.DictOfH (tupleKind (Dt P w)) a xs:=JZ ok (.inl e)
end
def G9 (H:Hp)(a:Addr)(y:V)(r:Option V):Prop:=
 (∃kvs k,Rd H a (.dK kvs)/\y=kV k/\r=C0 kvs k)\/∃kvs k b,Rd H a (.dT kvs)/\y = .ref b/\H b=some (.tup (k.map kV))/\r=C0 kvs k
def Fz (H:Hp)(a:Addr)(y v:V)(H':Hp):Prop:=
 (∃kvs k,H a=some (.dK kvs)/\y=kV k/\kvs.length<sizeLine/\H'=upd H a (.dK (CM kvs k v)))\/
 ∃kvs k b,H a=some (.dT kvs)/\y = .ref b/\H b=some (.tup (k.map kV))/\kvs.length<sizeLine/\H'=upd H a (.dT (CM kvs k v))
theorem G9.t {H:Hp}{a b:Addr}{kvs:List (List Ap×V)}{k:List Ap}(e:H a=some (.dT kvs))(eb:H b=some (.tup (k.map kV))):G9 H a (.ref b) (C0 kvs k):=.inr ⟨kvs,k,b,.inl e,rfl,eb,rfl⟩
theorem Fz.k {H:Hp}{a:Addr}{kvs:List (Ap×V)}{k:Ap}{v:V}(e:H a=some (.dK kvs))(hl:kvs.length<sizeLine):Fz H a (kV k) v (upd H a (.dK (CM kvs k v))):=.inl ⟨kvs,k,e,rfl,hl,rfl⟩
theorem Fz.t {H:Hp}{a b:Addr}{kvs:List (List Ap×V)}{k:List Ap}{v:V}(e:H a=some (.dT kvs))(eb:H b=some (.tup (k.map kV)))(hl:kvs.length<sizeLine) :
 Fz H a (.ref b) v (upd H a (.dT (CM kvs k v))):=.inr ⟨kvs,k,b,e,rfl,eb,hl,rfl⟩
section
variable {X:Cx}{pins:List (Addr×Obj)}{σ:St}{H:Hp}{s:Shared}{a:Addr}{y v:V}{u r:Value}{o:Option V}{A:Around}{E:Value->Shared->Prop}
theorem A2.big (I:A2 X pins σ H s):sysModules<s.heap.objs.size:=by
 have h:mainGlobals<s.heap.objs.size:=(I.mod.glob.keeps I.bk).lt
 exact P7 (by decide) h
theorem bo {Q:Value->Shared->Prop}(hu:A.units+1<cLine)(I:A2 X pins σ H s)(g:G9 H a y (some v))(ry:AD y u)(h:∀w' s',A2 X pins σ H s'->AD v w'->Q w' s') :
  wpAny (model X.prog X.w) A (getItem (.ref a) u) Q E s:=by
 rcases g with⟨kvs,k,e,ey,l⟩|⟨kvs,k,b,e,ey,eb,l⟩
 .subst ey
  obtain⟨z,hd,vs,rel,dd⟩:=KM I.hok e
  obtain⟨w',hw,rw'⟩:=DW.some_of (v:=v) (o:=valueAt vs k) (by rw[l];exact rel.val k)
  exact wpAny_getItem_of (Ks ry) dd.mapOf hw (h w' _ (I.tok _) rw')
 .subst ey
  cases (show u=Value.ref b from ry)
  obtain⟨z,hd,xs,rel,dd⟩:=JZ I.hok e
  obtain⟨w',hw,rw'⟩:=DW.some_of (v:=v) (o:=(atKey xs k).map (·.2)) (by rw[l];exact rel.val k)
  obtain⟨p,hp,hp2⟩:=Option.map_eq_some_iff.mp hw
  refine wpAny_getItem_heap (TF hu) (N1 I.hok eb) dd hp ?_
  rw[hp2]
  exact h w' _ (I.tok _) rw'
theorem P0 {h':Heap}{t':Nat}{ob:HO}(I:A2 X pins σ H s)(mu:JN (H a))(hs:Heap.SameBut a s.heap h')(he:∃q,h'.get? a=some q)(new:BB X.prog X.w (upd H a ob) h' a ob) :
  A2 X pins σ (upd H a ob) {s with heap:=h',toks:=t'}:=
 I.write (x:=a) (e:=a) mu (.inl rfl) (fun b q hb z=>(hs.2 b hb).trans z) he new
theorem Qe {P:Program}{w:World}{H':Hp}{h':Heap}{kvs:List (Ap×V)}{vs:List (Ap×Value)}(z:kvs.length<=sizeLine)(hd:(a==sysModules)=false)(rel:KV kvs vs)(dd:h'.DictOf (Dt P w) a vs) :
 BB P w H' h' a (.dK kvs):=⟨z,hd,vs,rel,dd⟩
theorem br {H':Hp}{Q:Unit->Shared->Prop}(hu:A.units+1<cLine)(I:A2 X pins σ H s)(g:Fz H a y v H')(ry:AD y u)(rv:AD v r)(h:∀s',A2 X pins σ H' s'->Q () s') :
  wpAny (model X.prog X.w) A (setItem (.ref a) u r) Q E s:=by
 rcases g with⟨kvs,k,e,ey,l,eH⟩|⟨kvs,k,b,e,ey,eb,l,eH⟩
 .subst ey eH
  obtain⟨z,hd,vs,rel,dd⟩:=Su I.hok e
  have hz:vs.length<=sizeLine:=by rw[←rel.length];exact z
  have hl:(CM kvs k v).length<=sizeLine:=by have:=OW kvs k v;lia
  refine wpAny_setItem_pairs (hsz:=hz) (Ks ry) dd fun h' dd' hs=>h _ ?_
  have he:∃q,h'.get? a=some q:=let ⟨q,_,_,hq,_⟩:=dd';⟨q,hq⟩
  exact P0 I (by rw[e];exact True.intro) hs he (Qe hl hd (rel.put k rv) dd')
 .subst ey eH
  cases (show u=Value.ref b from ry)
  obtain⟨z,hd,xs,rel,dd⟩:=OV I.hok e
  have hz:xs.length<=sizeLine:=by rw[←Paired.length rel];exact z
  have hl:(CM kvs k v).length<=sizeLine:=by have:=OW kvs k v;lia
  refine wpAny_setItem_heap (hsz:=hz) (TF hu) (N1 I.hok eb) dd fun h' dd' hs=>h _ ?_
  obtain⟨q,es,ep,hq,h2,h3,h4,_,h5⟩:=dd'
  refine P0 I (by rw[e];exact True.intro) hs ⟨q,hq⟩ ⟨hl,hd,_,(rel.put k eb rv).keeps fun c ys ec=>?_,q,es,ep,hq,h2,h3,h4,h5⟩
  rw[Af (EZ ec e (fun z=>nomatch z))]
  exact ec
end
section
variable {X:Cx}{pins:List (Addr×Obj)}{σ:St}{H:Hp}{s:Shared}{a:Addr}{kvs:List (Ap×V)}{k:Ap}{u:Value}{A:Around}{E:Value->Shared->Prop}
end
def SL (i:Expr):Prop := ∀ov iv,subscripted i false ov iv=operate [ov,iv] (getItem ov iv)
theorem U7 {prog:Program}{w:World}{A:Around}{E:Value->Shared->Prop}{s:Shared}{env:Env}{value slice:Expr}{pos:Pos}{T id:String}{Q:Value->Shared->Prop}
  (hl:typeLookup (.type T) "__getitem__"=pure (some (.builtin id))) (hs:SL slice)
  (h:wpAny (model prog w) A (eval value env) (fun o s₁=>wpAny (model prog w) A (eval slice env) (fun i s₂=>s₂.TypeIs o T/\wpAny (model prog w) A (getItem o i) Q E s₂) E s₁) E s) :
  wpAny (model prog w) A (eval (.Subscript value slice pos) env) Q E s:=by
 refine Subscript_ (CV h (fun o s₁ h₁=>CV h₁ (fun i s₂ h₂=>?_) fun _ _ x=>x) fun _ _ x=>x)
 obtain⟨hT,h₂⟩:=h₂
 unfold subscriptTail
 refine A1 ?_
 rw[getitemInPython_of_ne hT.not_modules]
 refine A1 (wpAny_specialOf hT hl ?_)
 have fin:wpAny (model prog w) A (subscripted slice false o i) (fun r s₃=>wpAny (model prog w) A (letTemporaryGo value o r>>=fun _=>pure r) Q E s₃) E s₂:=by
  rw[hs o i]
  exact wpAny_operating (CV h₂ (fun r s₃ h₃=>A1 (wpAny_letTemporaryGo (Ae h₃))) fun _ _ x=>x)
 first
  |exact Ae (A1 fin)
  |exact A1 (Ae (A1 fin))
  |exact A1 fin
theorem ZV {X:Cx}{pins:List (Addr×Obj)}{σ:St}{H:Hp}{s:Shared}{a:Addr}{y:V}{o:Option V}(I:A2 X pins σ H s)(g:G9 H a y o):s.TypeIs (.ref a) "dict":=by
 rcases g with⟨kvs,k,e,_,_⟩|⟨kvs,k,b,e,_,_,_⟩
 .obtain⟨_,_,vs,_,dd⟩:=KM I.hok e
  exact dd.typeIs
 .obtain⟨_,_,xs,_,dd⟩:=JZ I.hok e
  exact dd.typeIs
def UC (td ty:TE):TE:=fun σ H Q=>td σ H fun x H1=>ty σ H1 fun y H2=>∃a v,x = .ref a/\G9 H2 a y (some v)/\Q v H2
def Uc (td ty tv:TE):TS:=fun D σ H=>tv σ H fun v H1=>td σ H1 fun x H2=>ty σ H2 fun y H3=>∃a H4,x = .ref a/\Fz H3 a y v H4/\D.nx σ H4
section
variable {X:Cx}{o i e value:Expr}{pos pos' tpos:Pos}{td ty tv:TE}
theorem S6 (hu:X.A.units+1<cLine)(ho:PE X o td)(hi:PE X i ty)(hs:SL i):PE X (.Subscript o i pos) (UC td ty):=by
 intro pins s σ H Q I h
 refine U7 PySem.F.slot_dict_getitem.lookup hs (Ax (ho pins s σ H _ I h) fun u s1 zz=>?_)
 obtain⟨x,H1,I1,rx,q1⟩:=zz
 refine Ax (hi pins s1 σ H1 _ I1 q1) fun iv s2 zz=>?_
 obtain⟨y,H2,I2,ry,a,v,ex,g,q2⟩:=zz
 subst ex
 obtain rfl:u=Value.ref a:=rx
 exact⟨ZV I2 g,bo hu I2 g ry fun w' s3 I3 rw'=>⟨v,H2,I3,rw',q2⟩⟩
theorem NW (hu:X.A.units+1<cLine)(ho:PE X o td)(hi:PE X i ty)(hv:PE X value tv)(hs:swapsWith value (some (.Subscript o i pos')) pos.line X.env=pure false) :
  PS X (.Assign [.Subscript o i pos'] value pos) (Uc td ty tv):=by
 intro pins s σ H D I h
 refine wpAny_Assign_Subscript (Ax (hv pins s σ H _ I h) fun r s1 zz=>?_) hs
 obtain⟨v,H1,I1,rv,q1⟩:=zz
 refine Ax (ho pins s1 σ H1 _ I1 q1) fun u s2 zz=>?_
 obtain⟨x,H2,I2,rx,q2⟩:=zz
 refine Ax (hi pins s2 σ H2 _ I2 q2) fun iv s3 zz=>?_
 obtain⟨y,H3,I3,ry,a,H4,ex,g,q3⟩:=zz
 subst ex
 obtain rfl:u=Value.ref a:=rx
 exact br hu I3 g ry rv fun s4 I4=>⟨σ,H4,I4,q3⟩
end
theorem Y8 {P:Program}{w:World}{H:Hp}(h:Heap)(hb:sysModules<h.objs.size):BB P w H (h.push {cls:=.type "dict",data:=.dict #[]}) h.objs.size (.dK []):=
 ⟨Bk _,Iu.mpr (Ne.symm (AN hb)),[],.nil,Heap.DictOf.new h⟩
theorem XD {P:Program}{w:World}{H:Hp}(h:Heap)(hb:sysModules<h.objs.size):BB P w H (h.push {cls:=.type "dict",data:=.dict #[]}) h.objs.size (.dT []):=
 ⟨Bk _,Iu.mpr (Ne.symm (AN hb)),[],.nil,_,#[],0,B8 _ rfl,⟨rfl,rfl,rfl⟩,rfl,rfl,P8⟩
def WN:TE:=fun _ H Q=>∀p,H p=none->Q (.ref p) (upd H p (.dT []))
section
variable {X:Cx}{pos:Pos}
theorem Zd:PE X (.Dict [] [] pos) WN:=fun pins s σ H Q I h=>
 wpAny_Dict_empty ⟨.ref s.heap.objs.size,_,I.laid (a:=s.heap.objs.size) (o:=.dT []) (t':=s.toks) (fun _ _ q=>Aw _ q) (Ah _) (XD s.heap I.big),rfl,h _ (I.hok.fresh (Ah _))⟩
end
structure M2 (X:Cx)(o:Expr)(m:Str)(apos:Pos)(e f:Expr)(cpos:Pos):Prop where
 base:attributeBase o m X.env (eval o X.env)=eval o X.env
 few:((backTo cpos (starEach [e,f] X.env)).all (fun x=>!x.1)&&(backToKw cpos (keywordEach [] X.env)).all (fun x=>x.1.isSome)
  && decide (([e,f]:List Expr).length+([]:List Keyword).length+(if([]:List Keyword).isEmpty then 0 else 1)<30))=true
 line:(apos.endLine==cpos.line)=true
 trees:backTo cpos (starEach [e,f] X.env)=[(false,eval e X.env),(false,eval f X.env)]
def T9 (H:Hp)(a:Addr):Prop:=(∃kvs,Rd H a (.dK kvs))\/∃kvs,Rd H a (.dT kvs)
theorem Os {X:Cx}{pins:List (Addr×Obj)}{σ:St}{H:Hp}{s:Shared}{a:Addr}(I:A2 X pins σ H s)(d:T9 H a) :
  s.TypeIs (.ref a) "dict"/\(∀b,Value.ref a = .ref b->∃ob,s.heap.get? b=some ob/\ob.dict=none)/\(a==sysModules)=false:=by
 rcases d with⟨kvs,e⟩|⟨kvs,e⟩
 .obtain⟨_,hd,vs,_,dd⟩:=KM I.hok e
  refine⟨dd.typeIs,fun b q=>?_,hd⟩
  cases q
  obtain⟨ob,_,_,h1,h2,_⟩:=dd
  exact⟨ob,h1,h2.2.1⟩
 .obtain⟨_,hd,xs,_,dd⟩:=JZ I.hok e
  refine⟨dd.typeIs,fun b q=>?_,hd⟩
  cases q
  obtain⟨ob,_,_,h1,h2,_⟩:=dd
  exact⟨ob,h1,h2.2.1⟩
section
variable {X:Cx}{pins:List (Addr×Obj)}{σ:St}{H:Hp}{s:Shared}{a:Addr}{y d:V}{u r:Value}{o:Option V}{A:Around}{E:Value->Shared->Prop}
theorem ae {Q:Value->Shared->Prop}(hu:A.units+1<cLine)(I:A2 X pins σ H s)(g:G9 H a y o)(ry:AD y u)(rd:AD d r)(h:∀w' s',A2 X pins σ H s'->AD (o.getD d) w'->Q w' s') :
  wpAny (model X.prog X.w) A (call (.builtin "dict.get") [.ref a,u,r]) Q E s:=by
 rcases g with⟨kvs,k,e,ey,l⟩|⟨kvs,k,b,e,ey,eb,l⟩
 .subst ey
  obtain⟨z,hd,vs,rel,dd⟩:=KM I.hok e
  refine Pn Ti dd.typeIs PySem.F.entry_dict_get (PySem.F.args_dict_get_3 _ _ _) (meets_dict_get_default (Dt X.prog X.w) a (Ks ry) hd r) ⟨_,dd.mapOf,h _ _ (I.tok _) ?_⟩
  rw[l]
  exact(rel.val k).getD rd
 .subst ey
  cases (show u=Value.ref b from ry)
  obtain⟨z,hd,xs,rel,dd⟩:=JZ I.hok e
  refine Pn Ti dd.typeIs PySem.F.entry_dict_get (PySem.F.args_dict_get_3 _ _ _) (meetsH_dict_get_default (tupleKind (Dt X.prog X.w)) a b hd r) ⟨TF hu,k,xs,N1 I.hok eb,dd,h _ _ (I.tok _) ?_⟩
  rw[l]
  exact(rel.val k).getD rd
end
def Zi (td ty tx:TE):TE:=fun σ H Q=>td σ H fun x H1=>∃a,x = .ref a/\T9 H1 a/\ty σ H1 fun y H2=>tx σ H2 fun z H3=>∃o,G9 H3 a y o/\Q (o.getD z) H3
section
variable {X:Cx}{o e f:Expr}{apos cpos:Pos}{td ty tx:TE}
theorem ZS (hu:X.A.units+1<cLine)(ho:PE X o td)(he:PE X e ty)(hf:PE X f tx)(m:M2 X o "get" apos e f cpos):PE X (.Call (.Attribute o "get" apos) [e,f] [] cpos) (Zi td ty tx):=by
 intro pins s σ H Q I h
 refine TH m.base m.few m.line Tj Ti PySem.F.type_dict_get (Ax (ho pins s σ H _ I h) fun u s1 zz=>?_)
 obtain⟨x,H1,I1,rx,a,ex,d,q1⟩:=zz
 subst ex
 obtain rfl:u=Value.ref a:=rx
 obtain⟨t1,t2,_⟩:=Os I1 d
 refine⟨t1,t2,?_⟩
 rw[m.trees]
 refine Calls.callWith_builtin rfl (Calls.evalArgs_plain (Calls.spliced_cons (Ax (he pins s1 σ H1 _ I1 q1) fun iv s2 ⟨y,H2,I2,ry,q2⟩=>
  Calls.spliced_cons (Ax (hf pins s2 σ H2 _ I2 q2) fun fv s3 ⟨z,H3,I3,rz,ov,g,q3⟩=>Calls.spliced_nil ?_))))
 exact ae hu I3 g ry rz fun w' s4 I4 rw'=>⟨_,H3,I4,rw',q3⟩
end
section
variable {X:Cx}{pins:List (Addr×Obj)}{σ:St}{H:Hp}{s:Shared}{a:Addr}{kvs:List (Ap×V)}{A:Around}{E:Value->Shared->Prop}
end
section
variable {X:Cx}{pins:List (Addr×Obj)}{σ:St}{H:Hp}{s:Shared}{a:Addr}{y:V}{u:Value}{A:Around}{E:Value->Shared->Prop}
end
end L2
namespace Att
open PySem PySem.W PySem.Calls PyProof.Rows
theorem UZ {P:Params}{h:Heap}:∀(ns:List Int) (vs:List Value),WellAll P h vs (ns.map WData.int)->IntsAre vs ns:=by
 intro ns
 induction ns with
 |
  nil=>
  intro vs w
  rw[N9]at w
  cases w
  exact .nil
 |
  cons n ns ih=>
  intro vs w
  rw[BY]at w
  cases w with
  |
   cons a b=>
   cases a
   exact .cons _ _ (ih _ b)
theorem VB {l:OpenLaw}{n:Nat}(hn:l.most=some n){P:Params}{h:Heap}{args:List WData}{vals:List Value}
  (hpre:l.row.toRowW.claim.pre args=true) (hwl:WellAll P h vals args) :
  ∃a vs ns,vals=[Value.ref a]/\args=[WData.list (ns.map WData.int)]/\h.get? a=some {cls:=.type "list",data:=.seq vs.toArray}/\IntsAre vs ns/\ns.length<=n:=by
 have hsh:WShape.hasAll [] args [.list .int]=true:=(pre_splitW hpre).1
 have hc:l.pre.holds [] {args:=args}=true:=(pre_splitW hpre).2
 obtain⟨d,r,rfl,h1,h2⟩:=hasAllW_cons hsh
 obtain rfl:=hasAllW_nil h2
 obtain⟨xs,rfl,h3⟩:=hasW_list h1
 obtain⟨ns,rfl⟩:=items_int h3
 have hlen:ns.length<=n:=by
  unfold OpenLaw.pre at hc
  have h4:(WTm.not (.lt (.lit (.int (n:Int))) (.len (.arg 0)))).holds [] {args:=[.list (ns.map .int)]}=true:=by
   have h4:=(holds_andW hc).1
   rw[hn]at h4
   exact h4
  have h5:=condW_of h4 (w_not (w_lt w_lit (w_len_list (w_arg rfl))))
  rw[Al]at h5
  refine Nat.le_of_not_lt fun q=>?_
  have q':(n:Int)<((ns.length:Nat):Int):=by lia
  first
   |(rw[Da q']at h5;exact absurd h5 (by decide))
   |(simp at h5;lia)
 cases hwl with
 |
  cons w1 w2=>
  cases w2
  cases w1 with
  |list ho hall=>exact⟨_,_,ns,rfl,rfl,ho,UZ ns _ hall,hlen⟩
theorem YI (l:OpenLaw)(args:List WData):l.row.toRowW.claim.post args (.bool true) args=true:=
 postW_of (r:=l.row.toRowW) (X:=(true==true))
  (show WShape.has [] (.bool true) .bool=true by first|rfl|decide|simp[WShape.has,WShape.arms,WShape.armsAll])
  (show(WTm.eq .res (.lit (.bool true))).value [] {args:=args,res:=some (.bool true),after:=args}=some (.bool (true==true)) from w_eq_bool (w_res rfl) w_lit) rfl
theorem attach_call {l:OpenLaw}{n:Nat}{q:Program}{loose:List Str}{XP:(Str->Option Value)->Heap->Prop}{YP:World->Heap->Prop}{d:DefRec}
  (hn:l.most=some n) (hdf:d.params.defaults=[])
  (call:∀(w:World) (s₀ s₁:Shared) (mg mb:Str->Option Value) (fa:Addr) (o:Obj) (pm cd doc:Value) (a:Addr) (vs:List Value) (ns:List Int),
   Ground q loose [] XP w s₀ mg mb s₁.heap->YP w s₁.heap->
   s₁.heap.get? fa=some o->o.data = .func (docDef d.name d.params d.body d.scope pm cd doc)->s₁.heap.CodeRec cd d.name->mg d.name=some (.ref fa)->
   s₁.heap.get? a=some {cls:=.type "list",data:=.seq vs.toArray}->IntsAre vs ns->ns.length<=n->s₁.gens = #[]->
   codeAny (model l.prog w) callerA (.call (.ref fa) ⟨[.ref a],[]⟩) (fun r s'=>r = .ok (.ret (.bool true))/\OldK s₁.heap s'.heap/\s'.os=s₁.os/\AllBare s'.gens) s₁) :
  WalkO q loose XP YP l.row.toRowW d [] (fun f vs=>PySem.call f vs):=by
 intro w s₀ s₁ mg mb G Y fa o pm cd doc dV kV ho hd hcd hD hmg hg args vals as hpre hlay hrd hwl hlo
 obtain rfl:dV = .none:=Dflts.none hD hdf
 obtain rfl:kV = .none:=Dflts.noKw hD
 obtain⟨a,vs,ns,rfl,rfl,hobj,hints,hlen⟩:=VB hn hpre hwl
 refine enter_call (JI (call w s₀ s₁ mg mb fa o pm cd doc a vs ns G Y ho (fd_plain hd) hcd hmg hobj hints hlen hg) fun r s' hq=>?_)
 obtain⟨rfl,h2,h3,h4⟩:=hq
 exact⟨.inl ⟨.bool true,.bool true,[],rfl,fun _=>rfl,.bool true,YI l _,fun _=>⟨List.Pairwise.nil,fun _ hm=>(nomatch hm)⟩⟩,h2,h3,h4⟩
section
variable {prog:Program}{w:World}{A:Around}{E:Value->Shared->Prop}{s:Shared}{K:Frag}
end
end Att
namespace L2
open PySem PySem.Spec PyProof.Rows
theorem QW:∀{vs:List Value} {ns:List Int},IntsAre vs ns->Az (ns.map V.int) vs
 |_,_,.nil=>.nil
 |_,_,.cons n t h=>.cons ⟨t,rfl⟩ (QW h)
def Mr (H:Hp):Prop := ∀b,H b=none\/∃o xs,H b=some (.frz o (.lst xs))
theorem Xl {P:Program}{w:World}{K:Faa}{mg mb:Str->Option Value}{CX:EE}{k:Nat}{fa a:Addr}{fd:FuncData}{x:Str}{sp:Sp}{s₁:Shared}{vs:List Value}{ns:List Int}
  (KX:K.In s₁.heap) (hns:s₁.heap.Ns mainGlobals mg) (hb:s₁.heap.Ns builtinsNs mb) (hbb:∀x:Str,x≠"__name__"->mb x=bootBuiltins x) (hlim:s₁.heap.NoLimit) (hg:s₁.gens = #[])
  (ha:s₁.heap.get? a=some {cls:=.type "list",data:=.seq vs.toArray}) (hi:IntsAre vs ns) (hl:ns.length<=sizeLine) (hr:Cb k callerA)
  (F:∀base:Heap,K.In base->base.Ns mainGlobals mg->AU P w K mg base CX k fa fd [x] sp) (hbind:∀(s:Shared) (u:Value),BindsTo s fd ⟨[u],[]⟩ [(x,u)])
  (hsp:∀H:Hp,Mr H->A5 K H a (ns.map V.int)->sp [.ref a] H (fun v _=>v = .bl true) fun _ _ _=>False)
  (hCX:∀H e s',CX [] H s₁ (fun _ _ _=>False) e s'->False) :
  codeAny (model P w) callerA (.call (.ref fa) ⟨[.ref a],[]⟩) (fun r s'=>r = .ok (.ret (.bool true))/\OldK s₁.heap s'.heap/\s'.os=s₁.os/\AllBare s'.gens) s₁:=by
 have rv:=QW hi
 have lenV:=hi.length
 have core:∀H:Hp,Mr H->A5 K H a (ns.map V.int)->Bv P w H s₁.heap->(∀b,H b≠none->b=a)->(H a≠none->K.lookup a=none)->
   codeAny (model P w) callerA (.call (.ref fa) ⟨[.ref a],[]⟩) (fun r s'=>r = .ok (.ret (.bool true))/\OldK s₁.heap s'.heap/\s'.os=s₁.os/\AllBare s'.gens) s₁:=by
  intro H hO hS hok hA hK
  have base_of:∀{b:Addr} {o:Obj},s₁.heap.get? b=some o->H b=none->(G6 s₁.heap H).get? b=some o:=fun e n=>cM e n
  have noA:∀{b:Addr} {o:Obj} {es:Array DictEntry} {ep:Nat},s₁.heap.get? b=some o->o.data = .dict es ep->H b=none:=fun{b o es ep} e d=>by
   cases q:H b with
   |none=>rfl
   |
    some u=>
    have e':b=a:=hA b (by rw[q];simp)
    subst e'
    rw[ha]at e;cases e
    have d':Data.seq vs.toArray _=Data.dict es ep:=d
    cases d'
  have nsK:∀{b:Addr} {m:Str->Option Value},s₁.heap.Ns b m->(G6 s₁.heap H).Ns b m:=fun{b m} ⟨o,es,ep,e,d,r⟩=>⟨o,es,ep,base_of e (noA e d),d,r⟩
  have hKb:K.In (G6 s₁.heap H):=fun b o e=>base_of (KX b o e) (by
   cases q:H b with
   |none=>rfl
   |
    some u=>
    have e':b=a:=hA b (by rw[q];simp)
    subst e'
    rw[hK (by rw[q];simp)]at e;cases e)
  have hM:Mod K mg (G6 s₁.heap H):=⟨hKb,nsK hns,⟨mb,nsK hb,hbb⟩,let ⟨mc,h1,h2⟩:=hlim;⟨mc,nsK h1,h2⟩⟩
  have e0:Hn P w K mg (G6 s₁.heap H) callerA [] s₁ H:=⟨rfl,hM,fun b o e=>UD e,P2 (VU _ _),trivial,fun b hb=>absurd (show b∈([]:List Addr) from hb) (by simp),hok,.of_eq hg⟩
  refine JI ((F _ hKb (nsK hns)).run callerA [] s₁ H ⟨[.ref a],[]⟩ [.ref a] [.ref a] _ _ hr e0 (hbind s₁ (.ref a)) (.cons rfl .nil) (hsp H hO hS)) fun r s' h=>?_
  cases r with
  |error e=>exact(hCX H e s' h).elim
  |
   ok fl=>
   cases fl with
   |next=>exact False.elim h
   |brk=>exact False.elim h
   |cont=>exact False.elim h
   |
    ret u=>
    obtain⟨v,H',os,bare,un,hok',r',q⟩:=h
    have q':v = .bl true:=q
    subst q'
    obtain rfl:u=Value.bool true:=r'
    refine⟨rfl,OldK.of_keep fun b o e=>?_,os,bare⟩
    cases q:H b with
    |none=>exact un.keep b o e q (by intro z;exact absurd (show b∈([]:List Addr) from z) (by simp)) (by simp)
    |
     some u=>
     rcases hO b with z|⟨ob,xs,z⟩
     .rw[q]at z;cases z
     .have z2:=un.frzs b ob _ z
      obtain⟨e1,_⟩:=hok b _ z
      obtain⟨e2,_⟩:=hok' b _ z2
      rw[e]at e1;cases e1
      exact e2
 cases hk:K.lookup a with
 |
  some o=>
  have e:=KX a o hk
  rw[ha]at e
  cases e
  refine core (fun _=>none) (fun _=>.inl rfl) (.inr ⟨_,vs.toArray,_,hk,rfl,rfl,rfl,by rw[AZ,lenV];exact hl,by simpa using rv⟩) (fun b u z=>by have z':(none:Option HO)=some u:=z;cases z') (fun b z=>absurd rfl z) fun z=>absurd rfl z
 |
  none=>
  refine core (fun b=>if b=a then some (.frz {cls:=.type "list",data:=.seq vs.toArray} (.lst (ns.map V.int))) else none) (fun b=>?_) (.inl (.inr ⟨{cls:=.type "list",data:=.seq vs.toArray},Aj rfl⟩)) (fun b u z=>?_) (fun b z=>?_) fun _=>hk
  .by_cases hb:b=a
   .exact .inr ⟨_,_,Aj hb⟩
   .exact .inl (Ab hb)
  .by_cases hb:b=a
   .have z':=(Aj hb).symm.trans z
    cases z'
    subst hb
    exact⟨ha,by rw[Al];exact hl,vs,_,rv,ha⟩
   .have z':=(Ab hb).symm.trans z
    cases z'
  .by_cases hb:b=a
   .exact hb
   .exact absurd (Ab hb) z
theorem walk_of {l:PySem.W.OpenLaw}{n k:Nat}{q:Program}{loose:List Str}{XP:(Str->Option Value)->Heap->Prop}{YP:World->Heap->Prop}{d:DefRec}{K:Params->Faa}{CX:World->EE}{sp:World->Sp}{x:Str}
  (hn:l.most=some n) (hn2:n<=sizeLine) (hdf:d.params.defaults=[]) (hr:Cb k callerA)
  (hY:∀(w:World) (h:Heap),YP w h->(K w.params).In h)
  (F:∀(w:World) (mg:Str->Option Value) (fa:Addr) (h:Heap),(K w.params).In h->h.Ns mainGlobals mg->mg d.name=some (.ref fa)->
   ∃fd:FuncData,(∀(s:Shared) (u:Value),BindsTo s fd ⟨[u],[]⟩ [(x,u)])/\
    ∀base:Heap,(K w.params).In base->base.Ns mainGlobals mg->AU l.prog w (K w.params) mg base (CX w) k fa fd [x] (sp w))
  (hsp:∀(w:World) (H:Hp) (a:Addr) (ns:List Int),ns.length<=n->Mr H->A5 (K w.params) H a (ns.map V.int)->sp w [.ref a] H (fun v _=>v = .bl true) fun _ _ _=>False)
  (hCX:∀(w:World) (H:Hp) (s:Shared) (e:Value) (s':Shared),CX w [] H s (fun _ _ _=>False) e s'->False) :
  PySem.W.WalkO q loose XP YP l.row.toRowW d [] (fun f vs=>PySem.call f vs):=by
 refine Att.attach_call hn hdf fun w s₀ s₁ mg mb fa o pm cd doc a vs ns G Y ho hd hcd hmg hobj hints hlen hg=>?_
 have KX:=hY w _ Y
 obtain⟨fd,hb,hF⟩:=F w mg fa _ KX G.T.g hmg
 exact Xl KX G.T.g G.T.b G.T.builtins G.T.nolimit hg hobj hints (Cz hlen hn2) hr hF hb (fun H hO hS=>hsp w H a ns hlen hO hS) fun H e s'=>hCX w H s₁ e s'
def MJ (s:Stmt)(j:Nat):Stmt:=match s with
 |.ClassDef _ _ _ body _ _ _ _ _ _ _=>body.getD j (.Pass ⟨0,0,0,0⟩)
 |_=>.Pass ⟨0,0,0,0⟩
def Kh (s:Stmt):Arguments:=match s with
 |.FunctionDef _ a _ _ _ _ _ _ _ _=>a
 |_=>{posonlyargs:=[],args:=[],vararg:=none,kwonlyargs:=[],kw_defaults:=[],kwarg:=none,defaults:=[]}
def GZ (s:Stmt):List Stmt:=match s with
 |.FunctionDef _ _ b _ _ _ _ _ _ _=>b
 |_=>[]
def AK (s:Stmt):Scope:=match s with
 |.FunctionDef _ _ _ _ _ _ sc _ _ _=>sc
 |_=>{kind:=.function,names:=[],isGenerator:=false,isCoroutine:=false}
abbrev Be:EE:=fun _ _ _ _ _ _=>False
abbrev E0:XK:=fun _ _ _=>False
theorem AG {X:Cx}:J6 Be X E0:=fun _ _ _ _ _ _ _ h=>h.elim
structure AW (K:Faa)(x qual:Str)(st:Stmt)(f:Addr)(fd:FuncData):Prop where
 ex:∃(oc:Value) (od:Option Addr) (kV doc pm:Value) (an:Option Addr) (cdv ct:Value) (osl:Array (Option Value)),
  fd=PySem.W.fnOf x qual (Kh st) (GZ st) (AK st) .none kV doc pm an cdv ct/\K.lookup f=some ⟨oc,od,.func fd,osl⟩/\PySem.W.codeIn K cdv qual=true
 kp:PySem.W.keepIn K (.ref f)=true
section
variable {P:Program}{w:World}{K:Faa}{mg:Str->Option Value}{base:Heap}
theorem AW.ok {x qual:Str}{st:Stmt}{f:Addr}{fd:FuncData}{N ps:List Str}{k:Nat}{sp:Sp}(F:AW K x qual st f fd)(S:B7 N ps (AK st))(len:∀vs H Q E,sp vs H Q E->vs.length=ps.length)
  (hbody:∀(cdv:Value) (A:Around) (outer:List Env) (s:Shared) (H:Hp) (vs:List V) (Q:VK) (E:XK),Cb k (A.deeper (envOfC qual (AK st) s.heap.objs.size f cdv))->sp vs H Q E->
   ∃t,DS (GL Be P w K mg base N qual (AK st) f cdv A outer s H E).nox (GZ st) t/\t {nx:=fun _ H'=>Q .non H',rt:=Q} (start N vs) H):AU P w K mg base Be (k+1) f fd ps sp:=by
 obtain⟨oc,od,kV,doc,pm,an,cdv,ct,osl,rfl,lk,hcd⟩:=F.ex
 refine Se lk hcd S len fun A outer s H vs Q E hr hsp=>?_
 obtain⟨t,h,q⟩:=hbody cdv A outer s H vs Q E hr hsp
 exact⟨t,h.nox,q⟩
theorem AW.binds {x qual:Str}{st:Stmt}{f:Addr}{fd:FuncData}{ps:List Str}(F:AW K x qual st f fd)
  (h:∀(kV doc pm:Value) (an:Option Addr) (cdv ct:Value) (us:List Value),us.length=ps.length->bindArgs (PySem.W.fnOf x qual (Kh st) (GZ st) (AK st) .none kV doc pm an cdv ct) ⟨us,[]⟩=pure (ps.zip us)):AY K fd ps []:=by
 obtain⟨oc,od,kV,doc,pm,an,cdv,ct,osl,rfl,lk,hcd⟩:=F.ex
 exact .all (h kV doc pm an cdv ct)
theorem fun_mk {x qual:Str}{st:Stmt}{f:Addr}{oc:Value}{od an:Option Addr}{osl:Array (Option Value)}{kV doc pm cdv ct:Value}(l:K.lookup f=some ⟨oc,od,.func (PySem.W.fnOf x qual (Kh st) (GZ st) (AK st) .none kV doc pm an cdv ct),osl⟩)
 (c:PySem.W.codeIn K cdv qual=true) (k:PySem.W.keepIn K (.ref f)=true):AW K x qual st f (PySem.W.fnOf x qual (Kh st) (GZ st) (AK st) .none kV doc pm an cdv ct):=⟨⟨oc,od,kV,doc,pm,an,cdv,ct,osl,rfl,l,c⟩,k⟩
end
theorem J9 {A:Around}{k:Nat}(hr:Cb k A):A.units+1<cLine:=Nat.lt_of_le_of_lt (Nat.add_le_add_left (by decide:1<=64) _) hr.units
section
variable {X:Cx}
theorem pv (i:Nat){x:Str}{pos:Pos}(hN:X.N[i]?=some x:=by rfl)(hv:Ky X.env.scope x:=by first|exact Or.inl rfl|exact Or.inr (.inl rfl)|exact Or.inr (.inr rfl))(hd:(x==("__debug__":Str))=false:=by decide)
 (hcd:(x==("__classdict__":Str))=false:=by decide):PE X (.Name x pos) (SK i):=WL hN hv hd hcd
end
theorem BW {A B:Prop}(h:B):if false=true then A else B:=by
 rw[Ab CH]
 exact h
theorem Ce {A B:Prop}(h:A):if true=true then A else B:=by
 rw[Aj rfl]
 exact h
theorem BJ {c A B:Prop}[Decidable c](h1:c->A)(h2:¬c->B):if c then A else B:=by
 by_cases h:c
 .rw[Aj h]
  exact h1 h
 .rw[Ab h]
  exact h2 h
def A8 (H H':Hp):Prop := ∀b o,H b=some o->H' b=some o
theorem A8.refl (H:Hp):A8 H H:=fun _ _ h=>h
theorem A8.trans {H H1 H2:Hp}(a:A8 H H1)(b:A8 H1 H2):A8 H H2:=fun c o h=>b c o (a c o h)
theorem A8.free {H H':Hp}(e:A8 H H'){l:Addr}(h:H' l=Option.none):H l=Option.none:=by
 cases q:H l with
 |none=>rfl
 |
  some o=>
  rw[e l o q]at h
  cases h
theorem A8.seq {K:Faa}{H H':Hp}{a:Addr}{xs:List V}(e:A8 H H')(h:A5 K H a xs):A5 K H' a xs:=by
 rcases h with(h|⟨o,h⟩)|h
 .exact .inl (.inl (e _ _ h))
 .exact .inl (.inr ⟨o,e _ _ h⟩)
 .exact .inr h
section
variable {κ:Type}[DecidableEq κ]
end
theorem O7 (env:Env):∀(l:List (Str×NameKind)) (cs:List (Str×Addr)),(∀n,(n,NameKind.free)∈l->∃c,env.cells.lookup n=some c)->(∀x c,cs.lookup x=some c->env.cells.lookup x=some c)->
  ∃cl,(forIn l cs fun x s=>if(x.snd==NameKind.free)=true then do let c ←cellOf env x.fst;pure (ForInStep.yield ((x.fst,c)::s)) else pure (ForInStep.yield s))=(pure cl:Sem (List (Str×Addr)))/\
   (∀x c,cl.lookup x=some c->env.cells.lookup x=some c)/\(∀n,(n,NameKind.free)∈l->∃c,cl.lookup n=some c)/\∀n c,cs.lookup n=some c->∃c',cl.lookup n=some c'
 |[],cs,_,h=>⟨cs,rfl,h,(fun _ z=>nomatch z),(fun n c e=>⟨c,e⟩)⟩
 |
  (n,k)::r,cs,hf,h=>by
  by_cases hk:k = .free
  .subst hk
   obtain⟨c,hc⟩:=hf n BN
   have e:cellOf env n=pure c:=by unfold cellOf;rw[hc]
   obtain⟨cl,e1,h1,h2,h3⟩:=O7 env r ((n,c)::cs) (fun m hm=>hf m (C6 _ hm)) (fun x c' q=>by
    rw[GO]at q
    by_cases hx:x=n
    .subst hx;simp at q;subst q;exact hc
    .have:(x==n)=false:=by simpa using hx
     rw[this]at q;exact h x c' q)
   refine⟨cl,?_,h1,fun m hm=>?_,fun m c' q=>?_⟩
   .rw[Na]
    show((do let c ←cellOf env n;pure (ForInStep.yield ((n,c)::cs)))>>=_)=_
    rw[e]
    exact e1
   .rcases AS.mp hm with z|z
    .cases z;exact h3 n c (by simp)
    .exact h2 m z
   .by_cases hx:m=n
    .subst hx;exact h3 m c (by simp)
    .have:(m==n)=false:=by simpa using hx
     exact h3 m c' (by rw[GO,this];exact q)
  .have hb:(k==NameKind.free)=false:=by simpa using hk
   obtain⟨cl,e1,h1,h2,h3⟩:=O7 env r cs (fun m hm=>hf m (C6 _ hm)) h
   refine⟨cl,?_,h1,fun m hm=>?_,h3⟩
   .rw[Na]
    dsimp only
    rw[hb]
    exact e1
   .rcases AS.mp hm with z|z
    .cases z;exact absurd rfl hk
    .exact h2 m z
theorem QG {scope:Scope}{env:Env}(h:∀n,(n,NameKind.free)∈scope.names->∃c,env.cells.lookup n=some c) :
  ∃cl,closureFor scope env=pure cl/\(∀x c,cl.lookup x=some c->env.cells.lookup x=some c)/\∀n,(n,NameKind.free)∈scope.names->∃c,cl.lookup n=some c:=by
 obtain⟨cl,e,h1,h2,_⟩:=O7 env scope.names [] h (fun _ _ z=>by simp at z)
 refine⟨cl,?_,h1,h2⟩
 simp only[closureFor]
 rw[e]
 rfl
def CW (X:Cx)(scope:Scope)(N':List Str)(cl:List (Str×Addr))(C:Addr)(s:Shared)(H:Hp)(fp:List Addr)(pins:List (Addr×Obj)):Cx where
 prog:=X.prog
 w:=X.w
 K:=X.K
 mg:=X.mg
 base:=X.base
 A:=X.A
 N:=N'
 s₀:=s
 H₀:=H
 env:=compEnvC scope cl C X.env
 outer:=X.stack
 stack:=X.stack
 ex:=fp
 calm:=X.calm
 fn:=fun _=>false
 pn:=X.pn++pins
 xe:=fun _ _=>False
structure IR (sc:Scope)(out:Scope):Prop where
 kind:sc.kind = .function
 cell:∀y∈sc.names,y.2≠.cell
 loc:∀y∈sc.names,y.2 = .local->sc.names.lookup y.1=some .local
 free:∀y∈sc.names,y.2 = .free->out.names.lookup y.1=some .cell\/out.names.lookup y.1=some .free
def Cf (ρ:List (Option Nat))(σ:St):St:=ρ.map fun o=>match o with|some i=>(σ[i]?).getD none|none=>none
def KJ (sc:Scope)(env:Env)(N N':List Str)(ρ:List (Option Nat)):Prop:=
 ρ.length=N'.length/\∀(j i:Nat) (x:Str),ρ[j]?=some (some i)->N'[j]?=some x->N[i]?=some x/\Ky env.scope x/\(x,NameKind.free)∈sc.names
theorem Rb {names:List (Str×NameKind)}{env:Env}{x:Str}{k:NameKind}(h:(names.map fun(n,k)=>if(k==NameKind.free&&env.scope.kind == .function&&env.kindOf n==some .cell) then(n,NameKind.cell) else(n,k)).lookup x=some k)
  (hk:k = .cell\/k = .free) (hc:∀y∈names,y.2≠.cell):(x,NameKind.free)∈names:=by
 induction names with
 |nil=>simp at h
 |
  cons p r ih=>
  obtain⟨n,k'⟩:=p
  by_cases hx:x=n
  .subst hx
   have hk':k' = .free:=by
    by_cases hc':(k'==NameKind.free&&env.scope.kind == .function&&env.kindOf x==some .cell)=true
    .simp only[F7,GR]at hc'
     exact hc'.1.1
    .simp only[BY]at h
     rw[Ab hc']at h
     simp at h
     subst h
     rcases hk with z|z
     .exact absurd z (hc (x,k') BN)
     .exact z
   rw[hk'];exact BN
  .have hb:(x==n)=false:=by simpa using hx
   refine C6 _ (ih ?_ fun y hy=>hc y (C6 _ hy))
   simp only[BY]at h
   by_cases hc':(k'==NameKind.free&&env.scope.kind == .function&&env.kindOf n==some .cell)=true
   .rw[Aj hc',GO,hb]at h;exact h
   .rw[Ab hc',GO,hb]at h;exact h
theorem V8:∀{names:List (Str×NameKind)} {env:Env} {x:Str},(x,NameKind.free)∈names->(names.map fun(n,k)=>if(k==NameKind.free&&env.scope.kind == .function&&env.kindOf n==some .cell) then(n,NameKind.cell) else(n,k)).lookup x=some .cell\/
  (names.map fun(n,k)=>if(k==NameKind.free&&env.scope.kind == .function&&env.kindOf n==some .cell) then(n,NameKind.cell) else(n,k)).lookup x=some .free\/names.lookup x≠some .free:=by
 intro names env x hm
 by_cases hl:names.lookup x=some .free
 .induction names with
  |nil=>simp at hl
  |
   cons p r ih=>
   obtain⟨n,k'⟩:=p
   by_cases hx:x=n
   .subst hx
    simp at hl
    subst hl
    by_cases hc':(NameKind.free==NameKind.free&&env.scope.kind == .function&&env.kindOf x==some .cell)=true
    .left;simp only[BY];rw[Aj hc'];simp
    .right;left;simp only[BY];rw[Ab hc'];simp
   .have hb:(x==n)=false:=by simpa using hx
    rw[GO,hb]at hl
    have hm':(x,NameKind.free)∈r:=by
     rcases AS.mp hm with z|z
     .cases z;exact absurd rfl hx
     .exact z
    have q:=ih hm' hl
    simp only[BY]
    by_cases hc':(k'==NameKind.free&&env.scope.kind == .function&&env.kindOf n==some .cell)=true
    .rw[Aj hc',GO,hb,GO,hb];exact q
    .rw[Ab hc',GO,hb,GO,hb];exact q
 .exact .inr (.inr hl)
section
variable {X:Cx}{pins:List (Addr×Obj)}{σ:St}{H:Hp}{s:Shared}{scope:Scope}{N':List Str}{ρ:List (Option Nat)}{cl:List (Str×Addr)}{fp:List Addr}{C D:Addr}
theorem VS (I:A2 X pins σ H s)(S:IR scope X.env.scope)(hf:∀b∈fp,F4 X pins H b)(h1:∀x c,cl.lookup x=some c->X.env.cells.lookup x=some c)(h2:∀n,(n,NameKind.free)∈scope.names->∃c,cl.lookup n=some c)
  (hC:s.heap.objs.size<=C) (hfs:∀b∈fp,b<s.heap.objs.size):(CW X scope N' cl C s H fp pins).Ok where
 mod:=I.ok.mod
 kind:=S.kind
 glob:=I.ok.glob
 blt:=I.ok.blt
 above:=hC
 inj:=fun x y c e1 e2=>I.ok.inj x y c (h1 x c e1) (h1 y c e2)
 has:=fun x hk=>h2 x (by
  rcases hk with hk|hk
  .exact Rb (env:=X.env) hk (.inl rfl) S.cell
  .exact Rb (env:=X.env) hk (.inr rfl) S.cell)
 cab:=fun _ _ z=>nomatch z
 hd:=I.ok.hd
 frames:=I.ok.frames
 stk:=.inl rfl
 exf:=fun b hb=>⟨AN (BS (hfs b hb) hC),fun x c e=>(hf b hb).2.2.2.2.1 x c (h1 x c e)⟩
 bs:=I.bs
 bsz:=Cz I.ok.bsz I.sz
 noex:=fun b o e hb=>by
  rcases(hf b hb).2.2.2.1 with z|z
  .exact I.ok.noex b o e z
  .exact absurd (BS (BS (AA e) I.ok.bsz) z) (D7 _)
 exfs:=fun b hb z=>by
  rcases AS.mp (I.stkSub b z) with q|q
  .exact(hf b hb).2.1 q
  .exact(hf b hb).2.2.1 q
 funs:=I.stack
 frf:=I.stkFree
theorem b8 {h₁:Heap}{tk:Nat}(I:A2 X pins σ H s)(S:IR scope X.env.scope)(hρ:KJ scope X.env X.N N' ρ)(hf:∀b∈fp,F4 X pins H b)(h1:∀x c,cl.lookup x=some c->X.env.cells.lookup x=some c)
  (h2:∀n,(n,NameKind.free)∈scope.names->∃c,cl.lookup n=some c) (hC:s.heap.objs.size<=C) (hfs:∀b∈fp,b<s.heap.objs.size) (hn:h₁.Ns C (fun _=>none)) (hk:∀b o,s.heap.get? b=some o->h₁.get? b=some o)
  (hl:∀x,(x,NameKind.free)∈scope.names->scope.names.lookup x=some .free) :
  A2 (CW X scope N' cl C s H fp pins) [] (Cf ρ σ) H {s with heap:=h₁,toks:=tk} where
 ok:=VS I S hf h1 h2 hC hfs
 os:=rfl
 bare:=I.bare
 base:=Un.kept hk
 loc:=by
  refine⟨_,hn,fun j x v e1 e2 hv=>?_⟩
  obtain⟨m,hm,hl'⟩:=I.loc
  unfold Cf at e2
  rw[AQ]at e2
  cases hr:ρ[j]? with
  |none=>rw[hr]at e2;simp at e2
  |
   some o=>
   cases o with
   |none=>rw[hr]at e2;simp at e2
   |
    some i=>
    rw[hr]at e2
    obtain⟨q1,q2,q3⟩:=hρ.2 j i x hr e1
    have e3:σ[i]?=some (some v):=by
     cases hσ:σ[i]? with
     |none=>simp[hσ]at e2
     |some z=>simp[hσ]at e2;rw[e2]
    obtain⟨u,r,lk⟩:=hl' i x v q1 e3 q2
    refine⟨u,r,?_⟩
    obtain⟨c,hc⟩:=h2 x q3
    have hkind:(relabel scope X.env).names.lookup x=some .cell\/(relabel scope X.env).names.lookup x=some .free:=by
     rcases V8 (env:=X.env) q3 with z|z|z
     .exact .inl z
     .exact .inr z
     .exact absurd (hl x q3) z
    refine .inr ⟨hkind,c,hc,?_⟩
    rcases lk with⟨k,_⟩|⟨_,c',e',z⟩
    .rcases S.free (x,.free) q3 rfl with z|z
     .have k':X.env.scope.names.lookup x=some .local:=k
      rw[z]at k';cases k'
     .have k':X.env.scope.names.lookup x=some .local:=k
      rw[z]at k';cases k'
    .have:=h1 x c hc
     rw[e']at this;cases this
     obtain⟨o,ho,hd⟩:=z
     exact⟨o,hk _ _ ho,hd⟩
 cell:=fun x c e=>by
  obtain⟨v,o,ho,hd⟩:=I.cell x c (h1 x c e)
  exact⟨v,o,hk _ _ ho,hd⟩
 free:=I.hok.fresh hC
 freeC:=fun x c e=>I.freeC x c (h1 x c e)
 pin:=fun p hp=>by
  have hp':p∈X.pn++pins:=by simpa[CW] using hp
  obtain⟨e,n,ne,nf,d⟩:=I.pin p hp'
  refine⟨hk _ _ e,n,AN (BS (AA e) hC),fun z=>?_,d⟩
  rcases AS.mp (I.stkSub p.1 z) with q|q
  .exact ne q
  .exact nf q
 hok:=I.hok.kept hk
 len:=by
  show(Cf ρ σ).length=N'.length
  unfold Cf
  rw[Al];exact hρ.1
end
theorem Bv.track {P:Program}{w:World}{H:Hp}{h:Heap}{D:Addr}{o:HO}(x:Bv P w H h)(n:H D=none)(new:BB P w (upd H D o) h D o):Bv P w (upd H D o) h:=fun b u e=>by
 by_cases hb:b=D
 .subst hb;rw[A6]at e;cases e;exact new
 .rw[Af hb]at e
  exact(x b u e).stay (fun c v _ q=>q) (fun c q=>by rw[Af (AI q n)];exact q) fun c xs q=>by rw[Af (AI q n)];exact q
section
variable {prog:Program}{w:World}{A:Around}{R:Result->Shared->Prop}{s:Shared}
theorem Wq {elt target iter:Expr}{ifs:List Expr}{scope:Scope}{pos:Pos}{it acc:Value}{env:Env}(I:Nat->Shared->Prop)
  (turn:∀n s,I n s->wpAny (model prog w) A (pyNext it) (fun r s₁=>match r with
   |none=>R (.ok .next) s₁
   |some v=>wpAny (model prog w) A (letOwnedTupleGo target it v) (fun _ s₁'=>wpAny (model prog w) A (assign target env v) (fun _ s₂=>
    wpAny (model prog w) A (forIn ifs true fun c r=>if r=true then do let ok ←isTrue c env (eval c env);pure (ForInStep.yield ok) else pure (ForInStep.yield r)) (fun ok s₃=>
     if ok=true then wpAny (model prog w) A (eval elt env) (fun x s₄=>
      wpAny (model prog w) A (call (.builtin "list.append") [acc,x]) (fun _ s₅=>∃m,m<n/\I m s₅) (fun _ _=>False) s₄) (fun _ _=>False) s₃
     else ∃m,m<n/\I m s₃) (fun _ _=>False) s₂) (fun _ _=>False) s₁') (fun _ _=>False) s₁) (fun _ _=>False) s)
  (n:Nat) (h:I n s) :
  codeAny (model prog w) A (.compLoop (.ListComp elt [⟨target,iter,ifs,0⟩] scope pos) 0 it acc env) R s:=by
 refine codeAny_loop rfl I (fun n s hI=>?_) n h
 show wpAny _ A ((compTurn (.ListComp elt [⟨target,iter,ifs,0⟩] scope pos) 0 it acc env).onRaise (fun x=>do noteFrame x env;theTreesLotGoes x)) _ _ s
 refine wpAny_noted ?_
 rw[compTurn_list]
 refine A1 (JG (A1 (CV (turn n s hI) (fun r s₁ h₁=>?_) fun _ _ h'=>h'.elim)))
 cases r with
 |none=>exact Ae h₁
 |
  some v=>
  refine A1 (CV h₁ (fun _ s₁' h₁=>?_) fun _ _ h'=>h'.elim)
  refine A1 (CV h₁ (fun _ s₂ h₂=>A1 (CV h₂ (fun ok s₃ h₃=>?_) fun _ _ h'=>h'.elim)) fun _ _ h'=>h'.elim)
  cases ok with
  |false=>exact Ae ⟨rfl,h₃⟩
  |
   true=>
   exact A1 (A1 (CV h₃ (fun x s₄ h₄=>A1 (CV h₄ (fun _ s₅ h₅=>Ae (Ae ⟨rfl,h₅⟩)) fun _ _ h'=>h'.elim)) fun _ _ h'=>h'.elim))
end
def HP (X:Cx)(ifs:List Expr)(t:TT):Prop:=
 ∀(pins:List (Addr×Obj)) (s:Shared) (σ:St) (H:Hp) (Q:Bool->Hp->Prop),A2 X pins σ H s->t σ H Q->
  wpAny (model X.prog X.w) X.A (forIn ifs true fun c r=>if r=true then do let ok ←isTrue c X.env (eval c X.env);pure (ForInStep.yield ok) else pure (ForInStep.yield r)) (TP X pins σ Q) X.xe s
def aM:TT:=fun _ H Q=>Q true H
theorem EO {X:Cx}:HP X [] aM:=fun _ _ _ H _ I h=>wpAny_tests_nil ⟨H,I,h⟩
theorem bc {X:Cx}{c:Expr}{t:TT}(h:PT X c t):HP X [c] t:=fun pins s σ H Q I hw=>wpAny_tests_one (h pins s σ H Q I hw)
def Lx (ρ:List (Option Nat))(σ σ2:St):Prop:=σ2.length=ρ.length/\∀(j:Nat) v,(Cf ρ σ)[j]?=some (some v)->σ2[j]?=some (some v)
def Kf (ρ:List (Option Nat))(g:TG)(tt:TT)(te:TE)(σ:St)(Q:VK)(J:It)(H1:Hp):Prop := ∃W:Nat->Nat->List V->Hp->Prop,(∃m,W 0 m [] H1)/\∀i m ys H',W i m ys H'->
 (J.stop i H'/\ys.length<=sizeLine/\∀p,H' p=none->Q (.ref p) (upd H' p (.lst ys)))\/
 (J.go i H'/\ys.length<sizeLine/\∃N:List V->Hp->Prop,(∀ys' H'',N ys' H''->∃m',m'<m/\W (i+1) m' ys' H'')/\∀x H2,J.yld i H' x H2->g x (Cf ρ σ) H2 fun σ2 H3=>Lx ρ σ σ2/\tt σ2 H3 fun ok H4=>if ok=true then te σ2 H4 fun v H5=>N (ys++[v]) H5 else N ys H4)
def Jh (ρ:List (Option Nat))(wi:TI)(g:TG)(tt:TT)(te:TE):TE:=fun σ H Q=>wi σ H fun J H1=>Kf ρ g tt te σ Q J H1
theorem Rq {X:Cx}{elt iter tg:Expr}{ifs:List Expr}{scope:Scope}{pos:Pos}{N':List Str}{ρ:List (Option Nat)}{wi:TI}{g:TG}{tt:TT}{te:TE}{cl:List (Str×Addr)}{RR:Value->Addr->Result->Shared->Prop}(hc:X.calm=true)(hi:PI X tg iter wi)(S:IR scope X.env.scope)(hρ:KJ scope X.env X.N N' ρ)
  (hl:∀x,(x,NameKind.free)∈scope.names->scope.names.lookup x=some .free)
  (inner:∀(cl:List (Str×Addr)) (C:Addr) (s:Shared) (H:Hp) (fp:List Addr) (pins:List (Addr×Obj)),PG (CW X scope N' cl C s H fp pins) tg g/\HP (CW X scope N' cl C s H fp pins) ifs tt/\PE (CW X scope N' cl C s H fp pins) elt te)
  {pins:List (Addr×Obj)} {s:Shared} {σ:St} {H:Hp} {Q:VK} (I:A2 X pins σ H s) (h:Jh ρ wi g tt te σ H Q)
  (h1:∀x c,cl.lookup x=some c->X.env.cells.lookup x=some c) (h2:∀n,(n,NameKind.free)∈scope.names->∃c,cl.lookup n=some c)
  (fin:∀D C s' H' m,A2 X pins σ H' s'->Q (.ref D) H'->s'.heap.Ns C m->F4 X pins H' C->RR (.ref D) C (.ok .next) s') :
  wpAny (model X.prog X.w) X.A (eval iter X.env) (fun x s₁=>wpAny (model X.prog X.w) X.A (pyIter x) (fun it s₂=>wpAny (model X.prog X.w) X.A (newList []) (fun acc s₃=>
   wpAny (model X.prog X.w) X.A (newFunctionEnv scope X.env.globals cl [] X.env.qual none .none (some X.env)) (fun cenv s₄=>
    codeAny (model X.prog X.w) X.A (.compStart (.ListComp elt [⟨tg,iter,ifs,0⟩] scope pos) 0 it acc {cenv with scope:=relabel scope X.env}) (RR acc cenv.locals) s₄) X.xe s₃) X.xe s₂) X.xe s₁) X.xe s:=by
 refine Ax (hi pins s σ H _ I h) fun v s1 h1'=>Ax h1' fun itv s2 hx=>?_
 obtain⟨it,fp,tn,J,H2,e,I2,T,st2,f2,W,⟨m0,w0⟩,turn⟩:=hx
 subst e
 have hfs:∀b∈fp,b<s2.heap.objs.size:=fun b hb=>by
  obtain⟨o,e,_⟩:=T.obj _ _ st2 b hb
  exact AA e
 refine Fu (wpAny_newFunctionEnv S.cell (by intro y hy;simp at hy) (fun h₁ hns₁ hsb₁=>?_) S.kind)
 dsimp only at hns₁ hsb₁ ⊢
 generalize hH2:s2.heap.push {cls:=.type "list",dict:=none,data:=.seq ([]:List Value).toArray}=G at hns₁ hsb₁ ⊢
 have hC:G.objs.size=s2.heap.objs.size+1:=by rw[←hH2,Gf]
 have hDC:s2.heap.objs.size≠G.objs.size:=by rw[hC];exact AN (Ie _)
 have hCle:s2.heap.objs.size<=G.objs.size:=by rw[hC];exact F6 _
 have old:∀b o,s2.heap.get? b=some o->h₁.get? b=some o:=fun b o e=>hsb₁.extBut b o (AN (BS (AA e) hCle)) (Aw _ (hH2▸Aw _ e))
 have hacc:h₁.get? s2.heap.objs.size=some {cls:=.type "list",dict:=none,data:=.seq ([]:List Value).toArray}:=hsb₁.extBut _ _ hDC (Aw _ (hH2▸B8 _ rfl))
 have hns₂:h₁.Ns G.objs.size (fun _=>none):=hns₁
 generalize hXX:CW X scope N' cl G.objs.size s2 H2 fp pins=XX at *
 have IN:∀(tk:Nat),A2 XX [] (Cf ρ σ) H2 {s2 with heap:=h₁,toks:=tk}:=fun tk=>hXX▸b8 (N':=N') I2 S hρ f2 h1 h2 hCle hfs hns₂ old hl
 obtain⟨pg,pt,pe⟩:=inner cl G.objs.size s2 H2 fp pins
 rw[hXX]at pg pt pe
 have eP:XX.prog=X.prog:=by rw[←hXX];rfl
 have eW:XX.w=X.w:=by rw[←hXX];rfl
 have eK:XX.K=X.K:=by rw[←hXX];rfl
 have eA:XX.A=X.A:=by rw[←hXX];rfl
 have eE:XX.env=compEnvC scope cl G.objs.size X.env:=by rw[←hXX];rfl
 have eL:XX.env.locals=G.objs.size:=by rw[eE];rfl
 have ec:XX.calm=true:=by rw[←hXX];exact hc
 have ex:XX.xe=fun _ _=>False:=by rw[←hXX];rfl
 have es0:XX.s₀=s2:=by rw[←hXX];rfl
 have eex:XX.ex=fp:=by rw[←hXX];rfl
 have efs:XX.fs=DV X.stack:=by rw[←hXX];rfl
 have eH0:XX.H₀=H2:=by rw[←hXX];rfl
 have epn:XX.pn=X.pn++pins:=by rw[←hXX];rfl
 have ecl:XX.env.cells=cl:=by rw[eE];rfl
 have stat:∀{H':Hp} {ps:List (Addr×Obj)},(∀b∈fp,H' b=none)->(∀p∈ps,p.1=s2.heap.objs.size)->∀b∈fp,F4 XX ps H' b:=fun{H' ps} hn hp b hb=>by
  refine⟨hn b hb,?_,?_,?_,?_,?_⟩
  .rw[eL];exact AN (BS (hfs b hb) hCle)
  .rw[efs]
   intro z
   rcases AS.mp (I2.stkSub b z) with q|q
   .exact(f2 b hb).2.1 q
   .exact(f2 b hb).2.2.1 q
  .rw[eex];exact .inl hb
  .rw[ecl];exact fun x c e=>(f2 b hb).2.2.2.2.1 x c (h1 x c e)
  .intro p hp' z
   rw[epn]at hp'
   rcases BO.mp hp' with q|q
   .exact(f2 b hb).2.2.2.2.2 p q z
   .rw[hp p q]at z
    exact absurd (hfs b hb) (by rw[z];exact D7 _)
 have nofsD:s2.heap.objs.size∉XX.fs:=by
  rw[efs];intro z
  rcases AS.mp (I2.stkSub _ z) with q|q
  .exact absurd I2.lt (by rw[←q];exact D7 _)
  .exact I2.nofs (Ah _) q
 have pinD:∀{σ':St} {H':Hp} {s':Shared} {its:List Value} {n:Nat},A2 XX [] σ' H' s'->H' s2.heap.objs.size=none->s'.heap.get? s2.heap.objs.size=some {cls:=.type "list",data:=.seq its.toArray n}->
   A2 XX [(s2.heap.objs.size,{cls:=.type "list",data:=.seq its.toArray n})] σ' H' s':=fun{σ' H' s' its n} I' hn ho=>I'.pins_of fun p hp=>by
  have e:p=(s2.heap.objs.size,{cls:=.type "list",data:=.seq its.toArray n}):=by simpa using hp
  subst e
  refine⟨ho,hn,by rw[eL];exact hDC,nofsD,fun v z=>?_⟩
  have z':Data.seq its.toArray n=Data.cell v:=z
  cases z'
 have loop:∀s₃:Shared,(∃tk,s₃={s2 with heap:=h₁,toks:=tk})->
   codeAny (model X.prog X.w) X.A (.compLoop (.ListComp elt [⟨tg,iter,ifs,0⟩] scope pos) 0 (.ref it) (.ref s2.heap.objs.size) (compEnvC scope cl G.objs.size X.env)) (RR (.ref s2.heap.objs.size) G.objs.size) s₃:=by
  rintro s₃ ⟨tk,rfl⟩
  refine Wq (fun n s'=>∃i ys its k H',A2 XX [] (Cf ρ σ) H' s'/\tn i s'.heap/\(∀b∈fp,H' b=none)/\H' s2.heap.objs.size=none/\Az ys its/\
   s'.heap.get? s2.heap.objs.size=some {cls:=.type "list",data:=.seq its.toArray k}/\W i n ys H') ?_ m0
   ⟨0,[],[],0,H2,IN tk,T.keep _ _ _ st2 fun b _ o e=>old b o e,fun b hb=>(f2 b hb).1,I2.hok.fresh (Ah _),.nil,hacc,w0⟩
  rintro n s3 ⟨i,ys,its,k,H3,I3,st3,fr3,hD3,rv,ho3,w3⟩
  rcases turn i n ys H3 w3 with⟨stop,hz,qn⟩|⟨go,hz,N,hN,step⟩
  .have I3p:=pinD I3 hD3 ho3
   have q:=T.done XX eP eW eK ec i _ s3 (Cf ρ σ) H3 (fun _ _=>False) I3p (stat fr3 (by simp)) st3 stop
   rw[eA]at q
   refine Ax q fun r s4 zz=>?_
   obtain⟨hr,I4⟩:=zz
   subst hr
   have ho4:=(I4.pin (s2.heap.objs.size,{cls:=.type "list",data:=.seq its.toArray k}) (by simp)).1
   obtain⟨m,hm,_⟩:=I4.loc
   rw[eL]at hm
   have hun:Un (DV X.stack) fp H2 (upd H3 s2.heap.objs.size (.lst ys)) s2.heap s4.heap:=by
    have u:=I4.base
    rw[efs,eex,eH0,es0]at u
    refine⟨u.keep,u.slot,fun b o e n hx=>?_,u.there,fun b xs e=>?_,fun b o xs e=>?_,fun b ps e=>?_⟩
    .rw[Af (AN (AA e))];exact u.free b o e n hx
    .have q:=u.tups b xs e
     rw[Af (AI q hD3)];exact q
    .have q:=u.frzs b o xs e
     rw[Af (AI q hD3)];exact q
    .obtain⟨more,q⟩:=u.tbls b ps e
     exact⟨more,by rw[Af (AI q hD3)];exact q⟩
   have hok:Bv X.prog X.w (upd H3 s2.heap.objs.size (.lst ys)) s4.heap:=by
    have q:=I4.hok
    rw[eP,eW]at q
    exact q.track hD3 ⟨hz,its,k,rv,ho4⟩
   have hfr:∀b∈fp,(b∈X.ex\/X.s₀.heap.objs.size<=b)/\b≠X.env.locals/\(∀x c,X.env.cells.lookup x=some c->c≠b)/\∀p∈X.pn++pins,p.1≠b:=fun b hb=>⟨(f2 b hb).2.2.2.1,(f2 b hb).2.1,(f2 b hb).2.2.2.2.1,(f2 b hb).2.2.2.2.2⟩
   have IO:A2 X pins σ (upd H3 s2.heap.objs.size (.lst ys)) s4:=I2.call' (by have:=I4.os;rw[es0]at this;exact this) hun hok I4.bare hfr
   refine fin _ _ s4 _ m IO (qn _ hD3) hm (I2.fpOk hCle ?_)
   rw[Af (Ne.symm hDC)]
   have:=I4.free
   rw[eL]at this
   exact this
  .have I3p:=pinD I3 hD3 ho3
   have q:=T.item XX eP eW eK ec i _ s3 (Cf ρ σ) H3 (fun _ _=>False) I3p (stat fr3 (by simp)) st3 go
   rw[eA]at q
   refine Ax q fun r s4 zz=>?_
   obtain⟨u,hr,h4⟩:=zz
   subst hr
   refine Ax h4 fun _ s5 zz=>?_
   obtain⟨x,H5,I5,r5,y5,st5,fr5⟩:=zz
   have I5':=I5.pinned (stat fr5 (by simp)) (T.obj _ _ st5)
   have qa:=pg _ s5 (Cf ρ σ) H5 x u _ I5' r5 (step x H5 y5)
   rw[eP,eW,eA,eE,ex]at qa
   refine Ax qa fun _ s6 zz=>?_
   obtain⟨σ6,H6,I6,⟨ou1,ou2⟩,q6⟩:=zz
   have hw6:(Cf ρ σ).length=σ6.length:=by rw[ou1];unfold Cf;rw[Al]
   have qt:=pt _ s6 σ6 H6 _ I6 q6
   rw[eP,eW,eA,eE,ex]at qt
   refine Ax qt fun ok s7 zz=>?_
   obtain⟨H7,I7,q7⟩:=zz
   have back:∀{s8:Shared} {H8:Hp},A2 XX ([(s2.heap.objs.size,{cls:=.type "list",data:=.seq its.toArray k})]++J4 fp s5.heap) σ6 H8 s8->tn (i+1) s8.heap/\(∀b∈fp,H8 b=none)/\H8 s2.heap.objs.size=none/\
     s8.heap.get? s2.heap.objs.size=some {cls:=.type "list",data:=.seq its.toArray k}:=fun{s8 H8} I8=>by
    refine⟨T.keep _ _ _ st5 fun b hb o e=>(I8.pin (b,o) (C7 _ (C7 _ (Kw hb e)))).1,fun b hb=>?_,?_,?_⟩
    .obtain⟨o,e,d⟩:=T.obj _ _ st5 b hb
     exact(I8.pin (b,o) (C7 _ (C7 _ (Kw hb e)))).2.1
    .exact(I8.pin (s2.heap.objs.size,{cls:=.type "list",data:=.seq its.toArray k}) (by simp)).2.1
    .exact(I8.pin (s2.heap.objs.size,{cls:=.type "list",data:=.seq its.toArray k}) (by simp)).1
   cases ok with
   |
    false=>
    obtain⟨m',hm,w7⟩:=hN _ _ q7
    obtain⟨b1,b2,b3,b4⟩:=back I7
    exact⟨m',hm,i+1,ys,its,k,H7,(I7.pins_of (pins':=[]) (fun _ z=>nomatch z)).weak hw6 ou2,b1,b2,b3,rv,b4,w7⟩
   |
    true=>
    have qe:=pe _ s7 σ6 H7 _ I7 q7
    rw[eP,eW,eA,eE,ex]at qe
    refine Ax qe fun y s8 zz=>?_
    obtain⟨v8,H8,I8,r8,n8⟩:=zz
    obtain⟨m',hm,w8⟩:=hN _ _ n8
    obtain⟨b1,b2,b3,b4⟩:=back I8
    have hlen:=rv.length
    refine GS F.slot_list_append ⟨_,b4,rfl⟩ F.entry_list_append (F.args_list_append_2 _ _) (PySem.list_append s2.heap.objs.size its.toArray k y (by rw[AZ];lia)) ⟨b4,?_⟩
    have qL:=PySem.IsL.update b4 (fun xs=>xs.push y)
    have I8':A2 XX [] σ6 H8 s8:=I8.pins_of (fun _ z=>nomatch z)
    have I9:A2 XX [] σ6 H8 {s8 with heap:=s8.heap.update s2.heap.objs.size (Obj.mapSeq fun xs=>xs.push y),toks:=s8.toks}:=I8'.turned (it:=s2.heap.objs.size) (fun b o hb e=>(DZ s8.heap _ (Ne.symm hb)).trans e) b3
     (by rw[eL];exact hDC) (.inr (by rw[es0];exact Ah _)) (by
      rw[ecl];intro x c e z
      obtain⟨v,qc⟩:=I2.cell x c (h1 x c e)
      exact absurd qc.lt (by rw[z];exact D7 _)) (by
      intro p hp z
      have hp':p∈X.pn++pins:=by rw[epn]at hp;simpa using hp
      exact absurd (AA (I2.pin p hp').1) (by rw[z];exact D7 _))
    have hnd:s2.heap.objs.size∉fp:=fun z=>D7 _ (hfs _ z)
    rw[show its.toArray.push y=(its++[y]).toArray by simp]at qL
    refine⟨m',hm,i+1,ys++[v8],its++[y],_,H8,I9.weak hw6 ou2,T.keep _ _ _ b1 fun b hb o e=>(DZ s8.heap _ (by rintro rfl;exact hnd hb)).trans e,b2,b3,rv.append (.cons r8 .nil),qL,w8⟩
 refine codeAny_compStart_list (loop _ ⟨_,rfl⟩) (T.self X.A 0 _ _ _ (T.keep _ _ _ st2 fun b _ o e=>old b o e) (loop _ ⟨_,rfl⟩))
theorem W0 {X:Cx}{elt iter tg:Expr}{ifs:List Expr}{scope:Scope}{pos:Pos}(N':List Str)(ρ:List (Option Nat)){wi:TI}{g:TG}{tt:TT}{te:TE}(hc:X.calm=true)(hi:PI X tg iter wi)(S:IR scope X.env.scope)(hρ:KJ scope X.env X.N N' ρ)
  (hl:∀x,(x,NameKind.free)∈scope.names->scope.names.lookup x=some .free)
  (inner:∀(cl:List (Str×Addr)) (C:Addr) (s:Shared) (H:Hp) (fp:List Addr) (pins:List (Addr×Obj)),PG (CW X scope N' cl C s H fp pins) tg g/\HP (CW X scope N' cl C s H fp pins) ifs tt/\PE (CW X scope N' cl C s H fp pins) elt te)
  (hs:∀x,foldedSetIterable iter X.env x=pure x:=by intro _;rfl):PE X (.ListComp elt [⟨tg,iter,ifs,0⟩] scope pos) (Jh ρ wi g tt te):=by
 intro pins s σ H Q I h
 obtain⟨cl,hcl,h1,h2⟩:=QG (scope:=scope) (env:=X.env) (fun n hn=>I.ok.has n (S.free (n,.free) hn rfl))
 rw[eval_ListComp]
 refine wpAny_comprehension_free (use:=none) rfl hs hcl S.kind S.loc ?_
 refine Rq (RR:=fun acc C=>compPost (model X.prog X.w) X.A X.xe none (EP X pins σ Q) acc C) hc hi S hρ hl inner I h h1 h2 ?_
 intro D C s' H' m I' q hm hf
 refine⟨m,hm,fun h' sb=>⟨.ref D,H',?_,rfl,q⟩⟩
 exact I'.turned (t':=s'.toks) (fun b o hb e=>(sb.2 b hb).trans e) hf.1 hf.2.1 hf.2.2.2.1 hf.2.2.2.2.1 hf.2.2.2.2.2
theorem bM {X:Cx}{elt iter tg:Expr}{ifs:List Expr}{scope:Scope}{pos pos' spos:Pos}{i:Nat}{x:Str}(N':List Str)(ρ:List (Option Nat)){wi:TI}{g:TG}{tt:TT}{te:TE}(hN:X.N.Nodup)(hix:X.N[i]?=some x)(hx:Jb X.env.scope x)
  (hc:X.calm=true) (hi:PI X tg iter wi) (S:IR scope X.env.scope) (hρ:KJ scope X.env X.N N' ρ)
  (hl:∀x,(x,NameKind.free)∈scope.names->scope.names.lookup x=some .free)
  (inner:∀(cl:List (Str×Addr)) (C:Addr) (s:Shared) (H:Hp) (fp:List Addr) (pins:List (Addr×Obj)),PG (CW X scope N' cl C s H fp pins) tg g/\HP (CW X scope N' cl C s H fp pins) ifs tt/\PE (CW X scope N' cl C s H fp pins) elt te)
  (hsw:swapsWith (.ListComp elt [⟨tg,iter,ifs,0⟩] scope pos) (some (.Name x pos')) spos.line X.env=pure true:=by rfl)
  (hs:∀x,foldedSetIterable iter X.env x=pure x:=by intro _;rfl) (hf:X.fn x=true\/X.env.scope.names.lookup x=some .local:=by first|exact .inl rfl|exact .inr rfl|assumption) :
  PS X (.Assign [.Name x pos'] (.ListComp elt [⟨tg,iter,ifs,0⟩] scope pos) spos) (J7 (Jh ρ wi g tt te) (Aq i)):=by
 intro pins s σ H Dn I h
 obtain⟨cl,hcl,h1,h2⟩:=QG (scope:=scope) (env:=X.env) (fun n hn=>I.ok.has n (S.free (n,.free) hn rfl))
 rw[exec_Assign_Name_used _ _ _ _ hsw]
 refine A1 (JG (A1 ?_))
 show wpAny _ X.A (do let _ ←comprehension (.ListComp elt [⟨tg,iter,ifs,0⟩] scope pos) scope X.env _ (newList []) false (eval iter X.env) (some (assign (.Name x pos') X.env))) _ _ s
 refine A1 (CV (wpAny_comprehension_free (use:=some (assign (.Name x pos') X.env)) (Q:=fun _ s'=>SP X pins Dn .next s') rfl hs hcl S.kind S.loc ?_) (fun _ s' hq=>Ae (Ae hq)) fun _ _ e=>e)
 refine Rq (RR:=fun acc C=>compPost (model X.prog X.w) X.A X.xe (some (assign (.Name x pos') X.env)) (fun _ s'=>SP X pins Dn .next s') acc C) hc hi S hρ hl inner I h h1 h2 ?_
 intro D C s' H' m I' q hm hfC
 obtain⟨oC,es,ep,hoC,hr⟩:=id hm
 have pin:A2 X (pins++J4 [C] s'.heap) σ H' s':=I'.pinned (fun b hb=>by
  have e:b=C:=by simpa using hb
  subst e
  exact hfC) (fun b hb=>by
  have e:b=C:=by simpa using hb
  subst e
  exact⟨oC,hoC,fun v z=>by rw[hr.1]at z;cases z⟩)
 show wpAny _ X.A (assign (.Name x pos') X.env (.ref D)) _ _ _
 refine wpAny_assign_Name ?_
 refine OF (M:=model X.prog X.w) (A:=X.A) (E:=X.xe) pin hN hix hx (v:=.ref D) (u:=.ref D) rfl (fun s'' I''=>?_) hf
 have pC:=(I''.pin (C,oC) (C7 _ (C7 _ (Kw (by simp) hoC))))
 refine⟨m,⟨oC,es,ep,pC.1,hr⟩,fun h' sb=>⟨_,H',?_,q⟩⟩
 have I2:A2 X pins (σ.set i (some (.ref D))) H' s'':=I''.unpinned
 exact I2.turned (t':=s''.toks) (fun b o hb e=>(sb.2 b hb).trans e) hfC.1 hfC.2.1 hfC.2.2.2.1 hfC.2.2.2.2.1 hfC.2.2.2.2.2
theorem Kc (σ:St)(o:Option Nat)(ρ:List (Option Nat)):Cf (o::ρ) σ=(match o with|some i=>(σ[i]?).getD none|none=>none)::Cf ρ σ:=rfl
theorem WE {ρ:List (Option Nat)}{σ:St}(o:Option V):Lx (none::ρ) σ (o::Cf ρ σ):=by
 refine⟨by unfold Cf;simp,fun j v e=>?_⟩
 cases j with
 |zero=>rw[Kc]at e;simp at e
 |succ j=>rw[Kc]at e;simpa using e
theorem QK {J:It}{n:Nat}{X:Nat->V->Prop}{ρ:List (Option Nat)}{tt:TT}{te:TE}{σ:St}{H:Hp}{Q:VK}(Pv:Nat->List V->Hp->Prop)(h0:Pv 0 [] H)(hlen:n<=sizeLine)
  (hy:∀i ys H,i<=n->Pv i ys H->ys.length<=i) (hgo:∀i ys H,i<n->Pv i ys H->J.go i H) (hyl:∀i ys H x H',i<n->Pv i ys H->J.yld i H x H'->H'=H/\X i x) (hst:∀ys H,Pv n ys H->J.stop n H)
  (hs:∀i x ys H,i<n->X i x->Pv i ys H->tt (some x::Cf ρ σ) H fun ok H4=>if ok=true then te (some x::Cf ρ σ) H4 fun v H5=>Pv (i+1) (ys++[v]) H5 else Pv (i+1) ys H4)
  (hd:∀ys H,Pv n ys H->∀p,H p=none->Q (.ref p) (upd H p (.lst ys))) :
  Kf (none::ρ) (Aq 0) tt te σ Q J H:=by
 refine⟨fun i m ys H=>m=n-i/\i<=n/\Pv i ys H,⟨n,by simp,Bk _,h0⟩,?_⟩
 rintro i m ys H ⟨rfl,hi,p⟩
 have hl:=hy i ys H hi p
 by_cases hlt:i<n
 .refine .inr ⟨hgo i ys H hlt p,by lia,Pv (i+1),fun ys' H'' p'=>⟨n-(i+1),by lia,rfl,hlt,p'⟩,fun x H' y=>?_⟩
  obtain⟨e,y2⟩:=hyl i ys H x H' hlt p y
  subst e
  exact⟨WE _,hs i x ys _ hlt y2 p⟩
 .have e:i=n:=by lia
  subst e
  exact .inl ⟨hst ys H p,by lia,hd ys H p⟩
theorem G1 {K:Faa}{a:Addr}{xs:List V}{ρ:List (Option Nat)}{tt:TT}{te:TE}{σ:St}{H:Hp}{Q:VK}(Pv:Nat->List V->Hp->Prop)(h0:Pv 0 [] H)(hlen:xs.length<=sizeLine)(hl:∀i ys H,i<=xs.length->Pv i ys H->A5 K H a xs/\ys.length<=i)
  (hs:∀i x ys H,xs[i]?=some x->Pv i ys H->tt (some x::Cf ρ σ) H fun ok H4=>if ok=true then te (some x::Cf ρ σ) H4 fun v H5=>Pv (i+1) (ys++[v]) H5 else Pv (i+1) ys H4)
  (hd:∀ys H,Pv xs.length ys H->∀p,H p=none->Q (.ref p) (upd H p (.lst ys))) :
  Kf (none::ρ) (Aq 0) tt te σ Q (Ha K a) H:=
 QK (n:=xs.length) (X:=fun i x=>xs[i]?=some x) Pv h0 hlen (fun i ys H hi p=>(hl i ys H hi p).2) (fun i ys H hi p=>⟨xs,xs[i],(hl i ys H (FP hi) p).1,by simp[hi]⟩) (fun i ys H x H' hi p y=>⟨y.1,y.2 xs (hl i ys H (FP hi) p).1⟩)
  (fun ys H p=>⟨xs,(hl _ ys H (Ah _) p).1,Ah _⟩) (fun i x ys H _ e p=>hs i x ys H e p) hd
theorem NR {lo:Int}{n:Nat}{ρ:List (Option Nat)}{tt:TT}{te:TE}{σ:St}{H:Hp}{Q:VK}(Pv:Nat->List V->Hp->Prop)(h0:Pv 0 [] H)(hlen:n<=sizeLine)(hl:∀i ys H,i<=n->Pv i ys H->ys.length<=i)
  (hs:∀i ys H,i<n->Pv i ys H->tt (some (.int (lo+i))::Cf ρ σ) H fun ok H4=>if ok=true then te (some (.int (lo+i))::Cf ρ σ) H4 fun v H5=>Pv (i+1) (ys++[v]) H5 else Pv (i+1) ys H4)
  (hd:∀ys H,Pv n ys H->∀p,H p=none->Q (.ref p) (upd H p (.lst ys))) :
  Kf (none::ρ) (Aq 0) tt te σ Q (Gx lo n) H:=
 QK (n:=n) (X:=fun i x=>x = .int (lo+i)) Pv h0 hlen hl (fun i ys H hi p=>hi) (fun i ys H x H' hi p y=>y) (fun ys H p=>Ah _) (fun i x ys H hi e p=>by subst e;exact hs i ys H hi p) hd
abbrev Fx (x:Str):List Nat:=x.cps.toList
theorem MI (x:Str):(Fx x).length=x.length:=by simp[Fx,Str.length]
theorem Wu (x y:Str):Fx (x++y)=Fx x++Fx y:=by simp[Fx,Str.cps_append]
def IX {α:Type}(xs:List α)(lo hi:Option Int):List α:=(xs.drop (HT.sIx xs.length 0 lo)).take (HT.sIx xs.length xs.length hi-HT.sIx xs.length 0 lo)
section
variable {X:Cx}
def U8:R2:=fun x y H Q=>∃z n,x = .str z/\y = .int n/\-(2 ^ 63:Int)<=n/\n<=4096/\z.length<=4096/\Q (.str (Txt.mul z n)) H
theorem bV:BP X (binaryOp .Mult) U8:=by
 intro pins s σ H x y v u Q I rx ry h
 obtain⟨z,n,rfl,rfl,h1,h2,h3,q⟩:=h
 obtain⟨t,rfl⟩:=rx
 obtain⟨t',rfl⟩:=ry
 exact SB.mul (mulOk_of 4096 4096 h3 h2 h1 (by decide) (by decide)) fun t' k=>⟨.str _,H,I.tok _,⟨_,rfl⟩,q⟩
theorem ag (c:Nat)(n:Int):Fx (Txt.mul ⟨#[c]⟩ n)=List.replicate n.toNat c:=mul_one_list c n
end
section
variable {X:Cx}
def WI:V->Option Value
 |.ty n=>some (.type n)
 |.ref a=>some (.ref a)
 |_=>none
theorem LZ:E8 X (.builtin "isinstance") (fun xs H Q=>∃x c t cv b,xs=[x,c]/\WI c=some cv/\EA X.K H x t/\PySem.W.kitOne X.K t cv=some b/\Q (.bl b) H):=by
 intro pins s σ H xs us Q I r h
 obtain⟨x,c,t,cv,b,rfl,rc,ty,e,q⟩:=h
 obtain⟨u,w',rfl,rx,rw'⟩:=r.two
 have:w'=cv:=by
  cases c with
  |ref a=>cases rc;exact rw'
  |ty a=>cases rc;exact rw'
  |_=>cases rc
 subst this
 exact W5 I rx ty e fun tk=>⟨.bl b,H,I.tok _,rfl,q⟩
end
def Dz (sc out:Scope)(N N':List Str)(ρ:List (Option Nat)):Bool:=
 decide (sc.kind = .function)&&sc.names.all (fun y=>decide (y.2≠.cell))&&sc.names.all (fun y=>decide (y.2 = .local->sc.names.lookup y.1=some .local)) &&
 sc.names.all (fun y=>decide (y.2 = .free->sc.names.lookup y.1=some .free/\(out.names.lookup y.1=some .cell\/out.names.lookup y.1=some .free))) &&
 decide (ρ.length=N'.length)&&decide N'.Nodup &&
 (ρ.zip N').all (fun p=>match p.1 with|none=>true|some i=>decide (N[i]?=some p.2)&&decide (out.names.lookup p.2=some .local\/out.names.lookup p.2=some .cell\/out.names.lookup p.2=some .free)&&sc.names.any (fun y=>decide (y=(p.2,NameKind.free))))
structure Yi (sc:Scope)(env:Env)(N N':List Str)(ρ:List (Option Nat)):Prop where
 S:IR sc env.scope
 sl:KJ sc env N N' ρ
 hl:∀x,(x,NameKind.free)∈sc.names->sc.names.lookup x=some .free
 nd:N'.Nodup
theorem QD {sc:Scope}{env:Env}{N N':List Str}{ρ:List (Option Nat)}(h:Dz sc env.scope N N' ρ=true):Yi sc env N N' ρ:=by
 unfold Dz at h
 simp only[F7,TJ,Tn]at h
 obtain⟨⟨⟨⟨⟨⟨h1,h2⟩,h3⟩,h4⟩,h5⟩,h6⟩,h7⟩:=h
 refine⟨⟨h1,h2,h3,fun y hy e=>(h4 y hy e).2⟩,⟨h5,fun j i x e1 e2=>?_⟩,fun x hx=>(h4 _ hx rfl).1,h6⟩
 have hm:(some i,x)∈ρ.zip N':=by
  refine AO (i:=j) ?_
  rw[List.getElem?_zip_eq_some]
  exact⟨e1,e2⟩
 have q:=h7 _ hm
 simp only[F7,TJ,To]at q
 obtain⟨⟨q1,q2⟩,y,hy,e⟩:=q
 exact⟨q1,q2,e▸hy⟩
theorem FT {X:Cx}{elt iter tg:Expr}{ifs:List Expr}{scope:Scope}{pos:Pos}(N':List Str)(ρ:List (Option Nat)){wi:TI}{g:TG}{tt:TT}{te:TE}(hc:X.calm=true)(hi:PI X tg iter wi)(h:Dz scope X.env.scope X.N N' ρ=true)
  (inner:∀(cl:List (Str×Addr)) (C:Addr) (s:Shared) (H:Hp) (fp:List Addr) (pins:List (Addr×Obj)),PG (CW X scope N' cl C s H fp pins) tg g/\HP (CW X scope N' cl C s H fp pins) ifs tt/\PE (CW X scope N' cl C s H fp pins) elt te)
  (hs:∀x,foldedSetIterable iter X.env x=pure x:=by intro _;rfl):PE X (.ListComp elt [⟨tg,iter,ifs,0⟩] scope pos) (Jh ρ wi g tt te):=
 have F:=QD h
 W0 N' ρ hc hi F.S F.sl F.hl inner hs
theorem Me {X:Cx}{elt iter tg:Expr}{ifs:List Expr}{scope:Scope}{pos pos' spos:Pos}{i:Nat}{x:Str}(N':List Str)(ρ:List (Option Nat)){wi:TI}{g:TG}{tt:TT}{te:TE}(hN:X.N.Nodup)(hix:X.N[i]?=some x)(hx:Jb X.env.scope x)
  (hc:X.calm=true) (hi:PI X tg iter wi) (h:Dz scope X.env.scope X.N N' ρ=true)
  (inner:∀(cl:List (Str×Addr)) (C:Addr) (s:Shared) (H:Hp) (fp:List Addr) (pins:List (Addr×Obj)),PG (CW X scope N' cl C s H fp pins) tg g/\HP (CW X scope N' cl C s H fp pins) ifs tt/\PE (CW X scope N' cl C s H fp pins) elt te)
  (hsw:swapsWith (.ListComp elt [⟨tg,iter,ifs,0⟩] scope pos) (some (.Name x pos')) spos.line X.env=pure true:=by rfl)
  (hs:∀x,foldedSetIterable iter X.env x=pure x:=by intro _;rfl) (hf:X.fn x=true\/X.env.scope.names.lookup x=some .local:=by first|exact .inl rfl|exact .inr rfl|assumption) :
  PS X (.Assign [.Name x pos'] (.ListComp elt [⟨tg,iter,ifs,0⟩] scope pos) spos) (J7 (Jh ρ wi g tt te) (Aq i)):=
 have F:=QD h
 bM N' ρ hN hix hx hc hi F.S F.sl F.hl inner hsw hs hf
def OJ (K:Faa):Sp:=fun vs H Q _=>∃(a:Addr) (ns:List Int),vs=[.ref a]/\A5 K H a (ns.map V.int)/\ns.length<=63/\Mr H/\∀H',Q (.bl true) H'
theorem law_walk {l:PySem.W.OpenLaw}{q:Program}{loose:List Str}{XP:(Str->Option Value)->Heap->Prop}{YP:World->Heap->Prop}{d:DefRec}{K:Params->Faa}{x:Str}(k:Nat)(hk:k<=200)(hn:l.most=some 63)(hdf:d.params.defaults=[])
  (hY:∀(w:World) (h:Heap),YP w h->(K w.params).In h)
  (F:∀(w:World) (mg:Str->Option Value) (fa:Addr) (h:Heap),(K w.params).In h->h.Ns mainGlobals mg->mg d.name=some (.ref fa)->
   ∃fd:FuncData,(∀(s:Shared) (u:Value),BindsTo s fd ⟨[u],[]⟩ [(x,u)])/\∀base:Heap,(K w.params).In base->base.Ns mainGlobals mg->AU l.prog w (K w.params) mg base Be k fa fd [x] (OJ (K w.params))) :
  PySem.W.WalkO q loose XP YP l.row.toRowW d [] (fun f vs=>PySem.call f vs):=
 L2.walk_of (n:=63) (k:=k) (x:=x) (CX:=fun _=>Be) (sp:=fun w=>OJ (K w.params)) hn (by decide) hdf
  ⟨rfl,by
    have:callerA.depth+605<recursionLimit:=by decide
    lia,by
     have:callerA.units+3400<cLine:=by decide
     lia,rfl⟩ hY F (fun _ H a ns hl hO hS=>⟨a,ns,rfl,hS,hl,hO,fun _=>rfl⟩) fun _ _ _ _ _ z=>z
def Eu (l:List (Str×NameKind)):Scope:={kind:=.function,names:=l,isGenerator:=false,isCoroutine:=false,more:=[]}
theorem BL:bootBuiltins "len"=some (.builtin "len"):=by decide +kernel
theorem Lu:bootBuiltins "isinstance"=some (.builtin "isinstance"):=by decide +kernel
theorem Mo:bootBuiltins "min"=some (.builtin "min"):=by decide +kernel
theorem QO:bootBuiltins "max"=some (.builtin "max"):=by decide +kernel
theorem ZF:bootBuiltins "sum"=some (.builtin "sum"):=by decide +kernel
theorem Fg:bootBuiltins "int"=some (.type "int"):=by decide +kernel
theorem ZY:bootBuiltins "bool"=some (.type "bool"):=by decide +kernel
theorem Jc:bootBuiltins "list"=some (.type "list"):=by decide +kernel
theorem IK:bootBuiltins "tuple"=some (.type "tuple"):=by decide +kernel
theorem BD {n:Nat}(h:n<=1000000):n<=sizeLine:=by rw[Gh];lia
theorem Ar {n:Nat}(h:Nat.ble n 1000000=true):n<=sizeLine:=BD (Nat.le_of_ble_eq_true h)
theorem CF {n:Nat}(h:n<1000000):n<sizeLine:=by rw[Gh];lia
theorem Ac {H:Hp}{p:Addr}(h:H p=none)(o:HO):A8 H (upd H p o):=fun b u q=>by rw[Af (AI q h)];exact q
theorem dT {p:Prop}[Decidable p](h:decide p=true):p:=IA h
theorem dF {p:Prop}[Decidable p](h:¬decide p=true):¬p:=fun z=>h (Da z)
theorem QV {ns:List Int}{k:Int}(h0:0<=k)(h:k<(ns.length:Int)):Bh (ns.map V.int) k=some (.int (ns.getD k.toNat 0)):=by
 have hk:k.toNat<ns.length:=by lia
 have ek:k=((k.toNat:Nat):Int):=by lia
 have q:Bh (ns.map V.int) ((k.toNat:Nat):Int)=some (.int (ns.getD k.toNat 0)):=CQ (by rw[AQ,AC hk];simp[Cd,hk])
 rw[←ek]at q
 exact q
def isInt:V->Bool
 |.int _=>true
 |_=>false
def UU:V->Bool
 |.int _=>true
 |.bl _=>true
 |.non=>true
 |.str _=>true
 |_=>false
def YO:Sp:=fun vs H Q _=>∃x,vs=[x]/\UU x=true/\Q (.bl (isInt x)) H
theorem CJ {α:Type}{l:List α}{i:Nat}{c:α}(h:l[i]?=some c):l.take (i+1)=l.take i++[c]:=by
 rw[List.take_succ,h];rfl
theorem NA {p:Prop}[Decidable p](h:p):(!decide p)=false:=by rw[Da h];rfl
theorem SY {p:Prop}[Decidable p](h:¬p):(!decide p)=true:=by rw[D8 h];rfl
theorem BR {b:Bool}{A B:Prop}{v:Bool}(e:b=v)(h:if v=true then A else B):if b=true then A else B:=by rw[e];exact h
set_option genInjectivity true in
inductive Tr where
 |v (x:V)
 |lst (l:List Tr)
 |tup (l:List Tr)
mutual
inductive BX (K:Faa)(H:Hp):V->Tr->Prop
 |flat {x:V}:F5 x=true->BX K H x (.v x)
 |lst {p:Addr} {xs:List V} {l:List Tr}:A5 K H p xs->Ci K H xs l->BX K H (.ref p) (.lst l)
 |tup {p:Addr} {xs:List V} {l:List Tr}:A9 K H p xs->Ci K H xs l->BX K H (.ref p) (.tup l)
inductive Ci (K:Faa)(H:Hp):List V->List Tr->Prop
 |nil:Ci K H [] []
 |cons {x:V} {t:Tr} {xs:List V} {l:List Tr}:BX K H x t->Ci K H xs l->Ci K H (x::xs) (t::l)
end
mutual
def BZ:Tr->Tr->Bool
 |.v x,.v y=>DX x y
 |.lst l,.lst m=>BK l m
 |.tup l,.tup m=>BK l m
 |_,_=>false
def BK:List Tr->List Tr->Bool
 |[],[]=>true
 |x::l,y::m=>BZ x y&&BK l m
 |_,_=>false
end
mutual
def CG:Tr->Tr->Bool
 |.v _,.v _=>true
 |.lst l,.lst m=>FD l m
 |.tup l,.tup m=>FD l m
 |_,_=>false
def FD:List Tr->List Tr->Bool
 |x::l,y::m=>CG x y&&FD l m
 |_,_=>true
end
mutual
def Do:Tr->Nat
 |.v _=>0
 |.lst l=>Eh l+1
 |.tup l=>Eh l+1
def Eh:List Tr->Nat
 |[]=>0
 |x::l=>max (Do x) (Eh l)
end
theorem R7 {x:V}(h:F5 x=true):DX x x=true:=by
 cases x<;>first|rfl|(simp[DX];done)|(simp[F5]at h)
mutual
def G5:Tr->Bool
 |.v x=>F5 x
 |.lst l=>GA l
 |.tup l=>GA l
def GA:List Tr->Bool
 |[]=>true
 |x::l=>G5 x&&GA l
end
mutual
theorem Od:∀t:Tr,G5 t=true->BZ t t=true
 |.v x,h=>by rw[BZ];exact R7 (by simpa[G5] using h)
 |.lst l,h=>by rw[BZ];exact OR l (by simpa[G5] using h)
 |.tup l,h=>by rw[BZ];exact OR l (by simpa[G5] using h)
theorem OR:∀l:List Tr,GA l=true->BK l l=true
 |[],_=>by rw[BK]
 |
  x::l,h=>by
  rw[GA,F7]at h
  rw[BK,Od x h.1,OR l h.2];rfl
end
mutual
theorem BX.ok {K:Faa}{H:Hp}:∀{x:V} {t:Tr},BX K H x t->G5 t=true
 |
  _,_,h=>by
  cases h with
  |flat h=>rw[G5];exact h
  |lst _ h=>rw[G5];exact h.ok
  |tup _ h=>rw[G5];exact h.ok
theorem Ci.ok {K:Faa}{H:Hp}:∀{xs:List V} {l:List Tr},Ci K H xs l->GA l=true
 |
  _,_,h=>by
  cases h with
  |nil=>rw[GA]
  |cons h r=>rw[GA,h.ok,r.ok];rfl
end
theorem Ci.length {K:Faa}{H:Hp}:∀{xs:List V} {l:List Tr},Ci K H xs l->xs.length=l.length
 |
  _,_,h=>by
  cases h with
  |nil=>rfl
  |cons _ r=>simp[r.length]
theorem ND:∀{l m:List Tr},l.length≠m.length->BK l m=false
 |[],[],h=>absurd rfl h
 |[],_::_,_=>by rw[BK]<;>simp
 |_::_,[],_=>by rw[BK]<;>simp
 |
  x::l,y::m,h=>by
  rw[BK,ND (l:=l) (m:=m) (fun e=>h (by simp[e])),N7]
section
variable {X:Cx}{pins:List (Addr×Obj)}{σ:St}{H:Hp}{s:Shared}
mutual
theorem BX.inj (I:A2 X pins σ H s):∀{t t':Tr} {x:V},BX X.K H x t->BX X.K H x t'->t=t'
 |
  _,_,_,h,h'=>by
  cases h with
  |
   flat h=>
   cases h' with
   |flat _=>rfl
   |lst _ _=>cases h
   |tup _ _=>cases h
  |
   lst hq hr=>
   cases h' with
   |flat h=>cases h
   |
    lst hq' hr'=>
    have e:=I.list_inj hq hq'
    subst e
    rw[Ci.inj I hr hr']
   |
    tup hq' hr'=>
    obtain⟨_,_,⟨o,n,e1,c1,_⟩,_⟩:=I.list hq
    obtain⟨_,_,⟨o',e2,c2,_⟩,_⟩:=I.tuple hq'
    rw[e1]at e2;cases e2
    rw[c1]at c2;simp at c2
  |
   tup hq hr=>
   cases h' with
   |flat h=>cases h
   |
    tup hq' hr'=>
    have e:=I.tuple_inj hq hq'
    subst e
    rw[Ci.inj I hr hr']
   |
    lst hq' hr'=>
    obtain⟨_,_,⟨o,n,e1,c1,_⟩,_⟩:=I.list hq'
    obtain⟨_,_,⟨o',e2,c2,_⟩,_⟩:=I.tuple hq
    rw[e1]at e2;cases e2
    rw[c1]at c2;simp at c2
theorem Ci.inj (I:A2 X pins σ H s):∀{l l':List Tr} {xs:List V},Ci X.K H xs l->Ci X.K H xs l'->l=l'
 |
  _,_,_,h,h'=>by
  cases h with
  |
   nil=>
   cases h'
   rfl
  |
   cons h r=>
   cases h' with
   |cons h2 r2=>rw[BX.inj I h h2,Ci.inj I r r2]
end
theorem V5 {α:Type}{e:Nat->Bool}{f:α->Bool}:∀{l:List α},(∀j x,l[j]?=some x->e j=f x)->(List.range l.length).all e=l.all f:=by
 intro l h
 rw[L8]
 simp only[Tn,FO]
 constructor
 .intro q x hx
  obtain⟨i,hi,hx⟩:=Nb.mp hx
  rw[←h i x (by rw[AC hi,hx])]
  exact q i hi
 .intro q i hi
  rw[h i l[i] (AC hi)]
  exact q _ (Nc hi)
theorem RI:∀{l m:List Tr},l.length=m.length->BK l m=(l.zip m).all fun p=>BZ p.1 p.2
 |[],[],_=>by rw[BK];rfl
 |[],_::_,h=>by simp at h
 |_::_,[],h=>by simp at h
 |
  x::l,y::m,h=>by
  rw[BK,RI (l:=l) (m:=m) (by simpa using h)]
  rfl
theorem Ci.at {K:Faa}{H:Hp}:∀{xs:List V} {l:List Tr} {j:Nat} {t:Tr},Ci K H xs l->l[j]?=some t->∃x,xs[j]?=some x/\BX K H x t
 |_,_,_,_,.nil,h=>by simp at h
 |_,_,0,_,.cons h _,e=>by simp at e;subst e;exact⟨_,rfl,h⟩
 |
  _,_,j+1,_,.cons _ r,e=>by
  obtain⟨x,h1,h2⟩:=r.at (j:=j) (by simpa using e)
  exact⟨x,by simpa using h1,h2⟩
theorem KU:∀{l m:List Tr} {j:Nat} {t t':Tr},FD l m=true->l[j]?=some t->m[j]?=some t'->CG t t'=true
 |[],_,_,_,_,_,h,_=>by simp at h
 |_::_,[],_,_,_,_,_,h=>by simp at h
 |
  x::l,y::m,0,t,t',h,e1,e2=>by
  simp at e1 e2;subst e1 e2
  rw[FD,F7]at h;exact h.1
 |
  x::l,y::m,j+1,t,t',h,e1,e2=>by
  rw[FD,F7]at h
  exact KU (j:=j) h.2 (by simpa using e1) (by simpa using e2)
theorem K2:∀{l:List Tr} {j:Nat} {t:Tr},l[j]?=some t->Do t<=Eh l
 |[],_,_,h=>by simp at h
 |x::l,0,t,h=>by simp at h;subst h;rw[Eh];lia
 |
  x::l,j+1,t,h=>by
  have:=K2 (l:=l) (j:=j) (t:=t) (by simpa using h)
  rw[Eh];lia
theorem LR {A:Around}{l m:List Tr}{xs ys:List V}{its jts:List Value}(hr:Ci X.K H xs l)(hr':Ci X.K H ys m)(rv:Az xs its)(rv':Az ys jts)
  (ih:∀(j:Nat) (t t':Tr) (x y:V) (u v:Value),l[j]?=some t->m[j]?=some t'->BX X.K H x t->AD x u->BX X.K H y t'->AD y v->SeqAt.EqAt A.in1 s u v (BZ t t')) :
  ∀j (h1:j<its.toArray.size) (h2:j<jts.toArray.size),SeqAt.EqAt A.in1 s its.toArray[j] jts.toArray[j] (match l[j]?,m[j]? with|some t,some t'=>BZ t t'|_,_=>true):=by
 intro j h1 h2
 have l1:=hr.length;have l2:=hr'.length;have l3:=rv.length;have l4:=rv'.length
 rw[AZ]at h1 h2
 obtain⟨t,ht⟩:∃t,l[j]?=some t:=⟨l[j]'(by lia),AC (by lia)⟩
 obtain⟨t',ht'⟩:∃t',m[j]?=some t':=⟨m[j]'(by lia),AC (by lia)⟩
 obtain⟨x,hx,hxt⟩:=hr.at ht
 obtain⟨y,hy,hyt⟩:=hr'.at ht'
 obtain⟨u,hu,ru⟩:=rv.get hx
 obtain⟨v,hv,rw'⟩:=rv'.get hy
 rw[ht,ht']
 have e1:its.toArray[j]=u:=by
  have:=AC (l:=its) (i:=j) h1
  rw[hu]at this
  simpa using(Cp this).symm
 have e2:jts.toArray[j]=v:=by
  have:=AC (l:=jts) (i:=j) h2
  rw[hv]at this
  simpa using(Cp this).symm
 rw[e1,e2]
 exact ih j t t' x y u v ht ht' hxt ru hyt rw'
theorem Rf {l m:List Tr}(h:l.length=m.length):(List.range l.length).all (fun j=>match l[j]?,m[j]? with|some t,some t'=>BZ t t'|_,_=>true)=BK l m:=by
 rw[RI h]
 have e:l.length=(l.zip m).length:=by rw[List.length_zip];lia
 rw[e]
 refine V5 fun j p hp=>?_
 obtain⟨h1,h2⟩:=List.getElem?_zip_eq_some.mp hp
 rw[h1,h2]
theorem R6 {A:Around}{p q:Addr}{xs ys:List V}{l m:List Tr}(I:A2 X pins σ H s)(hu:A.units<cLine)(hq:A5 X.K H p xs)(hr:Ci X.K H xs l)(hq':A5 X.K H q ys)(hr':Ci X.K H ys m)
  (ih:∀(j:Nat) (t t':Tr) (x y:V) (u v:Value),l[j]?=some t->m[j]?=some t'->BX X.K H x t->AD x u->BX X.K H y t'->AD y v->SeqAt.EqAt A.in1 s u v (BZ t t')) :
  SeqAt.RcAt A s (.ref p) (.ref q) (BK l m)/\SeqAt.RcNeAt A s (.ref p) (.ref q) (!BK l m):=by
 obtain⟨its,rv,pl,_⟩:=I.list hq
 obtain⟨jts,rv',pl',_⟩:=I.list hq'
 have l1:=hr.length;have l2:=hr'.length;have l3:=rv.length;have l4:=rv'.length
 by_cases hl:l.length=m.length
 .have e:its.toArray.size=l.length:=by rw[AZ];lia
  have a:=SeqAt.RcAt.lists (A:=A) pl.isList pl'.isList (by rw[AZ,AZ];lia) hu (LR hr hr' rv rv' ih)
  have b:=SeqAt.RcNeAt.lists (A:=A) pl.isList pl'.isList (by rw[AZ,AZ];lia) hu (LR hr hr' rv rv' ih)
  rw[e,Rf hl]at a b
  exact⟨a,b⟩
 .rw[ND hl]
  have hne:(its.toArray.size != jts.toArray.size)=true:=by
   rw[AZ,AZ]
   simp only[bne_iff_ne,ne_eq];lia
  exact⟨SeqAt.RcAt.lists_lengths pl.isList pl'.isList hne hu,SeqAt.RcNeAt.lists_lengths pl.isList pl'.isList hne hu⟩
theorem T4 {A:Around}{p q:Addr}{xs ys:List V}{l m:List Tr}(I:A2 X pins σ H s)(hu:A.units<cLine)(hq:A9 X.K H p xs)(hr:Ci X.K H xs l)(hq':A9 X.K H q ys)(hr':Ci X.K H ys m)
  (ih:∀(j:Nat) (t t':Tr) (x y:V) (u v:Value),l[j]?=some t->m[j]?=some t'->BX X.K H x t->AD x u->BX X.K H y t'->AD y v->SeqAt.EqAt A.in1 s u v (BZ t t')) :
  SeqAt.RcAt A s (.ref p) (.ref q) (BK l m)/\SeqAt.RcNeAt A s (.ref p) (.ref q) (!BK l m):=by
 obtain⟨its,rv,pl,_⟩:=I.tuple hq
 obtain⟨jts,rv',pl',_⟩:=I.tuple hq'
 have l1:=hr.length;have l2:=hr'.length;have l3:=rv.length;have l4:=rv'.length
 have a:=SeqAt.RcAt.tuples (A:=A) (show s.heap.IsTuple p its.toArray from pl) (show s.heap.IsTuple q jts.toArray from pl') hu (LR hr hr' rv rv' ih)
 have b:=SeqAt.RcNeAt.tuples (A:=A) (show s.heap.IsTuple p its.toArray from pl) (show s.heap.IsTuple q jts.toArray from pl') hu (LR hr hr' rv rv' ih)
 have e:((List.range (min its.toArray.size jts.toArray.size)).all (fun j=>match l[j]?,m[j]? with|some t,some t'=>BZ t t'|_,_=>true)&&its.toArray.size==jts.toArray.size)=BK l m:=by
  by_cases hl:l.length=m.length
  .have e1:min its.toArray.size jts.toArray.size=l.length:=by rw[AZ,AZ];lia
   have e2:(its.toArray.size==jts.toArray.size)=true:=by rw[AZ,AZ];simp;lia
   rw[e1,e2,Rf hl,Bool.and_true]
  .have e2:(its.toArray.size==jts.toArray.size)=false:=by rw[AZ,AZ];simp;lia
   rw[e2,ND hl,N7]
 rw[e]at a b
 exact⟨a,b⟩
theorem Pz (I:A2 X pins σ H s)(n:Nat):∀(A:Around) (t t':Tr) (x y:V) (u v:Value),Do t<=n->A.units+n<cLine->CG t t'=true->BX X.K H x t->AD x u->BX X.K H y t'->AD y v->SeqAt.EqAt A s u v (BZ t t'):=by
 induction n with
 |
  zero=>
  intro A t t' x y u v hd hu hs hx rx hy ry
  cases hx with
  |
   flat fx=>
   cases hy with
   |flat fy=>rw[BZ];exact On rx ry fx fy
   |lst _ _=>simp[CG]at hs
   |tup _ _=>simp[CG]at hs
  |lst _ _=>simp[Do]at hd
  |tup _ _=>simp[Do]at hd
 |
  succ n ih=>
  intro A t t' x y u v hd hu hs hx rx hy ry
  cases hx with
  |
   flat fx=>
   cases hy with
   |flat fy=>rw[BZ];exact On rx ry fx fy
   |lst _ _=>simp[CG]at hs
   |tup _ _=>simp[CG]at hs
  |
   @lst p xs l hq hr=>
   cases hy with
   |flat fy=>simp[CG]at hs
   |tup _ _=>simp[CG]at hs
   |
    @lst q ys m hq' hr'=>
    cases rx;cases ry
    rw[Do]at hd
    rw[CG]at hs
    by_cases e:p=q
    .subst e
     have e1:=BX.inj I (BX.lst hq hr) (BX.lst hq' hr')
     rw[←e1,Od _ (BX.lst hq hr).ok]
     exact SeqAt.EqAt.same _
    .rw[BZ]
     refine SeqAt.EqAt.of_refs e (R6 I (by lia) hq hr hq' hr' fun j t t' x y u v h1 h2 h3 h4 h5 h6=>?_).1
     exact ih A.in1 t t' x y u v (by have:=K2 h1;lia) (by show A.units+1+n<cLine;lia) (KU hs h1 h2) h3 h4 h5 h6
  |
   @tup p xs l hq hr=>
   cases hy with
   |flat fy=>simp[CG]at hs
   |lst _ _=>simp[CG]at hs
   |
    @tup q ys m hq' hr'=>
    cases rx;cases ry
    rw[Do]at hd
    rw[CG]at hs
    by_cases e:p=q
    .subst e
     have e1:=BX.inj I (BX.tup hq hr) (BX.tup hq' hr')
     rw[←e1,Od _ (BX.tup hq hr).ok]
     exact SeqAt.EqAt.same _
    .rw[BZ]
     refine SeqAt.EqAt.of_refs e (T4 I (by lia) hq hr hq' hr' fun j t t' x y u v h1 h2 h3 h4 h5 h6=>?_).1
     exact ih A.in1 t t' x y u v (by have:=K2 h1;lia) (by show A.units+1+n<cLine;lia) (KU hs h1 h2) h3 h4 h5 h6
end
section
variable {X:Cx}
def LF (K:Faa)(neg:Bool):R2:=fun x y H Q=>∃t t',BX K H x t/\BX K H y t'/\(∃p,x = .ref p)/\(∃p,y = .ref p)/\CG t t'=true/\Do t<=60/\Q (.bl (if neg then !BZ t t' else BZ t t')) H
theorem RH {neg:Bool}(hu:X.A.units+64<cLine):BP X (compareOp (if neg then .NotEq else .Eq)) (LF X.K neg):=by
 intro pins s σ H x y v u Q I rx ry h
 obtain⟨t,t',hx,hy,⟨p,rfl⟩,⟨q,rfl⟩,hs,hd,q'⟩:=h
 cases rx;cases ry
 have done:∀l m,SeqAt.RcAt X.A s (.ref p) (.ref q) (BK l m)/\SeqAt.RcNeAt X.A s (.ref p) (.ref q) (!BK l m)->Q (.bl (if neg then !BK l m else BK l m)) H->
   wpAny (model X.prog X.w) X.A (compareOp (if neg then .NotEq else .Eq) (.ref p) (.ref q)) (EP X pins σ Q) X.xe s:=fun l m hb hq=>by
  cases neg with
  |false=>exact hb.1 X.prog X.w X.xe _ ⟨.bl _,H,I,rfl,hq⟩
  |true=>exact hb.2 X.prog X.w X.xe _ ⟨.bl _,H,I,rfl,hq⟩
 cases hx with
 |flat fx=>cases fx
 |
  @lst _ xs l hq hr=>
  cases hy with
  |flat fy=>cases fy
  |tup _ _=>simp[CG]at hs
  |
   @lst _ ys m hq' hr'=>
   rw[Do]at hd
   rw[CG]at hs
   rw[BZ]at q'
   refine done l m (R6 I (by lia) hq hr hq' hr' fun j t t' x y u v h1 h2 h3 h4 h5 h6=>?_) q'
   exact Pz I 60 X.A.in1 t t' x y u v (by have:=K2 h1;lia) (by show X.A.units+1+60<cLine;lia) (KU hs h1 h2) h3 h4 h5 h6
 |
  @tup _ xs l hq hr=>
  cases hy with
  |flat fy=>cases fy
  |lst _ _=>simp[CG]at hs
  |
   @tup _ ys m hq' hr'=>
   rw[Do]at hd
   rw[CG]at hs
   rw[BZ]at q'
   refine done l m (T4 I (by lia) hq hr hq' hr' fun j t t' x y u v h1 h2 h3 h4 h5 h6=>?_) q'
   exact Pz I 60 X.A.in1 t t' x y u v (by have:=K2 h1;lia) (by show X.A.units+1+60<cLine;lia) (KU hs h1 h2) h3 h4 h5 h6
theorem Mj (hu:X.A.units+64<cLine):BP X (compareOp .Eq) (LF X.K false):=RH (neg:=false) hu
theorem RM (hu:X.A.units+64<cLine):BP X (compareOp .NotEq) (LF X.K true):=RH (neg:=true) hu
theorem Hc {A:Around}{k:Nat}(hr:Cb k A):A.units+64<cLine:=by have:=hr.un;lia
end
section
variable {X:Cx}
end
abbrev G3:Str:="abcdefghijklmnopqrstuvwxyz"
theorem Ud:Fx G3=(List.range 26).map (97 + ·):=by decide +kernel
def GJ (x:Int):Nat:=97+(x%26).toNat
theorem T2 (x:Int):Bh (Fx G3) (x%26)=some (GJ x):=by
 have h0:=Ei x (show(26:Int)≠0 by decide)
 have h1:=Ej x (show(0:Int)<26 by decide)
 have e:x%26=(((x%26).toNat:Nat):Int):=by lia
 rw[e]
 refine CQ ?_
 rw[Ud,AQ,JB (by lia)]
 rfl
theorem SS:G3.length<=sizeLine:=BD (by decide +kernel)
theorem OQ {α:Type}(l:List α){k:Int}(h:0<=k):IX l none (some k)=l.take k.toNat:=by
 unfold IX
 have e:k=((k.toNat:Nat):Int):=by lia
 rw[HT.sIx_none,e,HT.sIx_nat,La,Nd]
 rw[show(((k.toNat:Nat):Int)).toNat=k.toNat by lia]
 by_cases h:k.toNat<=l.length
 .rw[Ij h]
 .rw[Nat.min_eq_right (by lia),CU (by lia),CU (by lia)]
theorem Vq {α:Type}(l:List α){i j:Int}(hi:0<=i)(hj:0<=j)(hl:j<=(l.length:Int))(hij:i<=j):IX l (some i) (some j)=(l.drop i.toNat).take (j.toNat-i.toNat):=by
 unfold IX
 have e1:i=((i.toNat:Nat):Int):=by lia
 have e2:j=((j.toNat:Nat):Int):=by lia
 rw[e1,e2,HT.sIx_nat,HT.sIx_nat]
 rw[show(((i.toNat:Nat):Int)).toNat=i.toNat by lia,show(((j.toNat:Nat):Int)).toNat=j.toNat by lia,Ij (by lia),Ij (by lia)]
theorem TU {α:Type}(l:List α){i:Int}(hi:0<=i):IX l (some i) none=l.drop i.toNat:=by
 unfold IX
 have e1:i=((i.toNat:Nat):Int):=by lia
 rw[e1,HT.sIx_nat,HT.sIx_none,show(((i.toNat:Nat):Int)).toNat=i.toNat by lia]
 by_cases h:i.toNat<=l.length
 .rw[Ij h,CU (by rw[GN];lia)]
 .rw[Nat.min_eq_right (by lia),Cq,List.take_zero,Nf (by lia)]
def aU (C:Addr):Sp:=fun vs H Q _=>∃(x dx:Addr) (n:V),vs=[.ref x,n]/\H x=some (.ins C dx [])/\∀H',(∀b o,H b=some o->b≠x->H' b=some o)->(∃dx,H' x=some (.ins C dx [("n",n)]))->Q .non H'
def Ys (C:Addr):Sp:=fun vs H Q _=>∃(x dx:Addr) (v1 v2 v3 v4 v5 v6 v7:V),vs=[.ref x,v1,v2,v3,v4,v5,v6,v7]/\H x=some (.ins C dx [])/\∀H',(∀b o,H b=some o->b≠x->H' b=some o)->(∃dx,H' x=some (.ins C dx [("names",v1),("lows",v2),("highs",v3),("table",v4),("spots",v5),("term",v6),("path",v7)]))->Q .non H'
theorem IY {α:Type}[DecidableEq α]:∀{l k:List α},l.Nodup->(∀x∈l,x∈k)->l.length<=k.length
 |[],_,_,_=>Bk _
 |
  a::l,k,hn,hs=>by
  have ha:=hs a BN
  have h2:=Ig.mp hn
  have:=IY (l:=l) (k:=k.erase a) h2.2 fun x hx=>(Tp (show x≠a from fun e=>h2.1 (by rw[←e];exact hx))).mpr (hs x (C6 _ hx))
  rw[Tq ha]at this
  have:0<k.length:=List.length_pos_of_mem ha
  simp only[B9]
  lia
theorem NQ {tt:TT}{ta tb:TS}{D:CL}{σ:St}{H:Hp}(M:Hp->Prop)(hb:∀H',M H'->tb D σ H')(h:(∀H',M H'->tb D σ H')->Hw tt ta tb D σ H):Hw tt ta tb D σ H:=h hb
theorem M0 {H H2:Hp}{x dx C:Addr}(hx:H x=none)(hdx:H dx=none)(k:∀b o,(upd (upd H dx (.own x)) x (.ins C dx [])) b=some o->b≠x->H2 b=some o):A8 H H2:=fun b o e=>by
 have n1:=AI e hx
 have n2:=AI e hdx
 exact k b o (by rw[Af n1,Af n2];exact e) n1
section
variable {X:Cx}{pins:List (Addr×Obj)}{σ:St}{H:Hp}{s:Shared}{h':Heap}
theorem A2.turnedL {t':Nat}{ch:List Addr}(I:A2 X pins σ H s)(k:∀b o,b∉ch->s.heap.get? b=some o->h'.get? b=some o)(hf:∀b∈ch,F4 X pins H b):A2 X pins σ H {s with heap:=h',toks:=t'}:=by
 have nit:∀b u,H b=some u->b∉ch:=fun b u e z=>by rw[(hf b z).1]at e;cases e
 have hL:X.env.locals∉ch:=fun z=>(hf _ z).2.1 rfl
 refine I.step (g':=s.gens) (d':=s.drawn) (ch:=ch) (fun b hb=>?_) (fun b o _ _ hc e _=>k b o hc e) (fun b o _ _ hc e _=>⟨o.slots,k b o hc e⟩) (fun _ _ _ _ n=>n)
  (fun b o hc e=>⟨o,k b o hc e⟩) (fun _ _ e=>e) (fun _ _ _ e=>e) (fun b ps e=>⟨#[],by rw[e];simp⟩) (fun m hm=>?_) (fun b u e=>?_) I.bare
 .obtain⟨f0,f1,f2,f3,f4,f5⟩:=hf b hb
  exact⟨f3,f1,f4,f5⟩
 .obtain⟨o,es,ep,ho,r⟩:=hm
  exact⟨o,es,ep,k _ o hL ho,r⟩
 .refine(I.hok b u e).stay (fun c v hc q=>k c v ?_ q) (fun _ q=>q) fun _ _ q=>q
  rcases hc with z|z
  .rw[z];exact nit b u e
  .exact nit c _ z
end
def KW (K:Faa)(a:Addr):It:=
 ⟨fun i H=>∃xs x,A5 K H a xs/\xs[i]?=some x,fun i H v H'=>∃x T,(∀xs,A5 K H a xs->xs[i]?=some x)/\H T=none/\v = .ref T/\H'=upd H T (.tup [.int i,x]),fun i H=>∃xs,A5 K H a xs/\xs.length<=i⟩
theorem U5 {P:Program}{w:World}{K:Faa}{elts:List Expr}{x1:Nat}{pos:Pos}(a e it:Addr)(hei:e≠it):Gn P w K (.Tuple elts x1 pos) (KW K a) [e,it] e (fun i h=>(∃old,IsEnum h e it i old)/\h.IsListIter it a i) where
 mem:=by simp
 obj:=fun i h st b hb=>by
  obtain⟨⟨old,he⟩,hit⟩:=st
  rcases AS.mp hb with rfl|hb
  .exact⟨_,he,fun v z=>by cases z⟩
  .have e:b=it:=by simpa using hb
   subst e
   obtain⟨o,e,c,d⟩:=hit
   exact⟨o,e,fun v z=>by rw[d]at z;cases z⟩
 keep:=fun i h h' st k=>by
  obtain⟨⟨old,he⟩,hit⟩:=st
  exact⟨⟨old,k e (by simp) _ he⟩,hit.at fun o e=>k it (by simp) o e⟩
 item:=by
  intro X hP hw hK hc i pins s σ H E I hf st hg
  subst hP hw hK
  obtain⟨xs,x,hq,hx⟩:=hg
  obtain⟨its,rv,p,hz⟩:=I.list hq
  obtain⟨u,hu,ru⟩:=rv.get hx
  obtain⟨⟨old,he⟩,hit⟩:=st
  refine wpAny_pyNext_enum_item he hit p.isList (x:=u) (by simpa using hu) hei fun h1 ho hit' hT hsz hk=>⟨_,rfl,?_⟩
  refine wpAny_letOwnedTupleGo_enum ho fun h2 he2 hs2=>?_
  have hTn:H s.heap.objs.size=none:=I.hok.fresh (Ah _)
  have helt:e<s.heap.objs.size:=AA he
  have hilt:it<s.heap.objs.size:=by obtain⟨_,x,_⟩:=hit;exact AA x
  have I1:A2 X pins σ (upd H s.heap.objs.size (.tup [.int i,x])) {s with heap:=s.heap.push {cls:=.type "tuple",data:=.seq #[.int i s.toks,u]},toks:=s.toks+1}:=I.laid (t':=s.toks+1) (o:=.tup [.int i,x]) (fun b o e=>Aw _ e) (Ah _) ⟨Ar rfl,[.int i s.toks,u],.cons ⟨_,rfl⟩ (.cons ru .nil),ED.new _ _⟩
  have I2:A2 X pins σ (upd H s.heap.objs.size (.tup [.int i,x])) {s with heap:=h2,toks:=s.toks+1}:=by
   refine A2.turnedL (s:={s with heap:=s.heap.push {cls:=.type "tuple",data:=.seq #[.int i s.toks,u]},toks:=s.toks+1}) (h':=h2) (ch:=[e,it]) (t':=s.toks+1) I1 (fun b o hb q=>?_) (fun b hb=>?_)
   .have nbe:b≠e:=fun z=>hb (by simp[z])
    have nbi:b≠it:=fun z=>hb (by simp[z])
    show h2.get? b=some o
    rw[hs2.2 b nbe]
    rcases Ng q with⟨rfl,rfl⟩|q
    .exact hT
    .exact hk b o nbe nbi q
   .obtain⟨f0,f1,f2,f3,f4,f5⟩:=hf b hb
    have nb:b≠s.heap.objs.size:=by
     rcases AS.mp hb with rfl|hb
     .exact AN helt
     .have:b=it:=by simpa using hb
      subst this
      exact AN hilt
    exact⟨by rw[Af nb];exact f0,f1,f2,f3,f4,f5⟩
  refine⟨.ref s.heap.objs.size,_,I2,rfl,⟨x,_,fun ys hy=>by rw[I.list_inj hy hq];exact hx,hTn,rfl,rfl⟩,⟨⟨_,by simpa using he2⟩,hit'.at fun o y=>(hs2.2 it hei.symm).trans y⟩,fun b hb=>?_⟩
  obtain⟨f0,f1,f2,f3,f4,f5⟩:=hf b hb
  have nb:b≠s.heap.objs.size:=by
   rcases AS.mp hb with rfl|hb
   .exact AN helt
   .have:b=it:=by simpa using hb
    subst this
    exact AN hilt
  rw[Af nb]
  exact f0
 done:=by
  intro X hP hw hK hc i pins s σ H E I hf st hg
  subst hP hw hK
  obtain⟨xs,hq,hx⟩:=hg
  obtain⟨its,rv,p,hz⟩:=I.list hq
  obtain⟨⟨old,he⟩,hit⟩:=st
  have hl:=rv.length
  refine wpAny_pyNext_enum_end (I.ok.hd hc) he hit p.isList (by simp;lia) fun h' eb=>⟨rfl,?_⟩
  exact I.turnedL (ch:=[e,it]) (t':=s.toks) (fun b o hb q=>eb b o (fun z=>hb (by simp[z])) q) hf
 self:=fun _ _ _ _ _ st h=>by
  obtain⟨⟨old,he⟩,_⟩:=st
  exact Po he h
def Wf (K:Faa)(ta:TA):TI:=fun σ H R=>ta σ H fun vs H1=>∃a:Addr,vs=[.ref a]/\(∃xs,A5 K H1 a xs)/\R (KW K a) H1
theorem JW {X:Cx}{a:Expr}{ta:TA}{p pos:Pos}{elts:List Expr}{x1:Nat}{pos2:Pos}(hg:Gl X "enumerate")(hm:X.mg "enumerate"=none)(ha:PA X [a] ta)(hs:starEach [a] X.env=[(false,eval a X.env)]:=by rfl):PI X (.Tuple elts x1 pos2) (.Call (.Name "enumerate" p) [a] [] pos) (Wf X.K ta):=by
 intro pins s σ H R I h
 refine Call_ (Ed I hg hm boot_enumerate (Ge (Ax (ha pos pins s σ H _ I h) fun us s1 zz=>?_) hs rfl))
 obtain⟨vs,H1,I1,r1,q1⟩:=zz
 obtain⟨l,rfl,⟨xs,hq⟩,q⟩:=q1
 cases r1 with
 |
  cons r rr=>
  cases rr
  cases r
  obtain⟨its,rv,pl,hz⟩:=I1.list hq
  refine call_enumerate_list pl.isList fun h' he hit hsz hk=>?_
  refine Po he ?_
  refine⟨_,[s1.heap.objs.size+1,s1.heap.objs.size],_,_,H1,rfl,I1.kept (t':=s1.toks) hk,U5 l _ _ (BU (Ie _)),⟨⟨_,he⟩,hit⟩,fun b hb=>?_,q⟩
  rcases AS.mp hb with rfl|hb
  .exact I1.fpOk (F6 _) (I1.hok.fresh (F6 _))
  .have e:b=s1.heap.objs.size:=by simpa using hb
   subst e
   exact I1.fpOk (Ah _) (I1.hok.fresh (Ah _))
theorem K8 {K:Faa}{a:Addr}{xs:List V}{g:TG}{tb:TS}{D:CL}{σ:St}{H:Hp}(Pv:Nat->St->Hp->Prop)(h0:Pv 0 σ H)(hl:∀i σ H,i<=xs.length->Pv i σ H->A5 K H a xs)
  (hs:∀i x T σ H,xs[i]?=some x->Pv i σ H->H T=none->g (.ref T) σ (upd H T (.tup [.int i,x])) fun σ2 H2=>tb {D with nx:=Pv (i+1),ct:=Pv (i+1),bk:=D.nx} σ2 H2) (hd:∀σ H,Pv xs.length σ H->D.nx σ H) :
  ∃W:Nat->Nat->St->Hp->Prop,(∃m,W 0 m σ H)/\∀i m σ H,W i m σ H->
   ((KW K a).stop i H/\D.nx σ H)\/((KW K a).go i H/\∃N:St->Hp->Prop,(∀σ' H',N σ' H'->∃m',m'<m/\W (i+1) m' σ' H')/\∀x H',(KW K a).yld i H x H'->g x σ H' fun σ2 H2=>tb {D with nx:=N,ct:=N,bk:=D.nx} σ2 H2):=by
 refine⟨fun i m σ H=>m=xs.length-i/\i<=xs.length/\Pv i σ H,⟨xs.length,by simp,Bk _,h0⟩,?_⟩
 rintro i m σ H ⟨rfl,hi,p⟩
 have q:=hl i σ H hi p
 by_cases hlt:i<xs.length
 .refine .inr ⟨⟨xs,xs[i],q,AC hlt⟩,Pv (i+1),fun σ' H' p'=>⟨xs.length-(i+1),by lia,rfl,hlt,p'⟩,fun v H' y=>?_⟩
  obtain⟨x,T,hx,hT,rfl,rfl⟩:=y
  exact hs i x T σ H (hx xs q) p hT
 .have e:i=xs.length:=by lia
  subst e
  exact .inl ⟨⟨xs,q,Ah _⟩,hd σ H p⟩
def JM (K:Faa)(a b:Addr):It:=
 ⟨fun i H=>∃xs ys x y,A5 K H a xs/\A5 K H b ys/\xs[i]?=some x/\ys[i]?=some y,fun i H v H'=>∃x y T,(∀xs,A5 K H a xs->xs[i]?=some x)/\(∀ys,A5 K H b ys->ys[i]?=some y)/\H T=none/\v = .ref T/\H'=upd H T (.tup [x,y]),
  fun i H=>∃xs ys,A5 K H a xs/\A5 K H b ys/\(xs.length<=i\/ys.length<=i)⟩
theorem Xh {P:Program}{w:World}{K:Faa}{elts:List Expr}{x1:Nat}{pos:Pos}(a b z TI TO i1 i2:Addr)(D:ZipApart z TI TO i1 i2 a b) :
  Gn P w K (.Tuple elts x1 pos) (JM K a b) [z,TI,TO,i1,i2] z (fun i h=>IsZip h z TI TO .none/\IsPair h TI (.ref i1) (.ref i2)/\(∃p q,IsPair h TO p q)/\h.IsListIter i1 a i/\h.IsListIter i2 b i) where
 mem:=by simp
 obj:=fun i h st c hc=>by
  obtain⟨hz,hTI,⟨p,q,hTO⟩,h1,h2⟩:=st
  simp only[AS,DI,or_false]at hc
  rcases hc with rfl|rfl|rfl|rfl|rfl
  .exact⟨_,hz,fun v z=>by cases z⟩
  .exact⟨_,hTI,fun v z=>by cases z⟩
  .exact⟨_,hTO,fun v z=>by cases z⟩
  .obtain⟨o,e,c,d⟩:=h1
   exact⟨o,e,fun v z=>by rw[d]at z;cases z⟩
  .obtain⟨o,e,c,d⟩:=h2
   exact⟨o,e,fun v z=>by rw[d]at z;cases z⟩
 keep:=fun i h h' st k=>by
  obtain⟨hz,hTI,⟨p,q,hTO⟩,h1,h2⟩:=st
  exact⟨k z (by simp) _ hz,k TI (by simp) _ hTI,⟨p,q,k TO (by simp) _ hTO⟩,h1.at fun o e=>k i1 (by simp) o e,h2.at fun o e=>k i2 (by simp) o e⟩
 item:=by
  intro X hP hw hK hc i pins s σ H E I hf st hg
  subst hP hw hK
  obtain⟨xs,ys,x,y,hq1,hq2,hx,hy⟩:=hg
  obtain⟨its1,rv1,p1,_⟩:=I.list hq1
  obtain⟨its2,rv2,p2,_⟩:=I.list hq2
  obtain⟨u,hu,ru⟩:=rv1.get hx
  obtain⟨v,hv,rv⟩:=rv2.get hy
  obtain⟨hz,hTI,⟨pa,qa,hTO⟩,h1,h2⟩:=st
  refine wpAny_pyNext_zip_item D hz hTI hTO h1 h2 p1.isList p2.isList (x:=u) (y:=v) (by simpa using hu) (by simpa using hv) fun hh hz' hTO' h1' h2' hT hsz hk=>⟨_,rfl,?_⟩
  refine TL hz' fun h3 hz3 hs3=>?_
  have hTn:H s.heap.objs.size=none:=I.hok.fresh (Ah _)
  have lts:∀c∈[z,TI,TO,i1,i2],c<s.heap.objs.size:=fun c hc=>by
   simp only[AS,DI,or_false]at hc
   rcases hc with rfl|rfl|rfl|rfl|rfl
   .exact AA hz
   .exact AA hTI
   .exact AA hTO
   .obtain⟨_,e,_⟩:=h1;exact AA e
   .obtain⟨_,e,_⟩:=h2;exact AA e
  have I1:A2 X pins σ (upd H s.heap.objs.size (.tup [x,y])) {s with heap:=s.heap.push {cls:=.type "tuple",data:=.seq #[u,v]}}:=I.laid (t':=s.toks) (o:=.tup [x,y]) (fun b o e=>Aw _ e) (Ah _) ⟨Ar rfl,[u,v],.cons ru (.cons rv .nil),ED.new _ _⟩
  have I2:A2 X pins σ (upd H s.heap.objs.size (.tup [x,y])) {s with heap:=h3}:=by
   refine A2.turnedL (s:={s with heap:=s.heap.push {cls:=.type "tuple",data:=.seq #[u,v]}}) (h':=h3) (ch:=[z,TI,TO,i1,i2]) (t':=s.toks) I1 (fun b o hb q=>?_) (fun b hb=>?_)
   .simp only[AS,DI,or_false,not_or]at hb
    obtain⟨n1,n2,n3,n4,n5⟩:=hb
    show h3.get? b=some o
    rw[hs3.2 b n1]
    rcases Ng q with⟨rfl,rfl⟩|q
    .exact hT
    .exact hk b o n1 n3 n4 n5 q
   .obtain⟨f0,f1,f2,f3,f4,f5⟩:=hf b hb
    exact⟨by rw[Af (AN (lts b hb))];exact f0,f1,f2,f3,f4,f5⟩
  have k3:∀c,c≠z->∀o,hh.get? c=some o->h3.get? c=some o:=fun c hc o e=>(hs3.2 c hc).trans e
  refine⟨.ref s.heap.objs.size,_,I2,rfl,⟨x,y,_,fun zs hy=>by rw[I.list_inj hy hq1];exact hx,fun zs hy'=>by rw[I.list_inj hy' hq2];exact hy,hTn,rfl,rfl⟩,⟨hz3,k3 TI D.TIz _ (hk TI _ D.TIz D.TITO D.TIi1 D.TIi2 hTI),⟨u,v,k3 TO D.TOz _ hTO'⟩,h1'.at (k3 i1 D.i1z),h2'.at (k3 i2 D.i2z)⟩,fun b hb=>?_⟩
  rw[Af (AN (lts b hb))]
  exact(hf b hb).1
 done:=by
  intro X hP hw hK hc i pins s σ H E I hf st hg
  subst hP hw hK
  obtain⟨xs,ys,hq1,hq2,hl⟩:=hg
  obtain⟨its1,rv1,p1,_⟩:=I.list hq1
  obtain⟨its2,rv2,p2,_⟩:=I.list hq2
  obtain⟨hz,hTI,⟨pa,qa,hTO⟩,h1,h2⟩:=st
  have hl1:=rv1.length
  have hl2:=rv2.length
  refine wpAny_pyNext_zip_end (I.ok.hd hc) D hz hTI hTO h1 h2 p1.isList p2.isList (hl.imp (fun z=>by simp;lia) (fun z=>by simp;lia)) fun h' hk=>⟨rfl,?_⟩
  refine I.turnedL (ch:=[z,TI,TO,i1,i2]) (t':=s.toks) (fun b o hb q=>?_) hf
  simp only[AS,DI,or_false,not_or]at hb
  obtain⟨n1,n2,n3,n4,n5⟩:=hb
  exact hk b o n1 n3 n4 n5 q
 self:=fun _ _ _ _ _ st h=>by
  obtain⟨hz,_⟩:=st
  exact Li hz h
def aW (K:Faa)(ta:TA):TI:=fun σ H R=>ta σ H fun vs H1=>∃a b:Addr,vs=[.ref a,.ref b]/\(∃xs,A5 K H1 a xs)/\(∃ys,A5 K H1 b ys)/\R (JM K a b) H1
theorem QQ {X:Cx}{a b:Expr}{ta:TA}{p pos:Pos}{elts:List Expr}{x1:Nat}{pos2:Pos}(hg:Gl X "zip")(hm:X.mg "zip"=none)(ha:PA X [a,b] ta)(hs:starEach [a,b] X.env=[(false,eval a X.env),(false,eval b X.env)]:=by rfl)(hs2:starEach [b] X.env=[(false,eval b X.env)]:=by rfl) :
  PI X (.Tuple elts x1 pos2) (.Call (.Name "zip" p) [a,b] [] pos) (aW X.K ta):=by
 intro pins s σ H R I h
 refine Call_ (Ed I hg hm boot_zip (Ge (Ax (ha pos pins s σ H _ I h) fun us s1 zz=>?_) (by rw[hs,hs2]) (by rw[hs2];rfl)))
 obtain⟨vs,H1,I1,r1,q1⟩:=zz
 obtain⟨l1,l2,rfl,⟨xs,hq1⟩,⟨ys,hq2⟩,q⟩:=q1
 cases r1 with
 |
  cons r rr=>
  cases rr with
  |
   cons r' rr=>
   cases rr
   cases r
   cases r'
   obtain⟨its1,rv1,p1,_⟩:=I1.list hq1
   obtain⟨its2,rv2,p2,_⟩:=I1.list hq2
   have lt1:l1<s1.heap.objs.size:=by obtain⟨_,e,_⟩:=p1.isList;exact AA e
   have lt2:l2<s1.heap.objs.size:=by obtain⟨_,e,_⟩:=p2.isList;exact AA e
   refine call_zip_2 p1.isList p2.isList fun h' hz hTI hTO h1 h2 hsz hk=>?_
   refine Li hz ?_
   have ne:∀{m n:Nat},m<n->(m:Nat)≠n:=fun h=>AN h
   refine⟨_,[s1.heap.objs.size+4,s1.heap.objs.size+2,s1.heap.objs.size+3,s1.heap.objs.size,s1.heap.objs.size+1],_,_,H1,rfl,I1.kept (t':=s1.toks) hk,Xh l1 l2 _ _ _ _ _ ⟨?_,?_,?_,?_,?_,?_,?_,?_,?_,?_,?_,?_,?_,?_,?_,?_,?_,?_⟩,⟨hz,hTI,⟨_,_,hTO⟩,h1,h2⟩,fun b hb=>?_,q⟩
   case refine_19=>
    simp only[AS,DI,or_false]at hb
    have hb':s1.heap.objs.size<=b:=by
     rcases hb with rfl|rfl|rfl|rfl|rfl
     .exact CI _ 4
     .exact CI _ 2
     .exact CI _ 3
     .exact Ah _
     .exact CI _ 1
    exact I1.fpOk hb' (I1.hok.fresh hb')
   all_goals first
    |exact AN lt1
    |exact AN lt2
    |exact AN (BS lt1 (CI _ _))
    |exact AN (BS lt2 (CI _ _))
    |(show(_:Nat)≠_;lia)
theorem Q3 {K:Faa}{a b:Addr}{xs ys:List V}{g:TG}{tb:TS}{D:CL}{σ:St}{H:Hp}(hlen:xs.length=ys.length)(Pv:Nat->St->Hp->Prop)(h0:Pv 0 σ H)(hl:∀i σ H,i<=xs.length->Pv i σ H->A5 K H a xs/\A5 K H b ys)
  (hs:∀i x y T σ H,xs[i]?=some x->ys[i]?=some y->Pv i σ H->H T=none->g (.ref T) σ (upd H T (.tup [x,y])) fun σ2 H2=>tb {D with nx:=Pv (i+1),ct:=Pv (i+1),bk:=D.nx} σ2 H2) (hd:∀σ H,Pv xs.length σ H->D.nx σ H) :
  ∃W:Nat->Nat->St->Hp->Prop,(∃m,W 0 m σ H)/\∀i m σ H,W i m σ H->
   ((JM K a b).stop i H/\D.nx σ H)\/((JM K a b).go i H/\∃N:St->Hp->Prop,(∀σ' H',N σ' H'->∃m',m'<m/\W (i+1) m' σ' H')/\∀x H',(JM K a b).yld i H x H'->g x σ H' fun σ2 H2=>tb {D with nx:=N,ct:=N,bk:=D.nx} σ2 H2):=by
 refine⟨fun i m σ H=>m=xs.length-i/\i<=xs.length/\Pv i σ H,⟨xs.length,by simp,Bk _,h0⟩,?_⟩
 rintro i m σ H ⟨rfl,hi,p⟩
 obtain⟨q1,q2⟩:=hl i σ H hi p
 by_cases hlt:i<xs.length
 .refine .inr ⟨⟨xs,ys,xs[i],ys[i],q1,q2,AC hlt,AC (by lia)⟩,Pv (i+1),fun σ' H' p'=>⟨xs.length-(i+1),by lia,rfl,hlt,p'⟩,fun v H' yy=>?_⟩
  obtain⟨x,y,T,hx,hy,hT,rfl,rfl⟩:=yy
  exact hs i x y T σ H (hx xs q1) (hy ys q2) p hT
 .have e:i=xs.length:=by lia
  subst e
  exact .inl ⟨⟨xs,ys,q1,q2,.inl (Ah _)⟩,hd σ H p⟩
end L2
namespace Bd
structure Ao where
 x:Nat
 y:Nat
 c:Int
structure Sv where
 v:Nat->Int
 p:Nat->Option Nat
 low:Option Nat
def B1 {α:Type}(f:Nat->α)(i:Nat)(a:α):Nat->α:=fun j=>if j=i then a else f j
theorem BV {α:Type}{f:Nat->α}{i:Nat}{a:α}:B1 f i a i=a:=Aj rfl
theorem C1 {α:Type}{f:Nat->α}{i j:Nat}{a:α}(h:j≠i):B1 f i a j=f j:=Ab h
def II (i:Nat)(b:Ao)(s:Sv):Sv:=if s.v b.x>s.v b.y+b.c then⟨B1 s.v b.x (s.v b.y+b.c),B1 s.p b.x (some i),some b.x⟩ else s
def rnd (B:List Ao):Nat->Sv->Sv
 |0,s=>s
 |
  k+1,s=>match B[k]? with
  |some b=>II k b (rnd B k s)
  |none=>rnd B k s
def D5 (B:List Ao)(s:Sv):Sv:=rnd B B.length {s with low:=none}
def go (B:List Ao):Nat->Sv->Sv ⊕ Sv
 |0,s=>.inr s
 |
  k+1,s=>match (D5 B s).low with
  |none=>.inl (D5 B s)
  |some _=>go B k (D5 B s)
def Fd:Sv:=⟨fun _=>0,fun _=>none,none⟩
def pb (B:List Ao)(p:Nat->Option Nat)(x:Nat):Ao:=match p x with
 |some i=>B.getD i ⟨0,0,0⟩
 |none=>⟨0,0,0⟩
def it (B:List Ao)(p:Nat->Option Nat):Nat->Nat->Nat
 |0,x=>x
 |k+1,x=>it B p k (pb B p x).y
def sm (B:List Ao)(p:Nat->Option Nat):Nat->Nat->Int
 |0,_=>0
 |k+1,x=>(pb B p x).c+sm B p k (pb B p x).y
theorem Fp (B:List Ao)(p:Nat->Option Nat)(k x:Nat):it B p (k+1) x=(pb B p (it B p k x)).y:=by
 induction k generalizing x with
 |zero=>rfl
 |succ k ih=>exact ih _
theorem Ec (B:List Ao)(p:Nat->Option Nat)(j k x:Nat):it B p (j+k) x=it B p k (it B p j x):=by
 induction j generalizing x with
 |zero=>rw[Lb];rfl
 |succ j ih=>rw[Nat.succ_add];exact ih _
theorem OH (B:List Ao)(p:Nat->Option Nat)(k x:Nat):sm B p (k+1) x=sm B p k x+(pb B p (it B p k x)).c:=by
 induction k generalizing x with
 |zero=>simp[sm,it]
 |succ k ih=>rw[sm,ih,sm,it];lia
def FK (B:List Ao)(p:Nat->Option Nat)(k x:Nat):Prop := ∀j<k,∃i,p (it B p j x)=some i
theorem FK.tail {B:List Ao}{p:Nat->Option Nat}{k x:Nat}(h:FK B p (k+1) x):FK B p k (pb B p x).y:=fun j hj=>h (j+1) (by lia)
structure A2 (B:List Ao)(r j:Nat)(s:Sv)(last:Nat->Nat):Prop where
 le:∀x,last x<=r
 par:∀x i,s.p x=some i->∃b,B[i]?=some b/\b.x=x/\s.v b.y+b.c<=s.v x/\last x<=last b.y+1
 has:∀x,1<=last x->∃i,s.p x=some i
 ok1:∀k<j,∀b,B[k]?=some b->s.v b.x<=s.v b.y+b.c\/r<=last b.y
 ok2:∀k,j<=k->∀b,B[k]?=some b->s.v b.x<=s.v b.y+b.c\/r<=last b.y+1
 neg:∀k x,FK B s.p (k+1) x->it B s.p (k+1) x=x->sm B s.p (k+1) x<0
 lowN:s.low=none->∀x,last x+1<=r
 lowS:∀x,s.low=some x->last x=r
theorem DP {B:List Ao}{p:Nat->Option Nat}{x i:Nat}{b:Ao}(h:p x=some i)(e:B[i]?=some b):pb B p x=b:=by
 unfold pb;rw[h];simp only[];rw[Cd,e];rfl
theorem RJ {B:List Ao}{v:Nat->Int}{p:Nat->Option Nat}{i:Nat}{b:Ao}(hb:B[i]?=some b)(hlt:v b.x>v b.y+b.c)
  (par:∀x i,p x=some i->∃b,B[i]?=some b/\b.x=x/\v b.y+b.c<=v x) :
  ∀k x,FK B (B1 p b.x (some i)) k x->v (it B (B1 p b.x (some i)) k x)+sm B (B1 p b.x (some i)) k x<=v x/\
   ((it B (B1 p b.x (some i)) k x=it B p k x/\sm B (B1 p b.x (some i)) k x=sm B p k x/\FK B p k x)\/v (it B (B1 p b.x (some i)) k x)+sm B (B1 p b.x (some i)) k x<v x):=by
 intro k
 induction k with
 |zero=>intro x _;exact⟨by simp[it,sm],.inl ⟨rfl,rfl,fun j hj=>by lia⟩⟩
 |
  succ k ih=>
  intro x ha
  obtain⟨l,hl⟩:=ha 0 (by lia)
  change B1 p b.x (some i) x=some l at hl
  have ha':=ha.tail
  by_cases hx:x=b.x
  .have e:pb B (B1 p b.x (some i)) x=b:=DP (by rw[hx];exact BV) hb
   simp only[it,sm]
   rw[e]at ha' ⊢
   obtain⟨h1,_⟩:=ih _ ha'
   subst hx
   exact⟨by lia,.inr (by lia)⟩
  .have hp:B1 p b.x (some i) x=p x:=C1 hx
   rw[hp]at hl
   obtain⟨b',hb',hx',hv⟩:=par _ _ hl
   have e:pb B (B1 p b.x (some i)) x=b':=DP (by rw[hp];exact hl) hb'
   have e2:pb B p x=b':=DP hl hb'
   simp only[it,sm]
   rw[e]at ha' ⊢
   rw[e2]
   obtain⟨h1,h2⟩:=ih _ ha'
   refine⟨by lia,?_⟩
   rcases h2 with⟨h2,h3,h4⟩|h2
   .refine .inl ⟨h2,by rw[h3],fun j hj=>?_⟩
    cases j with
    |zero=>exact⟨_,hl⟩
    |
     succ j=>
     show ∃i,p (it B p j (pb B p x).y)=some i
     rw[e2]
     exact h4 j (by lia)
   .exact .inr (by lia)
theorem A2.step {B:List Ao}{r j:Nat}{s:Sv}{last:Nat->Nat}(h:A2 B r j s last){b:Ao}(hb:B[j]?=some b):∃last',A2 B r (j+1) (II j b s) last':=by
 unfold II
 by_cases c:s.v b.x>s.v b.y+b.c
 .rw[Aj c]
  have hy:r<=last b.y+1:=by
   rcases h.ok2 j (Ah _) b hb with g|g
   .lia
   .exact g
  have hv:∀x,B1 s.v b.x (s.v b.y+b.c) x<=s.v x:=fun x=>by
   by_cases e:x=b.x
   .rw[e,BV];lia
   .rw[C1 e];exact GP _
  have hl:∀x,last x<=B1 last b.x r x:=fun x=>by
   by_cases e:x=b.x
   .rw[e,BV];exact h.le _
   .rw[C1 e];exact Ah _
  refine⟨B1 last b.x r,⟨fun x=>?_,fun x i e=>?_,fun x e=>?_,fun k hk b' hb'=>?_,fun k hk b' hb'=>?_,fun k x ha e=>?_,fun e=>?_,fun x e=>?_⟩⟩
  .by_cases e:x=b.x
   .rw[e,BV];exact Ah _
   .rw[C1 e];exact h.le _
  .by_cases ex:x=b.x
   .subst ex
    simp only[]at e ⊢
    rw[BV]at e
    cases e
    refine⟨b,hb,rfl,?_,?_⟩
    .rw[BV]
     by_cases ey:b.y=b.x
     .rw[ey,BV];rw[ey]at c;lia
     .rw[C1 ey];exact GP _
    .rw[BV]
     have:=hl b.y
     lia
   .simp only[]at e ⊢
    rw[C1 ex]at e
    obtain⟨b',g1,g2,g3,g4⟩:=h.par x i e
    refine⟨b',g1,g2,?_,?_⟩
    .rw[C1 ex]
     have:=hv b'.y
     lia
    .rw[C1 ex]
     have:=hl b'.y
     lia
  .simp only[]
   by_cases ex:x=b.x
   .rw[ex,BV];exact⟨_,rfl⟩
   .rw[C1 ex]at e ⊢
    exact h.has x e
  .simp only[]
   by_cases ey:b'.y=b.x
   .right;rw[ey,BV];exact Ah _
   .by_cases ek:k=j
    .subst ek
     rw[hb]at hb';cases hb'
     left;rw[BV,C1 ey];exact GP _
    .rcases h.ok1 k (by lia) b' hb' with g|g
     .left;rw[C1 ey];have:=hv b'.x;lia
     .right;have:=hl b'.y;lia
  .simp only[]
   by_cases ey:b'.y=b.x
   .right;rw[ey,BV];lia
   .rcases h.ok2 k (by lia) b' hb' with g|g
    .left;rw[C1 ey];have:=hv b'.x;lia
    .right;have:=hl b'.y;lia
  .have:=RJ hb c (fun x i e=>by obtain⟨b',g1,g2,g3,_⟩:=h.par x i e;exact⟨b',g1,g2,g3⟩) (k+1) x ha
   simp only[]at e ⊢
   rw[e]at this
   obtain⟨_,⟨g1,g2,g3⟩|g⟩:=this
   .rw[g2];exact h.neg k x g3 g1.symm
   .lia
  .cases e
  .cases e;exact BV
 .rw[Ab c]
  refine⟨last,h.le,h.par,h.has,fun k hk b' hb'=>?_,fun k hk=>h.ok2 k (by lia),h.neg,h.lowN,h.lowS⟩
  by_cases ek:k=j
  .subst ek
   rw[hb]at hb';cases hb'
   left;lia
  .exact h.ok1 k (by lia) b' hb'
theorem A2.rnd {B:List Ao}{r:Nat}{s:Sv}{last:Nat->Nat}(h:A2 B r 0 s last):∀k,k<=B.length->∃last',A2 B r k (Bd.rnd B k s) last'
 |0,_=>⟨last,h⟩
 |
  k+1,hk=>by
  obtain⟨l1,h1⟩:=A2.rnd h k (by lia)
  have e:B[k]?=some B[k]:=AC (by lia)
  unfold Bd.rnd
  rw[e]
  exact h1.step e
theorem A2.next {B:List Ao}{r:Nat}{s:Sv}{last:Nat->Nat}(h:A2 B r B.length s last):A2 B (r+1) 0 {s with low:=none} last:=
 ⟨fun x=>by have:=h.le x;lia,h.par,h.has,fun k hk=>by lia,fun k _ b hb=>by
  have:=h.ok1 k (As.mp hb).1 b hb
  rcases this with g|g
  .exact .inl g
  .right;lia,h.neg,fun _ x=>by have:=h.le x;lia,fun x e=>by cases e⟩
theorem A2.start (B:List Ao):A2 B 1 0 {Fd with low:=none} (fun _=>0):=
 ⟨fun _=>Bk _,fun x i e=>(by cases e),fun x e=>(by lia),fun k hk b hb=>(by lia),fun k hk b hb=>.inr (Ah _),fun k x ha=>(by obtain⟨i,hi⟩:=ha 0 (by lia);cases hi),fun _ x=>Ah _,fun x e=>(by cases e)⟩
theorem A2.holds {B:List Ao}{r:Nat}{s:Sv}{last:Nat->Nat}(h:A2 B r B.length s last)(e:s.low=none):∀b∈B,s.v b.x<=s.v b.y+b.c:=fun b hb=>by
 obtain⟨k,hk,rfl⟩:=Nb.mp hb
 rcases h.ok1 k hk _ (AC hk) with g|g
 .exact g
 .have:=h.lowN e B[k].y
  lia
theorem RX {B:List Ao}:∀{k r:Nat} {s:Sv} {last:Nat->Nat},A2 B r 0 {s with low:=none} last->∀{s'},go B k s = .inl s'->∀b∈B,s'.v b.x<=s'.v b.y+b.c
 |0,r,s,last,h,s',e=>by cases e
 |
  k+1,r,s,last,h,s',e=>by
  obtain⟨l1,h1⟩:=h.rnd B.length (Ah _)
  change A2 B r B.length (D5 B s) l1 at h1
  unfold go at e
  split at e
  .rename_i c;cases e
   exact h1.holds c
  .exact RX h1.next e
theorem Qh {B:List Ao}:∀{k r:Nat} {s:Sv} {last:Nat->Nat},A2 B r 0 {s with low:=none} last->∀{s'},go B (k+1) s = .inr s'->∃last x,A2 B (r+k) B.length s' last/\s'.low=some x
 |
  k,r,s,last,h,s',e=>by
  obtain⟨l1,h1⟩:=h.rnd B.length (Ah _)
  change A2 B r B.length (D5 B s) l1 at h1
  unfold go at e
  split at e
  .cases e
  .rename_i x c
   cases k with
   |zero=>cases e;exact⟨l1,x,h1,c⟩
   |
    succ k=>
    obtain⟨l2,x2,g1,g2⟩:=Qh (k:=k) h1.next e
    exact⟨l2,x2,by rw[show r+(k+1)=r+1+k by lia];exact g1,g2⟩
theorem IY {α:Type}[DecidableEq α]:∀{l k:List α},l.Nodup->(∀x∈l,x∈k)->l.length<=k.length
 |[],_,_,_=>Bk _
 |
  a::l,k,hn,hs=>by
  have ha:=hs a BN
  have h2:=Ig.mp hn
  have:=IY (l:=l) (k:=k.erase a) h2.2 fun x hx=>(Tp (show x≠a from fun e=>h2.1 (by rw[←e];exact hx))).mpr (hs x (C6 _ hx))
  rw[Tq ha]at this
  have:0<k.length:=List.length_pos_of_mem ha
  simp only[B9]
  lia
theorem Qy {n:Nat}{u:Nat->Nat}(h:∀i,i<=n->u i<n):∃i j,i<j/\j<=n/\u i=u j:=by
 apply Classical.byContradiction
 intro c
 have hn:((List.range (n+1)).map u).Nodup:=by
  rw[Ts,Ik]
  refine(List.pairwise_lt_range (n:=n+1)).imp_of_mem fun{i j} hi hj hij e=>c ⟨i,j,hij,?_,e⟩
  have:=FO.mp hj
  lia
 have:=IY hn (k:=List.range n) fun x hx=>by
  obtain⟨i,hi,rfl⟩:=C9.mp hx
  have:=FO.mp hi
  exact FO.mpr (h i (by lia))
 simp at this
 lia
theorem least {P:Nat->Prop}:∀n,P n->∃m,m<=n/\P m/\∀k<m,¬P k:=by
 intro n
 induction n using Nat.strongRecOn with
 |
  ind n ih=>
  intro h
  by_cases c:∃k,k<n/\P k
  .obtain⟨k,hk,pk⟩:=c
   obtain⟨m,h1,h2,h3⟩:=ih k hk pk
   exact⟨m,by lia,h2,h3⟩
  .exact⟨n,Ah _,h,fun k hk pk=>c ⟨k,hk,pk⟩⟩
structure Hx (n:Nat)(B:List Ao)(p:Nat->Option Nat)(x0 m:Nat):Prop where
 walk:∀j<n,∃i b,p (it B p j x0)=some i/\B[i]?=some b/\b.x=it B p j x0
 lt:∀k,k<=n->it B p k x0<n
 pos:0<m
 le:m<=n
 back:it B p m (it B p n x0)=it B p n x0
 least:∀k,0<k->k<m->it B p k (it B p n x0)≠it B p n x0
 alive:∀k,∃i b,p (it B p k (it B p n x0))=some i/\B[i]?=some b/\b.x=it B p k (it B p n x0)
 neg:sm B p m (it B p n x0)<0
theorem A2.ring {B:List Ao}{n:Nat}{s:Sv}{last:Nat->Nat}{x0:Nat}(hn:0<n)(h:A2 B n B.length s last)(e:s.low=some x0)(hB:∀b∈B,b.x<n/\b.y<n):∃m,Hx n B s.p x0 m:=by
 have hl:∀k,k<=n->n<=last (it B s.p k x0)+k:=by
  intro k
  induction k with
  |zero=>intro _;have:=h.lowS _ e;show n<=last x0+0;lia
  |
   succ k ih=>
   intro hk
   have:=ih (by lia)
   obtain⟨i,hi⟩:=h.has (it B s.p k x0) (by lia)
   obtain⟨b,g1,g2,g3,g4⟩:=h.par _ _ hi
   rw[Fp,DP hi g1]
   lia
 have hw:FK B s.p n x0:=fun j hj=>h.has _ (by have:=hl j (by lia);lia)
 have hstep:∀x i,s.p x=some i->x<n/\it B s.p 1 x<n:=fun x i hi=>by
  obtain⟨b,g1,g2,_⟩:=h.par x i hi
  have:=hB b (AO g1)
  show x<n/\(pb B s.p x).y<n
  rw[DP hi g1]
  exact⟨g2▸this.1,this.2⟩
 have hlt:∀k,k<=n->it B s.p k x0<n:=fun k hk=>by
  by_cases c:k<n
  .obtain⟨i,hi⟩:=hw k c
   exact(hstep _ _ hi).1
  .obtain⟨i,hi⟩:=hw (n-1) (by lia)
   have:=(hstep _ _ hi).2
   rw[show k=(n-1)+1 by lia,Ec]
   exact this
 obtain⟨i,j,hij,hj,eij⟩:=Qy (u:=fun k=>it B s.p k x0) hlt
 change it B s.p i x0=it B s.p j x0 at eij
 have hper:it B s.p (j-i) (it B s.p n x0)=it B s.p n x0:=by
  have e1:it B s.p n x0=it B s.p (n-i) (it B s.p i x0):=by rw[←Ec];congr 1;lia
  rw[e1,←Ec,N8,Ec]
  congr 1
  rw[←Ec,show i+(j-i)=j by lia,eij]
 obtain⟨m,hm1,⟨hm2,hm3⟩,hm4⟩:=least (P:=fun m=>0<m/\it B s.p m (it B s.p n x0)=it B s.p n x0) (j-i) ⟨by lia,hper⟩
 have hP:∀q,it B s.p (q*(j-i)) (it B s.p n x0)=it B s.p n x0:=fun q=>by
  induction q with
  |zero=>rw[Nat.zero_mul];rfl
  |succ q ih=>rw[Jz,Ec,ih];exact hper
 have hback:it B s.p n x0=it B s.p (n-(j-i)) x0:=by
  have e1:it B s.p n x0=it B s.p (n-j) (it B s.p j x0):=by rw[←Ec];congr 1;lia
  rw[e1,←eij,←Ec]
  congr 1
  lia
 have hat:∀k,∃l,l<n/\it B s.p k (it B s.p n x0)=it B s.p l x0:=fun k=>by
  have hp:0<j-i:=by lia
  have hm:=Nat.mod_lt k hp
  refine⟨n-(j-i)+k%(j-i),by lia,?_⟩
  have e1:it B s.p k (it B s.p n x0)=it B s.p (k%(j-i)) (it B s.p n x0):=by
   have:=Nat.div_add_mod k (j-i)
   conv=>lhs;rw[←this,Nat.mul_comm,Ec,hP]
  rw[e1,hback,←Ec]
 have hal:∀k,∃i b,s.p (it B s.p k (it B s.p n x0))=some i/\B[i]?=some b/\b.x=it B s.p k (it B s.p n x0):=fun k=>by
  obtain⟨l,hl1,hl2⟩:=hat k
  obtain⟨i,hi⟩:=hw l hl1
  rw[hl2]
  obtain⟨b,g1,g2,_⟩:=h.par _ _ hi
  exact⟨i,b,hi,g1,g2⟩
 refine⟨m,fun j hj=>(by obtain⟨i,hi⟩:=hw j hj;obtain⟨b,g1,g2,_⟩:=h.par _ _ hi;exact⟨i,b,hi,g1,g2⟩),hlt,hm2,by lia,hm3,fun k k1 k2 e=>hm4 k k2 ⟨k1,e⟩,hal,?_⟩
 obtain⟨m',rfl⟩:∃m',m=m'+1:=⟨m-1,by lia⟩
 exact h.neg m' _ (fun j _=>by obtain⟨i,b,g,_⟩:=hal j;exact⟨i,g⟩) hm3
def C3 (B:List Ao)(p:Nat->Option Nat)(s m:Nat):List Nat:=(List.range m).map fun k=>(p (it B p k s)).getD 0
def Kr (B:List Ao)(p:Nat->Option Nat)(s:Nat):Nat->Nat->List Nat
 |0,_=>[]
 |f+1,x=>if x=s then[] else(p x).getD 0::Kr B p s f (pb B p x).y
theorem Ql {B:List Ao}{p:Nat->Option Nat}{s m:Nat}(hb:it B p m s=s)(hl:∀k,0<k->k<m->it B p k s≠s):∀(f j:Nat),0<j->j<=m->m-j<=f->Kr B p s f (it B p j s)=(List.range (m-j)).map fun k=>(p (it B p (j+k) s)).getD 0
 |0,j,h0,h1,h2=>by rw[show m-j=0 by lia];rfl
 |
  f+1,j,h0,h1,h2=>by
  unfold Kr
  by_cases c:j=m
  .subst c
   rw[Aj hb,Cq];rfl
  .rw[Ab (hl j h0 (by lia)),←Fp,Ql hb hl f (j+1) (by lia) (by lia) (by lia)]
   rw[show m-j=(m-(j+1))+1 by lia,List.range_succ_eq_map,BY,Il,Nat.add_zero]
   congr 1
   refine P9 fun k _=>?_
   show(p (it B p (j+1+k) s)).getD 0=(p (it B p (j+(k+1)) s)).getD 0
   rw[show j+1+k=j+(k+1) by lia]
def FY:Ao:=⟨0,0,0⟩
def C4 (B:List Ao):List Nat->Int
 |[]=>0
 |i::R=>(B.getD i FY).c+C4 B R
theorem NT (B:List Ao)(R S:List Nat):C4 B (R++S)=C4 B R+C4 B S:=by
 induction R with
 |nil=>simp[C4]
 |cons i R ih=>rw[List.cons_append,C4,C4,ih];lia
def WF (n:Nat)(B:List Ao):Prop := ∀b∈B,b.x<n/\b.y<n
def Holds (f:Nat->Int)(B:List Ao):Prop := ∀b∈B,f b.x-f b.y<=b.c
structure Fh (B:List Ao)(R:List Nat)(u:Nat->Nat):Prop where
 pos:0<R.length
 nd:R.Nodup
 bond:∀k i,R[k]?=some i->∃b,B[i]?=some b/\b.x=u k/\b.y=u (k+1)
 back:u R.length=u 0
 neg:C4 B R<0
theorem Fh.sum {B:List Ao}{R:List Nat}{u:Nat->Nat}{f:Nat->Int}(h:Holds f B)(hb:∀k i,R[k]?=some i->∃b,B[i]?=some b/\b.x=u k/\b.y=u (k+1)):∀k,k<=R.length->f (u 0)-f (u k)<=C4 B (R.take k)
 |0,_=>by simp[C4]
 |
  k+1,hk=>by
  have ih:=Fh.sum h hb k (by lia)
  have e:R[k]?=some R[k]:=AC (by lia)
  obtain⟨b,g1,g2,g3⟩:=hb k _ e
  have hh:=h b (AO g1)
  rw[List.take_add_one,e,NT]
  have:C4 B (some R[k]).toList=b.c:=by
   show(B.getD R[k] FY).c+0=b.c
   rw[Cd,g1]
   simp
  rw[this]
  rw[g2,g3]at hh
  lia
theorem Fh.none {B:List Ao}{R:List Nat}{u:Nat->Nat}(r:Fh B R u){f:Nat->Int}(h:Holds f B):False:=by
 have:=Fh.sum h r.bond R.length (Ah _)
 rw[Nh,r.back]at this
 have:=r.neg
 lia
theorem Fh.le {B:List Ao}{R:List Nat}{u:Nat->Nat}(r:Fh B R u):R.length<=B.length:=by
 have:=IY r.nd (k:=List.range B.length) fun i hi=>by
  obtain⟨k,hk,rfl⟩:=Nb.mp hi
  obtain⟨b,g,_⟩:=r.bond k _ (AC hk)
  exact FO.mpr (As.mp g).1
 rwa [EH]at this
def Jn (n:Nat)(B:List Ao)(s:Sv):List Nat:=
 (s.p (it B s.p n (s.low.getD 0))).getD 0::Kr B s.p (it B s.p n (s.low.getD 0)) n (pb B s.p (it B s.p n (s.low.getD 0))).y
theorem Sk {B:List Ao}{p:Nat->Option Nat}{e:Nat}(h:∀k,∃i b,p (it B p k e)=some i/\B[i]?=some b/\b.x=it B p k e):∀m,C4 B (C3 B p e m)=sm B p m e
 |0=>rfl
 |
  m+1=>by
  have ih:=Sk h m
  obtain⟨i,b,h1,h2,h3⟩:=h m
  unfold C3 at ih ⊢
  rw[Im,B3,NT,ih,OH,DP h1 h2]
  show _+(C4 B [(p (it B p m e)).getD 0])=_
  rw[h1]
  show _+((B.getD i FY).c+0)=_
  rw[Cd,h2]
  simp
theorem Hx.eq {n:Nat}{B:List Ao}{s:Sv}{x0 m:Nat}(r:Hx n B s.p x0 m)(e:s.low=some x0):Jn n B s=C3 B s.p (it B s.p n x0) m:=by
 unfold Jn
 rw[e]
 simp only[JC]
 have:=Ql r.back r.least n 1 (by lia) r.pos (by have:=r.le;lia)
 rw[Fp]at this
 change Kr B s.p (it B s.p n x0) n (pb B s.p (it B s.p n x0)).y=_ at this
 rw[this]
 unfold C3
 obtain⟨m',hm⟩:∃m',m=m'+1:=⟨m-1,by have:=r.pos;lia⟩
 subst hm
 rw[List.range_succ_eq_map,BY,Il]
 congr 1
 refine P9 fun k _=>?_
 show _=(s.p (it B s.p (k+1) (it B s.p n x0))).getD 0
 rw[N8 1 k]
theorem Hx.ok {n:Nat}{B:List Ao}{s:Sv}{x0 m:Nat}(r:Hx n B s.p x0 m)(e:s.low=some x0):Fh B (Jn n B s) (fun k=>it B s.p k (it B s.p n x0)):=by
 rw[r.eq e]
 have hlen:(C3 B s.p (it B s.p n x0) m).length=m:=by unfold C3;rw[Al,EH]
 refine⟨by rw[hlen];exact r.pos,?_,fun k i hk=>?_,?_,?_⟩
 .unfold C3
  rw[Ts,Ik]
  refine(List.pairwise_lt_range (n:=m)).imp_of_mem fun{i j} hi hj hij ee=>?_
  have hi:=FO.mp hi
  have hj:=FO.mp hj
  obtain⟨i1,b1,g1,g2,g3⟩:=r.alive i
  obtain⟨i2,b2,k1,k2,k3⟩:=r.alive j
  rw[g1,k1]at ee
  simp only[JC]at ee
  subst ee
  rw[g2]at k2
  cases k2
  have hij2:it B s.p i (it B s.p n x0)=it B s.p j (it B s.p n x0):=g3.symm.trans k3
  have:it B s.p (m-j+i) (it B s.p n x0)=it B s.p n x0:=by
   rw[N8,Ec,hij2,←Ec,show j+(m-j)=m by lia]
   exact r.back
  exact r.least (m-j+i) (by lia) (by lia) this
 .unfold C3 at hk
  rw[AQ]at hk
  have hlt:k<m:=by
   cases c:(List.range m)[k]? with
   |none=>rw[c]at hk;cases hk
   |some z=>have:=(As.mp c).1;simpa using this
  rw[JB hlt]at hk
  obtain⟨i1,b1,g1,g2,g3⟩:=r.alive k
  simp only[JA,g1,JC,Option.some.injEq]at hk
  subst hk
  refine⟨b1,g2,g3,?_⟩
  show b1.y=it B s.p (k+1) (it B s.p n x0)
  rw[Fp,DP g1 g2]
 .rw[hlen];exact r.back
 .rw[Sk r.alive];exact r.neg
theorem QZ {n:Nat}{B:List Ao}(hn:0<n)(w:WF n B):(∃s,go B n Fd = .inl s/\Holds (fun i=>s.v i-s.v 0) B)\/∃s x0 m,go B n Fd = .inr s/\s.low=some x0/\Hx n B s.p x0 m:=by
 cases c:go B n Fd with
 |
  inl s=>
  refine .inl ⟨s,rfl,fun b hb=>?_⟩
  have:=RX (A2.start B) c b hb
  simp only[]
  lia
 |
  inr s=>
  obtain⟨k,rfl⟩:∃k,n=k+1:=⟨n-1,by lia⟩
  obtain⟨last,x,h1,h2⟩:=Qh (A2.start B) c
  rw[N8]at h1
  obtain⟨m,hm⟩:=h1.ring hn h2 w
  exact .inr ⟨s,x,m,rfl,h2,hm⟩
end Bd
namespace L2
open PySem PySem.Spec PyProof.Rows Bd
section
variable {es:List Expr}{env:Env}{p:Pos}
theorem Bp {c:Const}{n:Nat}:starEach (.Constant c n p::es) env=(false,eval (.Constant c n p) env)::starEach es env:=rfl
theorem Cm {x:Str}:starEach (.Name x p::es) env=(false,eval (.Name x p) env)::starEach es env:=rfl
theorem G4 {a b:Expr}{o:Operator}:starEach (.BinOp a o b p::es) env=(false,eval (.BinOp a o b p) env)::starEach es env:=rfl
theorem Mz {f:Expr}{as:List Expr}{ks:List Keyword}:starEach (.Call f as ks p::es) env=(false,eval (.Call f as ks p) env)::starEach es env:=rfl
theorem Fc {a b:Expr}:starEach (.Subscript a b p::es) env=(false,eval (.Subscript a b p) env)::starEach es env:=rfl
theorem ES {as:List Expr}{n:Nat}:starEach (.Tuple as n p::es) env=(false,eval (.Tuple as n p) env)::starEach es env:=rfl
theorem Wa {as:List Expr}:starEach (.List as p::es) env=(false,eval (.List as p) env)::starEach es env:=rfl
theorem Sd {o:UnaryOp}{a:Expr}:starEach (.UnaryOp o a p::es) env=(false,eval (.UnaryOp o a p) env)::starEach es env:=rfl
end
@[irreducible] def Gd (X:Cx) (es:List Expr) (t:TA):Prop:=PA X es t
section
variable {X:Cx}{e:Expr}{es:List Expr}{te:TE}{t:TA}{pos:Pos}
theorem Co:Gd X [] O8:=by unfold Gd;exact A4
theorem Au (ha:PE X e te)(hr:Gd X es t)(hs:starEach (e::es) X.env=(false,eval e X.env)::starEach es X.env):Gd X (e::es) (Ol te t):=by unfold Gd at *;exact A0 ha hr hs
theorem Gk (h:Gd X es t):PE X (.List es pos) (Q5 t):=by unfold Gd at h;exact BA h
theorem DA {x1:Nat}(h:Gd X es t):PE X (.Tuple es x1 pos) (RG t):=by unfold Gd at h;exact Bq h
end
def KP:Option Nat->V
 |none=>.non
 |some i=>.int (i:Int)
def rl (n:Nat)(f:Nat->V):List V:=(List.range n).map f
def vl (n:Nat)(f:Nat->Int):List V:=rl n fun i=>.int (f i)
def pl (n:Nat)(p:Nat->Option Nat):List V:=rl n fun i=>KP (p i)
theorem HV (n:Nat)(f:Nat->V):(rl n f).length=n:=by unfold rl;rw[Al,EH]
theorem Ki (n:Nat)(f:Nat->Int):(vl n f).length=n:=HV _ _
theorem Q0 (n:Nat)(f:Nat->Option Nat):(pl n f).length=n:=HV _ _
theorem M8 {n x:Nat}{f:Nat->V}(h:x<n):(rl n f)[x]?=some (f x):=by unfold rl;rw[AQ,JB h];rfl
theorem NN {n x:Nat}{f:Nat->V}(h:x<n):Bh (rl n f) (x:Int)=some (f x):=CQ (M8 h)
theorem NG {n x:Nat}{f:Nat->Int}(h:x<n):Bh (vl n f) (x:Int)=some (.int (f x)):=NN h
theorem JS {n x:Nat}{f:Nat->Option Nat}(h:x<n):Bh (pl n f) (x:Int)=some (KP (f x)):=NN h
theorem KQ {n x:Nat}(h:x<n):FW n (x:Int)=some x:=by
 unfold FW
 rw[Aj (by lia),Aj (by lia)]
 rfl
theorem Oe {n x:Nat}{f:Nat->V}{a:V}:(rl n f).set x a=rl n (B1 f x a):=by
 refine Lc fun k=>?_
 rw[Pa]
 by_cases hk:k<n
 .rw[M8 hk,M8 hk,HV]
  by_cases e:x=k
  .subst e;rw[Aj rfl,Aj hk,BV]
  .rw[Ab e,C1 (Ne.symm e)]
 .have h1:(rl n f)[k]?=none:=Pb (by rw[HV];lia)
  have h2:(rl n (B1 f x a))[k]?=none:=Pb (by rw[HV];lia)
  rw[h1,h2,HV]
  by_cases e:x=k
  .subst e;rw[Aj rfl,Ab hk]
  .rw[Ab e]
theorem af {n x:Nat}{f:Nat->Int}{a:Int}:(vl n f).set x (.int a)=vl n (B1 f x a):=by
 unfold vl
 rw[Oe]
 congr 1
 funext j
 unfold B1
 split<;>rfl
theorem Rw {n x:Nat}{f:Nat->Option Nat}{a:Nat}:(pl n f).set x (.int (a:Int))=pl n (B1 f x (some a)):=by
 unfold pl
 rw[Oe]
 congr 1
 funext j
 unfold B1
 split<;>rfl
theorem ML (n:Nat)(a:V):(List.replicate n [a]).flatten=rl n fun _=>a:=by
 unfold rl
 induction n with
 |zero=>rfl
 |succ n ih=>rw[List.replicate_succ',List.flatten_concat,ih,Im,B3];rfl
theorem QI {L:List Int}{i:Int}(h0:0<=i)(h1:i<(L.length:Int)):∃z∈L,Bh (L.map V.int) i=some (.int z):=by
 have e:L[i.toNat]?=some L[i.toNat]:=AC (by lia)
 refine⟨L[i.toNat],Nc _,?_⟩
 have h:Bh (L.map V.int) ((i.toNat:Nat):Int)=some (.int L[i.toNat]):=CQ (by rw[AQ,e];rfl)
 rwa [Int.toNat_of_nonneg h0]at h
theorem RS {L:List Int}{i:Int}(n:Nat)(hn:L.length=n)(h0:0<=i)(h1:i<(n:Int)):∃z∈L,Bh (L.map V.int) i=some (.int z):=QI h0 (by rw[hn];exact h1)
theorem Gy {c:TT}{tb:TS}{D:CL}{σ:St}{H:Hp}(k:Nat)(Pv:Nat->St->Hp->Prop)(h0:Pv 0 σ H)
  (hs:∀i σ H,i<=k->Pv i σ H->c σ H fun b H1=>if b=true then i<k/\tb {D with nx:=Pv (i+1),ct:=Pv (i+1),bk:=D.nx} σ H1 else D.nx σ H1)
  (mono:∀σ H Q Q',(∀b H1,Q b H1->Q' b H1)->c σ H Q->c σ H Q'):LB c tb D σ H:=by
 refine⟨fun m σ H=>∃i,i<=k/\m=k-i/\Pv i σ H,⟨_,0,Bk _,rfl,h0⟩,?_⟩
 rintro m σ H ⟨i,hi,rfl,p⟩
 refine mono σ H _ _ (fun b H1 q=>?_) (hs i σ H hi p)
 cases b with
 |true=>exact⟨Pv (i+1),fun σ' H' p'=>⟨k-(i+1),by have:=q.1;lia,i+1,by have:=q.1;lia,rfl,p'⟩,q.2⟩
 |false=>exact q
def By (R:List Nat):List V:=(R.map fun i=>((i:Nat):Int)).map V.int
theorem Ku (R:List Nat):(By R).length=R.length:=by unfold By;rw[Al,Al]
theorem Vj {R:List Nat}{k i:Nat}(h:R[k]?=some i):(By R)[k]?=some (.int (i:Int)):=by unfold By;rw[AQ,AQ,h];rfl
theorem RE (R:List Nat)(i:Nat):By R++[.int (i:Int)]=By (R++[i]):=by unfold By;rw[B3,B3];rfl
def K5 (H:Hp)(v:V)(b:Ao):Prop := ∃t,v = .ref t/\H t=some (.tup [.int (b.x:Int),.int (b.y:Int),.int b.c])
def FJ (H:Hp)(vs:List V)(B:List Ao):Prop:=vs.length=B.length/\∀(i:Nat) (v:V) (b:Ao),vs[i]?=some v->B[i]?=some b->K5 H v b
def EY (H:Hp)(l:Addr)(B:List Ao):Prop := ∃vs,H l=some (.lst vs)/\FJ H vs B
theorem K5.over {H H':Hp}{v:V}{b:Ao}(h:K5 H v b)(e:A8 H H'):K5 H' v b:=by
 obtain⟨t,h1,h2⟩:=h
 exact⟨t,h1,e _ _ h2⟩
theorem FJ.over {H H':Hp}{vs:List V}{B:List Ao}(h:FJ H vs B)(e:A8 H H'):FJ H' vs B:=⟨h.1,fun i v b x y=>(h.2 i v b x y).over e⟩
theorem EY.over {H H':Hp}{l:Addr}{B:List Ao}(h:EY H l B)(e:A8 H H'):EY H' l B:=by
 obtain⟨vs,h1,h2⟩:=h
 exact⟨vs,e _ _ h1,h2.over e⟩
theorem FJ.snoc {H:Hp}{vs:List V}{B:List Ao}{v:V}{b:Ao}(h:FJ H vs B)(hv:K5 H v b):FJ H (vs++[v]) (B++[b]):=by
 refine⟨by rw[AF,AF,h.1];rfl,fun i x c hx hc=>?_⟩
 by_cases hi:i<vs.length
 .rw[C8 hi]at hx
  rw[C8 (by rw[←h.1];exact hi)]at hc
  exact h.2 i x c hx hc
 .have hlt:=(As.mp hx).1
  rw[AF,Bf]at hlt
  have e:i=vs.length:=by lia
  subst e
  rw[BH (Ah _),Cq]at hx
  rw[h.1,BH (Ah _),Cq]at hc
  cases hx;cases hc
  exact hv
def Jf (H H':Hp)(v l:Addr):Prop := ∀a o,H a=some o->a≠v->a≠l->H' a=some o
def E4 (n:Nat)(B:List Ao):V×List V:=match go B n Fd with
 |.inl s=>(.str "values",vl n fun i=>s.v i-s.v 0)
 |.inr s=>(.str "ring",By (Jn n B s))
theorem Rg {n:Nat}{B:List Ao}(hn:0<n)(w:WF n B):(∃f,E4 n B=(.str "values",vl n f)/\f 0=0/\Holds f B)\/∃R u,E4 n B=(.str "ring",By R)/\Fh B R u:=by
 unfold E4
 rcases QZ hn w with⟨s,e,h⟩|⟨s,x0,m,e,hl,r⟩
 .rw[e];exact .inl ⟨_,rfl,by lia,h⟩
 .rw[e];exact .inr ⟨_,_,rfl,r.ok hl⟩
theorem FJ.get {H:Hp}{vs:List V}{B:List Ao}(h:FJ H vs B){i:Nat}{b:Ao}(hb:B[i]?=some b):∃t,Bh vs (i:Int)=some (.ref t)/\H t=some (.tup [.int (b.x:Int),.int (b.y:Int),.int b.c]):=by
 have hi:i<vs.length:=by rw[h.1];exact(As.mp hb).1
 obtain⟨t,e,ht⟩:=h.2 i vs[i] b (AC hi) hb
 exact⟨t,(CQ (AC hi)).trans (by rw[e]),ht⟩
theorem US (i:Nat)(f:Nat->Int):vl (i+1) f=vl i f++[.int (f i)]:=by unfold vl rl;rw[Im,B3];rfl
theorem WF.app {n:Nat}{B C:List Ao}(h:WF n B)(g:WF n C):WF n (B++C):=fun b hb=>by
 rcases BO.mp hb with hb|hb
 .exact h b hb
 .exact g b hb
theorem WF.one {n:Nat}{b:Ao}(hx:b.x<n)(hy:b.y<n):WF n [b]:=fun c hc=>by rw[Bz]at hc;subst hc;exact⟨hx,hy⟩
def YR:Sp:=fun vs H Q _=>∃(b v l:Addr) (B:List Ao) (n:Nat) (s:Sv),vs=[.ref b,.ref v,.ref l]/\b≠v/\b≠l/\v≠l/\EY H b B/\WF n B/\H v=some (.lst (vl n s.v))/\H l=some (.lst (pl n s.p))/\
 ∀H',Jf H H' v l->H' v=some (.lst (vl n (D5 B s).v))->H' l=some (.lst (pl n (D5 B s).p))->Q (KP (D5 B s).low) H'
def Zn:Sp:=fun vs H Q _=>∃(n:Nat) (b l:Addr) (B:List Ao) (s:Sv) (x0 m:Nat),vs=[.int (n:Int),.ref b,.ref l,.int (x0:Int)]/\EY H b B/\B.length<=1000/\n<=1000/\H l=some (.lst (pl n s.p))/\s.low=some x0/\Hx n B s.p x0 m/\WF n B/\
 ∀(r:Addr) (H':Hp),A8 H H'->H r=none->H' r=some (.lst (By (Jn n B s)))->Q (.ref r) H'
def UM:Sp:=fun vs H Q _=>∃(n:Nat) (b:Addr) (B:List Ao),vs=[.int (n:Int),.ref b]/\EY H b B/\WF n B/\0<n/\n<=1000/\B.length<=1000/\
 ∀(t l:Addr) (H':Hp),A8 H H'->H l=none->H' t=some (.tup [(E4 n B).1,.ref l])->H' l=some (.lst (E4 n B).2)->Q (.ref t) H'
end L2
namespace Bd
structure Lt where
 L:Nat->Option Int
 q:Nat->Option Nat
 ch:Bool
def Jj (o:Option Int)(l:Int):Bool:=match o with
 |none=>true
 |some k=>decide (l<k)
def Em (i:Nat)(b:Ao)(s:Lt):Lt:=match s.L b.y with
 |none=>s
 |some l=>if Jj (s.L b.x) (l+b.c)=true then⟨B1 s.L b.x (some (l+b.c)),B1 s.q b.x (some i),true⟩ else s
def srnd (B:List Ao):Nat->Lt->Lt
 |0,s=>s
 |
  k+1,s=>match B[k]? with
  |some b=>Em k b (srnd B k s)
  |none=>srnd B k s
def MP (B:List Ao)(s:Lt):Lt:=srnd B B.length {s with ch:=false}
def GY (y:Nat):Lt:=⟨B1 (fun _=>none) y (some 0),fun _=>none,true⟩
def Sx (B:List Ao)(y:Nat):Nat->Lt
 |0=>GY y
 |k+1=>MP B (Sx B y k)
structure Ji (n:Nat)(B:List Ao)(y:Nat)(f:Nat->Int)(s:Lt):Prop where
 lo:∀v l,s.L v=some l->f v-f y<=l
 at0:s.L y=some 0
 no:s.q y=none
 par:∀x i,s.q x=some i->∃b lx ly,B[i]?=some b/\b.x=x/\s.L x=some lx/\s.L b.y=some ly/\ly+b.c<=lx
 has:∀x l,s.L x=some l->x=y\/∃i,s.q x=some i
 lt:∀x l,s.L x=some l->x<n
 free:∀k x,FK B s.q (k+1) x->it B s.q (k+1) x≠x
theorem Q1 {B:List Ao}{q:Nat->Option Nat}{f:Nat->Int}(h:Holds f B)(par:∀x i,q x=some i->∃b,B[i]?=some b/\b.x=x):∀k x,FK B q k x->f x-f (it B q k x)<=sm B q k x
 |0,x,_=>by simp[it,sm]
 |
  k+1,x,ha=>by
  obtain⟨i,hi⟩:=ha 0 (by lia)
  change q x=some i at hi
  obtain⟨b,g1,g2⟩:=par x i hi
  have:=Q1 h par k _ ha.tail
  have hb:=h b (AO g1)
  simp only[it,sm]
  rw[DP hi g1]at this ⊢
  rw[g2]at hb
  lia
theorem Ji.step {n:Nat}{B:List Ao}{y:Nat}{f:Nat->Int}{s:Lt}(h:Ji n B y f s)(hf:Holds f B)(hw:WF n B){i:Nat}{b:Ao}(hb:B[i]?=some b):Ji n B y f (Em i b s):=by
 unfold Em
 cases hy:s.L b.y with
 |none=>exact h
 |
  some l=>
  simp only[]
  by_cases c:Jj (s.L b.x) (l+b.c)=true
  .rw[Aj c]
   have hfb:=hf b (AO hb)
   have hl:=h.lo _ _ hy
   have nx:b.x≠y:=fun e=>by
    rw[e,h.at0]at c
    have:=IA c
    rw[e]at hfb
    lia
   have hle:∀v lv,s.L v=some lv->∃lv',B1 s.L b.x (some (l+b.c)) v=some lv'/\lv'<=lv:=fun v lv e=>by
    by_cases ev:v=b.x
    .subst ev
     rw[BV]
     rw[e]at c
     exact⟨_,rfl,by have:=IA c;lia⟩
    .rw[C1 ev]
     exact⟨lv,e,GP _⟩
   have nxy:s.L b.x=none->b.x≠b.y:=fun e1 e2=>by rw[e2,hy]at e1;cases e1
   refine⟨fun v lv e=>?_,?_,?_,fun x j e=>?_,fun x lx e=>?_,fun x lx e=>?_,fun k x ha e=>?_⟩
   .by_cases ev:v=b.x
    .subst ev
     simp only[]at e
     rw[BV]at e
     cases e
     lia
    .simp only[]at e
     rw[C1 ev]at e
     exact h.lo v lv e
   .simp only[];rw[C1 (Ne.symm nx)];exact h.at0
   .simp only[];rw[C1 (Ne.symm nx)];exact h.no
   .simp only[]at e ⊢
    by_cases ex:x=b.x
    .subst ex
     rw[BV]at e
     cases e
     obtain⟨ly',g1,g2⟩:=hle _ _ hy
     exact⟨b,_,ly',hb,rfl,BV,g1,by lia⟩
    .rw[C1 ex]at e
     obtain⟨b',lx,ly,g1,g2,g3,g4,g5⟩:=h.par x j e
     obtain⟨ly',k1,k2⟩:=hle _ _ g4
     exact⟨b',lx,ly',g1,g2,by rw[C1 ex];exact g3,k1,by lia⟩
   .simp only[]at e ⊢
    by_cases ex:x=b.x
    .exact .inr ⟨i,by rw[ex];exact BV⟩
    .rw[C1 ex]at e ⊢
     exact h.has x lx e
   .simp only[]at e
    by_cases ex:x=b.x
    .rw[ex];exact(hw b (AO hb)).1
    .rw[C1 ex]at e
     exact h.lt x lx e
   .simp only[]at ha e
    have key:∃v:Nat->Int,v b.x>v b.y+b.c/\∀x i,s.q x=some i->∃b,B[i]?=some b/\b.x=x/\v b.y+b.c<=v x:=by
     cases hx:s.L b.x with
     |
      none=>
      refine⟨B1 (fun v=>(s.L v).getD 0) b.x (l+b.c+1),?_,fun x j e=>?_⟩
      .rw[BV,C1 (Ne.symm (nxy hx)),hy]
       show l+b.c+1>l+b.c
       lia
      .obtain⟨b',lx,ly,g1,g2,g3,g4,g5⟩:=h.par x j e
       have n1:x≠b.x:=fun z=>by rw[z,hx]at g3;cases g3
       have n2:b'.y≠b.x:=fun z=>by rw[z,hx]at g4;cases g4
       refine⟨b',g1,g2,?_⟩
       rw[C1 n1,C1 n2,g3,g4]
       exact g5
     |
      some lx=>
      refine⟨fun v=>(s.L v).getD 0,?_,fun x j e=>?_⟩
      .simp only[hx,hy,JC]
       rw[hx]at c
       have:=IA c
       lia
      .obtain⟨b',lx,ly,g1,g2,g3,g4,g5⟩:=h.par x j e
       refine⟨b',g1,g2,?_⟩
       simp only[g3,g4,JC]
       exact g5
    obtain⟨v,hlt,hpar⟩:=key
    have:=RJ hb hlt hpar (k+1) x ha
    rw[e]at this
    obtain⟨_,⟨g1,g2,g3⟩|g⟩:=this
    .exact h.free k x g3 g1.symm
    .have hs:=Q1 hf (q:=B1 s.q b.x (some i)) (fun x j e=>by
      by_cases ex:x=b.x
      .subst ex
       rw[BV]at e
       cases e
       exact⟨b,hb,rfl⟩
      .rw[C1 ex]at e
       obtain⟨b',lx,ly,g1,g2,_⟩:=h.par x j e
       exact⟨b',g1,g2⟩) (k+1) x ha
     rw[e]at hs
     lia
  .rw[Ab c];exact h
theorem Ji.ch {n:Nat}{B:List Ao}{y:Nat}{f:Nat->Int}{s:Lt}(h:Ji n B y f s)(c:Bool):Ji n B y f {s with ch:=c}:=⟨h.lo,h.at0,h.no,h.par,h.has,h.lt,h.free⟩
theorem Ji.srnd {n:Nat}{B:List Ao}{y:Nat}{f:Nat->Int}{s:Lt}(h:Ji n B y f s)(hf:Holds f B)(hw:WF n B):∀k,Ji n B y f (Bd.srnd B k s)
 |0=>h
 |
  k+1=>by
  unfold Bd.srnd
  cases e:B[k]? with
  |none=>exact Ji.srnd h hf hw k
  |some b=>exact(Ji.srnd h hf hw k).step hf hw e
theorem NM {y v:Nat}{l:Int}(e:(GY y).L v=some l):v=y/\l=0:=by
 unfold GY at e
 by_cases ev:v=y
 .subst ev
  simp only[]at e
  rw[BV]at e
  cases e
  exact⟨rfl,rfl⟩
 .simp only[]at e
  rw[C1 ev]at e
  cases e
theorem Ji.start {n:Nat}{B:List Ao}{y:Nat}{f:Nat->Int}(hy:y<n):Ji n B y f (GY y):=by
 refine⟨fun v l e=>?_,(by unfold GY;simp only[];exact BV),rfl,fun x i e=>?_,fun x l e=>?_,fun x l e=>?_,fun k x ha=>?_⟩
 .obtain⟨rfl,rfl⟩:=NM e;lia
 .cases e
 .exact .inl (NM e).1
 .rw[(NM e).1];exact hy
 .obtain⟨i,hi⟩:=ha 0 (by lia);cases hi
theorem Ji.all {n:Nat}{B:List Ao}{y:Nat}{f:Nat->Int}(hy:y<n)(hf:Holds f B)(hw:WF n B):∀k,Ji n B y f (Sx B y k)
 |0=>Ji.start hy
 |k+1=>((Ji.all hy hf hw k).ch false).srnd hf hw _
def Ep (g:Nat->Nat):Nat->Nat
 |0=>0
 |n+1=>Ep g n+g n
theorem Rc {g g':Nat->Nat}(h:∀v,g' v<=g v):∀n,Ep g' n<=Ep g n
 |0=>Ah _
 |n+1=>Nat.add_le_add (Rc h n) (h n)
theorem Ow {g g':Nat->Nat}(h:∀v,g' v<=g v){x:Nat}(hx:g' x<g x):∀n,x<n->Ep g' n<Ep g n
 |0,z=>by lia
 |
  n+1,z=>by
  by_cases c:x=n
  .subst c
   exact Nat.add_lt_add_of_le_of_lt (Rc h x) hx
  .exact Nat.add_lt_add_of_lt_of_le (Ow h hx n (by lia)) (h n)
def g1 (s:Lt)(v:Nat):Nat:=match s.L v with
 |none=>1
 |some _=>0
def g2 (f:Nat->Int)(y:Nat)(s:Lt)(v:Nat):Nat:=match s.L v with
 |none=>0
 |some l=>(l-(f v-f y)).toNat
def Dn (n:Nat)(f:Nat->Int)(y:Nat)(s' s:Lt):Prop:=Ep (g1 s') n<Ep (g1 s) n\/(Ep (g1 s') n=Ep (g1 s) n/\Ep (g2 f y s') n<Ep (g2 f y s) n)
theorem Dn.trans {n:Nat}{f:Nat->Int}{y:Nat}{a b c:Lt}(h:Dn n f y a b)(g:Dn n f y b c):Dn n f y a c:=by
 unfold Dn at *
 lia
theorem Rn {n:Nat}{B:List Ao}{y:Nat}{f:Nat->Int}{s:Lt}(h:Ji n B y f s)(hf:Holds f B)(hw:WF n B){i:Nat}{b:Ao}(hb:B[i]?=some b):Em i b s=s\/((Em i b s).ch=true/\Dn n f y (Em i b s) s):=by
 have hj:=h.step hf hw hb
 have hbx:=(hw b (AO hb)).1
 unfold Em at hj ⊢
 cases hy:s.L b.y with
 |none=>exact .inl rfl
 |
  some l=>
  rw[hy]at hj
  simp only[]at hj ⊢
  by_cases c:Jj (s.L b.x) (l+b.c)=true
  .rw[Aj c]at hj ⊢
   refine .inr ⟨rfl,?_⟩
   have hlo:=hj.lo b.x _ BV
   cases hx:s.L b.x with
   |
    none=>
    left
    refine Ow (fun v=>?_) (x:=b.x) ?_ n hbx
    .unfold g1
     by_cases ev:v=b.x
     .subst ev;simp only[BV];lia
     .simp only[C1 ev];exact Ah _
    .unfold g1
     simp only[BV,hx]
     lia
   |
    some lx=>
    right
    rw[hx]at c
    have c:=IA c
    constructor
    .congr 1
     funext v
     unfold g1
     by_cases ev:v=b.x
     .subst ev;simp only[BV,hx]
     .simp only[C1 ev]
    .refine Ow (fun v=>?_) (x:=b.x) ?_ n hbx
     .unfold g2
      by_cases ev:v=b.x
      .subst ev;simp only[BV,hx];lia
      .simp only[C1 ev];exact Ah _
     .unfold g2
      simp only[BV,hx]
      lia
  .rw[Ab c];exact .inl rfl
theorem NJ {n:Nat}{B:List Ao}{y:Nat}{f:Nat->Int}{s:Lt}(h:Ji n B y f s)(hf:Holds f B)(hw:WF n B)(hc:s.ch=false):∀k,(Bd.srnd B k s=s/\∀j<k,∀b,B[j]?=some b->Em j b s=s)\/((Bd.srnd B k s).ch=true/\Dn n f y (Bd.srnd B k s) s)
 |0=>.inl ⟨rfl,fun j hj=>by lia⟩
 |
  k+1=>by
  have hk:=h.srnd hf hw k
  rcases NJ h hf hw hc k with⟨ih,is⟩|⟨ih,id⟩
  .unfold Bd.srnd
   rw[ih]
   cases e:B[k]? with
   |
    none=>
    refine .inl ⟨rfl,fun j hj b hb=>?_⟩
    by_cases z:j=k
    .subst z;rw[e]at hb;cases hb
    .exact is j (by lia) b hb
   |
    some b=>
    simp only[]
    rcases Rn h hf hw e with g|g
    .refine .inl ⟨g,fun j hj b' hb'=>?_⟩
     by_cases z:j=k
     .subst z;rw[e]at hb';cases hb';exact g
     .exact is j (by lia) b' hb'
    .exact .inr g
  .unfold Bd.srnd
   cases e:B[k]? with
   |none=>exact .inr ⟨ih,id⟩
   |
    some b=>
    simp only[]
    rcases Rn hk hf hw e with g|⟨g,gd⟩
    .rw[g];exact .inr ⟨ih,id⟩
    .exact .inr ⟨g,gd.trans id⟩
theorem Z6 {n:Nat}{B:List Ao}{y:Nat}{f:Nat->Int}(hy:y<n)(hf:Holds f B)(hw:WF n B):∀(p q k:Nat),Ep (g1 (Sx B y k)) n=p->Ep (g2 f y (Sx B y k)) n=q->∃K,(Sx B y K).ch=false:=by
 intro p
 induction p using Nat.strongRecOn with
 |
  ind p ihp=>
  intro q
  induction q using Nat.strongRecOn with
  |
   ind q ihq=>
   intro k hp hq
   rcases NJ ((Ji.all hy hf hw k).ch false) hf hw rfl B.length with⟨e,_⟩|⟨_,d⟩
   .exact⟨k+1,by show(Bd.srnd B B.length _).ch=false;rw[e]⟩
   .change Dn n f y (Sx B y (k+1)) {Sx B y k with ch:=false} at d
    have d:Dn n f y (Sx B y (k+1)) (Sx B y k):=d
    rcases d with d|⟨d1,d2⟩
    .exact ihp _ (by lia) _ (k+1) rfl rfl
    .exact ihq _ (by lia) (k+1) (by lia) rfl
theorem au {n:Nat}{B:List Ao}{y:Nat}{f:Nat->Int}(hy:y<n)(hf:Holds f B)(hw:WF n B):∃K,(Sx B y K).ch=false/\∀k<K,(Sx B y k).ch=true:=by
 obtain⟨K,hK⟩:=Z6 hy hf hw _ _ 0 rfl rfl
 obtain⟨m,_,h1,h2⟩:=least (P:=fun k=>(Sx B y k).ch=false) K hK
 exact⟨m,h1,fun k hk=>by have:=h2 k hk;simpa using this⟩
def LC (B:List Ao)(s:Lt):Prop := ∀b∈B,∀l,s.L b.y=some l->∃lx,s.L b.x=some lx/\lx<=l+b.c
theorem OO {n:Nat}{B:List Ao}{y:Nat}{f:Nat->Int}(hy:y<n)(hf:Holds f B)(hw:WF n B){K:Nat}(hK:(Sx B y K).ch=false):LC B (Sx B y K):=by
 cases K with
 |zero=>cases hK
 |
  succ k=>
  rcases NJ ((Ji.all hy hf hw k).ch false) hf hw rfl B.length with⟨e,h⟩|⟨e,_⟩
  .intro b hb l hl
   obtain⟨j,hj,rfl⟩:=Nb.mp hb
   have hs:=h j hj _ (AC hj)
   change Bd.srnd B B.length {Sx B y k with ch:=false}=_ at e
   have e':Sx B y (k+1)={Sx B y k with ch:=false}:=e
   rw[e']at hl ⊢
   generalize ({Sx B y k with ch:=false}:Lt)=s at hs hl
   have hsc:s.ch=(Em j B[j] s).ch:=by rw[hs]
   unfold Em at hs
   rw[hl]at hs
   simp only[]at hs
   cases hx:s.L B[j].x with
   |
    none=>
    rw[hx]at hs
    have h1:Jj none (l+B[j].c)=true:=rfl
    rw[Aj h1]at hs
    have:=congrArg (fun s:Lt=>s.L B[j].x) hs
    simp only[BV]at this
    rw[hx]at this
    cases this
   |
    some lx=>
    refine⟨lx,rfl,?_⟩
    rw[hx]at hs
    by_cases c:l+B[j].c<lx
    .have h1:Jj (some lx) (l+B[j].c)=true:=Da c
     rw[Aj h1]at hs
     have:=congrArg (fun s:Lt=>s.L B[j].x) hs
     simp only[BV]at this
     rw[hx]at this
     have:=Cp this
     lia
    .lia
  .change(Sx B y (k+1)).ch=true at e
   rw[e]at hK
   cases hK
structure MS (n:Nat)(B:List Ao)(y:Nat)(s:Lt)(x m:Nat):Prop where
 alive:∀k<m,it B s.q k x≠y/\∃i b,s.q (it B s.q k x)=some i/\B[i]?=some b/\b.x=it B s.q k x
 at':it B s.q m x=y
 le:m<=n
 lt:∀k≤m,it B s.q k x<n
 sum:s.L x=some (sm B s.q m x)
theorem Yp {n:Nat}{B:List Ao}{y:Nat}{f:Nat->Int}{s:Lt}(h:Ji n B y f s)(st:LC B s){x l:Nat}(hx:s.q x=some l):∃m,0<m/\MS n B y s x m:=by
 have hL:∀k,(∀j<k,it B s.q j x≠y)->∃lx,s.L (it B s.q k x)=some lx:=by
  intro k
  induction k with
  |zero=>intro _;obtain⟨_,lx,_,_,_,g,_⟩:=h.par x l hx;exact⟨lx,g⟩
  |
   succ k ih=>
   intro hj
   obtain⟨lx,hlx⟩:=ih fun j hj'=>hj j (by lia)
   rcases h.has _ _ hlx with e|⟨i,hi⟩
   .exact absurd e (hj k (by lia))
   .obtain⟨b,lx',ly,g1,g2,g3,g4,g5⟩:=h.par _ _ hi
    rw[Fp,DP hi g1]
    exact⟨ly,g4⟩
 have hal:∀k,(∀j<k,it B s.q j x≠y)->FK B s.q k x:=fun k hk j hj=>by
  obtain⟨lx,hlx⟩:=hL j fun i hi=>hk i (by lia)
  rcases h.has _ _ hlx with e|g
  .exact absurd e (hk j hj)
  .exact g
 have hex:∃m,m<=n/\it B s.q m x=y:=by
  apply Classical.byContradiction
  intro c
  have hne:∀j,j<=n->it B s.q j x≠y:=fun j hj e=>c ⟨j,hj,e⟩
  obtain⟨i,j,hij,hj,e⟩:=Qy (n:=n) (u:=fun k=>it B s.q k x) fun i hi=>by
   obtain⟨lx,hlx⟩:=hL i fun j hj=>hne j (by lia)
   exact h.lt _ _ hlx
  change it B s.q i x=it B s.q j x at e
  have ha:=hal j fun k hk=>hne k (by lia)
  refine h.free (j-i-1) (it B s.q i x) (fun k hk=>?_) ?_
  .rw[←Ec]
   exact ha _ (by lia)
  .rw[←Ec,show i+(j-i-1+1)=j by lia]
   exact e.symm
 obtain⟨m0,hm0,em0⟩:=hex
 obtain⟨m,hm,em,hl⟩:=least (P:=fun m=>it B s.q m x=y) m0 em0
 have hne:∀k<m,it B s.q k x≠y:=fun k hk=>hl k hk
 have hpos:0<m:=by
  cases m with
  |
   zero=>
   change x=y at em
   rw[em,h.no]at hx
   cases hx
  |succ m=>lia
 refine⟨m,hpos,fun k hk=>⟨hne k hk,?_⟩,em,by lia,fun k hk=>?_,?_⟩
 .obtain⟨i,hi⟩:=hal m hne k hk
  obtain⟨b,lx,ly,g1,g2,_⟩:=h.par _ _ hi
  exact⟨i,b,hi,g1,g2⟩
 .obtain⟨lx,hlx⟩:=hL k fun j hj=>hne j (by lia)
  exact h.lt _ _ hlx
 ·
  have key:∀k,k<=m->∀lx,s.L x=some lx->∃lk,s.L (it B s.q k x)=some lk/\lx=sm B s.q k x+lk:=by
   intro k
   induction k with
   |zero=>intro _ lx e;exact⟨lx,e,by show lx=0+lx;lia⟩
   |
    succ k ih=>
    intro hk lx e
    obtain⟨lk,h1,h2⟩:=ih (by lia) lx e
    obtain⟨i,hi⟩:=hal m hne k (by lia)
    obtain⟨b,lx',ly,g1,g2,g3,g4,g5⟩:=h.par _ _ hi
    rw[h1]at g3
    cases g3
    obtain⟨lx2,k1,k2⟩:=st b (AO g1) ly g4
    rw[g2,h1]at k1
    cases k1
    rw[Fp,OH,DP hi g1]
    exact⟨ly,g4,by lia⟩
  obtain⟨_,lx,_,_,_,g,_⟩:=h.par x l hx
  obtain⟨lk,h1,h2⟩:=key m (Ah _) lx g
  rw[em,h.at0]at h1
  cases h1
  rw[g,h2]
  simp
theorem Zr {n:Nat}{B:List Ao}{y:Nat}{f:Nat->Int}{s:Lt}(h:Ji n B y f s)(hf:Holds f B)(st:LC B s){x:Nat}{c:Int}(hx:s.L x=some c):∃f',Holds f' (B++[⟨y,x,-c⟩]):=by
 have hbig:∀l:List Ao,∃M:Int,∀b∈l,∀lx,s.L b.x=some lx->lx-f b.y-b.c<=M:=by
  intro l
  induction l with
  |nil=>exact⟨0,fun b hb=>by cases hb⟩
  |
   cons b l ih=>
   obtain⟨M,hM⟩:=ih
   refine⟨max M (((s.L b.x).getD 0)-f b.y-b.c),fun b' hb' lx e=>?_⟩
   rcases AS.mp hb' with rfl|hb'
   .rw[e];simp only[JC];lia
   .have:=hM b' hb' lx e;lia
 obtain⟨M,hM⟩:=hbig B
 refine⟨fun v=>match s.L v with|some l=>l|none=>f v+M,fun b hb=>?_⟩
 rcases BO.mp hb with hb|hb
 .have hfb:=hf b hb
  simp only[]
  cases ey:s.L b.y with
  |
   some ly=>
   obtain⟨lx,k1,k2⟩:=st b hb ly ey
   rw[k1]
   simp only[]
   lia
  |
   none=>
   cases ex:s.L b.x with
   |
    some lx=>
    have:=hM b hb lx ex
    simp only[]
    lia
   |
    none=>
    simp only[]
    lia
 .rw[Bz]at hb
  subst hb
  simp only[hx,h.at0]
  lia
end Bd
namespace L2
open PySem PySem.Spec PyProof.Rows
section
open Bd
theorem Ue {tt:TT}{ta tb:TS}{D:CL}{σ:St}{H:Hp}(M:Hp->Prop)(ha:∀H',M H'->ta D σ H')(h:(∀H',M H'->ta D σ H')->Hw tt ta tb D σ H):Hw tt ta tb D σ H:=h ha
theorem J5:∀{ns:List Int} {its:List Value},Az (ns.map V.int) its->IntsAre its ns
 |[],_,.nil=>.nil
 |n::ns,_,.cons ⟨t,h⟩ r=>by subst h;exact .cons n t (J5 r)
theorem Um {X:Cx}(hc:X.calm=true):E8 X (.builtin "sum") (fun xs H Q=>∃(p:Addr) (ns:List Int),xs=[.ref p]/\A5 X.K H p (ns.map V.int)/\Q (.int ns.sum) H):=by
 intro pins s σ H xs us Q I r h
 obtain⟨p,ns,rfl,hq,q⟩:=h
 obtain⟨u,rfl,ru⟩:=EK r
 cases ru
 obtain⟨its,rv,pl,hz⟩:=I.list hq
 have hi:=J5 rv
 obtain⟨xs,ex⟩:=hi.allInts.items
 have hn:xs.toList.map (·.1)=ns:=by rw[←Nr,←ex];exact hi.numsOf
 have hl:=pl.isList
 rw[ex]at hl
 refine sum_intListG (I.ok.hd hc) hl fun h' tk t' hk=>?_
 rw[preSum_eq,CU (by simp),hn]
 exact⟨.int ns.sum,H,I.kept (t':=tk) hk,⟨_,rfl⟩,q⟩
def SI:Option Int->V
 |none=>.non
 |some l=>.int l
def ol (n:Nat)(f:Nat->Option Int):List V:=rl n fun i=>SI (f i)
theorem PC (n:Nat)(f:Nat->Option Int):(ol n f).length=n:=HV _ _
theorem My {n x:Nat}{f:Nat->Option Int}(h:x<n):Bh (ol n f) (x:Int)=some (SI (f x)):=NN h
theorem QY {n x:Nat}{f:Nat->Option Int}{a:Int}:(ol n f).set x (.int a)=ol n (B1 f x (some a)):=by
 unfold ol
 rw[Oe]
 congr 1
 funext j
 unfold B1
 split<;>rfl
open Classical in
def FH (B:List Ao)(y:Nat):Nat:=if h:∃K,(Sx B y K).ch=false/\∀k<K,(Sx B y k).ch=true then choose h else 0
theorem LN {n:Nat}{B:List Ao}{y:Nat}{f:Nat->Int}(hy:y<n)(hf:Holds f B)(hw:WF n B):(Sx B y (FH B y)).ch=false/\∀k<FH B y,(Sx B y k).ch=true:=by
 have h:=au hy hf hw
 unfold FH
 rw[dif_pos h]
 exact Ni h
def fin (B:List Ao)(y:Nat):Lt:=Sx B y (FH B y)
open Classical in
def HR (n:Nat)(B:List Ao)(y x:Nat):Nat:=if h:∃m,0<m/\MS n B y (fin B y) x m then choose h else 0
theorem PQ {n:Nat}{B:List Ao}{y:Nat}{f:Nat->Int}(hy:y<n)(hf:Holds f B)(hw:WF n B){x l:Nat}(hx:(fin B y).q x=some l):0<HR n B y x/\MS n B y (fin B y) x (HR n B y x):=by
 have h:∃m,0<m/\MS n B y (fin B y) x m:=Yp (Ji.all hy hf hw (FH B y)) (OO hy hf hw (LN hy hf hw).1) hx
 unfold HR
 rw[dif_pos h]
 exact Ni h
def Ey (n:Nat)(B:List Ao)(y x:Nat):List Nat:=C3 B (fin B y).q x (HR n B y x)
def Yh:Sp:=fun vs H Q _=>∃(b v l:Addr) (B:List Ao) (n:Nat) (s:Lt),vs=[.ref b,.ref v,.ref l]/\b≠v/\b≠l/\v≠l/\EY H b B/\WF n B/\H v=some (.lst (ol n s.L))/\H l=some (.lst (pl n s.q))/\
 ∀H',Jf H H' v l->H' v=some (.lst (ol n (MP B s).L))->H' l=some (.lst (pl n (MP B s).q))->Q (.bl (MP B s).ch) H'
def Zg:Sp:=fun vs H Q _=>∃(n:Nat) (b:Addr) (B:List Ao) (y:Nat) (f:Nat->Int),vs=[.int (n:Int),.ref b,.int (y:Int)]/\EY H b B/\WF n B/\n<=1000/\y<n/\Holds f B/\
 ∀(r:Addr) (H':Hp),A8 H H'->H' r=some (.lst (pl n (fin B y).q))->Q (.ref r) H'
def VZ (n:Nat)(B:List Ao)(y x:Nat)(H:Hp)(v:V):Prop:=((fin B y).q x=none/\v = .non)\/((∃l,(fin B y).q x=some l)/\∃r,v = .ref r/\H r=some (.lst (By (Ey n B y x))))
def UI:Sp:=fun vs H Q _=>∃(n:Nat) (b:Addr) (B:List Ao) (x y:Nat) (f:Nat->Int),vs=[.int (n:Int),.ref b,.int (x:Int),.int (y:Int)]/\EY H b B/\WF n B/\n<=1000/\B.length<=1000/\x<n/\y<n/\Holds f B/\
 ∀(v:V) (H':Hp),A8 H H'->VZ n B y x H' v->Q v H'
theorem ON {n:Nat}{B:List Ao}{f:Nat->Int}(hn:0<n)(w:WF n B)(hf:Holds f B):∃g,E4 n B=(.str "values",vl n g)/\g 0=0/\Holds g B:=by
 rcases Rg hn w with h|⟨R,u,_,h⟩
 .exact h
 .exact(h.none hf).elim
theorem WB (B:List Ao)(R:List Nat):(R.map fun i=>(B.getD i FY).c).sum=C4 B R:=by
 induction R with
 |nil=>rfl
 |cons i R ih=>rw[BY,List.sum_cons,ih,C4]
open Classical in
def GM (n:Nat)(B:List Ao)(x y:Nat):Option (Int×List Nat×List V):=
 if x=y then some (0,[],(E4 n B).2) else if(fin B y).q x=none then none else
  some (C4 B (Ey n B y x),Ey n B y x,(E4 n (B++[⟨y,x,-(C4 B (Ey n B y x))⟩])).2)
def Jw (n:Nat)(B:List Ao)(x y:Nat)(H:Hp)(v:V):Prop:=match GM n B x y with
 |none=>v = .non
 |some (c,ch,vs)=>∃t l1 l2,v = .ref t/\H t=some (.tup [.int c,.ref l1,.ref l2])/\H l1=some (.lst (By ch))/\H l2=some (.lst vs)
structure Mu (B:List Ao)(R:List Nat)(x y:Nat)(u:Nat->Nat):Prop where
 bond:∀k i,R[k]?=some i->∃b,B[i]?=some b/\b.x=u k/\b.y=u (k+1)
 fst:u 0=x
 lst:u R.length=y
theorem Ru {n:Nat}{B:List Ao}{y:Nat}{f:Nat->Int}(hy:y<n)(hf:Holds f B)(hw:WF n B){x l:Nat}(hx:(fin B y).q x=some l):∃u,Mu B (Ey n B y x) x y u/\(Ey n B y x).length<=n/\(fin B y).L x=some (C4 B (Ey n B y x)):=by
 obtain⟨m0,hC⟩:=PQ hy hf hw hx
 unfold Ey
 generalize HR n B y x=m at hC m0
 have hlen:(C3 B (fin B y).q x m).length=m:=by unfold C3;rw[Al,EH]
 refine⟨fun k=>it B (fin B y).q k x,⟨fun k i hk=>?_,rfl,?_⟩,by rw[hlen];exact hC.le,?_⟩
 .unfold C3 at hk
  rw[AQ]at hk
  have hlt:k<m:=by
   cases c:(List.range m)[k]? with
   |none=>rw[c]at hk;cases hk
   |some z=>have:=(As.mp c).1;simpa using this
  rw[JB hlt]at hk
  obtain⟨_,i1,b1,g1,g2,g3⟩:=hC.alive k hlt
  simp only[JA,g1,JC,Option.some.injEq]at hk
  subst hk
  refine⟨b1,g2,g3,?_⟩
  show b1.y=it B (fin B y).q (k+1) x
  rw[Fp,DP g1 g2]
 .rw[hlen];exact hC.at'
 .rw[hC.sum]
  congr 1
  have:∀k,k<=m->C4 B (C3 B (fin B y).q x k)=sm B (fin B y).q k x:=by
   intro k
   induction k with
   |zero=>intro _;rfl
   |
    succ k ih=>
    intro hk
    obtain⟨_,i1,b1,g1,g2,g3⟩:=hC.alive k (by lia)
    unfold C3 at ih ⊢
    rw[Im,B3,NT,ih (by lia),OH,DP g1 g2]
    show _+(C4 B [((fin B y).q (it B (fin B y).q k x)).getD 0])=_
    rw[g1]
    show _+((B.getD i1 FY).c+0)=_
    rw[Cd,g2]
    simp
  exact(this m (Ah _)).symm
theorem Mu.sum {B:List Ao}{R:List Nat}{x y:Nat}{u:Nat->Nat}(h:Mu B R x y u){f:Nat->Int}(hf:Holds f B):f x-f y<=C4 B R:=by
 have:=Fh.sum hf h.bond R.length (Ah _)
 rw[Nh,h.fst,h.lst]at this
 exact this
theorem Xp {n:Nat}{B:List Ao}{x y:Nat}{f:Nat->Int}(hx:x<n)(hy:y<n)(hf:Holds f B)(hw:WF n B) :
  (GM n B x y=none/\x≠y/\(fin B y).q x=none)\/∃c R g u,GM n B x y=some (c,R,vl n g)/\g 0=0/\Holds g B/\g x-g y=c/\Mu B R x y u/\C4 B R=c/\R.length<=n/\(x=y->R=[])/\(x=y\/∃l,(fin B y).q x=some l):=by
 have n0:0<n:=by lia
 unfold GM
 by_cases c:x=y
 .subst c
  rw[Aj rfl]
  obtain⟨g,eg,g0,hg⟩:=ON n0 hw hf
  refine .inr ⟨0,[],g,fun _=>x,by rw[eg],g0,hg,by lia,⟨fun k i z=>by simp at z,rfl,rfl⟩,rfl,Bk _,fun _=>rfl,.inl rfl⟩
 .rw[Ab c]
  cases hq:(fin B y).q x with
  |none=>rw[Aj rfl];exact .inl ⟨rfl,c,rfl⟩
  |
   some l=>
   rw[Ab (by intro z;cases z)]
   obtain⟨u,hC,hl,hL⟩:=Ru hy hf hw hq
   obtain⟨f',hf'⟩:=Zr (Ji.all hy hf hw (FH B y)) hf (OO hy hf hw (LN hy hf hw).1) hL
   have hw':WF n (B++[⟨y,x,-(C4 B (Ey n B y x))⟩]):=WF.app hw (WF.one hy hx)
   obtain⟨g,eg,g0,hg⟩:=ON n0 hw' hf'
   have hgB:Holds g B:=fun b hb=>hg b (CA _ hb)
   have h1:=hg _ (C7 _ (Bz.mpr rfl))
   have h2:=hC.sum hgB
   refine .inr ⟨_,_,g,u,by rw[eg],g0,hgB,?_,hC,rfl,hl,fun z=>absurd z c,.inr ⟨l,rfl⟩⟩
   simp only[]at h1
   lia
end
section
def Wx (tk tv:TE):TE:=fun σ H Q=>∀p,H p=none->tk σ (upd H p (.dK [])) fun y H1=>tv σ H1 fun v H2=>∃k:Ap,y=kV k/\H2 p=some (.dK [])/\Q (.ref p) (upd H2 p (.dK [(k,v)]))
theorem ar {X:Cx}{a b:Expr}{ta tb:TE}{pos:Pos}(ha:PE X a ta)(hb:PE X b tb):PE X (.Dict [some a] [b] pos) (Wx ta tb):=by
 intro pins s σ H Q I h
 have hf:H s.heap.objs.size=none:=I.hok.fresh (Ah _)
 have I0:=I.laid (a:=s.heap.objs.size) (o:=.dK []) (t':=s.toks) (fun _ _ q=>Aw _ q) (Ah _) (Y8 s.heap I.big)
 refine wpAny_Dict_walk (knd:=Dt X.prog X.w) rfl rfl (by simp) (by show 1<=15;decide) (pairTrees_cons_walk (Ax (ha pins _ σ _ _ I0 (h _ hf)) fun kv s1 zz=>?_))
 obtain⟨y,H1,I1,ry,q1⟩:=zz
 refine Ax (hb pins s1 σ H1 _ I1 q1) fun vv s2 zz=>?_
 obtain⟨v,H2,I2,rv,k,ey,e,q2⟩:=zz
 refine pairTrees_nil_walk ?_
 subst ey
 obtain⟨z,hd,vs,rel,dd⟩:=Su I2.hok e
 have hv:vs=[]:=by cases rel;rfl
 subst hv
 refine⟨[(k,vv)],⟨Ks ry,rfl,True.intro⟩,dd,fun h' dd' hs=>?_⟩
 have he:∃q,h'.get? s.heap.objs.size=some q:=let ⟨q,_,_,hq,_⟩:=dd';⟨q,hq⟩
 refine⟨.ref s.heap.objs.size,upd H2 s.heap.objs.size (.dK [(k,v)]),P0 I2 (by rw[e];exact True.intro) hs he (Qe (Ar rfl) hd (KV.put (κ:=Ap) (kvs:=[]) (vs:=[]) .nil k rv) dd'),rfl,q2⟩
open Bd
end
structure Cs where
 n:Addr
 v:Addr
 c:Addr
 j:Addr
theorem A5.updI {K:Faa}{H:Hp}{p x C dx:Addr}{fs:List (Str×V)}{ys:List V}{o:HO}(h:A5 K H p ys)(hx:H x=some (.ins C dx fs)):A5 K (upd H x o) p ys:=by
 rcases h with(h|⟨ob,h⟩)|h
 .refine .inl (.inl ?_)
  rw[Af (fun e=>by rw[e,hx]at h;cases h)]
  exact h
 .refine .inl (.inr ⟨ob,?_⟩)
  rw[Af (fun e=>by rw[e,hx]at h;cases h)]
  exact h
 .exact .inr h
def YH (K:Faa)(C:Addr):Sp:=fun vs H Q _=>∃(x dx:Addr) (sz:V) (p:Addr) (ys:List V),vs=[.ref x,sz,.ref p]/\H x=some (.ins C dx [])/\A5 K H p ys/\∀(l:Addr) (H':Hp),H l=none->(∀b o,H b=some o->b≠x->H' b=some o)->H' l=some (.lst ys)->(∃dx,H' x=some (.ins C dx [("size",sz),("deeds",.ref l)]))->Q .non H'
end L2
namespace PySem
open Builtin
open AutoSeq1 (wpAny_loadPart')
end PySem
namespace L2
open PySem PySem.Spec PyProof.Rows
section
variable {X:Cx}
end
section
open Bd
theorem dS {x y:Str}(h:x≠y):decide (V.str x=V.str y)=false:=D8 fun e=>h (V.str.inj e)
theorem XY {K:Faa}{a:Addr}{xs:List V}{ρ:List (Option Nat)}{g:TG}{tt:TT}{te:TE}{σ:St}{H:Hp}{Q:VK}(Pv:Nat->List V->Hp->Prop)(h0:Pv 0 [] H)(hlen:xs.length<=sizeLine)(hl:∀i ys H,i<=xs.length->Pv i ys H->A5 K H a xs/\ys.length<=i)
  (hs:∀i x ys H,xs[i]?=some x->Pv i ys H->g x (Cf ρ σ) H fun σ2 H3=>Lx ρ σ σ2/\tt σ2 H3 fun ok H4=>if ok=true then te σ2 H4 fun v H5=>Pv (i+1) (ys++[v]) H5 else Pv (i+1) ys H4)
  (hd:∀ys H,Pv xs.length ys H->∀p,H p=none->Q (.ref p) (upd H p (.lst ys))):Kf ρ g tt te σ Q (Ha K a) H:=by
 refine⟨fun i m ys H=>m=xs.length-i/\i<=xs.length/\Pv i ys H,⟨_,rfl,Bk _,h0⟩,?_⟩
 rintro i m ys H ⟨rfl,hi,p⟩
 obtain⟨hq,hy⟩:=hl i ys H hi p
 by_cases hlt:i<xs.length
 .refine .inr ⟨⟨xs,xs[i],hq,by simp[hlt]⟩,by lia,Pv (i+1),fun ys' H'' p'=>⟨xs.length-(i+1),by lia,rfl,hlt,p'⟩,fun x H' y=>?_⟩
  obtain⟨e,y2⟩:=y
  subst e
  exact hs i x ys _ (y2 xs hq) p
 .have e:i=xs.length:=by lia
  subst e
  exact .inl ⟨⟨xs,hq,Ah _⟩,by lia,hd ys H p⟩
end
theorem X0 {M:Model}{A:Around}{E:Value->Shared->Prop}{s:Shared}{β:Type}{f:Nat->β->Sem (ForInStep β)}{n:Nat}{b:β}{Q:β->Shared->Prop}(I:Nat->β->Shared->Prop)(h:I 0 b s)
  (turn:∀i b s,i<n->I i b s->wpAny M A (f i b) (fun r s'=>match r with|.yield b'=>I (i+1) b' s'|.done b'=>Q b' s') E s) (fin:∀b s,I n b s->Q b s):wpAny M A (forIn [:n] b f) Q E s:=by
 rw[Std.Legacy.Range.forIn_eq_forIn_range']
 have key:∀(k i:Nat) (b:β) (s:Shared),i+k=n->I i b s->wpAny M A (forIn (List.range' i k) b f) Q E s:=by
  intro k
  induction k with
  |zero=>intro i b s e hi;rw[List.range'_zero,List.forIn_nil];exact Ae (fin _ _ (by rw[←e];exact hi))
  |
   succ k ih=>
   intro i b s e hi
   rw[List.range'_succ,Na]
   refine A1 (CV (turn i b s (by lia) hi) (fun r s' hr=>?_) fun _ _ x=>x)
   cases r with
   |done b'=>exact Ae hr
   |yield b'=>exact ih (i+1) b' s' (by lia) hr
 have e:(Std.Legacy.Range.size [:n])=n:=by simp[Std.Legacy.Range.size]
 rw[e]
 exact key n 0 b s (by lia) h
section
open PySem.SeqAt
open PySem.AutoSeq1 (wpAny_loadPart')
open PySem.MeetsSeq PySem.MeetsSeq2 PySem.MeetsSeq3
theorem Uz (l:Addr)(items:Array Value)(n:Nat)(dd:Option Addr)(sl:Array (Option Value))(x:Value)(e:Value->Bool)(j:Nat)(hj:j<items.size)(hit:e items[j]=true)(hno:∀m (hm:m<items.size),m<j->e items[m]=false) :
  Meets (Builtin.«tuple.index» ⟨[.ref l,x],[]⟩)
   (fun A R s=>s.heap.get? l=some {cls:=.type "tuple",dict:=dd,data:=.seq items n,slots:=sl}/\(∀y,y∈items->EqAt A.in1 s y x (e y))/\R (.ok (.ret (.int j s.toks))) {s with toks:=s.toks+1}):=
 .of_wp fun prog w A R s h=>by
  obtain⟨hp,g,d,tk,os⟩:=s;obtain⟨hl,he,h⟩:=h
  wp_walk using wpAny_loadPart' hl
  refine X0 (n:=min items.size items.size) (b:=(none,())) (f:=fun i _=>match items[i]? with
   |
    some y=>do
    let q ←eqBool y x
    if q=true then do
     let r ←retInt i
     pure (ForInStep.done (some r,()))
    else pure (ForInStep.yield (none,()))
   |_=>pure (ForInStep.yield (none,()))) (fun i b s'=>i<=j/\b.1=none/\s'=⟨hp,g,d,tk,os⟩) ⟨Bk _,rfl,rfl⟩ (fun i b s' hi hI=>?_) (fun b s' hI=>?_)
  .obtain⟨hij,hb,rfl⟩:=hI
   have hlt:i<items.size:=by lia
   have ei:items[i]?=some items[i]:=Ld hlt
   simp only[ei]
   refine A1 (he _ (Array.getElem_mem hlt) prog w _ _ ?_)
   by_cases c:i=j
   .subst c
    rw[hit]
    wp_walk
    exact⟨_,rfl,h⟩
   .rw[hno i hlt (by lia)]
    wp_walk
    exact⟨by lia,rfl,rfl⟩
  .obtain⟨hij,_,_⟩:=hI
   lia
end
def XE (z:Str):Value->Bool
 |.str y _=>y==z
 |_=>false
theorem UT {zs:List Str}{its:List Value}(r:Az (zs.map V.str) its){i:Nat}{u:Value}(h:its[i]?=some u):∃z t,zs[i]?=some z/\u = .str z t:=by
 cases e:(zs.map V.str)[i]? with
 |none=>rw[r.none_of e]at h;cases h
 |
  some v=>
  obtain⟨u',h',ru⟩:=r.get e
  rw[h]at h'
  cases h'
  rw[AQ]at e
  cases ez:zs[i]? with
  |none=>rw[ez]at e;cases e
  |
   some z=>
   rw[ez]at e
   cases e
   obtain⟨t,ht⟩:=(show ∃t,u=Value.str z t from ru)
   exact⟨z,t,rfl,ht⟩
def V0 (K:Faa):V->List V->Hp->VK->Prop:=fun x vs H Q=>∃(p:Addr) (zs:List Str) (z:Str) (j:Nat),x = .ref p/\vs=[.str z]/\A9 K H p (zs.map V.str)/\zs[j]?=some z/\(∀m<j,zs[m]?≠some z)/\Q (.int (j:Int)) H
theorem Zq {X:Cx}:Hy X "tuple.index" (V0 X.K):=by
 intro pins s σ H x vs v us Q I rx rv h
 obtain⟨p,zs,z,j,rfl,rfl,hq,hj,hno,q⟩:=h
 cases rx
 obtain⟨u,rfl,ru⟩:=EK rv
 obtain⟨tk,rfl⟩:=(show ∃t,u=Value.str z t from ru)
 obtain⟨its,r,⟨o,e,hc,n,hd⟩,hz⟩:=I.tuple hq
 have hl:=r.length
 rw[Al]at hl
 have hjl:j<its.length:=by have:=(As.mp hj).1;lia
 obtain⟨cls,dd,data,sl⟩:=o
 simp only at hc hd
 subst hc hd
 have at':∀m (hm:m<its.toArray.size),∃y t,zs[m]?=some y/\its.toArray[m] = .str y t:=fun m hm=>by
  have hm':m<its.length:=by simpa using hm
  obtain⟨y,t,h1,h2⟩:=UT r (i:=m) (u:=its[m]) (AC hm')
  exact⟨y,t,h1,by simpa using h2⟩
 refine GS PySem.F.slot_tuple_index ⟨_,e,rfl⟩ PySem.F.entry_tuple_index (PySem.F.args_tuple_index_2 _ _) (Uz p its.toArray n dd sl (.str z tk) (XE z) j (by simpa using hjl) ?_ ?_) ⟨e,fun y hy=>?_,?_⟩
 .obtain⟨y,t,h1,h2⟩:=at' j (by simpa using hjl)
  rw[hj]at h1
  cases h1
  rw[h2]
  exact TM z
 .intro m hm hmj
  obtain⟨y,t,h1,h2⟩:=at' m hm
  rw[h2]
  have:y≠z:=fun e=>hno m hmj (by rw[h1,e])
  exact Iu.mpr this
 .obtain⟨m,hm,rfl⟩:=Array.mem_iff_getElem.mp hy
  obtain⟨y,t,h1,h2⟩:=at' m hm
  rw[h2]
  exact PySem.SeqAt.EqAt.str_str y t z tk
 .exact⟨.int (j:Int),H,I.tok _,⟨_,rfl⟩,q⟩
def W9 (r:V->List V->Hp->VK->Prop)(to:TE)(t:TA):TE:=fun σ H Q=>to σ H fun x H1=>(∃p xs,x = .ref p/\H1 p=some (.tup xs))/\t σ H1 fun xs H2=>r x xs H2 Q
theorem YT {X:Cx}{pins:List (Addr×Obj)}{σ:St}{H:Hp}{s:Shared}{p:Addr}{xs:List V}(I:A2 X pins σ H s)(h:H p=some (.tup xs)):s.TypeIs (.ref p) "tuple"/\∀a,Value.ref p = .ref a->∃ob,s.heap.get? a=some ob/\ob.dict=none:=by
 obtain⟨_,its,_,o,e,c,_,d⟩:=(show BB X.prog X.w H s.heap p (.tup xs) from I.hok p _ h)
 exact⟨⟨o,e,c⟩,fun a z=>by cases z;exact⟨o,e,d⟩⟩
theorem YQ {X:Cx}{o e:Expr}{es:List Expr}{to:TE}{t:TA}{name:Str}{apos cpos:Pos}{id:String}{r:V->List V->Hp->VK->Prop}(slot:Slot "tuple" name id)(hty:typeOf (.builtin id)=pure (.type "method_descriptor"))(hm:Hy X id r)(ho:PE X o to)(ha:PA X (e::es) t)
  (hbase:attributeBase o name X.env (eval o X.env)=eval o X.env:=by rfl)
  (hfew:((backTo cpos (starEach (e::es) X.env)).all (fun x=>!x.1)&&(backToKw cpos (keywordEach [] X.env)).all (fun x=>x.1.isSome)&&decide ((e::es).length+([]:List Keyword).length+(if([]:List Keyword).isEmpty then 0 else 1)<30))=true:=by rfl)
  (hline:(apos.endLine==cpos.line)=true:=by rfl) (hs:starEach (e::es) X.env=(false,eval e X.env)::starEach es X.env:=by rfl) (hplain:(backTo cpos (starEach es X.env)).any (·.1)=false:=by rfl) :
  PE X (.Call (.Attribute o name apos) (e::es) [] cpos) (W9 r to t):=by
 intro pins s σ H Q I h
 refine wpAny_Call_method_late hbase hfew hline rfl (Ax (ho pins s σ H _ I h) fun v s1 hx=>?_)
 obtain⟨x,H1,I1,r1,⟨p,xs,rfl,hp⟩,q1⟩:=hx
 cases r1
 obtain⟨h1,h2⟩:=YT I1 hp
 refine⟨"tuple",id,PySem.F.plainAttrs_tuple,slot,hty,h1,h2,?_⟩
 have hA:=ha cpos pins s1 σ H1 _ I1 q1
 rw[hs]at hA ⊢
 refine Calls.callWith_builtin (by show(false||(backTo cpos (starEach es X.env)).any (·.1))=false;rw[hplain]<;>rfl) (Calls.evalArgs_plain ?_)
 exact Ax hA fun us s2 hy=>by
  obtain⟨vs,H2,I2,r2,q2⟩:=hy
  exact hm pins s2 σ H2 (.ref p) vs (.ref p) us Q I2 rfl r2 q2
def D4 (zs:List Str)(z:Str)(first u:Int):Prop:=(z=""/\u=0)\/(z≠""/\∃j:Nat,zs[j]?=some z/\(∀m<j,zs[m]?≠some z)/\u=first+(j:Int))
def Ug:Sp:=fun vs H Q _=>∃(t nm:Addr) (z:Str) (n first:Int) (zs:List Str) (u:Int),vs=[.ref t,.ref nm,.int first]/\H t=some (.tup [.str z,.int n])/\H nm=some (.tup (zs.map V.str))/\D4 zs z first u/\Q (.int u) H
section
variable {prog:Program}{w:World}{A:Around}{E:Value->Shared->Prop}{s:Shared}
theorem SZ {it t:Addr}{k:Nat}{its:Array Value}{Q:Value->Shared->Prop}(a:s.heap.IsTupleIter it t k)(b:s.heap.IsTuple t its)
  (q:wpAny (model prog w) A.in1 (match its[k]? with
   |some x=>do setField (.ref it) 1 (rawInt (k+1));ret x
   |none=>do rule (toString "tuple_iterator.__next__"++toString ".end");setField (.ref it) 0 .none;Builtin.SmallTypes.stopIteration) (fun fin s'=>∃v,fin = .done (.ret v)/\Q v s') E s) :
  wpAny (model prog w) A (Builtin.SmallTypes.nextOf (.ref it)) Q E s:=by
 have ty:=a.typeIs
 obtain⟨o,g,c,d⟩:=a
 obtain⟨o2,g2,-,n2,d2⟩:=b
 unfold Builtin.SmallTypes.nextOf
 apply A1
 apply wpAny_callSpecial?_slot (name:=Str.ofString "__next__") ty F.slot_tuple_iterator_next
 refine Gj F.slot_tuple_iterator_next ty F.entry_tuple_iterator_next ?_ (F.args_tuple_iterator_next_1 _)
 unfold Builtin.«tuple_iterator.__next__»
 wp_walk using D9 g d (x:=.ref t) rfl
 rw[d]
 apply Ae
 apply Ae
 apply A1
 apply EI g2 d2
 rw[show Int.toNat (k:Int)=k from rfl]
 refine CV q (fun fin s' zz=>?_) fun _ _ z=>z
 obtain⟨v,e,z⟩:=zz
 exact⟨v,e,Ae z⟩
theorem YE {it t:Addr}{k:Nat}{its:Array Value}{x:Value}{Q:Value->Shared->Prop}(a:s.heap.IsTupleIter it t k)(b:s.heap.IsTuple t its)(hx:its[k]?=some x)
  (q:∀h',h'.IsTupleIter it t (k+1)->Heap.SameBut it s.heap h'->Q x {s with heap:=h'}):wpAny (model prog w) A (Builtin.SmallTypes.nextOf (.ref it)) Q E s:=by
 apply SZ a b
 obtain⟨o,g,c,d⟩:=a
 rw[hx]
 apply A1
 apply IB g d (by simp)
 apply Ae
 refine⟨x,rfl,q _ ⟨_,DG _ g ?_,?_,?_⟩ (Gg ..)⟩
 .exact Obj.isFreed_of_fields (Obj.data_mapFields d _)
 .exact(Obj.cls_mapFields ..).trans c
 .rw[Obj.data_mapFields d];rfl
theorem U2 {it t:Addr}{k:Nat}{its:Array Value}{Q:Value->Shared->Prop}(hh:A.handled=none)(a:s.heap.IsTupleIter it t k)(b:s.heap.IsTuple t its)(hx:its[k]?=none)
  (q:∀h' e,Heap.ExtBut it s.heap h'->(∃o,h'.get? e=some o/\o.cls = .type "StopIteration")->E (.ref e) {s with heap:=h'}):wpAny (model prog w) A (Builtin.SmallTypes.nextOf (.ref it)) Q E s:=by
 apply SZ a b
 obtain⟨o,g,c,d⟩:=a
 rw[hx]
 apply A1
 apply Nt
 apply A1
 apply IB g d (by simp)
 have h1:A.in1.handled=none:=hh
 wp_walk
 unfold raiseNew
 apply A1
 apply Pq
 rw[h1]
 show wpAny _ _ (throw _) _ _ _
 apply Pr
 exact q _ _ (((Gg ..).extBut.push _).push _) ⟨_,B8 _ rfl,rfl⟩
theorem Jq (hh:A.handled=none)(it t:Addr)(ne:t≠it)(its:Array Value):Draws prog w A it [it,t] its.size (fun i v=>its[i]?=some v) (fun i h=>h.IsTupleIter it t i/\h.IsTuple t its) where
 live:=fun _ _ ⟨⟨o,g,_⟩,_⟩=>⟨o,g⟩
 frame:=fun _ _ _ ⟨⟨o,g,r⟩,⟨o2,g2,r2⟩⟩ k=>⟨⟨o,k it (by simp) o g,r⟩,⟨o2,k t (by simp) o2 g2,r2⟩⟩
 item:=fun i s Q E lt ⟨a,b⟩ q=>YE a b (Ld lt) fun h' a' sb=>q _ h' s.toks (Ld lt) ⟨a',b.extBut sb.extBut ne⟩ sb
 done:=fun s Q E ⟨a,b⟩ q=>U2 hh a b (by simp) q
end
structure ZA (z TI TO i1 i2:Addr)(f g:List Addr):Prop where
 zf:z∉f
 zg:z∉g
 of:TO∉f
 og:TO∉g
 nf:i2∉f
 ng:i1∉g
 Iz:TI≠z
 Oz:TO≠z
 az:i1≠z
 bz:i2≠z
 IO:TI≠TO
 Ia:TI≠i1
 Ib:TI≠i2
 Oa:TO≠i1
 Ob:TO≠i2
theorem mv {prog:Program}{w:World}{A:Around}{it:Addr}{f:List Addr}{n:Nat}{P:Nat->Value->Prop}{S:Nat->Heap->Prop}(D:Draws prog w A it f n P S){k:Nat}{h h':Heap}{a:Addr}(st:S k h)(b:Heap.ExtBut a h h')(na:a∉f):S k h':=
 D.frame k h h' st fun c hc o e=>b c o (fun q=>na (q▸hc)) e
section
variable {prog:Program}{w:World}{A:Around}{E:Value->Shared->Prop}{s:Shared}
theorem UN {z TI TO i1 i2:Addr}{f g:List Addr}{m n k:Nat}{P R:Nat->Value->Prop}{S T:Nat->Heap->Prop}(Z:ZA z TI TO i1 i2 f g)(D1:Draws prog w A i1 f m P S)(D2:Draws prog w A i2 g n R T){a b:Value}{Q:Value->Shared->Prop}
  (hz:IsZip s.heap z TI TO .none) (hI:IsPair s.heap TI (.ref i1) (.ref i2)) (hO:IsPair s.heap TO a b) (s1:S k s.heap) (s2:T k s.heap) (le1:k<=m) (le2:k<=n)
  (q:k<m->k<n->∀x y h' tk,P k x->R k y->IsZip h' z TI TO (rawInt s.heap.objs.size)->IsPair h' TO x y->S (k+1) h'->T (k+1) h'->IsPair h' s.heap.objs.size x y->
   (∀c o,c≠z->c≠TO->c≠i1->c≠i2->s.heap.get? c=some o->h'.get? c=some o)->Q (.ref s.heap.objs.size) {s with heap:=h',toks:=tk})
  (qe:(k=m\/k=n)->∀h' e tk,(∀c o,c≠z->c≠TO->c≠i1->c≠i2->s.heap.get? c=some o->h'.get? c=some o)->(∃o,h'.get? e=some o/\o.cls = .type "StopIteration")->E (.ref e) {s with heap:=h',toks:=tk}) :
  wpAny (model prog w) A (Builtin.«zip.__next__» ⟨[.ref z],[]⟩) (fun fin s'=>∃v,fin = .done (.ret v)/\Q v s') E s:=by
 change wpAny _ _ (field (.ref z) 2>>=_) _ _ _
 apply A1
 apply D9 hz rfl (x:=.bool false) rfl
 change wpAny _ _ (field (.ref z) 3>>=_) _ _ _
 apply A1
 apply D9 hz rfl (x:=.ref TI) rfl
 apply A1
 apply EI hI rfl
 change wpAny _ _ (Builtin.SmallTypes.ownedTupleIsFree (.ref z)>>=_) _ _ _
 apply A1
 unfold Builtin.SmallTypes.ownedTupleIsFree
 apply A1
 apply D9 hz rfl (x:=.none) rfl
 apply Ae
 simp only[Iy]
 apply A1
 apply Nt
 apply A1
 apply D9 hz rfl (x:=.ref TO) rfl
 apply A1
 apply F8 hz (by simp)
 intro hA zA bA
 have zA':IsZip hA z TI TO .ellipsis:=zA
 clear zA
 have oA:IsPair hA TO a b:=bA.extBut _ _ Z.Oz hO
 have sA:=mv D1 s1 bA.extBut Z.zf
 have tA:=mv D2 s2 bA.extBut Z.zg
 apply A1
 simp only[List.zipIdx_cons,List.zipIdx_nil,Na,List.forIn_nil]
 apply A1
 apply A1
 apply Nu
 change wpAny _ _ (Builtin.SmallTypes.nextOf (.ref i1)>>=_) _ _ _
 apply A1
 rcases Tu le1 with l1|rfl
 rotate_left
 .apply D1.done _ _ _ sA
  rintro h' e kp ⟨o,ge,ce⟩
  have z':IsZip h' z TI TO .ellipsis:=kp _ _ Z.az.symm zA'
  have ne:e≠z:=fun q=>by subst q;rw[z']at ge;cases ge;simp at ce
  apply F8 z' (by simp)
  intro h2 _ b2
  exact qe (.inl rfl) h2 e s.toks (fun c o c1 _ c3 _ x=>b2.extBut _ _ c1 (kp _ _ c3 (bA.extBut _ _ c1 x))) ⟨o,b2.extBut _ _ ne ge,ce⟩
 apply D1.item k _ _ _ l1 sA
 intro x hB t1 px sB bB
 apply Ae
 have oB:IsPair hB TO a b:=bB.extBut _ _ Z.Oa oA
 have zB:IsZip hB z TI TO .ellipsis:=bB.extBut _ _ Z.az.symm zA'
 have tB:=mv D2 tA bB.extBut Z.ng
 apply A1
 apply EI oB rfl
 apply A1
 apply wpAny_updateSeq_pair oB
 intro hC oC bC
 have oC':IsPair hC TO x b:=oC
 clear oC
 have zC:IsZip hC z TI TO .ellipsis:=bC.extBut _ _ Z.Oz.symm zB
 have sC:=mv D1 sB bC.extBut Z.of
 have tC:=mv D2 tB bC.extBut Z.og
 apply A1
 apply FS
 apply Ae
 apply A1
 apply A1
 apply Nu
 change wpAny _ _ (Builtin.SmallTypes.nextOf (.ref i2)>>=_) _ _ _
 apply A1
 have upC:∀c o,c≠z->c≠TO->c≠i1->s.heap.get? c=some o->hC.get? c=some o:=fun c o c1 c2 c3 e=>bC.extBut _ _ c2 (bB.extBut _ _ c3 (bA.extBut _ _ c1 e))
 rcases Tu le2 with l2|rfl
 rotate_left
 .apply D2.done _ _ _ tC
  rintro h' e kp ⟨o,ge,ce⟩
  have z':IsZip h' z TI TO .ellipsis:=kp _ _ Z.bz.symm zC
  have ne:e≠z:=fun q=>by subst q;rw[z']at ge;cases ge;simp at ce
  apply F8 z' (by simp)
  intro h2 _ b2
  exact qe (.inr rfl) h2 e t1 (fun c o c1 c2 c3 c4 x=>b2.extBut _ _ c1 (kp _ _ c4 (upC c o c1 c2 c3 x))) ⟨o,b2.extBut _ _ ne ge,ce⟩
 apply D2.item k _ _ _ l2 tC
 intro y hD t2 py tD bD
 apply Ae
 have oD:IsPair hD TO x b:=bD.extBut _ _ Z.Ob oC'
 have zD:IsZip hD z TI TO .ellipsis:=bD.extBut _ _ Z.bz.symm zC
 have sD:=mv D1 sC bD.extBut Z.nf
 apply A1
 apply EI oD rfl
 apply A1
 apply wpAny_updateSeq_pair oD
 intro hE oE bE
 have oE':IsPair hE TO x y:=oE
 clear oE
 have zE:IsZip hE z TI TO .ellipsis:=bE.extBut _ _ Z.Oz.symm zD
 have sE:=mv D1 sD bE.extBut Z.of
 have tE:=mv D2 tD bE.extBut Z.og
 have upE:∀c o,c≠z->c≠TO->c≠i1->c≠i2->s.heap.get? c=some o->hE.get? c=some o:=fun c o c1 c2 c3 c4 e=>bE.extBut _ _ c2 (bD.extBut _ _ c4 (upC c o c1 c2 c3 e))
 have sz:hE.objs.size=s.heap.objs.size:=by rw[bE.1,bD.1,bC.1,bB.1,bA.1]
 apply A1
 apply FS
 apply Ae
 apply Ae
 apply A1
 apply EI oE' rfl
 apply A1
 refine Pt ?_
 change wpAny _ _ (Builtin.SmallTypes.ownedTupleHandOut (.ref z) (.ref hE.objs.size)>>=_) _ _ _
 apply A1
 unfold Builtin.SmallTypes.ownedTupleHandOut
 have zF:IsZip (hE.push {cls:=.type "tuple",data:=.seq #[x,y]}) z TI TO .ellipsis:=Aw _ zE
 have pF:IsPair (hE.push {cls:=.type "tuple",data:=.seq #[x,y]}) hE.objs.size x y:=B8 _ rfl
 apply A1
 apply F8 zF (by simp)
 intro hG zG bG
 have zG':IsZip hG z TI TO (rawInt hE.objs.size):=zG
 clear zG
 apply F8 zG' (by simp)
 intro hH zH bH
 have zH':IsZip hH z TI TO (rawInt hE.objs.size):=zH
 clear zH
 have far:hE.objs.size≠z:=BU (AA zE)
 have up:Heap.ExtBut z hE hH:=fun c o c1 e=>bH.extBut _ _ c1 (bG.extBut _ _ c1 (Aw _ e))
 have pH:IsPair hH hE.objs.size x y:=bH.extBut _ _ far (bG.extBut _ _ far pF)
 apply Ae
 refine⟨_,rfl,?_⟩
 have:=q l1 l2 x y hH t2 px py (by rw[←sz];exact zH') (up _ _ Z.Oz oE') (mv D1 sE up Z.zf) (mv D2 tE up Z.zg) (by rw[←sz];exact pH) fun c o c1 c2 c3 c4 e=>up c o c1 (upE c o c1 c2 c3 c4 e)
 rw[←sz]at this
 exact this
theorem QR {z TI TO i1 i2:Addr}{f g:List Addr}{m n k:Nat}{P R:Nat->Value->Prop}{S T:Nat->Heap->Prop}(Z:ZA z TI TO i1 i2 f g)(D1:Draws prog w A.in1 i1 f m P S)(D2:Draws prog w A.in1 i2 g n R T){a b:Value}{Q:Option Value->Shared->Prop}
  (hz:IsZip s.heap z TI TO .none) (hI:IsPair s.heap TI (.ref i1) (.ref i2)) (hO:IsPair s.heap TO a b) (s1:S k s.heap) (s2:T k s.heap) (le1:k<=m) (le2:k<=n)
  (q:k<m->k<n->∀x y h' tk,P k x->R k y->IsZip h' z TI TO (rawInt s.heap.objs.size)->IsPair h' TO x y->S (k+1) h'->T (k+1) h'->IsPair h' s.heap.objs.size x y->
   (∀c o,c≠z->c≠TO->c≠i1->c≠i2->s.heap.get? c=some o->h'.get? c=some o)->Q (some (.ref s.heap.objs.size)) {s with heap:=h',toks:=tk})
  (qe:(k=m\/k=n)->∀h' tk,(∀c o,c≠z->c≠TO->c≠i1->c≠i2->s.heap.get? c=some o->h'.get? c=some o)->Q none {s with heap:=h',toks:=tk}) :
  wpAny (model prog w) A (pyNext (.ref z)) Q E s:=by
 have ty:s.TypeIs (.ref z) "zip":=⟨_,hz,rfl⟩
 unfold pyNext
 apply A1
 apply Nv
 apply wpAny_callSpecial?_slot (name:=Str.ofString "__next__") ty F.slot_zip_next
 refine Gj F.slot_zip_next ty F.entry_zip_next (UN Z D1 D2 hz hI hO s1 s2 le1 le2 ?_ ?_) (F.args_zip_next_1 _)
 .intro l1 l2 x y h' tk a1 a2 a3 a4 a5 a6 a7 a8
  exact Ae (q l1 l2 x y h' tk a1 a2 a3 a4 a5 a6 a7 a8)
 .rintro l h' e tk kp ⟨o,ge,ce⟩
  exact A1 (Nw (T:="StopIteration") (b:=true) ⟨o,ge,ce⟩ Nx (Ae (qe l h' tk kp)))
end
def Kq (K:Faa)(a:Addr):It:=
 ⟨fun i H=>∃xs x,A9 K H a xs/\xs[i]?=some x,fun i H v H'=>∃x T,(∀xs,A9 K H a xs->xs[i]?=some x)/\H T=none/\v = .ref T/\H'=upd H T (.tup [.int i,x]),fun i H=>∃xs,A9 K H a xs/\xs.length=i⟩
theorem Yz {P:Program}{w:World}{K:Faa}{elts:List Expr}{x1:Nat}{pos:Pos}(a e it:Addr)(hei:e≠it)(na:a≠it)(ne:e≠a):Gn P w K (.Tuple elts x1 pos) (Kq K a) [e,it] e (fun i h=>(∃old,IsEnum h e it i old)/\h.IsTupleIter it a i) where
 mem:=by simp
 obj:=fun i h st b hb=>by
  obtain⟨⟨old,he⟩,hit⟩:=st
  rcases AS.mp hb with rfl|hb
  .exact⟨_,he,fun v z=>by cases z⟩
  .have e:b=it:=by simpa using hb
   subst e
   obtain⟨o,e,c,d⟩:=hit
   exact⟨o,e,fun v z=>by rw[d]at z;cases z⟩
 keep:=fun i h h' st k=>by
  obtain⟨⟨old,he⟩,hit⟩:=st
  exact⟨⟨old,k e (by simp) _ he⟩,hit.at fun o e=>k it (by simp) o e⟩
 item:=by
  intro X hP hw hK hc i pins s σ H E I hf st hg
  subst hP hw hK
  obtain⟨xs,x,hq,hx⟩:=hg
  obtain⟨its,rv,p,hz⟩:=I.tuple hq
  obtain⟨u,hu,ru⟩:=rv.get hx
  obtain⟨⟨old,he⟩,hit⟩:=st
  have p':s.heap.IsTuple a its.toArray:=p
  have hn:X.A.in1.handled=none:=I.ok.hd hc
  have d1:=Jq (prog:=X.prog) (w:=X.w) hn it a na its.toArray
  have l1:=rv.length
  obtain⟨b1,_⟩:=As.1 hx
  refine wpAny_pyNext_enum_itemD d1 he ⟨hit,p'⟩ (by simp;lia) hei (by simp[hei,ne]) fun u' h1 tk hu' ho hit' hT hsz hk=>⟨_,rfl,?_⟩
  have eu:u=u':=by simpa[hu] using hu'
  subst eu
  refine wpAny_letOwnedTupleGo_enum ho fun h2 he2 hs2=>?_
  have hTn:H s.heap.objs.size=none:=I.hok.fresh (Ah _)
  have helt:e<s.heap.objs.size:=AA he
  have hilt:it<s.heap.objs.size:=by obtain⟨_,x,_⟩:=hit;exact AA x
  have I1:A2 X pins σ (upd H s.heap.objs.size (.tup [.int i,x])) {s with heap:=s.heap.push {cls:=.type "tuple",data:=.seq #[.int i tk,u]},toks:=tk+1}:=I.laid (t':=tk+1) (o:=.tup [.int i,x]) (fun b o e=>Aw _ e) (Ah _) ⟨Ar rfl,[.int i tk,u],.cons ⟨_,rfl⟩ (.cons ru .nil),ED.new _ _⟩
  have I2:A2 X pins σ (upd H s.heap.objs.size (.tup [.int i,x])) {s with heap:=h2,toks:=tk+1}:=by
   refine A2.turnedL (s:={s with heap:=s.heap.push {cls:=.type "tuple",data:=.seq #[.int i tk,u]},toks:=tk+1}) (h':=h2) (ch:=[e,it]) (t':=tk+1) I1 (fun b o hb q=>?_) (fun b hb=>?_)
   .have nbe:b≠e:=fun z=>hb (by simp[z])
    have nbi:b≠it:=fun z=>hb (by simp[z])
    show h2.get? b=some o
    rw[hs2.2 b nbe]
    rcases Ng q with⟨rfl,rfl⟩|q
    .exact hT
    .exact hk b o nbe nbi q
   .obtain⟨f0,f1,f2,f3,f4,f5⟩:=hf b hb
    have nb:b≠s.heap.objs.size:=by
     rcases AS.mp hb with rfl|hb
     .exact AN helt
     .have:b=it:=by simpa using hb
      subst this
      exact AN hilt
    exact⟨by rw[Af nb];exact f0,f1,f2,f3,f4,f5⟩
  refine⟨.ref s.heap.objs.size,_,I2,rfl,⟨x,_,fun ys hy=>by rw[I.tuple_inj hy hq];exact hx,hTn,rfl,rfl⟩,⟨⟨_,by simpa using he2⟩,hit'.1.at fun o y=>(hs2.2 it hei.symm).trans y⟩,fun b hb=>?_⟩
  obtain⟨f0,f1,f2,f3,f4,f5⟩:=hf b hb
  have nb:b≠s.heap.objs.size:=by
   rcases AS.mp hb with rfl|hb
   .exact AN helt
   .have:b=it:=by simpa using hb
    subst this
    exact AN hilt
  rw[Af nb]
  exact f0
 done:=by
  intro X hP hw hK hc i pins s σ H E I hf st hg
  subst hP hw hK
  obtain⟨xs,hq,hx⟩:=hg
  obtain⟨its,rv,p,hz⟩:=I.tuple hq
  obtain⟨⟨old,he⟩,hit⟩:=st
  have p':s.heap.IsTuple a its.toArray:=p
  have hn:X.A.in1.handled=none:=I.ok.hd hc
  have d1:=Jq (prog:=X.prog) (w:=X.w) hn it a na its.toArray
  have hl:=rv.length
  have e1:its.toArray.size=i:=by simp;lia
  refine wpAny_pyNext_enum_endD d1 he ⟨by rw[e1];exact hit,p'⟩ fun h' eb=>⟨rfl,?_⟩
  exact I.turnedL (ch:=[e,it]) (t':=s.toks) (fun b o hb q=>eb b o (fun z=>hb (by simp[z])) q) hf
 self:=fun _ _ _ _ _ st h=>by
  obtain⟨⟨old,he⟩,_⟩:=st
  exact Po he h
theorem UO (l:Addr)(items:Array Value)(n:Nat)(dd:Option Addr)(sl:Array (Option Value)) :
  Meets (Builtin.«enumerate.__new__» ⟨[.type "enumerate",.ref l],[]⟩) (fun _ R s=>s.heap.get? l=some {cls:=.type "tuple",dict:=dd,data:=.seq items n,slots:=sl}/\
   ∀h',IsEnum h' (s.heap.objs.size+1) s.heap.objs.size 0 .none->h'.IsTupleIter s.heap.objs.size l 0->(∀c o,s.heap.get? c=some o->h'.get? c=some o)->R (.ok (.ret (.ref (s.heap.objs.size+1)))) {s with heap:=h'}):=
 .of_wp fun prog w A R s h=>by
  obtain⟨hp,g,d,tk,os⟩:=s
  obtain⟨hl,h⟩:=h
  have hsub:=sub_enumerate
  have hL:Heap.IsTuple (Shared.heap ⟨hp,g,d,tk,os⟩) l items:=⟨_,hl,rfl,n,rfl⟩
  have key:∀(n1:Nat) (h':Heap),n1=hp.objs.size+1->IsEnum h' n1 hp.objs.size 0 .none->h'.IsTupleIter hp.objs.size l 0->(∀c o,hp.get? c=some o->h'.get? c=some o)->R (.ok (.ret (.ref n1))) ⟨h',g,d,tk,os⟩:=by
   rintro _ h' rfl
   exact h h'
  wp_walk using AutoSeq1.wpAny_loadPart' hl
  apply wpAny_stack_any
  intro st
  apply Ae
  have fin:R (.ok (.ret (.ref (hp.push {cls:=.type "tuple_iterator",data:=.fields #[.ref l,.int 0 0]}).objs.size))) ⟨(hp.push {cls:=.type "tuple_iterator",data:=.fields #[.ref l,.int 0 0]}).push {cls:=.type "enumerate",data:=.fields #[.none,.bool false,.ref hp.objs.size,rawInt 0,.none,.none]},g,d,tk,os⟩:=
   key _ _ (by simp only[Gf]) (B8 _ rfl) ⟨_,Aw _ (B8 _ rfl),rfl,rfl⟩ fun c o e=>Aw _ (Aw _ e)
  split
  .rename_i c _ _ _ _ _
   cases (c==Value.type "enumerate")
   all_goals
    wp_walk using AutoSeq1.wpAny_loadPart' hl,Pu hL
    exact⟨_,rfl,fin⟩
  .wp_walk using AutoSeq1.wpAny_loadPart' hl,Pu hL
   exact⟨_,rfl,fin⟩
def V1 (K:Faa)(ta:TA):TI:=fun σ H R=>ta σ H fun vs H1=>∃a:Addr,vs=[.ref a]/\(∃xs,A9 K H1 a xs)/\R (Kq K a) H1
theorem T6 {X:Cx}{a:Expr}{ta:TA}{p pos:Pos}{elts:List Expr}{x1:Nat}{pos2:Pos}(hg:Gl X "enumerate")(hm:X.mg "enumerate"=none)(ha:PA X [a] ta)(hs:starEach [a] X.env=[(false,eval a X.env)]:=by rfl):PI X (.Tuple elts x1 pos2) (.Call (.Name "enumerate" p) [a] [] pos) (V1 X.K ta):=by
 intro pins s σ H R I h
 refine Call_ (Ed I hg hm boot_enumerate (Ge (Ax (ha pos pins s σ H _ I h) fun us s1 zz=>?_) hs rfl))
 obtain⟨vs,H1,I1,r1,q1⟩:=zz
 obtain⟨l,rfl,⟨xs,hq⟩,q⟩:=q1
 cases r1 with
 |
  cons r rr=>
  cases rr
  cases r
  obtain⟨its,rv,pl,hz⟩:=I1.tuple hq
  have lt1:l<s1.heap.objs.size:=pl.lt
  obtain⟨⟨c,dct,dt,sl⟩,hl,hc,n,hd⟩:=pl
  have hc':c = .type "tuple":=hc
  have hd':dt = .seq its.toArray n:=hd
  subst hc' hd'
  refine callType_new F.called_enumerate (by decide) (F.typeCall_enumerate_1 _) (F.newCall_enumerate_1 _) (fun obj=>F.args_object_init_2 obj _) F.entry_enumerate_new (UO l its.toArray n dct sl) ⟨hl,fun h' he hit hk=>⟨⟨_,he,rfl⟩,?_⟩⟩
  refine Po he ?_
  refine⟨_,[s1.heap.objs.size+1,s1.heap.objs.size],_,_,H1,rfl,I1.kept (t':=s1.toks) hk,Yz l _ _ (BU (Ie _)) (AN lt1) (BU (BS lt1 (CI _ _))),⟨⟨_,he⟩,hit⟩,fun b hb=>?_,q⟩
  rcases AS.mp hb with rfl|hb
  .exact I1.fpOk (F6 _) (I1.hok.fresh (F6 _))
  .have e:b=s1.heap.objs.size:=by simpa using hb
   subst e
   exact I1.fpOk (Ah _) (I1.hok.fresh (Ah _))
theorem S5 {K:Faa}{a:Addr}{xs:List V}{g:TG}{tb:TS}{D:CL}{σ:St}{H:Hp}(Pv:Nat->St->Hp->Prop)(h0:Pv 0 σ H)(hl:∀i σ H,i<=xs.length->Pv i σ H->A9 K H a xs)
  (hs:∀i x T σ H,xs[i]?=some x->Pv i σ H->H T=none->g (.ref T) σ (upd H T (.tup [.int i,x])) fun σ2 H2=>tb {D with nx:=Pv (i+1),ct:=Pv (i+1),bk:=D.nx} σ2 H2) (hd:∀σ H,Pv xs.length σ H->D.nx σ H) :
  ∃W:Nat->Nat->St->Hp->Prop,(∃m,W 0 m σ H)/\∀i m σ H,W i m σ H->
   ((Kq K a).stop i H/\D.nx σ H)\/((Kq K a).go i H/\∃N:St->Hp->Prop,(∀σ' H',N σ' H'->∃m',m'<m/\W (i+1) m' σ' H')/\∀x H',(Kq K a).yld i H x H'->g x σ H' fun σ2 H2=>tb {D with nx:=N,ct:=N,bk:=D.nx} σ2 H2):=by
 refine⟨fun i m σ H=>m=xs.length-i/\i<=xs.length/\Pv i σ H,⟨xs.length,by simp,Bk _,h0⟩,?_⟩
 rintro i m σ H ⟨rfl,hi,p⟩
 have q:=hl i σ H hi p
 by_cases hlt:i<xs.length
 .refine .inr ⟨⟨xs,xs[i],q,AC hlt⟩,Pv (i+1),fun σ' H' p'=>⟨xs.length-(i+1),by lia,rfl,hlt,p'⟩,fun v H' y=>?_⟩
  obtain⟨x,T,hx,hT,rfl,rfl⟩:=y
  exact hs i x T σ H (hx xs q) p hT
 .have e:i=xs.length:=by lia
  subst e
  exact .inl ⟨⟨xs,q,rfl⟩,hd σ H p⟩
abbrev Fl:=Int×Int×Int
def E6 (H:Hp)(ys:List V)(B:List Fl):Prop:=ys.length=B.length/\∀(i:Nat) (y:V) (b:Fl),ys[i]?=some y->B[i]?=some b->∃t,y = .ref t/\H t=some (.tup [.int b.1,.int b.2.1,.int b.2.2])
theorem E6.over {H H':Hp}{ys:List V}{B:List Fl}(h:E6 H ys B)(e:A8 H H'):E6 H' ys B:=⟨h.1,fun i y b p q=>by obtain⟨t,x,z⟩:=h.2 i y b p q;exact⟨t,x,e _ _ z⟩⟩
theorem E6.nil {H:Hp}:E6 H [] []:=⟨rfl,fun i y b p=>by simp at p⟩
theorem E6.snoc {H:Hp}{ys:List V}{B:List Fl}{t:Addr}{b:Fl}(h:E6 H ys B)(ht:H t=some (.tup [.int b.1,.int b.2.1,.int b.2.2])):E6 H (ys++[.ref t]) (B++[b]):=by
 refine⟨by rw[AF,AF,h.1];rfl,fun i y c p q=>?_⟩
 by_cases l:i<ys.length
 .rw[C8 l]at p
  rw[C8 (by rw[←h.1];exact l)]at q
  exact h.2 i y c p q
 .have hi:i=ys.length:=by
   have:=(As.mp p).1
   rw[AF,Bf]at this
   lia
  subst hi
  rw[BH (Ah _),Cq]at p
  rw[h.1,BH (Ah _),Cq]at q
  cases p;cases q
  exact⟨t,rfl,ht⟩
theorem E6.upd {H:Hp}{ys zs xs:List V}{B:List Fl}{l:Addr}(h:E6 H ys B)(hl:H l=some (.lst zs)):E6 (upd H l (.lst xs)) ys B:=⟨h.1,fun i y b p q=>by
 obtain⟨t,x,z⟩:=h.2 i y b p q
 exact⟨t,x,by rw[Af (EZ z hl (by intro z;cases z))];exact z⟩⟩
def Mx (H:Hp)(p:Addr)(m:Nat)(z:Nat->Str)(n:Nat->Int):Prop := ∃xs:List V,H p=some (.tup xs)/\xs.length=m/\∀(i:Nat) (x:V),xs[i]?=some x->∃t,x = .ref t/\H t=some (.tup [.str (z i),.int (n i)])
def Gz (F G:Nat->Fl):Nat->List Fl
 |0=>[]
 |n+1=>Gz F G n++[F n]++[G n]
theorem bf (F G:Nat->Fl)(n:Nat):(Gz F G n).length=2*n:=by
 induction n with
 |zero=>rfl
 |succ n ih=>rw[Gz,AF,AF,ih];simp only[Bf];lia
def YW:R2:=fun x y H Q=>∃(a b:Addr) (xs ys:List V),x = .ref a/\y = .ref b/\H a=some (.tup xs)/\H b=some (.tup ys)/\xs.length+ys.length<=sizeLine/\∀(p:Addr) (H':Hp),A8 H H'->H' p=some (.tup (xs++ys))->Q (.ref p) H'
theorem Ja {X:Cx}:BP X (binaryOp .Add) YW:=by
 intro pins s σ H x y v u Q I rx ry h
 obtain⟨a,b,xs,ys,rfl,rfl,ha,hb,hz,q⟩:=h
 by_cases c:xs=[]
 .subst c
  cases rx
  cases ry
  obtain⟨its,r1,p1,_⟩:=I.tuple (A9.of ha)
  obtain⟨its2,r2,p2,_⟩:=I.tuple (A9.of hb)
  obtain⟨⟨cls,dd,data,sl⟩,ho,hc,n,hd⟩:=id p1
  obtain⟨⟨cls2,dd2,data2,sl2⟩,ho2,hc2,n2,hd2⟩:=id p2
  simp only at hc hd hc2 hd2
  subst hc hd hc2 hd2
  have e:its=[]:=r1.nil_iff.mpr rfl
  exact concat_meets ⟨_,ho,rfl⟩ ⟨_,ho2,rfl⟩ TC seq_tuple_add Td Te (Tf _ _)
   (tuple_addW0 a b its.toArray its2.toArray n n2 dd dd2 sl sl2 (by simp[e])) ⟨ho,ho2,.ref b,H,I,rfl,q b H (A8.refl _) hb⟩
 .refine Wr pins s σ H (.ref a) (.ref b) v u Q I rx ry ⟨a,b,xs,ys,rfl,rfl,A9.of ha,A9.of hb,c,hz,fun z=>?_,fun z p hp=>?_⟩
  .subst z
   exact q a H (A8.refl _) (by rw[FR];exact ha)
  .exact q p _ (Ac hp _) A6
end L2
namespace Fo
set_option genInjectivity true in
inductive F (W:Type) where
 |nil:F W
 |leaf (k:Int) (pl:List (Int×Int)) (rest:F W):F W
 |node (cut:Bool) (way:W) (sub rest:F W):F W
structure Bo (W:Type) where
 k:Int
 sh:Nat
 ways:List (Bool×W)
 pl:List (Int×Int)
variable {W L:Type}
def HeadSh (B:List (Bo W))(d:Nat):Prop := ∀c,B.head?=some c->c.sh=d
def Is:F W->List (Bo W)->Nat->Prop
 |.nil,B,_=>B=[]
 |.leaf k pl rest,B,d=>∃b B',B=b::B'/\b.k=k/\b.pl=pl/\b.ways.length=d/\HeadSh B' d/\Is rest B' d
 |.node cut way sub rest,B,d=>∃b G B',B=(b::G)++B'/\b.ways[d]?=some (cut,way)/\(∀c∈G,d<c.sh)/\HeadSh B' d/\Is sub (b::G) (d+1)/\Is rest B' d
section
variable (hdr:Nat->Bool->W->L)(dl:Nat->Int->List (Int×Int)->L)
end
structure Ok (B:List (Bo W)):Prop where
 sh:∀b∈B,b.sh<=b.ways.length
 ln:∀(i:Nat) (b c:Bo W),B[i]?=some b->B[i+1]?=some c->c.sh<=b.ways.length/\c.ways.take c.sh=b.ways.take c.sh
structure En where
 k:Int
 pl:List (Int×Int)
 path:List Int
def deedsF:F W->List Int->Nat->List En
 |.nil,_,_=>[]
 |.leaf k pl rest,p,j=>⟨k,pl,p++[(j:Int)]⟩::deedsF rest p (j+1)
 |.node _ _ sub rest,p,j=>deedsF sub (p++[(j:Int)]) 0++deedsF rest p (j+1)
theorem deeds_map:∀(f:F W) (B:List (Bo W)) (d:Nat) (p:List Int) (j:Nat),Is f B d->(deedsF f p j).map (fun e=>(e.k,e.pl))=B.map fun b=>(b.k,b.pl)
 |.nil,B,d,p,j,h=>by cases (show B=[] from h);rfl
 |
  .leaf k pl rest,B,d,p,j,h=>by
  obtain⟨b,B',rfl,rfl,rfl,hl,hh,hr⟩:=h
  show(b.k,b.pl)::_=(b.k,b.pl)::_
  rw[deeds_map rest B' d p (j+1) hr]
 |
  .node c w sub rest,B,d,p,j,h=>by
  obtain⟨b,G,B',rfl,hw,hG,hh,hs,hr⟩:=h
  show List.map _ (deedsF sub (p++[(j:Int)]) 0++deedsF rest p (j+1))=_
  rw[B3,deeds_map sub (b::G) (d+1) _ _ hs,deeds_map rest B' d p (j+1) hr,←B3]
theorem deeds_len {f:F W}{B:List (Bo W)}{d:Nat}(p:List Int)(j:Nat)(h:Is f B d):(deedsF f p j).length=B.length:=by
 have:=congrArg List.length (deeds_map f B d p j h)
 rwa [Al,Al]at this
theorem Gs:∀(f:F W) (p:List Int) (j:Nat) (e:En),e∈deedsF f p j->∃(i:Nat) (q:List Int),j<=i/\e.path=p++(i:Int)::q
 |.nil,p,j,e,h=>by cases h
 |
  .leaf k pl rest,p,j,e,h=>by
  rcases AS.mp h with rfl|h
  .exact⟨j,[],Ah _,rfl⟩
  .obtain⟨i,q,h1,h2⟩:=Gs rest p (j+1) e h
   exact⟨i,q,by lia,h2⟩
 |
  .node c w sub rest,p,j,e,h=>by
  rcases BO.mp h with h|h
  .obtain⟨i,q,h1,h2⟩:=Gs sub (p++[(j:Int)]) 0 e h
   exact⟨j,(i:Int)::q,Ah _,by rw[h2];simp⟩
  .obtain⟨i,q,h1,h2⟩:=Gs rest p (j+1) e h
   exact⟨i,q,by lia,h2⟩
def Sep (x y:List Int)(n:Nat):Prop := ∃(c:List Int) (i j:Int) (q r:List Int),x=c++i::q/\y=c++j::r/\c.length=n/\i<j
def Least (B:List (Bo W))(i1 i2 m:Nat):Prop:=(∃j c,i1<j/\j<=i2/\B[j]?=some c/\c.sh=m)/\∀j c,i1<j->j<=i2->B[j]?=some c->m<=c.sh
theorem RB {x y:En}{p:List Int}{i j:Nat}{q r:List Int}(hx:x.path=p++(i:Int)::q)(hy:y.path=p++(j:Int)::r)(h:i<j):Sep x.path y.path p.length:=⟨p,i,j,q,r,hx,hy,rfl,by lia⟩
theorem deeds_sep:∀(f:F W) (B:List (Bo W)) (d:Nat) (p:List Int) (j i1 i2 m:Nat) (x y:En),Is f B d->(∀i c,B[i+1]?=some c->d<=c.sh)->i1<i2->(deedsF f p j)[i1]?=some x->(deedsF f p j)[i2]?=some y->Least B i1 i2 m->d<=m/\Sep x.path y.path (p.length+(m-d))
 |.nil,B,d,p,j,i1,i2,m,x,y,h,hs,hi,hx,hy,hm=>by simp[deedsF]at hx
 |
  .leaf k pl rest,B,d,p,j,i1,i2,m,x,y,h,hs,hi,hx,hy,hm=>by
  obtain⟨b,B',rfl,rfl,rfl,hl,hh,hr⟩:=h
  have hs':∀i c,B'[i+1]?=some c->d<=c.sh:=fun i c hc=>hs (i+1) c (by simpa using hc)
  obtain⟨i2,rfl⟩:∃n,i2=n+1:=⟨i2-1,by lia⟩
  change(⟨b.k,b.pl,p++[(j:Int)]⟩::deedsF rest p (j+1))[i1]?=some x at hx
  change(⟨b.k,b.pl,p++[(j:Int)]⟩::deedsF rest p (j+1))[i2+1]?=some y at hy
  rw[Le]at hy
  cases i1 with
  |
   zero=>
   rw[List.getElem?_cons_zero]at hx
   cases hx
   obtain⟨n,r,h1,h2⟩:=Gs rest p (j+1) y (AO hy)
   have hB:0<B'.length:=by
    have:=deeds_len p (j+1) hr
    have:=(As.mp hy).1
    lia
   have h0:B'[0]?=some B'[0]:=AC hB
   have hd:(B'[0]).sh=d:=hh _ (by rw[Nj];exact h0)
   have m1:m<=d:=by
    have:=hm.2 1 B'[0] (by lia) (by lia) (by simpa using h0)
    lia
   have m2:d<=m:=by
    obtain⟨⟨j',c,a1,a2,a3,a4⟩,_⟩:=hm
    have:=hs (j'-1) c (by rw[show j'-1+1=j' by lia];exact a3)
    lia
   refine⟨m2,?_⟩
   rw[show p.length+(m-d)=p.length by lia]
   exact RB (x:=⟨b.k,b.pl,p++[(j:Int)]⟩) (y:=y) (q:=[]) rfl h2 (by lia)
  |
   succ i1=>
   rw[Le]at hx
   refine deeds_sep rest B' d p (j+1) i1 i2 m x y hr hs' (by lia) hx hy ?_
   obtain⟨⟨j',c,a1,a2,a3,a4⟩,a5⟩:=hm
   obtain⟨j',rfl⟩:∃n,j'=n+1:=⟨j'-1,by lia⟩
   refine⟨⟨j',c,by lia,by lia,by simpa using a3,a4⟩,fun j'' c' b1 b2 b3=>a5 (j''+1) c' (by lia) (by lia) (by simpa using b3)⟩
 |
  .node c w sub rest,B,d,p,j,i1,i2,m,x,y,h,hs,hi,hx,hy,hm=>by
  obtain⟨b,G,B',rfl,hw,hG,hh,hsub,hr⟩:=h
  have l1:=deeds_len (p++[(j:Int)]) 0 hsub
  have l2:=deeds_len p (j+1) hr
  change(deedsF sub (p++[(j:Int)]) 0++deedsF rest p (j+1))[i1]?=some x at hx
  change(deedsF sub (p++[(j:Int)]) 0++deedsF rest p (j+1))[i2]?=some y at hy
  have hs':∀i c,B'[i+1]?=some c->d<=c.sh:=fun i c hc=>hs ((b::G).length+i) c (by
   rw[BH (by lia),show(b::G).length+i+1-(b::G).length=i+1 by lia]
   exact hc)
  by_cases c2:i2<(b::G).length
  .rw[C8 (by lia)]at hx hy
   have g:Least (b::G) i1 i2 m:=by
    obtain⟨⟨j',c',a1,a2,a3,a4⟩,a5⟩:=hm
    rw[C8 (by lia)]at a3
    exact⟨⟨j',c',a1,a2,a3,a4⟩,fun j'' c'' b1 b2 b3=>a5 j'' c'' b1 b2 (by rw[C8 (by lia)];exact b3)⟩
   obtain⟨q1,q2⟩:=deeds_sep sub (b::G) (d+1) (p++[(j:Int)]) 0 i1 i2 m x y hsub (fun i c hc=>hG c (by
    rw[Le]at hc
    exact AO hc)) hi hx hy g
   refine⟨by lia,?_⟩
   rw[AF,Bf]at q2
   rwa [show p.length+(m-d)=p.length+1+(m-(d+1)) by lia]
  .rw[BH (by lia)]at hy
   by_cases c1:i1<(b::G).length
   .rw[C8 (by lia)]at hx
    obtain⟨n,r,h1,h2⟩:=Gs rest p (j+1) y (AO hy)
    obtain⟨n',r',h1',h2'⟩:=Gs sub (p++[(j:Int)]) 0 x (AO hx)
    have hB:0<B'.length:=by
     have:=(As.mp hy).1
     lia
    have h0:B'[0]?=some B'[0]:=AC hB
    have hd:(B'[0]).sh=d:=hh _ (by rw[Nj];exact h0)
    have m1:m<=d:=by
     have:=hm.2 (b::G).length B'[0] (by lia) (by lia) (by rw[BH (by lia),Cq];exact h0)
     lia
    have m2:d<=m:=by
     obtain⟨⟨j',c',a1,a2,a3,a4⟩,_⟩:=hm
     have:=hs (j'-1) c' (by rw[show j'-1+1=j' by lia];exact a3)
     lia
    refine⟨m2,?_⟩
    rw[show p.length+(m-d)=p.length by lia]
    exact RB (x:=x) (y:=y) (i:=j) (q:=(n':Int)::r') (by rw[h2'];simp) h2 (by lia)
   .rw[BH (by lia)]at hx
    rw[l1]at hx hy
    refine deeds_sep rest B' d p (j+1) (i1-(b::G).length) (i2-(b::G).length) m x y hr hs' (by lia) hx hy ?_
    obtain⟨⟨j',c',a1,a2,a3,a4⟩,a5⟩:=hm
    rw[BH (by lia)]at a3
    refine⟨⟨j'-(b::G).length,c',by lia,by lia,a3,a4⟩,fun j'' c'' b1 b2 b3=>a5 (j''+(b::G).length) c'' (by lia) (by lia) ?_⟩
    rw[BH (by lia),show j''+(b::G).length-(b::G).length=j'' by lia]
    exact b3
set_option genInjectivity true in
inductive OL (W:Type) where
 |deed (k:Int) (pl:List (Int×Int)):OL W
 |sweep (cut:Bool) (way:W) (sub:F W):OL W
def L6:F W->Nat->Option (OL W)
 |.nil,_=>none
 |.leaf k pl _,0=>some (.deed k pl)
 |.leaf _ _ rest,n+1=>L6 rest n
 |.node c w sub _,0=>some (.sweep c w sub)
 |.node _ _ _ rest,n+1=>L6 rest n
def Down:F W->List Nat->List (Bool×W)->Prop
 |_,[],_=>False
 |f,r::rs,ws=>(∃k pl,L6 f r=some (.deed k pl)/\rs=[]/\ws=[])\/(∃c w sub ws',L6 f r=some (.sweep c w sub)/\ws=(c,w)::ws'/\Down sub rs ws')
theorem deeds_down:∀(f:F W) (B:List (Bo W)) (d:Nat) (p:List Int) (j i:Nat) (e:En) (b:Bo W),Is f B d->(∀i c,B[i+1]?=some c->d<=c.sh)->Ok B->(∀b∈B,d<=b.ways.length)->(deedsF f p j)[i]?=some e->B[i]?=some b->
  ∃(r:Nat) (rs:List Nat),e.path=p++((j+r:Nat):Int)::rs.map (fun n:Nat=>(n:Int))/\Down f (r::rs) (b.ways.drop d)
 |.nil,B,d,p,j,i,e,b,h,hs,hk,hd,he,hb=>by simp[deedsF]at he
 |
  .leaf k pl rest,B,d,p,j,i,e,b,h,hs,hk,hd,he,hb=>by
  obtain⟨b0,B',rfl,rfl,rfl,hl,hh,hr⟩:=h
  change(⟨b0.k,b0.pl,p++[(j:Int)]⟩::deedsF rest p (j+1))[i]?=some e at he
  cases i with
  |
   zero=>
   rw[List.getElem?_cons_zero]at he hb
   cases he;cases hb
   exact⟨0,[],rfl,.inl ⟨_,_,rfl,rfl,Nf (P2 hl)⟩⟩
  |
   succ i=>
   rw[Le]at he hb
   obtain⟨r,rs,h1,h2⟩:=deeds_down rest B' d p (j+1) i e b hr (fun i c hc=>hs (i+1) c (by simpa using hc)) ⟨fun b hb=>hk.sh b (C6 _ hb),fun i b c h1 h2=>hk.ln (i+1) b c (by simpa using h1) (by simpa using h2)⟩ (fun b hb=>hd b (C6 _ hb)) he hb
   exact⟨r+1,rs,by rw[h1,show j+1+r=j+(r+1) by lia],h2⟩
 |
  .node c w sub rest,B,d,p,j,i,e,b,h,hs,hk,hd,he,hb=>by
  obtain⟨b0,G,B',rfl,hw,hG,hh,hsub,hr⟩:=h
  have l1:=deeds_len (p++[(j:Int)]) 0 hsub
  change(deedsF sub (p++[(j:Int)]) 0++deedsF rest p (j+1))[i]?=some e at he
  by_cases ci:i<(b0::G).length
  .rw[C8 (by lia)]at he hb
   have key:∀(n:Nat) (b:Bo W),(b0::G)[n]?=some b->b.ways[d]?=some (c,w):=by
    intro n
    induction n with
    |zero=>intro b hb;cases hb;exact hw
    |
     succ n ih=>
     intro b hb
     have hn:n<(b0::G).length:=by have:=(As.mp hb).1;lia
     have e1:(b0::G)[n]?=some (b0::G)[n]:=AC hn
     have hp:=ih _ e1
     have hg:d<b.sh:=hG b (by rw[Le]at hb;exact AO hb)
     have:=(hk.ln n _ b (by rw[C8 hn];exact e1) (by rw[C8 (As.mp hb).1];exact hb)).2
     have h2:=congrArg (fun l:List (Bool×W)=>l[d]?) this
     simp only[CS hg]at h2
     rw[h2]
     exact hp
   have hb':=key i b hb
   obtain⟨hl,eb⟩:=As.mp hb'
   obtain⟨r,rs,h1,h2⟩:=deeds_down sub (b0::G) (d+1) (p++[(j:Int)]) 0 i e b hsub (fun i c hc=>hG c (by rw[Le]at hc;exact AO hc)) ⟨fun b hb=>hk.sh b (CA _ hb),fun i b c h1 h2=>hk.ln i b c (by rw[C8 (As.mp h1).1];exact h1) (by rw[C8 (As.mp h2).1];exact h2)⟩ (fun b hb=>by
    obtain⟨n,hn⟩:=GQ.mp hb
    obtain⟨z,_⟩:=As.mp (key n b hn)
    lia) he hb
   refine⟨0,r::rs,by rw[h1];simp,.inr ⟨c,w,sub,b.ways.drop (d+1),rfl,?_,h2⟩⟩
   rw[JD hl,eb]
  .rw[BH (by lia)]at he hb
   rw[l1]at he
   obtain⟨r,rs,h1,h2⟩:=deeds_down rest B' d p (j+1) (i-(b0::G).length) e b hr (fun i c hc=>hs ((b0::G).length+i) c (by
    rw[BH (by lia),show(b0::G).length+i+1-(b0::G).length=i+1 by lia]
    exact hc)) ⟨fun b hb=>hk.sh b (C7 _ hb),fun i b c h1 h2=>hk.ln (i+(b0::G).length) b c (by
     rw[BH (by lia),Nat.add_sub_cancel];exact h1) (by
     rw[BH (by lia),show i+(b0::G).length+1-(b0::G).length=i+1 by lia];exact h2)⟩ (fun b hb=>hd b (C7 _ hb)) he hb
   exact⟨r+1,rs,by rw[h1,show j+1+r=j+(r+1) by lia],h2⟩
end Fo
namespace Fo
variable {W L:Type}
def app:F W->F W->F W
 |.nil,g=>g
 |.leaf k pl r,g=>.leaf k pl (app r g)
 |.node c w s r,g=>.node c w s (app r g)
theorem HeadSh.app {B C:List (Bo W)}{d:Nat}(h:HeadSh B d)(g:HeadSh C d):HeadSh (B++C) d:=by
 cases B with
 |nil=>exact g
 |cons b B=>exact h
theorem Is.app:∀(f g:F W) (B C:List (Bo W)) (d:Nat),Is f B d->Is g C d->HeadSh C d->Is (app f g) (B++C) d
 |.nil,g,B,C,d,hf,hg,hh=>by cases (show B=[] from hf);exact hg
 |
  .leaf k pl r,g,B,C,d,hf,hg,hh=>by
  obtain⟨b,B',rfl,h1,h2,h3,h4,h5⟩:=hf
  exact⟨b,B'++C,rfl,h1,h2,h3,h4.app hh,Is.app r g B' C d h5 hg hh⟩
 |
  .node c w s r,g,B,C,d,hf,hg,hh=>by
  obtain⟨b,G,B',rfl,h1,h2,h3,h4,h5⟩:=hf
  exact⟨b,G,B'++C,by simp,h1,h2,h3.app hh,h4,Is.app r g B' C d h5 hg hh⟩
theorem Is.leaf1 {b:Bo W}{d:Nat}(h:b.ways.length=d):Is (.leaf b.k b.pl .nil) [b] d:=⟨b,[],rfl,rfl,rfl,h,(fun c hc=>by cases hc),rfl⟩
theorem Is.node1 {b:Bo W}{G:List (Bo W)}{d:Nat}{s:F W}{c:Bool}{w:W}(hw:b.ways[d]?=some (c,w))(hG:∀c∈G,d<c.sh)(hs:Is s (b::G) (d+1)):Is (.node c w s .nil) (b::G) d:=⟨b,G,[],by simp,hw,hG,(fun c hc=>by cases hc),hs,rfl⟩
end Fo
namespace L2
open PySem PySem.Spec PyProof.Rows
def Q7 (acc:Str)(t:TE)(k:Str->TE):TE:=fun σ H Q=>t σ H fun v H1=>∃y:Str,v = .str y/\(acc++y).length<=sizeLine/\k (acc++y) σ H1 Q
def VC (a b:TE):TE:=Q7 Str.empty a fun x=>Q7 x b fun y=>tC (.str y)
theorem bx {X:Cx}{e1 e2:Expr}{a b:TE}{pos:Pos}(h1:PE X e1 a)(h2:PE X e2 b):PE X (.JoinedStr [e1,e2] pos) (VC a b):=by
 intro pins s σ H Q I hq
 refine JoinedStr_many (joinParts_cons (Ax (h1 pins s σ H _ I hq) fun v s1 hx=>?_))
 obtain⟨x,H1,I1,r1,y,rfl,hy,q1⟩:=hx
 obtain⟨t1,rfl⟩:=(show ∃t,v=Value.str y t from r1)
 refine⟨hy,joinParts_cons (Ax (h2 pins s1 σ H1 _ I1 q1) fun v2 s2 hx2=>?_)⟩
 obtain⟨x2,H2,I2,r2,y2,rfl,hy2,q2⟩:=hx2
 obtain⟨t2,rfl⟩:=(show ∃t,v2=Value.str y2 t from r2)
 exact⟨hy2,joinParts_nil ⟨.str _,H2,I2.tok _,⟨_,rfl⟩,q2⟩ hy2⟩
def AE {α:Type}(R:V->α->Prop)(xs:List V)(as:List α):Prop:=xs.length=as.length/\∀(i:Nat) (x:V) (a:α),xs[i]?=some x->as[i]?=some a->R x a
theorem AE.nil {α:Type}{R:V->α->Prop}:AE R [] []:=⟨rfl,fun i x a h=>by simp at h⟩
theorem AE.mono {α:Type}{R S:V->α->Prop}{xs:List V}{as:List α}(h:AE R xs as)(m:∀x a,R x a->S x a):AE S xs as:=⟨h.1,fun i x a p q=>m _ _ (h.2 i x a p q)⟩
theorem AE.get {α:Type}{R:V->α->Prop}{xs:List V}{as:List α}{i:Nat}{a:α}(h:AE R xs as)(ha:as[i]?=some a):∃x,xs[i]?=some x/\R x a:=by
 have hi:i<xs.length:=by rw[h.1];exact(As.mp ha).1
 exact⟨_,AC hi,h.2 i _ a (AC hi) ha⟩
theorem AE.get' {α:Type}{R:V->α->Prop}{xs:List V}{as:List α}{i:Nat}{x:V}(h:AE R xs as)(hx:xs[i]?=some x):∃a,as[i]?=some a/\R x a:=by
 have hi:i<as.length:=by rw[←h.1];exact(As.mp hx).1
 exact⟨_,AC hi,h.2 i x _ hx (AC hi)⟩
theorem AE.app {α:Type}{R:V->α->Prop}{xs ys:List V}{as bs:List α}(h:AE R xs as)(g:AE R ys bs):AE R (xs++ys) (as++bs):=by
 refine⟨by rw[AF,AF,h.1,g.1],fun i x a p q=>?_⟩
 by_cases l:i<xs.length
 .rw[C8 l]at p
  rw[C8 (by rw[←h.1];exact l)]at q
  exact h.2 i x a p q
 .rw[BH (by lia)]at p
  rw[BH (by have:=h.1;lia)]at q
  rw[h.1]at p
  exact g.2 _ x a p q
theorem AE.one {α:Type}{R:V->α->Prop}{x:V}{a:α}(h:R x a):AE R [x] [a]:=⟨rfl,fun i y b p q=>by
 cases i with
 |zero=>cases p;cases q;exact h
 |succ i=>simp at p⟩
theorem AE.snoc {α:Type}{R:V->α->Prop}{xs:List V}{as:List α}{x:V}{a:α}(h:AE R xs as)(g:R x a):AE R (xs++[x]) (as++[a]):=h.app (.one g)
theorem AE.drop {α:Type}{R:V->α->Prop}{xs:List V}{as:List α}(h:AE R xs as)(n:Nat):AE R (xs.drop n) (as.drop n):=⟨by rw[GN,GN,h.1],fun i x a p q=>by
 rw[Io]at p q
 exact h.2 _ x a p q⟩
theorem AE.take {α:Type}{R:V->α->Prop}{xs:List V}{as:List α}(h:AE R xs as)(n:Nat):AE R (xs.take n) (as.take n):=⟨by rw[AV,AV,h.1],fun i x a p q=>by
 by_cases l:i<n
 .rw[CS l]at p q
  exact h.2 _ x a p q
 .rw[List.getElem?_take_eq_none (by lia)]at p
  cases p⟩
abbrev Bb:=Bool×Str
abbrev Am:=Fo.Bo Str
abbrev Bj:=Fo.F Str
def EV (H:Hp)(x:V)(w:Bb):Prop := ∃t,x = .ref t/\H t=some (.tup [.bl w.1,.str w.2])
def FV (H:Hp)(x:V)(p:Int×Int):Prop := ∃t,x = .ref t/\H t=some (.tup [.int p.1,.int p.2])
theorem EV.over {H H':Hp}{x:V}{w:Bb}(h:EV H x w)(e:A8 H H'):EV H' x w:=by obtain⟨t,a,b⟩:=h;exact⟨t,a,e _ _ b⟩
theorem FV.over {H H':Hp}{x:V}{p:Int×Int}(h:FV H x p)(e:A8 H H'):FV H' x p:=by obtain⟨t,a,b⟩:=h;exact⟨t,a,e _ _ b⟩
def ET (H:Hp)(l:Addr)(ws:List Bb):Prop := ∃xs,H l=some (.lst xs)/\AE (EV H) xs ws
def FN (H:Hp)(l:Addr)(ps:List (Int×Int)):Prop := ∃xs,H l=some (.tup xs)/\AE (FV H) xs ps
theorem ET.over {H H':Hp}{l:Addr}{ws:List Bb}(h:ET H l ws)(e:A8 H H'):ET H' l ws:=by obtain⟨xs,a,b⟩:=h;exact⟨xs,e _ _ a,b.mono fun x w p=>p.over e⟩
theorem FN.over {H H':Hp}{l:Addr}{ps:List (Int×Int)}(h:FN H l ps)(e:A8 H H'):FN H' l ps:=by obtain⟨xs,a,b⟩:=h;exact⟨xs,e _ _ a,b.mono fun x w p=>p.over e⟩
def Bw (H:Hp):List V->Bj->Prop
 |xs,.nil=>xs=[]
 |xs,.leaf k pl rest=>∃t p ys,xs = .ref t::ys/\H t=some (.tup [.str "deed",.int k,.ref p])/\FN H p pl/\Bw H ys rest
 |xs,.node c w sub rest=>∃t p zs ys,xs = .ref t::ys/\H t=some (.tup [.str "sweep",.bl c,.str w,.ref p])/\H p=some (.tup zs)/\Bw H zs sub/\Bw H ys rest
theorem Bw.over {H H':Hp}(e:A8 H H'):∀{f:Bj} {xs:List V},Bw H xs f->Bw H' xs f
 |.nil,xs,h=>h
 |
  .leaf k pl rest,xs,h=>by
  obtain⟨t,p,ys,a,b,c,d⟩:=h
  exact⟨t,p,ys,a,e _ _ b,c.over e,Bw.over e d⟩
 |
  .node c w sub rest,xs,h=>by
  obtain⟨t,p,zs,ys,a,b,c,d,g⟩:=h
  exact⟨t,p,zs,ys,a,e _ _ b,e _ _ c,Bw.over e d,Bw.over e g⟩
def Gv (H:Hp)(p:Addr)(f:Bj):Prop := ∃xs,H p=some (.tup xs)/\Bw H xs f
theorem Gv.over {H H':Hp}{p:Addr}{f:Bj}(h:Gv H p f)(e:A8 H H'):Gv H' p f:=by obtain⟨xs,a,b⟩:=h;exact⟨xs,e _ _ a,Bw.over e b⟩
def TK (H H':Hp):Prop := ∀(b:Addr) (xs:List V),H b=some (.tup xs)->H' b=some (.tup xs)
theorem TK.trans {H H' H'':Hp}(a:TK H H')(b:TK H' H''):TK H H'':=fun x xs h=>b x xs (a x xs h)
theorem A8.tk {H H':Hp}(e:A8 H H'):TK H H':=fun b xs h=>e b _ h
theorem TK.upd {H:Hp}{l:Addr}{xs:List V}{o:HO}(hl:H l=some (.lst xs)):TK H (upd H l o):=fun b ys hb=>by
 rw[Af (EZ hb hl (by intro z;cases z))]
 exact hb
theorem EV.tk {H H':Hp}{x:V}{w:Bb}(h:EV H x w)(e:TK H H'):EV H' x w:=by obtain⟨t,a,b⟩:=h;exact⟨t,a,e _ _ b⟩
theorem FV.tk {H H':Hp}{x:V}{w:Int×Int}(h:FV H x w)(e:TK H H'):FV H' x w:=by obtain⟨t,a,b⟩:=h;exact⟨t,a,e _ _ b⟩
theorem FN.tk {H H':Hp}{l:Addr}{ps:List (Int×Int)}(h:FN H l ps)(e:TK H H'):FN H' l ps:=by obtain⟨xs,a,b⟩:=h;exact⟨xs,e _ _ a,b.mono fun x w p=>p.tk e⟩
theorem Bw.tk {H H':Hp}(e:TK H H'):∀{f:Bj} {xs:List V},Bw H xs f->Bw H' xs f
 |.nil,xs,h=>h
 |
  .leaf k pl rest,xs,h=>by
  obtain⟨t,p,ys,a,b,c,d⟩:=h
  exact⟨t,p,ys,a,e _ _ b,c.tk e,Bw.tk e d⟩
 |
  .node c w sub rest,xs,h=>by
  obtain⟨t,p,zs,ys,a,b,c,d,g⟩:=h
  exact⟨t,p,zs,ys,a,e _ _ b,e _ _ c,Bw.tk e d,Bw.tk e g⟩
theorem Bw.app {H:Hp}:∀{f g:Bj} {xs ys:List V},Bw H xs f->Bw H ys g->Bw H (xs++ys) (Fo.app f g)
 |.nil,g,xs,ys,h,k=>by cases (show xs=[] from h);exact k
 |
  .leaf k pl rest,g,xs,ys,h,hg=>by
  obtain⟨t,p,zs,rfl,b,c,d⟩:=h
  exact⟨t,p,zs++ys,rfl,b,c,Bw.app d hg⟩
 |
  .node c w sub rest,g,xs,ys,h,hg=>by
  obtain⟨t,p,zs,us,rfl,b,c,d,k⟩:=h
  exact⟨t,p,zs,us++ys,rfl,b,c,d,Bw.app k hg⟩
structure K3 (B:List Am)(d n:Nat):Prop where
 ok:Fo.Ok B
 sh:∀i c,B[i+1]?=some c->d<=c.sh
 lo:∀b∈B,d<=b.ways.length
 hi:∀b∈B,b.ways.length<=d+n
 pl:∀b∈B,b.pl.length<=6
 len:B.length<=6
theorem cX {B:List Am}(h:Fo.Ok B)(i j:Nat):Fo.Ok ((B.drop i).take j):=by
 refine⟨fun b hb=>h.sh b (List.mem_of_mem_drop (List.mem_of_mem_take hb)),fun n b c h1 h2=>?_⟩
 have l2:=(As.mp h2).1
 rw[AV]at l2
 rw[CS (by lia),Io]at h1 h2
 exact h.ln (i+n) b c h1 h2
theorem K3.group {B:List Am}{d n at' m:Nat}{b:Am}(h:K3 B d (n+1))(hb:B[at']?=some b)(hd:b.ways.length≠d)(hm:at'<m)(hG:∀i c,at'<i->i<m->B[i]?=some c->d<c.sh):K3 ((B.drop at').take (m-at')) (d+1) n:=by
 have mem:∀c∈(B.drop at').take (m-at'),c∈B:=fun c hc=>List.mem_of_mem_drop (List.mem_of_mem_take hc)
 refine⟨cX h.ok _ _,fun i c hc=>?_,fun c hc=>?_,fun c hc=>by have:=h.hi c (mem c hc);lia,fun c hc=>h.pl c (mem c hc),?_⟩
 .have l2:=(As.mp hc).1
  rw[AV]at l2
  rw[CS (by lia),Io]at hc
  exact hG (at'+(i+1)) c (by lia) (by lia) hc
 .obtain⟨i,hi⟩:=GQ.mp hc
  have l2:=(As.mp hi).1
  rw[AV]at l2
  rw[CS (by lia),Io]at hi
  by_cases z:i=0
  .subst z
   rw[Nat.add_zero,hb]at hi
   cases hi
   have:=h.lo b (AO hb)
   lia
  .have:=hG (at'+i) c (by lia) (by lia) hi
   have:=h.ok.sh c (mem c hc)
   lia
 .have:=h.len
  rw[AV,GN]
  lia
theorem O9 (x y:Str):(x++y).length=x.length+y.length:=by rw[←MI,Wu,AF,MI,MI]
def D0:Bj->Nat
 |.nil=>1
 |.leaf _ _ rest=>D0 rest
 |.node _ _ sub rest=>max (1+D0 sub) (D0 rest)
theorem LO:∀f:Bj,1<=D0 f
 |.nil=>Ah _
 |.leaf _ _ rest=>LO rest
 |.node _ _ sub rest=>by have:=LO sub;unfold D0;lia
theorem KI:∀(f:Bj) (B:List Am) (d n:Nat),Fo.Is f B d->(∀b∈B,b.ways.length<=d+n)->D0 f<=n+1
 |.nil,B,d,n,h,hn=>by unfold D0;lia
 |
  .leaf k pl rest,B,d,n,h,hn=>by
  obtain⟨b,B',rfl,_,_,_,_,h5⟩:=h
  exact KI rest B' d n h5 fun b hb=>hn b (C6 _ hb)
 |
  .node c w sub rest,B,d,n,h,hn=>by
  obtain⟨b,G,B',rfl,h1,h2,h3,h4,h5⟩:=h
  have:=KI rest B' d n h5 fun b hb=>hn b (C7 _ hb)
  have l:=(As.mp h1).1
  have l2:=hn b (CA _ BN)
  obtain⟨n,rfl⟩:∃m,n=m+1:=⟨n-1,by lia⟩
  have:=KI sub (b::G) (d+1) n h4 fun b hb=>by have:=hn b (CA _ hb);lia
  unfold D0
  lia
def ME (t:TE):Prop := ∀(σ:St) (H:Hp) (Q Q':VK),(∀v H1,Q v H1->Q' v H1)->t σ H Q->t σ H Q'
def MT (t:TT):Prop := ∀σ H Q Q',(∀b H1,Q b H1->Q' b H1)->t σ H Q->t σ H Q'
def MA (t:TA):Prop := ∀σ H Q Q',(∀b H1,Q b H1->Q' b H1)->t σ H Q->t σ H Q'
def MR (r:R2):Prop := ∀(x y:V) (H:Hp) (Q Q':VK),(∀v H1,Q v H1->Q' v H1)->r x y H Q->r x y H Q'
def MB (r:List V->Hp->VK->Prop):Prop := ∀(vs:List V) (H:Hp) (Q Q':VK),(∀v H1,Q v H1->Q' v H1)->r vs H Q->r vs H Q'
theorem ME.c (v:V):ME (tC v):=fun σ H Q Q' hq h=>hq _ _ h
theorem ME.op {r:R2}{a b:TE}(hr:MR r)(ha:ME a)(hb:ME b):ME (KD r a b):=fun σ H Q Q' hq h=>ha _ _ _ _ (fun x H1 k=>hb _ _ _ _ (fun y H2 k=>hr _ _ _ _ _ hq k) k) h
theorem ME.cb {r:List V->Hp->VK->Prop}{t:TA}(hr:MB r)(h:MA t):ME (Ou r t):=fun σ H Q Q' hq k=>h _ _ _ _ (fun xs H1 m=>hr _ _ _ _ hq m) k
theorem MA.nil:MA O8:=fun σ H Q Q' hq h=>hq _ _ h
theorem MA.cons {t:TE}{u:TA}(ht:ME t)(hu:MA u):MA (Ol t u):=fun σ H Q Q' hq h=>ht _ _ _ _ (fun x H1 k=>hu _ _ _ _ (fun xs H2 m=>hq _ _ m) k) h
theorem MT.test {t:TE}(h:ME t):MT (Qb t):=fun σ H Q Q' hq k=>h _ _ _ _ (fun x H1 ⟨b,e,m⟩=>⟨b,e,hq _ _ m⟩) k
theorem MT.b {t:TE}(h:ME t):MT (tB t):=fun σ H Q Q' hq k=>h _ _ _ _ (fun x H1 ⟨b,e,m⟩=>⟨b,e,hq _ _ m⟩) k
theorem MT.and {t u:TT}(h:MT t)(g:MT u):MT (Sb t u):=fun σ H Q Q' hq k=>h _ _ _ _ (fun c H1 m=>by
 cases c with
 |true=>exact g _ _ _ _ hq m
 |false=>exact hq _ _ m) k
theorem MR.ixL (K:Faa):MR (Jt K):=fun x y H Q Q' hq ⟨p,xs,i,v,a,b,c,d,e⟩=>⟨p,xs,i,v,a,b,c,d,hq _ _ e⟩
theorem MR.ixT (K:Faa):MR (Ea K):=fun x y H Q Q' hq ⟨p,xs,i,v,a,b,c,d,e⟩=>⟨p,xs,i,v,a,b,c,d,hq _ _ e⟩
theorem MB.len {P R:Hp->Addr->List V->Prop}:MB (fun xs H Q=>∃p ys,xs=[V.ref p]/\(P H p ys\/R H p ys)/\Q (V.int (ys.length:Int)) H):=fun vs H Q Q' hq ⟨p,ys,a,b,c⟩=>⟨p,ys,a,b,hq _ _ c⟩
theorem Kd {K:Faa}{H:Hp}:∀L:List Int,Ci K H (L.map V.int) (L.map fun i=>Tr.v (.int i))
 |[]=>.nil
 |x::L=>.cons (.flat rfl) (Kd L)
theorem LH:∀L:List Int,Eh (L.map fun i=>Tr.v (.int i))=0
 |[]=>rfl
 |x::L=>by rw[BY,Eh,LH L];rfl
theorem Xc {K:Faa}{H:Hp}{p z:Addr}{L:List Int}{neg:Bool}{Q:VK}(hp:H p=some (.lst (L.map V.int)))(hz:H z=some (.lst []))(h:Q (.bl (if neg then !L.isEmpty else L.isEmpty)) H):LF K neg (.ref p) (.ref z) H Q:=by
 refine⟨.lst (L.map fun i=>Tr.v (.int i)),.lst [],.lst (A5.of hp) (Kd L),.lst (A5.of hz) .nil,⟨_,rfl⟩,⟨_,rfl⟩,by rw[CG];cases L<;>rfl,by rw[Do,LH];decide,?_⟩
 have e:BZ (.lst (L.map fun i=>Tr.v (.int i))) (.lst [])=L.isEmpty:=by
  rw[BZ]
  cases L<;>rfl
 rw[e]
 exact h
def av (H:Hp)(S:List Addr):Hp:=fun b=>if b∈S then none else H b
theorem Ox {H:Hp}{S:List Addr}{l:Addr}{o:HO}(h:l∈S):av (upd H l o) S=av H S:=by
 funext b
 unfold av
 by_cases c:b∈S
 .rw[Aj c,Aj c]
 .rw[Ab c,Ab c,Af (fun z:b=l=>c (by rw[z];exact h))]
theorem Ho {H:Hp}{S:List Addr}:A8 (av H S) H:=fun b o h=>by
 unfold av at h
 split at h
 .cases h
 .exact h
theorem F9 {H H':Hp}{S:List Addr}(e:A8 H H'):A8 (av H S) (av H' S):=fun b o h=>by
 unfold av at h ⊢
 split at h
 .cases h
 .rename_i c;rw[Ab c];exact e b o h
theorem Ka {H:Hp}{S:List Addr}{b:Addr}(h:b∉S):av H S b=H b:=by unfold av;rw[Ab h]
theorem Fo.Ok.snoc {B:List Am}{b:Am}(h:Fo.Ok B)(h1:b.sh<=b.ways.length)(h2:∀c,B.getLast?=some c->b.sh<=c.ways.length/\b.ways.take b.sh=c.ways.take b.sh):Fo.Ok (B++[b]):=by
 refine⟨fun c hc=>?_,fun i c e hc he=>?_⟩
 .rcases BO.mp hc with hc|hc
  .exact h.sh c hc
  .rw[Bz]at hc;subst hc;exact h1
 .have le:=(As.mp he).1
  rw[AF,Bf]at le
  rw[C8 (by lia)]at hc
  by_cases z:i+1<B.length
  .rw[C8 z]at he
   exact h.ln i c e hc he
  .have hi:i+1=B.length:=by lia
   rw[hi,BH (Ah _),Cq]at he
   cases he
   refine h2 c ?_
   rw[List.getLast?_eq_getElem?,show B.length-1=i by lia]
   exact hc
theorem RC {j n:Nat}(h:j<n):seqIndex? (j:Int) n=some j:=by
 unfold seqIndex?
 simp only[show ¬((j:Int)<0) by lia,Iw]
 rw[Aj (by simp;lia),EG]
theorem Uh (L:List Int):∀j:Nat,(L.map V.int).eraseIdx j=(L.eraseIdx j).map V.int:=by
 induction L with
 |nil=>intro j;rfl
 |
  cons x L ih=>
  intro j
  cases j with
  |zero=>rfl
  |succ j=>show V.int x::(L.map V.int).eraseIdx j=V.int x::(L.eraseIdx j).map V.int;rw[ih]
theorem cf:∀{f:Bj} {d:Nat},Fo.Is f [] d->f = .nil
 |.nil,d,h=>rfl
 |.leaf k pl r,d,h=>by obtain⟨b,B',e,_⟩:=h;cases e
 |.node c w s r,d,h=>by obtain⟨b,G,B',e,_⟩:=h;simp at e
theorem SJ {f g:Bj}{B C:List Am}{d:Nat}(hf:Fo.Is f B d)(hg:Fo.Is g C d)(hh:B≠[]->Fo.HeadSh C d):Fo.Is (Fo.app f g) (B++C) d:=by
 by_cases c:B=[]
 .subst c
  rw[cf hf]
  exact hg
 .exact Fo.Is.app f g B C d hf hg (hh c)
theorem cm {α:Type}(B:List α){i m:Nat}(h:i<=m):B.take i++(B.drop i).take (m-i)=B.take m:=by
 have:B.take i=(B.take m).take i:=by rw[Pc,Ij h]
 rw[←List.drop_take,this,List.take_append_drop]
theorem T7 {v:V}{i:Nat}{b:TS}{D:CL}{σ:St}{H:Hp}(h:b D (σ.set i (some v)) H):Jl (J7 (tC v) (Aq i)) b D σ H:=h
theorem MX:∀{rs:List Nat} {f:Bj} {ws:List Bb},Fo.Down f rs ws->rs.length=ws.length+1
 |[],f,ws,h=>h.elim
 |
  r::rs,f,ws,h=>by
  rcases h with⟨k,pl,_,rfl,rfl⟩|⟨c,w,sub,ws',_,rfl,h⟩
  .rfl
  .rw[B9,B9,MX h]
def Gw (H:Hp)(x:V)(e:Fo.En):Prop := ∃t pl pt cu,x = .ref t/\H t=some (.tup [.int e.k,.ref pl,.ref pt,.ref cu])/\FN H pl e.pl/\H pt=some (.tup (e.path.map V.int))
theorem Gw.tk {H H':Hp}{x:V}{e:Fo.En}(h:Gw H x e)(k:TK H H'):Gw H' x e:=by obtain⟨t,pl,pt,cu,a,b,c,d⟩:=h;exact⟨t,pl,pt,cu,a,k _ _ b,c.tk k,k _ _ d⟩
theorem Gw.over {H H':Hp}{x:V}{e:Fo.En}(h:Gw H x e)(k:A8 H H'):Gw H' x e:=h.tk (A8.tk k)
def RV (n:Nat):Sp:=fun vs H Q _=>∃(it pa cu:Addr) (f:Bj) (P:List Int) (cs:List V),vs=[.ref it,.ref pa,.ref cu]/\Gv H it f/\H pa=some (.tup (P.map V.int))/\H cu=some (.tup cs)/\D0 f<=n/\P.length+n<=100/\cs.length+n<=100/\(Fo.deedsF f P 0).length<=1000/\∀(r:Addr) (ys:List V) (H':Hp),A8 H H'->H' r=some (.lst ys)->AE (Gw H') ys (Fo.deedsF f P 0)->Q (.ref r) H'
def Om (B:List Am)(i j s:Nat):Prop:=(i=j/\∃b,B[i]?=some b/\s=b.ways.length)\/(i<j/\Fo.Least B i j s)\/(j<i/\Fo.Least B j i s)
theorem MC {f:Bj}{B:List Am}{i:Nat}{b:Am}(h:Fo.Is f B 0)(hb:B[i]?=some b):∃e,(Fo.deedsF f [] 0)[i]?=some e/\e.k=b.k/\e.pl=b.pl:=by
 have l:=Fo.deeds_len [] 0 h
 have hi:i<(Fo.deedsF f [] 0).length:=by rw[l];exact(As.mp hb).1
 have m:=congrArg (fun l:List (Int×List (Int×Int))=>l[i]?) (Fo.deeds_map f B 0 [] 0 h)
 simp only[AQ,AC hi,hb,JA]at m
 have m:=Cp m
 exact⟨_,AC hi,congrArg Prod.fst m,congrArg Prod.snd m⟩
theorem U1 {X:Cx}(hc:X.calm=true):E8 X (.builtin "min") (fun xs H Q=>∃(p:Addr) (ns:List Int),xs=[.ref p]/\A5 X.K H p (ns.map V.int)/\0<ns.length/\∀M∈ns,(∀a∈ns,M<=a)->Q (.int M) H):=by
 intro pins s σ H xs us Q I r h
 obtain⟨p,ns,rfl,hq,hpos,q⟩:=h
 obtain⟨u,rfl,ru⟩:=EK r
 cases ru
 obtain⟨its,rv,pl,hz⟩:=I.list hq
 have hi:=J5 rv
 obtain⟨xs,e⟩:=hi.allInts.items
 have hns:ns=xs.toList.map (·.1):=by rw[←hi.numsOf,←Nr,←e]
 have hsz:0<xs.size:=by
  have h3:=hpos;rw[hns,Al,DF]at h3;exact h3
 have hl:=pl.isList
 rw[e]at hl
 refine min_intList (I.ok.hd hc) hl hsz fun v h' tk hv hk=>?_
 obtain⟨t,rfl⟩:=Lj hv
 obtain⟨h1,h2⟩:=argBest_lt (numAt xs) (xs.size-1)
 refine⟨.int _,H,I.kept (t':=tk) hk,⟨_,rfl⟩,q _ ?_ fun a ha=>?_⟩
 .rw[hns,IC];exact getD_mem (by rw[Al,DF];lia)
 .rw[hns]at ha
  obtain⟨j,hj,rfl⟩:=mem_getD ha
  rw[Al,DF]at hj
  rw[←IC];exact h2 j (by lia)
theorem Sj {B:List Am}{i j:Nat}(hi:i<B.length)(hj:j<B.length):∃s,Om B i j s:=by
 have low:∀(i j:Nat),i<j->j<B.length->∃s,Fo.Least B i j s:=fun i j hij hj=>by
  have:∀n,i<n->n<=j->∃s,Fo.Least B i n s:=by
   intro n
   induction n with
   |zero=>intro h;lia
   |
    succ n ih=>
    intro h1 h2
    have Bn:B[n+1]?=some B[n+1]:=AC (by lia)
    by_cases c:i<n
    .obtain⟨s,⟨k,b,k1,k2,k3,k4⟩,k5⟩:=ih c (by lia)
     by_cases d:(B[n+1]).sh<s
     .refine⟨(B[n+1]).sh,⟨n+1,_,h1,Ah _,Bn,rfl⟩,fun m c' m1 m2 m3=>?_⟩
      by_cases z:m=n+1
      .subst z
       rw[Bn]at m3
       cases m3
       exact Ah _
      .have:=k5 m c' m1 (by lia) m3
       lia
     .refine⟨s,⟨k,b,k1,by lia,k3,k4⟩,fun m c' m1 m2 m3=>?_⟩
      by_cases z:m=n+1
      .subst z
       rw[Bn]at m3
       cases m3
       lia
      .exact k5 m c' m1 (by lia) m3
    .have:i=n:=by lia
     subst this
     refine⟨(B[i+1]).sh,⟨i+1,_,h1,Ah _,Bn,rfl⟩,fun m c' m1 m2 m3=>?_⟩
     have:m=i+1:=by lia
     subst this
     rw[Bn]at m3
     cases m3
     exact Ah _
  exact this j hij (Ah _)
 rcases Pd i j with c|c|c
 .obtain⟨s,h⟩:=low i j c hj
  exact⟨s,.inr (.inl ⟨c,h⟩)⟩
 .exact⟨_,.inl ⟨c,_,AC hi,rfl⟩⟩
 .obtain⟨s,h⟩:=low j i c hi
  exact⟨s,.inr (.inr ⟨c,h⟩)⟩
end L2
namespace HT
open PySem PySem.Spec PyProof.Rows L2
section
variable {prog:Program}{w:World}{A:Around}{E:Value->Shared->Prop}{s:Shared}
theorem getItem_tuple_all {t sl:Addr}{items:Array Value}{vl vu:Value}{lo hi:Option Int}{Q:Value->Shared->Prop}(ht:IsTup s.heap t items)(hs:s.heap.IsSliceOf sl vl vu .none)(pl:IsPart vl lo)(pu:IsPart vu hi)
  (hw:sIx items.size 0 lo=0/\sIx items.size items.size hi=items.size) (h:Q (.ref t) s):wpAny (model prog w) A (getItem (.ref t) (.ref sl)) Q E s:=by
 obtain⟨os,hos,hcs,hds⟩:=id hs
 have hTs:s.TypeIs (.ref sl) "slice":=⟨os,hos,hcs⟩
 unfold getItem
 try with_reducible refine DM ?_
 first|refine A1 (Ae ?_)|skip
 refine A1 (wpAny_sequenceKey ht.typeIs (by decide) ?_)
 refine A1 (wpAny_callSpecial?_slot (name:=Str.ofString "__getitem__") ht.typeIs P4
  (Gj P4 ht.typeIs entry_tuple_getitem ?_ (args_tuple_getitem _ _)))
 show wpAny _ _ (Builtin.Tuple.tupleItemsOf (.ref t)>>=_) _ _ s
 refine A1 (tupleItemsOf_ ht ?_)
 refine A1 (Pm hTs ?_)
 rw[Aj (by decide)]
 refine A1 (Rt hs pl pu ?_)
 have hyes:(((sIx items.size 0 lo:Nat):Int)==0&&(1:Int)==1&&(sIx items.size items.size hi-sIx items.size 0 lo)==items.size)=true:=by
  rw[hw.1,hw.2]
  simp
 show wpAny _ _ (if(((sIx items.size 0 lo:Nat):Int)==0&&(1:Int)==1&&(sIx items.size items.size hi-sIx items.size 0 lo)==items.size)=true then _ else _) _ _ s
 rw[Aj hyes]
 show wpAny _ _ (Builtin.Tuple.tupleIsExact (.ref t)>>=_) _ _ s
 unfold Builtin.Tuple.tupleIsExact
 refine A1 (A1 (Pm ht.typeIs (Ae ?_)))
 rw[Aj (by decide)]
 wp_walk
 first
  |exact⟨_,rfl,Ae h⟩
  |exact Ae ⟨_,rfl,Ae h⟩
end
end HT
namespace L2
open PySem PySem.Spec PyProof.Rows
def V4:V->Option Int->Option Int->Hp->VK->Prop:=fun x lo hi H Q=>∃(a:Addr) (xs:List V),x = .ref a/\H a=some (.tup xs)/\∀(p:Addr) (H':Hp),A8 H H'->H' p=some (.tup (Cv xs lo hi))->Q (.ref p) H'
theorem QU {X:Cx}:N0 X V4:=by
 intro pins s σ H x v vl vu lo hi sl Q I rx hs pl pu h
 obtain⟨a,xs,rfl,ha,q⟩:=h
 by_cases c:HT.sIx xs.length 0 lo=0/\HT.sIx xs.length xs.length hi=xs.length
 .cases rx
  obtain⟨its,r,ht,hz⟩:=I.tuple (A9.of ha)
  have hlen:its.toArray.size=xs.length:=by rw[AZ];exact r.length.symm
  refine⟨"tuple",_,PyProof.Rows.slot_tuple_getitem.lookup,ht.typeIs,?_⟩
  refine HT.getItem_tuple_all ht hs pl pu (by rw[hlen];exact c) ⟨.ref a,H,I,rfl,q a H (A8.refl _) ?_⟩
  have:Cv xs lo hi=xs:=by
   unfold Cv
   rw[c.1,c.2]
   simp
  rw[this]
  exact ha
 .exact TZ pins s σ H (.ref a) v vl vu lo hi sl Q I rx hs pl pu ⟨a,xs,rfl,A9.of ha,c,fun p hp=>q p _ (Ac hp _) A6⟩
set_option genInjectivity true in
inductive Tw where
 |n (i:Int)
 |v (z:Str)
 |c (z:Str) (sp:List (Str×Int))
 |j (z:Str) (l r:Tw)
namespace Tw
end Tw
def DE (H:Hp)(x:V)(s:Str×Int):Prop := ∃t,x = .ref t/\H t=some (.tup [.str s.1,.int s.2])
def Kn (H:Hp)(p:Addr)(sp:List (Str×Int)):Prop := ∃xs,H p=some (.tup xs)/\AE (DE H) xs sp
theorem DE.tk {H H':Hp}{x:V}{s:Str×Int}(k:TK H H')(h:DE H x s):DE H' x s:=let ⟨t,e,h⟩:=h;⟨t,e,k _ _ h⟩
theorem Kn.tk {H H':Hp}{p:Addr}{sp:List (Str×Int)}(k:TK H H')(h:Kn H p sp):Kn H' p sp:=let ⟨xs,e,h⟩:=h;⟨xs,k _ _ e,h.mono fun _ _ z=>z.tk k⟩
def EB (c:Cs)(H:Hp):Tw->V->Prop
 |.n i,x=>∃t dx,x = .ref t/\H t=some (.ins c.n dx [("n",.int i)])
 |.v z,x=>∃t dx,x = .ref t/\H t=some (.ins c.v dx [("name",.str z)])
 |.c z sp,x=>∃t dx p,x = .ref t/\H t=some (.ins c.c dx [("table",.str z),("spots",.ref p)])/\Kn H p sp
 |.j z l r,x=>∃t dx a b,x = .ref t/\H t=some (.ins c.j dx [("sign",.str z),("left",a),("right",b)])/\EB c H l a/\EB c H r b
theorem EB.over {c:Cs}{H H':Hp}(e:A8 H H'):∀{t:Tw} {x:V},EB c H t x->EB c H' t x
 |.n i,x,h=>let ⟨t,dx,r,h⟩:=h;⟨t,dx,r,e _ _ h⟩
 |.v z,x,h=>let ⟨t,dx,r,h⟩:=h;⟨t,dx,r,e _ _ h⟩
 |.c z sp,x,h=>let ⟨t,dx,p,r,h,g⟩:=h;⟨t,dx,p,r,e _ _ h,g.tk (A8.tk e)⟩
 |.j z l r,x,h=>let ⟨t,dx,a,b,r,h,g1,g2⟩:=h;⟨t,dx,a,b,r,e _ _ h,EB.over e g1,EB.over e g2⟩
end L2
namespace Pw
variable {T S:Type}
end Pw
namespace L2
open PySem PySem.Spec PyProof.Rows
structure Hm where
 nm:Str
 lo:Str×Int
 hi:Str×Int
structure Dw where
 loops:List Hm
 tbl:Str
 sp:List (Str×Int)
 tm:Tw
 path:List Int
def Du (C:Addr)(c:Cs)(H:Hp)(x:V)(D:Dw):Prop := ∃(p dx nm lo hi ps pt:Addr) (ob:V) (ls hs:List V),x = .ref p/\H p=some (.ins C dx [("names",.ref nm),("lows",.ref lo),("highs",.ref hi),("table",.str D.tbl),("spots",.ref ps),("term",ob),("path",.ref pt)])/\H nm=some (.tup (D.loops.map fun t=>V.str t.nm))/\H lo=some (.tup ls)/\AE (fun v t=>DE H v (Hm.lo t)) ls D.loops/\H hi=some (.tup hs)/\AE (fun v t=>DE H v (Hm.hi t)) hs D.loops/\Kn H ps D.sp/\EB c H D.tm ob/\H pt=some (.tup (D.path.map V.int))
theorem Du.over {C:Addr}{c:Cs}{H H':Hp}{x:V}{D:Dw}(e:A8 H H')(h:Du C c H x D):Du C c H' x D:=by
 obtain⟨p,dx,nm,lo,hi,ps,pt,ob,ls,hs,rfl,h0,h1,h2,h3,h4,h5,h6,h7,h8⟩:=h
 exact⟨p,dx,nm,lo,hi,ps,pt,ob,ls,hs,rfl,e _ _ h0,e _ _ h1,e _ _ h2,h3.mono fun _ _ z=>z.tk (A8.tk e),e _ _ h4,h5.mono fun _ _ z=>z.tk (A8.tk e),h6.tk (A8.tk e),h7.over e,e _ _ h8⟩
def Zs (C:Addr)(c:Cs)(H:Hp)(l:Addr)(Ds:List Dw):Prop := ∃xs,H l=some (.lst xs)/\AE (Du C c H) xs Ds
def Kj (CP C:Addr)(c:Cs)(H:Hp)(v:V)(n:Int)(Ds:List Dw):Prop := ∃(x dx dl:Addr),v = .ref x/\H x=some (.ins CP dx [("size",.int n),("deeds",.ref dl)])/\Zs C c H dl Ds
def NL (H H':Hp):Prop := ∀b o,H b=some o->(∀xs,o≠.lst xs)->H' b=some o
theorem NL.tk {H H':Hp}(h:NL H H'):TK H H':=fun b xs hb=>h b _ hb (fun _ z=>by cases z)
theorem NL.upd {H:Hp}{l:Addr}{xs:List V}{o:HO}(hl:H l=some (.lst xs)):NL H (upd H l o):=fun b ob hb hn=>by
 rw[Af (fun z=>by rw[z,hl]at hb;cases hb;exact hn _ rfl)]
 exact hb
theorem EB.nl {c:Cs}{H H':Hp}(e:NL H H'):∀{t:Tw} {x:V},EB c H t x->EB c H' t x
 |.n i,x,h=>let ⟨t,dx,r,h⟩:=h;⟨t,dx,r,e _ _ h (fun _ z=>by cases z)⟩
 |.v z,x,h=>let ⟨t,dx,r,h⟩:=h;⟨t,dx,r,e _ _ h (fun _ z=>by cases z)⟩
 |.c z sp,x,h=>let ⟨t,dx,p,r,h,g⟩:=h;⟨t,dx,p,r,e _ _ h (fun _ z=>by cases z),g.tk e.tk⟩
 |.j z l r,x,h=>let ⟨t,dx,a,b,r,h,g1,g2⟩:=h;⟨t,dx,a,b,r,e _ _ h (fun _ z=>by cases z),EB.nl e g1,EB.nl e g2⟩
theorem Du.nl {C:Addr}{c:Cs}{H H':Hp}{x:V}{D:Dw}(e:NL H H')(h:Du C c H x D):Du C c H' x D:=by
 obtain⟨p,dx,nm,lo,hi,ps,pt,ob,ls,hs,rfl,h0,h1,h2,h3,h4,h5,h6,h7,h8⟩:=h
 exact⟨p,dx,nm,lo,hi,ps,pt,ob,ls,hs,rfl,e _ _ h0 (fun _ z=>by cases z),e.tk _ _ h1,e.tk _ _ h2,h3.mono fun _ _ z=>z.tk e.tk,e.tk _ _ h4,h5.mono fun _ _ z=>z.tk e.tk,h6.tk e.tk,h7.nl e,e.tk _ _ h8⟩
section
variable {X:Cx}{pins:List (Addr×Obj)}{s:Shared}{σ:St}{H:Hp}
end
def PM:V->Bool
 |.int _=>true
 |.str _=>true
 |.bl _=>true
 |_=>false
mutual
def E5 (H:Hp):Tr->V->Prop
 |.v y,x=>x=y/\PM y=true
 |.tup l,x=>∃p xs,x = .ref p/\H p=some (.tup xs)/\CT H l xs
 |.lst _,_=>False
def CT (H:Hp):List Tr->List V->Prop
 |[],xs=>xs=[]
 |t::l,xs=>∃x xs',xs=x::xs'/\E5 H t x/\CT H l xs'
end
def Wc (K:Faa):Sp:=fun vs H Q _=>∃(p:Addr) (ns:List Int) (k:Int),vs=[.ref p,.int k]/\A5 K H p (ns.map V.int)/\0<=k/\k<=1000000/\∀m:Int,0<=m->m<2147483629->Q (.int m) H
def bR:Sp:=fun vs H Q _=>∃(c:Int) (l:Addr) (ms:List Int),vs=[.int c,.ref l]/\H l=some (.lst (ms.map V.int))/\0<=c/\ms.length<=100/\(∀m∈ms,0<m/\m<1073741824)/\∀(r:Addr) (H':Hp) (ds:List Int),A8 H H'->H' r=some (.lst (ds.map V.int))->ds.length=ms.length->(∀(i:Nat) (d m:Int),ds[i]?=some d->ms[i]?=some m->0<=d/\d<m)->Q (.ref r) H'
def Kt (first:Int)(u ln:Nat->Int)(i:Nat):Fl:=(u i,first+(i:Int),-(ln i))
def JT (first:Int)(w hn:Nat->Int)(i:Nat):Fl:=(first+(i:Int),w i,hn i)
def YB (C:Addr):Sp:=fun vs H Q _=>∃(d dx nm lo hi:Addr) (v4 v5 v6 v7:V) (first:Int) (zs:List Str) (lz hz:Nat->Str) (ln hn u w:Nat->Int),vs=[.ref d,.int first]/\H d=some (.ins C dx [("names",.ref nm),("lows",.ref lo),("highs",.ref hi),("table",v4),("spots",v5),("term",v6),("path",v7)])/\H nm=some (.tup (zs.map V.str))/\Mx H lo zs.length lz ln/\Mx H hi zs.length hz hn/\zs.length<=100/\(∀i<zs.length,D4 zs (lz i) first (u i))/\(∀i<zs.length,D4 zs (hz i) first (w i))/\∀(r:Addr) (ys:List V) (H':Hp),A8 H H'->H' r=some (.lst ys)->E6 H' ys (Gz (Kt first u ln) (JT first w hn) zs.length)->Q (.ref r) H'
end L2
namespace PySem
open Builtin
open AutoSeq1 (wpAny_loadPart')
end PySem
namespace L2
open PySem PySem.Spec PyProof.Rows
end L2
namespace Fo
variable {W:Type}
def nxt (prev:List Int)(b:Bo W):List Int:=prev.take b.sh++[prev.getD b.sh 0+1]++List.replicate (b.ways.length-b.sh) 0
def pathsFrom:List Int->List (Bo W)->List (List Int)
 |_,[]=>[]
 |prev,b::B=>nxt prev b::pathsFrom (nxt prev b) B
def Dv:List Int->List (Bo W)->List Int
 |prev,[]=>prev
 |prev,b::B=>Dv (nxt prev b) B
theorem Sn:∀(A B:List (Bo W)) (prev:List Int),pathsFrom prev (A++B)=pathsFrom prev A++pathsFrom (Dv prev A) B
 |[],B,prev=>rfl
 |
  a::A,B,prev=>by
  show nxt prev a::pathsFrom (nxt prev a) (A++B)=nxt prev a::(pathsFrom (nxt prev a) A++_)
  rw[Sn]
  rfl
theorem NH:∀(A:List (Bo W)) (prev:List Int),Dv prev A=prev\/Dv prev A∈pathsFrom prev A
 |[],prev=>.inl rfl
 |
  a::A,prev=>by
  right
  rcases NH A (nxt prev a) with h|h
  .show Dv (nxt prev a) A∈_
   rw[h];exact BN
  .exact C6 _ h
def fst (p:List Int)(j:Nat)(n:Nat):List Int:=p++(j:Int)::List.replicate n 0
theorem deeds_paths:∀(f:F W) (B:List (Bo W)) (d:Nat) (p:List Int) (j:Nat),Is f B d->p.length=d->∀b B',B=b::B'->(deedsF f p j).map (·.path)=fst p j (b.ways.length-d)::pathsFrom (fst p j (b.ways.length-d)) B'
 |
  .nil,B,d,p,j,h,hp,b,B',e=>by
  have h:B=[]:=h
  rw[h]at e
  cases e
 |
  .leaf k pl rest,B,d,p,j,h,hp,b,B',e=>by
  obtain⟨b0,B0,rfl,rfl,rfl,hl,hh,hr⟩:=h
  cases e
  have e0:b.ways.length-d=0:=by lia
  rw[e0]
  show(p++[(j:Int)])::(deedsF rest p (j+1)).map (·.path)=(p++[(j:Int)])::pathsFrom (p++[(j:Int)]) B'
  congr 1
  cases B' with
  |
   nil=>
   cases rest with
   |nil=>rfl
   |leaf k' pl' r'=>obtain⟨_,_,z,_⟩:=hr;cases z
   |node c w s r'=>obtain⟨_,_,_,z,_⟩:=hr;cases z
  |
   cons c B2=>
   have hs:c.sh=d:=hh c rfl
   rw[deeds_paths rest (c::B2) d p (j+1) hr hp c B2 rfl]
   have en:nxt (p++[(j:Int)]) c=fst p (j+1) (c.ways.length-d):=by
    unfold nxt fst
    rw[hs,←hp,Lf,Cd,BH (Ah _),Cq]
    .simp
    .rfl
   show _=nxt (p++[(j:Int)]) c::pathsFrom (nxt (p++[(j:Int)]) c) B2
   rw[en]
 |
  .node c w sub rest,B,d,p,j,h,hp,b,B',e=>by
  obtain⟨b0,G,B0,rfl,hw,hG,hh,hsub,hr⟩:=h
  cases e
  have hlw:d<b.ways.length:=(As.mp hw).1
  have i1:=deeds_paths sub (b::G) (d+1) (p++[(j:Int)]) 0 hsub (by rw[AF,hp];rfl) b G rfl
  have ef:fst (p++[(j:Int)]) 0 (b.ways.length-(d+1))=fst p j (b.ways.length-d):=by
   unfold fst
   rw[show b.ways.length-d=(b.ways.length-(d+1))+1 by lia,Jy,DH]
   rfl
  rw[ef]at i1
  show(deedsF sub (p++[(j:Int)]) 0++deedsF rest p (j+1)).map (·.path)=fst p j (b.ways.length-d)::pathsFrom (fst p j (b.ways.length-d)) (G++B0)
  rw[B3,i1,Sn]
  show _::(_++_)=_::(_++_)
  congr 1
  congr 1
  cases B0 with
  |
   nil=>
   cases rest with
   |nil=>rfl
   |leaf k' pl' r'=>obtain⟨_,_,z,_⟩:=hr;cases z
   |node c w s r'=>obtain⟨_,_,_,z,_⟩:=hr;cases z
  |
   cons c2 B2=>
   have hs:c2.sh=d:=hh c2 rfl
   rw[deeds_paths rest (c2::B2) d p (j+1) hr hp c2 B2 rfl]
   have beg:∃q,Dv (fst p j (b.ways.length-d)) G=p++(j:Int)::q:=by
    have hm:Dv (fst p j (b.ways.length-d)) G∈(deedsF sub (p++[(j:Int)]) 0).map (·.path):=by
     rw[i1]
     rcases NH G (fst p j (b.ways.length-d)) with h|h
     .rw[h];exact BN
     .exact C6 _ h
    obtain⟨x,hx,ex⟩:=C9.mp hm
    obtain⟨i,q,_,h2⟩:=Gs sub (p++[(j:Int)]) 0 x hx
    exact⟨(i:Int)::q,by rw[←ex,h2,DH];rfl⟩
   obtain⟨q,hq⟩:=beg
   have en:nxt (Dv (fst p j (b.ways.length-d)) G) c2=fst p (j+1) (c2.ways.length-d):=by
    rw[hq]
    unfold nxt fst
    rw[hs,←hp,Lf,Cd,BH (Ah _),Cq]
    .simp
    .rfl
   show _=nxt (Dv (fst p j (b.ways.length-d)) G) c2::pathsFrom (nxt (Dv (fst p j (b.ways.length-d)) G) c2) B2
   rw[en]
abbrev Sw (W:Type):=List Int×Bool×W
def swF:F W->List Int->Nat->List (Sw W)
 |.nil,_,_=>[]
 |.leaf _ _ rest,p,j=>swF rest p (j+1)
 |.node c w sub rest,p,j=>(p++[(j:Int)],c,w)::(swF sub (p++[(j:Int)]) 0++swF rest p (j+1))
def swOf (path:List Int):Nat->List (Bool×W)->List (Sw W)
 |_,[]=>[]
 |e,w::ws=>(path.take (e+1),w.1,w.2)::swOf path (e+1) ws
def sweepsFrom:List Int->List (Bo W)->List (Sw W)
 |_,[]=>[]
 |prev,b::B=>swOf (nxt prev b) b.sh (b.ways.drop b.sh)++sweepsFrom (nxt prev b) B
theorem SN:∀(A B:List (Bo W)) (prev:List Int),sweepsFrom prev (A++B)=sweepsFrom prev A++sweepsFrom (Dv prev A) B
 |[],B,prev=>rfl
 |
  a::A,B,prev=>by
  show swOf (nxt prev a) a.sh (a.ways.drop a.sh)++sweepsFrom (nxt prev a) (A++B)=swOf (nxt prev a) a.sh (a.ways.drop a.sh)++sweepsFrom (nxt prev a) A++_
  rw[SN,DH]
  rfl
theorem sweeps_paths:∀(f:F W) (B:List (Bo W)) (d:Nat) (p:List Int) (j:Nat),Is f B d->p.length=d->∀b B',B=b::B'->swF f p j=swOf (fst p j (b.ways.length-d)) d (b.ways.drop d)++sweepsFrom (fst p j (b.ways.length-d)) B'
 |
  .nil,B,d,p,j,h,hp,b,B',e=>by
  have h:B=[]:=h
  rw[h]at e
  cases e
 |
  .leaf k pl rest,B,d,p,j,h,hp,b,B',e=>by
  obtain⟨b0,B0,rfl,rfl,rfl,hl,hh,hr⟩:=h
  cases e
  have e0:b.ways.length-d=0:=by lia
  rw[e0,Nf (by lia)]
  show swF rest p (j+1)=[]++sweepsFrom (p++[(j:Int)]) B'
  rw[Ih]
  cases B' with
  |
   nil=>
   cases rest with
   |nil=>rfl
   |leaf k' pl' r'=>obtain⟨_,_,z,_⟩:=hr;cases z
   |node c w s r'=>obtain⟨_,_,_,z,_⟩:=hr;cases z
  |
   cons c B2=>
   have hs:c.sh=d:=hh c rfl
   rw[sweeps_paths rest (c::B2) d p (j+1) hr hp c B2 rfl]
   have en:nxt (p++[(j:Int)]) c=fst p (j+1) (c.ways.length-d):=by
    unfold nxt fst
    rw[hs,←hp,Lf,Cd,BH (Ah _),Cq]
    .simp
    .rfl
   show _=swOf (nxt (p++[(j:Int)]) c) c.sh (c.ways.drop c.sh)++sweepsFrom (nxt (p++[(j:Int)]) c) B2
   rw[en,hs]
 |
  .node c w sub rest,B,d,p,j,h,hp,b,B',e=>by
  obtain⟨b0,G,B0,rfl,hw,hG,hh,hsub,hr⟩:=h
  cases e
  obtain⟨hlw,ew⟩:=As.mp hw
  have hp1:(p++[(j:Int)]).length=d+1:=by rw[AF,hp];rfl
  have i1:=sweeps_paths sub (b::G) (d+1) (p++[(j:Int)]) 0 hsub hp1 b G rfl
  have ip:=deeds_paths sub (b::G) (d+1) (p++[(j:Int)]) 0 hsub hp1 b G rfl
  have ef:fst (p++[(j:Int)]) 0 (b.ways.length-(d+1))=fst p j (b.ways.length-d):=by
   unfold fst
   rw[show b.ways.length-d=(b.ways.length-(d+1))+1 by lia,Jy,DH]
   rfl
  rw[ef]at i1 ip
  have hd:b.ways.drop d=(c,w)::b.ways.drop (d+1):=by rw[JD hlw,ew]
  have tk:(fst p j (b.ways.length-d)).take (d+1)=p++[(j:Int)]:=by
   have:fst p j (b.ways.length-d)=(p++[(j:Int)])++List.replicate (b.ways.length-d) 0:=by unfold fst;rw[DH];rfl
   rw[this,←hp1,Lf]
   rfl
  show(p++[(j:Int)],c,w)::(swF sub (p++[(j:Int)]) 0++swF rest p (j+1))=swOf (fst p j (b.ways.length-d)) d (b.ways.drop d)++sweepsFrom (fst p j (b.ways.length-d)) (G++B0)
  rw[hd,i1,SN]
  show _=((fst p j (b.ways.length-d)).take (d+1),c,w)::swOf (fst p j (b.ways.length-d)) (d+1) (b.ways.drop (d+1))++_
  rw[tk]
  have rest_eq:swF rest p (j+1)=sweepsFrom (Dv (fst p j (b.ways.length-d)) G) B0:=by
   cases B0 with
   |
    nil=>
    cases rest with
    |nil=>rfl
    |leaf k' pl' r'=>obtain⟨_,_,z,_⟩:=hr;cases z
    |node c w s r'=>obtain⟨_,_,_,z,_⟩:=hr;cases z
   |
    cons c2 B2=>
    have hs:c2.sh=d:=hh c2 rfl
    rw[sweeps_paths rest (c2::B2) d p (j+1) hr hp c2 B2 rfl]
    have beg:∃q,Dv (fst p j (b.ways.length-d)) G=p++(j:Int)::q:=by
     have hm:Dv (fst p j (b.ways.length-d)) G∈(deedsF sub (p++[(j:Int)]) 0).map (·.path):=by
      rw[ip]
      rcases NH G (fst p j (b.ways.length-d)) with h|h
      .rw[h];exact BN
      .exact C6 _ h
     obtain⟨x,hx,ex⟩:=C9.mp hm
     obtain⟨i,q,_,h2⟩:=Gs sub (p++[(j:Int)]) 0 x hx
     exact⟨(i:Int)::q,by rw[←ex,h2,DH];rfl⟩
    obtain⟨q,hq⟩:=beg
    have en:nxt (Dv (fst p j (b.ways.length-d)) G) c2=fst p (j+1) (c2.ways.length-d):=by
     rw[hq]
     unfold nxt fst
     rw[hs,←hp,Lf,Cd,BH (Ah _),Cq]
     .simp
     .rfl
    show _=swOf (nxt (Dv (fst p j (b.ways.length-d)) G) c2) c2.sh (c2.ways.drop c2.sh)++sweepsFrom (nxt (Dv (fst p j (b.ways.length-d)) G) c2) B2
    rw[en,hs]
  rw[rest_eq]
  simp
end Fo
namespace PySem
open PySem.Spec PyProof.Rows
open AutoSeq1 (wpAny_loadPart')
end PySem
namespace L2
open PySem PySem.Spec PyProof.Rows
def X6:V->List V->Hp->VK->Prop:=fun x vs H Q=>∃l xs y,x = .ref l/\vs=[.int 0,y]/\H l=some (.lst xs)/\xs.length<sizeLine/\Q .non (upd H l (.lst (y::xs)))
theorem Wl {X:Cx}:Hy X "list.insert" X6:=by
 intro pins s σ H x vs v us Q I rx rv h
 obtain⟨l,xs,y,rfl,rfl,hH,hz,q⟩:=h
 cases rx
 obtain⟨u1,u2,rfl,r1,r2⟩:=rv.two
 obtain⟨t,rfl⟩:=r1
 obtain⟨z,its,n,r,hl,e⟩:=I.lstM hH
 refine GS F.slot_list_insert ⟨_,e,rfl⟩ F.entry_list_insert (F.args_list_insert_3 _ _ _) (PySem.AutoSeq1.list_insert_list_int_val_1 l its.toArray n 0 t u2 (by decide) (by rw[AZ];lia)) ⟨e,?_⟩
 refine⟨.non,_,I.lset (its':=u2::its) hH e (by simp) (.cons r2 r) ?_,rfl,q⟩
 rw[B9]
 lia
end L2
namespace HU
open PySem PySem.Spec
section
variable {prog:Program}{w:World}{A:Around}{E:Value->Shared->Prop}{s:Shared}
theorem QJ {it t:Addr}{items:Array Value}(hne:t≠it):∀(n i:Nat) (s:Shared) (Q:List Value->Shared->Prop),s.heap.IsListIter it t i->s.heap.IsList t items->i+n<=items.size->
  (∀h',h'.IsListIter it t (i+n)->Heap.SameBut it s.heap h'->Q ((items.toList.drop i).take n) {s with heap:=h'})->wpAny (model prog w) A (draw (.ref it) n) Q E s
 |
  0,i,s,Q,hit,_,_,hQ=>by
  show wpAny _ _ (pure []) Q E s
  exact Ae (by simpa using hQ s.heap hit (Heap.SameBut.refl ..))
 |
  n+1,i,s,Q,hit,ht,hle,hQ=>by
  have hlt:i<items.size:=by lia
  show wpAny _ _ (pyNext (.ref it)>>=_) Q E s
  refine A1 (wpAny_pyNext_list_item hit ht (x:=items[i]) (by simp[hlt]) fun h1 hit1 hs1=>?_)
  refine A1 (DM (QJ hne n (i+1) _ _ hit1 (ht.extBut hs1.extBut hne) (by lia) fun h2 hit2 hs2=>Ae ?_))
  have hd:items.toList.drop i=items[i]::items.toList.drop (i+1):=by simp[JD,hlt]
  have:=hQ h2 (by rw[show i+(n+1)=i+1+n by lia];exact hit2) (hs1.trans hs2)
  rw[hd,List.take_succ_cons]at this
  exact this
theorem cQ {t:Addr}{items:Array Value}{Q:List Value->Shared->Prop}(hh:A.handled=none)(ht:s.heap.IsList t items)
  (hQ:∀h',Heap.ExtBut s.heap.objs.size s.heap h'->Q items.toList {s with heap:=h'}):wpAny (model prog w) A (unpackItems (.ref t) items.size none) Q E s:=by
 have hlt:t≠s.heap.objs.size:=by obtain⟨o,ho,_⟩:=ht;exact AN (AA ho)
 unfold unpackItems
 refine A1 ?_
 unfold notIterableAtAll
 refine A1 (wpAny_specialOf ht.typeIs slot_list_iter.lookup ?_)
 refine Ae ?_
 simp only[Pe,Iw]
 refine A1 (DM (Nq ht ?_))
 refine A1 (DM (QJ hlt items.size 0 _ _ ⟨_,B8 _ rfl,rfl,rfl⟩ (ht.push _) (by lia) fun h1 hit1 hs1=>?_))
 have hall:List.take items.size (List.drop 0 items.toList)=items.toList:=by
  rw[La];exact CU (by simp)
 rw[hall]
 rw[Ab (by simp)]
 have ht1:h1.IsList t items:=(ht.push _).extBut hs1.extBut hlt
 refine A1 (DM (wpAny_pyNext_list_end hh hit1 ht1 (by simp) fun h2 he2=>?_))
 simp only[Option.isSome_none,Pe,Iw]
 refine Ae (hQ h2 fun b o hb e=>he2 b o hb (hs1.extBut b o hb (Aw _ e)))
theorem assign_Tuple_list {env:Env}{elts:List Expr}{x1}{pos:Pos}{t:Addr}{items:Array Value}{Q:Unit->Shared->Prop}(hh:A.handled=none)(ht:s.heap.IsList t items)
  (hn:(assignEach elts env).length=items.size) (hstar:(assignEach elts env).findIdx? (·.1)=none)
  (h:∀h',Heap.ExtBut s.heap.objs.size s.heap h'->wpAny (model prog w) A (assignInOrder ((assignEach elts env).map (·.2)) items.toList) Q E {s with heap:=h'}) :
  wpAny (model prog w) A (assign (.Tuple elts x1 pos) env (.ref t)) Q E s:=by
 rw[PyProof.Rows.assign_Tuple]
 refine A1 (JG ?_)
 unfold unpack
 rw[hn,hstar]
 exact A1 (DM (cQ hh ht h))
end
end HU
namespace L2
open PySem PySem.Spec PyProof.Rows
def Xe (n:Nat)(t:Fn):TG:=fun v σ H Q=>∃a xs,v = .ref a/\H a=some (.lst xs)/\xs.length=n/\t xs σ H Q
theorem IV {X:Cx}{pos:Pos}{es:List Expr}{k:Nat}{t:Fn}{n:Nat}(hc:X.calm=true)(h:Hd X es t)
  (hn:(assignEach es X.env).length=n:=by rfl) (hst:(assignEach es X.env).findIdx? (·.1)=none:=by rfl):PG X (.Tuple es k pos) (Xe n t):=by
 intro pins s σ H v u Q I r hw
 obtain⟨a,xs,e1,hq,hl,hw⟩:=hw
 subst e1
 cases r
 obtain⟨z,its,m,rv,hl2,e⟩:=I.lstM hq
 refine HU.assign_Tuple_list (I.ok.hd hc) ⟨_,e,rfl,m,rfl⟩ (by simp[hn,←hl,rv.length]) hst fun h' hx=>?_
 have I1:A2 X pins σ H {s with heap:=h'}:=I.kept (t':=s.toks) fun b o e=>hx b o (AN (AA e)) e
 exact h pins _ σ H xs _ Q I1 (by simpa using rv) hw
theorem ZM {e l:Nat}(h:V.int (e:Int)=V.int (l:Int)):e=l:=by have:=V.int.inj h;lia
def FE (H:Hp)(x:V)(s:Fo.Sw Str):Prop := ∃t pt,x = .ref t/\H t=some (.tup [.ref pt,.bl s.2.1,.str s.2.2])/\H pt=some (.tup (s.1.map V.int))
theorem FE.tk {H H':Hp}{x:V}{s:Fo.Sw Str}(h:FE H x s)(e:TK H H'):FE H' x s:=by obtain⟨t,pt,a,b,c⟩:=h;exact⟨t,pt,a,e _ _ b,e _ _ c⟩
theorem FE.over {H H':Hp}{x:V}{s:Fo.Sw Str}(h:FE H x s)(e:A8 H H'):FE H' x s:=h.tk (A8.tk e)
def RY (n:Nat):Sp:=fun vs H Q _=>∃(it pa:Addr) (f:Bj) (P:List Int),vs=[.ref it,.ref pa]/\Gv H it f/\H pa=some (.tup (P.map V.int))/\D0 f<=n/\P.length+n<=100/\(Fo.swF f P 0).length<=1000/\∀(r:Addr) (ys:List V) (H':Hp),A8 H H'->H r=none->H' r=some (.lst ys)->AE (FE H') ys (Fo.swF f P 0)->Q (.ref r) H'
def XA:Sp:=fun vs H Q _=>∃(it:Addr) (f:Bj),vs=[.ref it]/\Gv H it f/\D0 f<=7/\(Fo.swF f [] 0).length<=1000/\∀(r:Addr) (ys:List V) (H':Hp),A8 H H'->H r=none->H' r=some (.lst ys)->AE (FE H') ys (Fo.swF f [] 0)->Q (.ref r) H'
def Jg:List V:=[.str "up",.str "down",.str "any"]
abbrev BI (ws:List Bb):Nat:=ws.countP fun w=>w.1
abbrev Bg (ws:List Bb):Nat:=ws.countP fun w=>!w.1
def ZP (K:Faa):Sp:=fun vs H Q _=>∃(sc old wl:Addr) (ns:List Int) (first:Int) (n:Nat) (ws0:List Bb),vs=[.ref sc,.int first,.int (n:Int),.ref old,.ref wl]/\A5 K H sc (ns.map V.int)/\0<=first/\first<=1000/\n<=3/\ET H old ws0/\BI ws0<=3/\H wl=some (.lst Jg)/\
 ∀(r w:Addr) (H':Hp) (sh:Nat) (ws:List Bb),A8 H H'->H w=none->H' r=some (.tup [.int (sh:Int),.ref w])->ET H' w ws->sh<=ws0.length->sh<=ws.length->ws.take sh=ws0.take sh->BI ws<=3->Bg ws=n->(n=0->ws0=[]->ws=[])->Q (.ref r) H'
theorem cx {i:Int}(h0:0<=i)(h1:i<3):∃s:Str,Bh Jg i=some (.str s):=by
 have:i=0\/i=1\/i=2:=by lia
 rcases this with rfl|rfl|rfl
 .exact⟨"up",rfl⟩
 .exact⟨"down",rfl⟩
 .exact⟨"any",rfl⟩
theorem NC (ws:List Bb):ws.length=BI ws+Bg ws:=by
 show ws.length=List.countP (fun w:Bb=>w.1) ws+List.countP (fun w:Bb=>!w.1) ws
 induction ws with
 |nil=>rfl
 |
  cons w ws ih=>
  rw[B9,Pf,Pf,ih]
  cases w.1<;>simp<;>lia
theorem Ry (ws:List Bb)(w:Bb):BI (ws++[w])=BI ws+(if w.1=true then 1 else 0):=by
 show List.countP _ _=_
 rw[Tv,List.countP_singleton]
theorem Qs (ws:List Bb)(w:Bb):Bg (ws++[w])=Bg ws+(if(!w.1)=true then 1 else 0):=by
 show List.countP _ _=_
 rw[Tv,List.countP_singleton]
theorem OG (ws:List Bb)(i:Nat):BI (ws.take i)<=BI ws:=by
 have:=List.take_append_drop i ws
 have h:BI (ws.take i++ws.drop i)=BI (ws.take i)+BI (ws.drop i):=Tv
 rw[this]at h
 lia
def KZ (H:Hp)(x:V)(b:Am):Prop := ∃t w p,x = .ref t/\H t=some (.tup [.int b.k,.int (b.sh:Int),.ref w,.ref p])/\ET H w b.ways/\FN H p b.pl
theorem KZ.over {H H':Hp}{x:V}{b:Am}(h:KZ H x b)(e:A8 H H'):KZ H' x b:=by obtain⟨t,w,p,a,b,c,d⟩:=h;exact⟨t,w,p,a,e _ _ b,c.over e,d.over e⟩
def Hv (H:Hp)(l:Addr)(B:List Am):Prop := ∃xs,H l=some (.lst xs)/\AE (KZ H) xs B
theorem Hv.over {H H':Hp}{l:Addr}{B:List Am}(h:Hv H l B)(e:A8 H H'):Hv H' l B:=by obtain⟨xs,a,b⟩:=h;exact⟨xs,e _ _ a,b.mono fun x w p=>p.over e⟩
structure JU (B:List Am):Prop where
 ok:Fo.Ok B
 fst:∀b,B.head?=some b->b.sh=0
 len:B.length<=6
 way:∀b∈B,b.ways.length<=6
 pll:∀b∈B,b.pl.length=b.ways.length
theorem JU.from {B:List Am}(h:JU B):K3 B 0 6:=⟨h.ok,fun _ _ _=>Bk _,fun _ _=>Bk _,fun b hb=>by have:=h.way b hb;lia,fun b hb=>by have:=h.way b hb;have:=h.pll b hb;lia,h.len⟩
def Dx (s:Int)(m i:Nat):List Int:=(List.range i).map fun n:Nat=>((n:Int)+s)%(m:Int)
theorem RU (s:Int)(m i:Nat):Dx s m (i+1)=Dx s m i++[((i:Int)+s)%(m:Int)]:=by
 unfold Dx
 rw[Im,B3]
 rfl
theorem Q8 {s:Int}{m:Nat}(h0:0<=s)(h1:s<6)(hm:m<=6):(Dx s m m).Nodup:=by
 obtain⟨k,rfl⟩:∃k:Nat,s=(k:Int):=⟨s.toNat,by lia⟩
 have:∀m<7,∀k<6,(Dx ((k:Nat):Int) m m).Nodup:=by decide +kernel
 exact this m (by lia) k (by lia)
theorem LJ (s:Int)(m i:Nat):(Dx s m i).length=i:=by unfold Dx;rw[Al,EH]
theorem Sf {s:Int}{m i:Nat}(hm:0<m):∀k∈Dx s m i,0<=k/\k<(m:Int):=fun k hk=>by
 obtain⟨n,_,rfl⟩:=C9.mp hk
 exact⟨Ei _ (by lia),Ej _ (by lia)⟩
theorem QE:∀(l:List Int) (i:Nat) (h:i<l.length),(l[i]::l.eraseIdx i).Perm l
 |x::l,0,h=>.refl _
 |
  x::l,i+1,h=>by
  have h':i<l.length:=by rw[B9]at h;lia
  show(l[i]::x::l.eraseIdx i).Perm (x::l)
  exact(List.Perm.swap _ _ _).trans ((QE l i h').cons x)
structure Fk (B:List Am)(R:List Int)(i:Nat):Prop where
 ok:Fo.Ok B
 fst:∀b,B.head?=some b->b.sh=0
 ks:B.map (·.k)=R.take i
 way:∀b∈B,BI b.ways<=3/\b.ways.length<=6
 pll:∀b∈B,b.pl.length=b.ways.length
theorem Fk.nil (R:List Int):Fk [] R 0:=⟨⟨fun b hb=>(by cases hb),fun i b c hb=>(by simp at hb)⟩,fun b hb=>(by cases hb),rfl,fun b hb=>(by cases hb),fun b hb=>(by cases hb)⟩
theorem Fk.len {B:List Am}{R:List Int}{i:Nat}(h:Fk B R i)(hi:i<=R.length):B.length=i:=by
 have:=congrArg List.length h.ks
 rw[Al,AV]at this
 lia
theorem Fk.snoc {B:List Am}{R:List Int}{i:Nat}{b:Am}(h:Fk B R i)(hk:R[i]?=some b.k)(h1:b.sh<=b.ways.length)(h0:B=[]->b.sh=0)(h2:∀c,B.getLast?=some c->b.sh<=c.ways.length/\b.ways.take b.sh=c.ways.take b.sh)(hw:BI b.ways<=3/\b.ways.length<=6)(hp:b.pl.length=b.ways.length):Fk (B++[b]) R (i+1):=by
 refine⟨Fo.Ok.snoc h.ok h1 h2,fun c hc=>?_,?_,fun c hc=>?_,fun c hc=>?_⟩
 .cases B with
  |nil=>cases hc;exact h0 rfl
  |cons b0 B=>exact h.fst c hc
 .rw[CJ hk,B3,h.ks]
  rfl
 .rcases BO.mp hc with hc|hc
  .exact h.way c hc
  .rw[Bz]at hc;subst hc;exact hw
 .rcases BO.mp hc with hc|hc
  .exact h.pll c hc
  .rw[Bz]at hc;subst hc;exact hp
theorem Fk.fin {B:List Am}{R:List Int}(h:Fk B R R.length)(hl:R.length<=6)(hn:R.Nodup):JU B/\B.length=R.length/\(B.map (·.k)).Nodup:=by
 have l:=h.len (Ah _)
 refine⟨⟨h.ok,h.fst,by lia,fun b hb=>(h.way b hb).2,h.pll⟩,l,?_⟩
 rw[h.ks,CU (Ah _)]
 exact hn
theorem Je {H:Hp}{lv:Addr}{xs:List V}(h:H lv=some (.lst xs)):TK H (av H [lv]):=fun b ys hb=>by
 rw[Ka (by
  intro z
  rw[Bz]at z
  rw[z,h]at hb
  cases hb)]
 exact hb
theorem ET.av {H:Hp}{lv w:Addr}{xs:List V}{ws:List Bb}(h:ET H w ws)(hl:H lv=some (.lst xs))(hn:w≠lv):ET (av H [lv]) w ws:=by
 obtain⟨ys,a,b⟩:=h
 exact⟨ys,by rw[Ka (by rw[Bz];exact hn)];exact a,b.mono fun x v z=>z.tk (Je hl)⟩
def Qn (n:Nat):Sp:=fun vs H Q _=>∃(l:Addr) (d m:Nat) (B:List Am),vs=[.ref l,.int (d:Int)]/\Hv H l B/\K3 B d m/\m<n/\d+m<=10/\∀(r:Addr) (H':Hp) (f:Bj),A8 H H'->Gv H' r f->Fo.Is f B d->Q (.ref r) H'
def G8:List Am->List (List Int)
 |[]=>[]
 |b::B=>Fo.fst [] 0 b.ways.length::Fo.pathsFrom (Fo.fst [] 0 b.ways.length) B
def SO:List Am->List (Fo.Sw Str)
 |[]=>[]
 |b::B=>Fo.swOf (Fo.fst [] 0 b.ways.length) 0 b.ways++Fo.sweepsFrom (Fo.fst [] 0 b.ways.length) B
def DN (H:Hp)(x:V)(p:List Int):Prop := ∃t,x = .ref t/\H t=some (.tup (p.map V.int))
theorem DN.tk {H H':Hp}{x:V}{p:List Int}(h:DN H x p)(e:TK H H'):DN H' x p:=by obtain⟨t,a,b⟩:=h;exact⟨t,a,e _ _ b⟩
theorem DN.over {H H':Hp}{x:V}{p:List Int}(h:DN H x p)(e:A8 H H'):DN H' x p:=h.tk (A8.tk e)
theorem RP:∀(B:List Am) (prev:List Int),(Fo.pathsFrom prev B).length=B.length
 |[],_=>rfl
 |b::B,prev=>by show(Fo.pathsFrom (Fo.nxt prev b) B).length+1=_;rw[RP];rfl
theorem QL (B:List Am):(G8 B).length=B.length:=by
 cases B with
 |nil=>rfl
 |cons b B=>show(Fo.pathsFrom _ B).length+1=_;rw[RP];rfl
def gS (bp:Am×List Int):List (Fo.Sw Str):=Fo.swOf bp.2 bp.1.sh (bp.1.ways.drop bp.1.sh)
theorem SW:∀(B:List Am) (prev:List Int),Fo.sweepsFrom prev B=(B.zip (Fo.pathsFrom prev B)).flatMap gS
 |[],_=>rfl
 |
  b::B,prev=>by
  show Fo.swOf (Fo.nxt prev b) b.sh (b.ways.drop b.sh)++Fo.sweepsFrom (Fo.nxt prev b) B=gS (b,Fo.nxt prev b)++(B.zip (Fo.pathsFrom (Fo.nxt prev b) B)).flatMap gS
  rw[SW]
  rfl
theorem WC {B:List Am}(h:∀b,B.head?=some b->b.sh=0):SO B=(B.zip (G8 B)).flatMap gS:=by
 cases B with
 |nil=>rfl
 |
  cons b B=>
  have:=h b rfl
  show Fo.swOf (Fo.fst [] 0 b.ways.length) 0 b.ways++Fo.sweepsFrom (Fo.fst [] 0 b.ways.length) B=gS (b,Fo.fst [] 0 b.ways.length)++(B.zip (Fo.pathsFrom (Fo.fst [] 0 b.ways.length) B)).flatMap gS
  rw[SW]
  unfold gS
  rw[this]
  rfl
mutual
theorem E5.tr {K:Faa}{H:Hp}:∀{t:Tr} {x:V},E5 H t x->BX K H x t
 |
  .v y,x,h=>by
  rw[E5]at h
  obtain⟨rfl,h⟩:=h
  exact .flat (by cases x<;>first|rfl|cases h)
 |
  .tup l,x,h=>by
  rw[E5]at h
  obtain⟨p,xs,rfl,h0,h1⟩:=h
  exact .tup (A9.of h0) (CT.tr h1)
 |.lst l,x,h=>by rw[E5]at h;exact h.elim
theorem CT.tr {K:Faa}{H:Hp}:∀{l:List Tr} {xs:List V},CT H l xs->Ci K H xs l
 |[],xs,h=>by rw[CT]at h;subst h;exact .nil
 |
  t::l,xs,h=>by
  rw[CT]at h
  obtain⟨x,xs',rfl,h0,h1⟩:=h
  exact .cons (E5.tr h0) (CT.tr h1)
end
theorem PB {α:Type}{H:Hp}{R:V->α->Prop}{g:α->Tr}(h:∀x a,R x a->E5 H (g a) x):∀{ys:List V} {P:List α},AE R ys P->CT H (P.map g) ys
 |[],[],_=>by rw[N9,CT]
 |[],p::P,z=>by have:=z.1;cases this
 |y::ys,[],z=>by have:=z.1;cases this
 |
  y::ys,p::P,z=>by
  rw[BY,CT]
  exact⟨y,ys,rfl,h y p (z.2 0 y p rfl rfl),PB h ⟨Nat.succ.inj z.1,fun i x a p q=>z.2 (i+1) x a (by simpa using p) (by simpa using q)⟩⟩
theorem RN {n:Nat}:∀{l:List Tr},(∀t∈l,Do t<=n)->Eh l<=n
 |[],_=>by rw[Eh];exact Bk _
 |
  t::l,h=>by
  rw[Eh]
  exact Nat.max_le.mpr ⟨h t BN,RN fun u hu=>h u (C6 _ hu)⟩
theorem ao {f:Bj}{B:List Am}(h:Fo.Is f B 0)(hn:0<B.length):(Fo.deedsF f [] 0).map (·.path)=G8 B:=by
 cases B with
 |nil=>cases hn
 |cons b B=>exact Fo.deeds_paths f (b::B) 0 [] 0 h rfl b B rfl
theorem Zj {f:Bj}{B:List Am}(h:Fo.Is f B 0)(hn:0<B.length):Fo.swF f [] 0=SO B:=by
 cases B with
 |nil=>cases hn
 |cons b B=>exact Fo.sweeps_paths f (b::B) 0 [] 0 h rfl b B rfl
theorem Z2 {f:Bj}{B:List Am}(h:Fo.Is f B 0)(hn:0<B.length){i:Nat}{e:Fo.En}{p:List Int}(he:(Fo.deedsF f [] 0)[i]?=some e)(hp:(G8 B)[i]?=some p):e.path=p:=by
 rw[←ao h hn,AQ,he]at hp
 exact Cp hp
end L2
namespace Fo
variable {W:Type}
end Fo
namespace L2
open PySem PySem.Spec PyProof.Rows
section
variable {X:Cx}
theorem Vf (hc:X.calm=true):E8 X (.builtin "min") (fun xs H Q=>∃i j k,xs=[.int i,.int j,.int k]/\Q (.int (if j<i then(if k<j then k else j) else(if k<i then k else i))) H):=by
 intro pins s σ H xs us Q I r h
 obtain⟨i,j,k,rfl,q⟩:=h
 cases r with
 |
  cons r1 r=>
  cases r with
  |
   cons r2 r=>
   cases r with
   |
    cons r3 r=>
    cases r
    obtain⟨t1,rfl⟩:=r1
    obtain⟨t2,rfl⟩:=r2
    obtain⟨t3,rfl⟩:=r3
    refine min_three_ints (I.ok.hd hc) fun h' tk k'=>⟨_,H,I.kept k',?_,q⟩
    by_cases h1:j<i
    .rw[Aj h1,Aj h1]
     by_cases h2:k<j
     .rw[Aj h2,Aj h2];exact⟨_,rfl⟩
     .rw[Ab h2,Ab h2];exact⟨_,rfl⟩
    .rw[Ab h1,Ab h1]
     by_cases h2:k<i
     .rw[Aj h2,Aj h2];exact⟨_,rfl⟩
     .rw[Ab h2,Ab h2];exact⟨_,rfl⟩
end
def FA:Bj->Nat
 |.nil=>0
 |.leaf _ _ r=>FA r+1
 |.node _ _ s r=>FA s+FA r+1
theorem Kk {H:Hp}{y:V}(h:PM y=true):E5 H (.v y) y:=by rw[E5];exact⟨rfl,h⟩
theorem Kx:∀(f:Bj) (B:List Am) (d n:Nat),Fo.Is f B d->(∀b∈B,b.ways.length<=d+n)->FA f<=(n+1)*B.length
 |.nil,B,d,n,h,_=>Bk _
 |
  .leaf k pl rest,B,d,n,h,hn=>by
  obtain⟨b,B',rfl,_,_,_,_,hr⟩:=h
  have:=Kx rest B' d n hr fun b hb=>hn b (C6 _ hb)
  show FA rest+1<=(n+1)*(B'.length+1)
  rw[Nat.mul_add]
  lia
 |
  .node c w sub rest,B,d,n,h,hn=>by
  obtain⟨b,G,B',rfl,hw,_,_,hs,hr⟩:=h
  have l:=(As.mp hw).1
  have l2:=hn b (CA _ BN)
  obtain⟨n,rfl⟩:∃m,n=m+1:=⟨n-1,by lia⟩
  have i1:=Kx sub (b::G) (d+1) n hs fun b hb=>by have:=hn b (CA _ hb);lia
  have i2:=Kx rest B' d (n+1) hr fun b hb=>hn b (C7 _ hb)
  show FA sub+FA rest+1<=(n+1+1)*((b::G)++B').length
  rw[AF,Nat.mul_add]
  have e:(n+1+1)*(b::G).length=(n+1)*(b::G).length+(b::G).length:=Jz _ _
  rw[e,B9]at *
  lia
def EU (n:Nat):List Int:=(List.range n).map fun i:Nat=>(i:Int)
theorem MR.isIn (K:Faa)(n:Bool):MR (PJ K n):=fun x y H Q Q' hq ⟨p,xs,a,b,c,d,e⟩=>⟨p,xs,a,b,c,d,hq _ _ e⟩
theorem ME.comp {ρ:List (Option Nat)}{wi:TI}{g:TG}{tt:TT}{te:TE}(hw:∀σ H R R',(∀J H1,R J H1->R' J H1)->wi σ H R->wi σ H R'):ME (Jh ρ wi g tt te):=fun σ H Q Q' hq h=>
 hw _ _ _ _ (fun J H1 ⟨W,h0,h1⟩=>⟨W,h0,fun i m ys H' w=>(h1 i m ys H' w).imp (fun⟨a,b,c⟩=>⟨a,b,fun p hp=>hq _ _ (c p hp)⟩) id⟩) h
structure Lq where
 nm:Str
 lo:Str×Int
 hi:Str×Int
 fi:Int
 la:Int
def Df (H:Hp)(x:V)(q:Lq):Prop := ∃t a b,x = .ref t/\H t=some (.tup [.str q.nm,.ref a,.ref b,.int q.fi,.int q.la])/\H a=some (.tup [.str q.lo.1,.int q.lo.2])/\H b=some (.tup [.str q.hi.1,.int q.hi.2])
theorem Df.tk {H H':Hp}{x:V}{q:Lq}(h:Df H x q)(e:TK H H'):Df H' x q:=by obtain⟨t,a,b,r,h0,h1,h2⟩:=h;exact⟨t,a,b,r,e _ _ h0,e _ _ h1,e _ _ h2⟩
theorem Df.over {H H':Hp}{x:V}{q:Lq}(h:Df H x q)(e:A8 H H'):Df H' x q:=h.tk (A8.tk e)
structure Lq.Ok (q:Lq)(j:Nat):Prop where
 n:q.nm.length<=10
 l:q.lo.1.length<=10
 h:q.hi.1.length<=10
 l2 : -100<=q.lo.2/\q.lo.2<=100
 h2 : -100<=q.hi.2/\q.hi.2<=100
 f : -(10*((j:Int)+1))<=q.fi/\q.fi<=10*((j:Int)+1)
 a : -(10*((j:Int)+1))<=q.la/\q.la<=10*((j:Int)+1)
def Eb (H:Hp)(ll:Addr)(L:List Lq):Prop := ∃xs,H ll=some (.lst xs)/\AE (Df H) xs L
theorem Eb.over {H H':Hp}{ll:Addr}{L:List Lq}(h:Eb H ll L)(e:A8 H H'):Eb H' ll L:=by obtain⟨xs,a,b⟩:=h;exact⟨xs,e _ _ a,b.mono fun _ _ z=>z.over e⟩
def Md (L:List Lq):Prop := ∀(j:Nat) (q:Lq),L[j]?=some q->q.Ok j
def qT (q:Lq):Tr:=.tup [.v (.str q.nm),.tup [.v (.str q.lo.1),.v (.int q.lo.2)],.tup [.v (.str q.hi.1),.v (.int q.hi.2)],.v (.int q.fi),.v (.int q.la)]
theorem Uw {H:Hp}{x:V}{q:Lq}(h:Df H x q):E5 H (qT q) x:=by
 obtain⟨t,a,b,rfl,h0,h1,h2⟩:=h
 have pr:∀{p:Addr} {s:Str×Int},H p=some (.tup [.str s.1,.int s.2])->E5 H (.tup [.v (.str s.1),.v (.int s.2)]) (.ref p):=fun{p s} h=>by
  rw[E5]
  refine⟨p,_,rfl,h,?_⟩
  rw[CT]
  refine⟨_,_,rfl,Kk rfl,?_⟩
  rw[CT]
  exact⟨_,_,rfl,Kk rfl,by rw[CT]⟩
 rw[qT,E5]
 refine⟨t,_,rfl,h0,?_⟩
 rw[CT]
 refine⟨_,_,rfl,Kk rfl,?_⟩
 rw[CT]
 refine⟨_,_,rfl,pr h1,?_⟩
 rw[CT]
 refine⟨_,_,rfl,pr h2,?_⟩
 rw[CT]
 refine⟨_,_,rfl,Kk rfl,?_⟩
 rw[CT]
 exact⟨_,_,rfl,Kk rfl,by rw[CT]⟩
theorem O5 {K:Faa}{H:Hp}{p:Addr}{xs:List V}{L:List Lq}(hp:H p=some (.lst xs))(h:AE (Df H) xs L):BX K H (.ref p) (.lst (L.map qT)):=.lst (A5.of hp) (PB (fun _ _ z=>Uw z) h).tr
theorem Oq:∀A B:List Lq,FD (A.map qT) (B.map qT)=true
 |[],B=>by cases B<;>rfl
 |a::A,[]=>rfl
 |
  a::A,b::B=>by
  rw[BY,BY,FD,Oq A B]
  rfl
theorem PK (L:List Lq):Eh (L.map qT)<=2:=RN fun t ht=>by
 obtain⟨q,_,rfl⟩:=C9.mp ht
 simp[qT,Do,Eh]
def FG (z:Str):Nat->Str
 |0=>z
 |i+1=>FG z i++"q"
theorem Mv (z:Str):∀i,(FG z i).length=z.length+i
 |0=>rfl
 |
  i+1=>by
  have e:("q":Str).length=1:=by decide +kernel
  show(FG z i++"q").length=_
  rw[O9,Mv z i,e]
  lia
theorem Ye {z:Str}{ns:List Str}{i:Nat}(h:∀j<i,FG z j∈ns):i<=ns.length:=by
 have nd:((List.range i).map (FG z)).Nodup:=by
  rw[Ts,Ik]
  refine List.Pairwise.imp (fun{a b} h e=>h ?_) (List.nodup_range:(List.range i).Nodup)
  have:=congrArg Str.length e
  rw[Mv,Mv]at this
  lia
 have:=IY nd (k:=ns) fun x hx=>by
  obtain⟨j,hj,rfl⟩:=C9.mp hx
  exact h j (FO.mp hj)
 rwa [Al,EH]at this
theorem S8 (z:Str)(ns:List Str):M6 (.str z) (ns.map V.str)=true↔z∈ns:=by
 unfold M6
 rw[To]
 constructor
 .rintro ⟨y,hy,e⟩
  obtain⟨n,hn,rfl⟩:=C9.mp hy
  have e:(n==z)=true:=e
  rw[←GR.mp e]
  exact hn
 .intro h
  exact⟨.str z,C9.mpr ⟨z,h,rfl⟩,TM z⟩
theorem Df.made {H:Hp}{a b r:Addr}{nm z1 z2:Str}{n1 n2 f l:Int}(ha:H a=none)(hb:(upd H a (.tup [.str z1,.int n1])) b=none)(hr:(upd (upd H a (.tup [.str z1,.int n1])) b (.tup [.str z2,.int n2])) r=none) :
  A8 H (upd (upd (upd H a (.tup [.str z1,.int n1])) b (.tup [.str z2,.int n2])) r (.tup [.str nm,.ref a,.ref b,.int f,.int l]))/\Df (upd (upd (upd H a (.tup [.str z1,.int n1])) b (.tup [.str z2,.int n2])) r (.tup [.str nm,.ref a,.ref b,.int f,.int l])) (.ref r) ⟨nm,(z1,n1),(z2,n2),f,l⟩:=by
 have s1:=Ac ha (.tup [.str z1,.int n1])
 have s2:=Ac hb (.tup [.str z2,.int n2])
 have s3:=Ac hr (.tup [.str nm,.ref a,.ref b,.int f,.int l])
 exact⟨(s1.trans s2).trans s3,r,a,b,rfl,A6,(s2.trans s3) _ _ A6,s3 _ _ A6⟩
theorem Oo (c:Nat):(⟨#[c]⟩:Str).length=1:=rfl
theorem Rr (c:Nat)(n:Int):(Txt.mul ⟨#[c]⟩ n).length=n.toNat:=by rw[←MI,ag,List.length_replicate]
def Fq (j:Nat)(n1 n2 f l:Int):Prop:=(-100<=n1/\n1<=100)/\(-100<=n2/\n2<=100)/\(-(10*((j:Int)+1))<=f/\f<=10*((j:Int)+1))/\-(10*((j:Int)+1))<=l/\l<=10*((j:Int)+1)
theorem IZ {nm z1 z2:Str}{n1 n2 f l:Int}{j:Nat}(h:Fq j n1 n2 f l)(a:nm.length<=10)(b:z1.length<=10)(c:z2.length<=10):Lq.Ok ⟨nm,(z1,n1),(z2,n2),f,l⟩ j:=⟨a,b,c,h.1,h.2.1,h.2.2.1,h.2.2.2⟩
theorem Qx {x y u:Int}{j:Nat}(hx:0<=x/\x<5)(hy:0<=y/\y<=2)(hu:0<=u/\u<=3):Fq j (x-2) (x-2+y-u) (x-2) (x-2+y-u):=by unfold Fq;lia
theorem NO {x u f l:Int}{i j:Nat}(hx:0<=x/\x<5)(hu : -2<=u/\u<=1)(hi:i<j)(hj:j<=2)(hf : -(10*((i:Int)+1))<=f/\f<=10*((i:Int)+1))(hl : -(10*((i:Int)+1))<=l/\l<=10*((i:Int)+1)):Fq j (x-2) (x-2+u) (f+(x-2)) (l+(x-2)+u):=by unfold Fq;lia
theorem NK {x u f l:Int}{i j:Nat}(hx:0<=x/\x<5)(hu:u=0\/u=1)(hi:i<j)(hj:j<=2)(hf : -(10*((i:Int)+1))<=f/\f<=10*((i:Int)+1))(hl : -(10*((i:Int)+1))<=l/\l<=10*((i:Int)+1)):Fq j (x-2) (l+(x-2)-u) (f+(x-2)) (l+(x-2)-u):=by unfold Fq;lia
theorem bu {x f l:Int}{i j:Nat}(hx:0<=x/\x<5)(hi:i<j)(hj:j<=2)(hf : -(10*((i:Int)+1))<=f/\f<=10*((i:Int)+1))(hl : -(10*((i:Int)+1))<=l/\l<=10*((i:Int)+1)):Fq j (f+(x-2)) (x-2) (f+(x-2)) (l+(x-2)):=by unfold Fq;lia
theorem VM {x y f l:Int}{i k j:Nat}(hx:0<=x/\x<5)(hy:0<=y/\y<3)(hi:i<j)(hk:k<j)(hj:j<=2)(hf : -(10*((i:Int)+1))<=f/\f<=10*((i:Int)+1))(hl : -(10*((k:Int)+1))<=l/\l<=10*((k:Int)+1)):Fq j (x-2) (f+(x-2)+1+y-l) (f+(x-2)) (f+(x-2)+1+y):=by unfold Fq;lia
theorem Zp {tt:TT}{ta tb:TS}{D:CL}{σ:St}{H:Hp}(M:Hp->Prop)(hb:∀H',M H'->tb D σ H')(h:(∀H',M H'->tb D σ H')->Hw tt ta tb D σ H):Hw tt ta tb D σ H:=h hb
structure Dq where
 L:List Lq
 path:List Int
 sh:Nat
def Hs (H:Hp)(x:V)(D:Dq):Prop := ∃t o pt,x = .ref t/\H t=some (.tup [.ref o,.ref pt,.int (D.sh:Int)])/\Eb H o D.L/\H pt=some (.tup (D.path.map V.int))
theorem Hs.over {H H':Hp}{x:V}{D:Dq}(h:Hs H x D)(e:A8 H H'):Hs H' x D:=by obtain⟨t,o,pt,r,h0,h1,h2⟩:=h;exact⟨t,o,pt,r,e _ _ h0,h1.over e,e _ _ h2⟩
structure Dq.Ok (D:Dq):Prop where
 ok:Md D.L
 ll:D.L.length<=3
 pl:D.path.length=D.L.length+1
 sl:D.sh<=D.L.length
theorem Ly (xs:List V)(n:Nat):Cv xs none (some (n:Int))=xs.take n:=by
 have h:Cv xs none (some (n:Int))=xs.take (n:Int).toNat:=OQ _ (by lia)
 rw[h,EG]
theorem Eb.av {H:Hp}{fo ll:Addr}{xs:List V}{L:List Lq}(h:Eb H ll L)(hl:H fo=some (.lst xs))(hn:ll≠fo):Eb (av H [fo]) ll L:=by
 obtain⟨ys,h1,h2⟩:=h
 exact⟨ys,by rw[Ka (by rw[Bz];exact hn)];exact h1,h2.mono fun _ _ z=>z.tk (Je hl)⟩
theorem Va {x:Int}(h0:0<=x)(h1:x<7):∃v:Int,Bh [V.int 2,V.int 1,V.int 3,V.int 2,V.int 0,V.int 1,V.int 2] x=some (.int v)/\0<=v/\v<=3:=by
 have:x=0\/x=1\/x=2\/x=3\/x=4\/x=5\/x=6:=by lia
 rcases this with rfl|rfl|rfl|rfl|rfl|rfl|rfl
 .exact⟨2,rfl,by decide,by decide⟩
 .exact⟨1,rfl,by decide,by decide⟩
 .exact⟨3,rfl,by decide,by decide⟩
 .exact⟨2,rfl,by decide,by decide⟩
 .exact⟨0,rfl,by decide,by decide⟩
 .exact⟨1,rfl,by decide,by decide⟩
 .exact⟨2,rfl,by decide,by decide⟩
section
variable {prog:Program}{w:World}{A:Around}{E:Value->Shared->Prop}{s:Shared}
end
section
variable {prog:Program}{w:World}{A:Around}{E:Value->Shared->Prop}{s:Shared}
end
section
variable {prog:Program}{w:World}{A:Around}{E:Value->Shared->Prop}{s:Shared}
end
section
variable {prog:Program}{w:World}{A:Around}{E:Value->Shared->Prop}{s:Shared}
end
def Ms (H:Hp)(y:V)(q:List Ap×V):Prop := ∃t b,y = .ref t/\H t=some (.tup [.ref b,q.2])/\H b=some (.tup (q.1.map kV))
section
variable {X:Cx}
end
def JR (K:Faa)(a b:Addr):It:=
 ⟨fun i H=>∃xs ys x y,A5 K H a xs/\A9 K H b ys/\xs[i]?=some x/\ys[i]?=some y,fun i H v H'=>∃x y T,(∀xs,A5 K H a xs->xs[i]?=some x)/\(∀ys,A9 K H b ys->ys[i]?=some y)/\H T=none/\v = .ref T/\H'=upd H T (.tup [x,y]),
  fun i H=>∃xs ys,A5 K H a xs/\A9 K H b ys/\i<=xs.length/\i<=ys.length/\(i=xs.length\/i=ys.length)⟩
theorem Zh {P:Program}{w:World}{K:Faa}{elts:List Expr}{x1:Nat}{pos:Pos}(a b z TI TO i1 i2:Addr)(D:ZA z TI TO i1 i2 [i1,a] [i2,b])(na:a≠i1)(nb:b≠i2) :
  Gn P w K (.Tuple elts x1 pos) (JR K a b) [z,TI,TO,i1,i2] z (fun i h=>IsZip h z TI TO .none/\IsPair h TI (.ref i1) (.ref i2)/\(∃p q,IsPair h TO p q)/\h.IsListIter i1 a i/\h.IsTupleIter i2 b i) where
 mem:=by simp
 obj:=fun i h st c hc=>by
  obtain⟨hz,hTI,⟨p,q,hTO⟩,h1,h2⟩:=st
  simp only[AS,DI,or_false]at hc
  rcases hc with rfl|rfl|rfl|rfl|rfl
  .exact⟨_,hz,fun v z=>by cases z⟩
  .exact⟨_,hTI,fun v z=>by cases z⟩
  .exact⟨_,hTO,fun v z=>by cases z⟩
  .obtain⟨o,e,c,d⟩:=h1
   exact⟨o,e,fun v z=>by rw[d]at z;cases z⟩
  .obtain⟨o,e,c,d⟩:=h2
   exact⟨o,e,fun v z=>by rw[d]at z;cases z⟩
 keep:=fun i h h' st k=>by
  obtain⟨hz,hTI,⟨p,q,hTO⟩,h1,h2⟩:=st
  exact⟨k z (by simp) _ hz,k TI (by simp) _ hTI,⟨p,q,k TO (by simp) _ hTO⟩,h1.at fun o e=>k i1 (by simp) o e,h2.at fun o e=>k i2 (by simp) o e⟩
 item:=by
  intro X hP hw hK hc i pins s σ H E I hf st hg
  subst hP hw hK
  obtain⟨xs,ys,x,y,hq1,hq2,hx,hy⟩:=hg
  obtain⟨its1,rv1,p1,_⟩:=I.list hq1
  obtain⟨its2,rv2,p2,_⟩:=I.tuple hq2
  obtain⟨hz,hTI,⟨pa,qa,hTO⟩,h1,h2⟩:=st
  have p1':s.heap.IsList a its1.toArray:=p1.isList
  have p2':s.heap.IsTuple b its2.toArray:=p2
  have l1:=rv1.length
  have l2:=rv2.length
  obtain⟨b1,_⟩:=As.1 hx
  obtain⟨b2,_⟩:=As.1 hy
  have hn:X.A.in1.handled=none:=I.ok.hd hc
  have d1:=Draws.list (prog:=X.prog) (w:=X.w) hn i1 a na its1.toArray
  have d2:=Jq (prog:=X.prog) (w:=X.w) hn i2 b nb its2.toArray
  refine QR (k:=i) D d1 d2 hz hTI hTO ⟨h1,p1'⟩ ⟨h2,p2'⟩ (by simp;lia) (by simp;lia) (fun _ _ u v hh tk hu hv hz' hTO' h1' h2' hT hk=>⟨_,rfl,?_⟩) fun q=>absurd q (by simp;lia)
  obtain⟨u',hu',ru⟩:=rv1.get hx
  obtain⟨v',hv',rv⟩:=rv2.get hy
  have eu:u'=u:=by simpa[hu'] using hu
  have ev:v'=v:=by simpa[hv'] using hv
  subst eu ev
  refine TL hz' fun h3 hz3 hs3=>?_
  have hTn:H s.heap.objs.size=none:=I.hok.fresh (Ah _)
  have lts:∀c∈[z,TI,TO,i1,i2],c<s.heap.objs.size:=fun c hc=>by
   simp only[AS,DI,or_false]at hc
   rcases hc with rfl|rfl|rfl|rfl|rfl
   .exact AA hz
   .exact AA hTI
   .exact AA hTO
   .obtain⟨_,e,_⟩:=h1;exact AA e
   .obtain⟨_,e,_⟩:=h2;exact AA e
  have I1:A2 X pins σ (upd H s.heap.objs.size (.tup [x,y])) {s with heap:=s.heap.push {cls:=.type "tuple",data:=.seq #[u',v']}}:=I.laid (t':=s.toks) (o:=.tup [x,y]) (fun b o e=>Aw _ e) (Ah _) ⟨Ar rfl,[u',v'],.cons ru (.cons rv .nil),ED.new _ _⟩
  have I2:A2 X pins σ (upd H s.heap.objs.size (.tup [x,y])) {s with heap:=h3,toks:=tk}:=by
   refine A2.turnedL (s:={s with heap:=s.heap.push {cls:=.type "tuple",data:=.seq #[u',v']}}) (h':=h3) (ch:=[z,TI,TO,i1,i2]) (t':=tk) I1 (fun b o hb q=>?_) (fun b hb=>?_)
   .simp only[AS,DI,or_false,not_or]at hb
    obtain⟨n1,n2,n3,n4,n5⟩:=hb
    show h3.get? b=some o
    rw[hs3.2 b n1]
    rcases Ng q with⟨rfl,rfl⟩|q
    .exact hT
    .exact hk b o n1 n3 n4 n5 q
   .obtain⟨f0,f1,f2,f3,f4,f5⟩:=hf b hb
    exact⟨by rw[Af (AN (lts b hb))];exact f0,f1,f2,f3,f4,f5⟩
  have k3:∀c,c≠z->∀o,hh.get? c=some o->h3.get? c=some o:=fun c hc o e=>(hs3.2 c hc).trans e
  refine⟨.ref s.heap.objs.size,_,I2,rfl,⟨x,y,_,fun zs hy=>by rw[I.list_inj hy hq1];exact hx,fun zs hy'=>by rw[I.tuple_inj hy' hq2];exact hy,hTn,rfl,rfl⟩,⟨hz3,k3 TI D.Iz _ (hk TI _ D.Iz D.IO D.Ia D.Ib hTI),⟨u',v',k3 TO D.Oz _ hTO'⟩,h1'.1.at (k3 i1 D.az),h2'.1.at (k3 i2 D.bz)⟩,fun b hb=>?_⟩
  rw[Af (AN (lts b hb))]
  exact(hf b hb).1
 done:=by
  intro X hP hw hK hc i pins s σ H E I hf st hg
  subst hP hw hK
  obtain⟨xs,ys,hq1,hq2,b1,b2,hl⟩:=hg
  obtain⟨its1,rv1,p1,_⟩:=I.list hq1
  obtain⟨its2,rv2,p2,_⟩:=I.tuple hq2
  obtain⟨hz,hTI,⟨pa,qa,hTO⟩,h1,h2⟩:=st
  have p1':s.heap.IsList a its1.toArray:=p1.isList
  have p2':s.heap.IsTuple b its2.toArray:=p2
  have l1:=rv1.length
  have l2:=rv2.length
  have hn:X.A.in1.handled=none:=I.ok.hd hc
  have d1:=Draws.list (prog:=X.prog) (w:=X.w) hn i1 a na its1.toArray
  have d2:=Jq (prog:=X.prog) (w:=X.w) hn i2 b nb its2.toArray
  refine QR (k:=i) D d1 d2 hz hTI hTO ⟨h1,p1'⟩ ⟨h2,p2'⟩ (by simp;lia) (by simp;lia) (fun e1 e2=>absurd e2 (by simp at e1 ⊢;lia)) fun _ h' tk hk=>⟨rfl,?_⟩
  refine I.turnedL (ch:=[z,TI,TO,i1,i2]) (t':=tk) (fun b o hb q=>?_) hf
  simp only[AS,DI,or_false,not_or]at hb
  obtain⟨n1,n2,n3,n4,n5⟩:=hb
  exact hk b o n1 n3 n4 n5 q
 self:=fun _ _ _ _ _ st h=>by
  obtain⟨hz,_⟩:=st
  exact Li hz h
theorem WT (a b:Addr)(xs ys:Array Value) :
  Meets (Builtin.«zip.__new__» ⟨[.type "zip",.ref a,.ref b],[]⟩) (fun _ R s=>s.heap.IsList a xs/\s.heap.IsTuple b ys/\
   ∀h',IsZip h' (s.heap.objs.size+4) (s.heap.objs.size+2) (s.heap.objs.size+3) .none->IsPair h' (s.heap.objs.size+2) (.ref s.heap.objs.size) (.ref (s.heap.objs.size+1))->IsPair h' (s.heap.objs.size+3) .none .none->
    h'.IsListIter s.heap.objs.size a 0->h'.IsTupleIter (s.heap.objs.size+1) b 0->(∀c o,s.heap.get? c=some o->h'.get? c=some o)->R (.ok (.ret (.ref (s.heap.objs.size+4)))) {s with heap:=h'}):=
 .of_wp fun prog w A R s h=>by
  obtain⟨hp,g,d,tk,os⟩:=s
  obtain⟨t1,t2,h⟩:=h
  have hs:=sub_zip
  have u1:Heap.IsList (Shared.heap ⟨hp,g,d,tk,os⟩) a xs:=t1
  have u2:Heap.IsTuple (Shared.heap ⟨hp.push {cls:=.type "list_iterator",data:=.fields #[.ref a,.int 0 0]},g,d,tk,os⟩) b ys:=Heap.IsTuple.push t2 _
  wp_walk using Nq u1,Pu u2
  refine⟨_,rfl,?_⟩
  have key:∀(n1 n2 n3 n4:Nat) (h':Heap),n1=hp.objs.size+1->n2=hp.objs.size+2->n3=hp.objs.size+3->n4=hp.objs.size+4->IsZip h' n4 n2 n3 .none->IsPair h' n2 (.ref hp.objs.size) (.ref n1)->IsPair h' n3 .none .none->
    h'.IsListIter hp.objs.size a 0->h'.IsTupleIter n1 b 0->(∀c o,hp.get? c=some o->h'.get? c=some o)->R (.ok (.ret (.ref n4))) ⟨h',g,d,tk,os⟩:=by
   rintro _ _ _ _ h' rfl rfl rfl rfl
   exact h h'
  refine key (hp.push {cls:=.type "list_iterator",data:=.fields #[.ref a,.int 0 0]}).objs.size _ _ _ _ ?e1 ?e2 ?e3 ?e4 (B8 _ rfl) ?g5 ?g6 ?g7 ?g8 ?g9
  case g5=>exact Aw _ (Aw _ (B8 _ rfl))
  case g6=>exact Aw _ (B8 _ rfl)
  case g7=>exact⟨_,Aw _ (Aw _ (Aw _ (Aw _ (B8 _ rfl)))),rfl,rfl⟩
  case g8=>exact⟨_,Aw _ (Aw _ (Aw _ (B8 _ rfl))),rfl,rfl⟩
  case g9=>exact fun c o e=>Aw _ (Aw _ (Aw _ (Aw _ (Aw _ e))))
  all_goals simp only[Gf]
def Y4 (K:Faa)(ta:TA):TI:=fun σ H R=>ta σ H fun vs H1=>∃a b:Addr,vs=[.ref a,.ref b]/\(∃xs,A5 K H1 a xs)/\(∃ys,A9 K H1 b ys)/\R (JR K a b) H1
theorem Z0 {X:Cx}{a b:Expr}{ta:TA}{p pos:Pos}{elts:List Expr}{x1:Nat}{pos2:Pos}(hg:Gl X "zip")(hm:X.mg "zip"=none)(ha:PA X [a,b] ta)(hs:starEach [a,b] X.env=[(false,eval a X.env),(false,eval b X.env)]:=by rfl)(hs2:starEach [b] X.env=[(false,eval b X.env)]:=by rfl) :
  PI X (.Tuple elts x1 pos2) (.Call (.Name "zip" p) [a,b] [] pos) (Y4 X.K ta):=by
 intro pins s σ H R I h
 refine Call_ (Ed I hg hm boot_zip (Ge (Ax (ha pos pins s σ H _ I h) fun us s1 zz=>?_) (by rw[hs,hs2]) (by rw[hs2];rfl)))
 obtain⟨vs,H1,I1,r1,q1⟩:=zz
 obtain⟨l1,l2,rfl,⟨xs,hq1⟩,⟨ys,hq2⟩,q⟩:=q1
 cases r1 with
 |
  cons r rr=>
  cases rr with
  |
   cons r' rr=>
   cases rr
   cases r
   cases r'
   obtain⟨its1,rv1,p1,_⟩:=I1.list hq1
   obtain⟨its2,rv2,p2,_⟩:=I1.tuple hq2
   have lt1:l1<s1.heap.objs.size:=(let ⟨_,e,_⟩:=p1.isList;AA e)
   have lt2:l2<s1.heap.objs.size:=p2.lt
   refine callType_new F.called_zip (by decide) (F.typeCall_zip_2 _ _) (F.newCall_zip_2 _ _) (fun obj=>F.args_object_init_3 obj _ _) F.entry_zip_new (WT l1 l2 its1.toArray its2.toArray) ⟨p1.isList,p2,fun h' hz hTI hTO h1 h2 hk=>⟨⟨_,hz,rfl⟩,?_⟩⟩
   refine Li hz ?_
   refine⟨_,[s1.heap.objs.size+4,s1.heap.objs.size+2,s1.heap.objs.size+3,s1.heap.objs.size,s1.heap.objs.size+1],_,_,H1,rfl,I1.kept (t':=s1.toks) hk,Zh l1 l2 _ _ _ _ _ ⟨?_,?_,?_,?_,?_,?_,?_,?_,?_,?_,?_,?_,?_,?_,?_⟩ ?_ ?_,⟨hz,hTI,⟨_,_,hTO⟩,h1,h2⟩,fun b hb=>?_,q⟩
   case refine_18=>
    simp only[AS,DI,or_false]at hb
    have hb':s1.heap.objs.size<=b:=by
     rcases hb with rfl|rfl|rfl|rfl|rfl
     .exact CI _ 4
     .exact CI _ 2
     .exact CI _ 3
     .exact Ah _
     .exact CI _ 1
    exact I1.fpOk hb' (I1.hok.fresh hb')
   all_goals first
    |exact AN lt1
    |exact AN (BS lt2 (CI _ _))
    |(show(_:Nat)≠_;lia)
    |(
      simp only[AS,DI,or_false,not_or]
      exact⟨by show(_:Nat)≠_;lia,by first
       |exact BU lt1
       |exact BU lt2
       |exact BU (BS lt1 (CI _ _))
       |exact BU (BS lt2 (CI _ _))⟩)
theorem Wi {K:Faa}{a b:Addr}{xs ys:List V}{g:TG}{tb:TS}{D:CL}{σ:St}{H:Hp}(hlen:ys.length<=xs.length)(Pv:Nat->St->Hp->Prop)(h0:Pv 0 σ H)(hl:∀i σ H,i<=ys.length->Pv i σ H->A5 K H a xs/\A9 K H b ys)
  (hs:∀i x y T σ H,xs[i]?=some x->ys[i]?=some y->Pv i σ H->H T=none->g (.ref T) σ (upd H T (.tup [x,y])) fun σ2 H2=>tb {D with nx:=Pv (i+1),ct:=Pv (i+1),bk:=D.nx} σ2 H2) (hd:∀σ H,Pv ys.length σ H->D.nx σ H) :
  ∃W:Nat->Nat->St->Hp->Prop,(∃m,W 0 m σ H)/\∀i m σ H,W i m σ H->
   ((JR K a b).stop i H/\D.nx σ H)\/((JR K a b).go i H/\∃N:St->Hp->Prop,(∀σ' H',N σ' H'->∃m',m'<m/\W (i+1) m' σ' H')/\∀x H',(JR K a b).yld i H x H'->g x σ H' fun σ2 H2=>tb {D with nx:=N,ct:=N,bk:=D.nx} σ2 H2):=by
 refine⟨fun i m σ H=>m=ys.length-i/\i<=ys.length/\Pv i σ H,⟨ys.length,by simp,Bk _,h0⟩,?_⟩
 rintro i m σ H ⟨rfl,hi,p⟩
 obtain⟨q1,q2⟩:=hl i σ H hi p
 by_cases hlt:i<ys.length
 .refine .inr ⟨⟨xs,ys,xs[i],ys[i],q1,q2,AC (by lia),AC hlt⟩,Pv (i+1),fun σ' H' p'=>⟨ys.length-(i+1),by lia,rfl,hlt,p'⟩,fun v H' yy=>?_⟩
  obtain⟨x,y,T,hx,hy,hT,rfl,rfl⟩:=yy
  exact hs i x y T σ H (hx xs q1) (hy ys q2) p hT
 .have e:i=ys.length:=by lia
  subst e
  exact .inl ⟨⟨xs,ys,q1,q2,by lia,Ah _,.inr rfl⟩,hd σ H p⟩
abbrev Cw (h:Heap)(T:Addr)(a b c:Value):Prop:=h.get? T=some {cls:=.type "tuple",data:=.seq #[a,b,c]}
section
variable {prog:Program}{w:World}{A:Around}{E:Value->Shared->Prop}{s:Shared}
theorem Og {T:Addr}{a b c x:Value}{k:Nat}{Q:Unit->Shared->Prop}(hT:Cw s.heap T a b c)
  (h:∀h',h'.get? T=some {cls:=.type "tuple",data:=.seq ((#[a,b,c]:Array Value).setIfInBounds k x)}->Heap.SameBut T s.heap h'->Q () {s with heap:=h'}) :
  wpAny (model prog w) A (updateSeq T (·.setIfInBounds k x)) Q E s:=by
 refine ID hT rfl (h _ ?_ (Gg ..))
 rw[DG _ hT rfl]
 simp[Obj.mapSeq]
structure ZB (z TI TO i1 i2 i3:Addr)(f g e:List Addr):Prop where
 zf:z∉f
 zg:z∉g
 ze:z∉e
 of:TO∉f
 og:TO∉g
 oe:TO∉e
 f2:i2∉f
 f3:i3∉f
 g1:i1∉g
 g3:i3∉g
 e1:i1∉e
 e2:i2∉e
 Iz:TI≠z
 Oz:TO≠z
 az:i1≠z
 bz:i2≠z
 cz:i3≠z
 IO:TI≠TO
 Ia:TI≠i1
 Ib:TI≠i2
 Ic:TI≠i3
 Oa:TO≠i1
 Ob:TO≠i2
 Oc:TO≠i3
theorem XH {z TI TO i1 i2 i3:Addr}{f g e:List Addr}{n k:Nat}{P R V3:Nat->Value->Prop}{S T U:Nat->Heap->Prop}(Z:ZB z TI TO i1 i2 i3 f g e)(D1:Draws prog w A i1 f n P S)(D2:Draws prog w A i2 g n R T)(D3:Draws prog w A i3 e n V3 U){a b c:Value}{Q:Value->Shared->Prop}
  (hz:IsZip s.heap z TI TO .none) (hI:Cw s.heap TI (.ref i1) (.ref i2) (.ref i3)) (hO:Cw s.heap TO a b c) (s1:S k s.heap) (s2:T k s.heap) (s3:U k s.heap) (le1:k<=n)
  (q:k<n->∀x y v h' tk,P k x->R k y->V3 k v->IsZip h' z TI TO (rawInt s.heap.objs.size)->Cw h' TO x y v->S (k+1) h'->T (k+1) h'->U (k+1) h'->Cw h' s.heap.objs.size x y v->
   (∀c o,c≠z->c≠TO->c≠i1->c≠i2->c≠i3->s.heap.get? c=some o->h'.get? c=some o)->Q (.ref s.heap.objs.size) {s with heap:=h',toks:=tk})
  (qe:k=n->∀h' e tk,(∀c o,c≠z->c≠TO->c≠i1->c≠i2->c≠i3->s.heap.get? c=some o->h'.get? c=some o)->(∃o,h'.get? e=some o/\o.cls = .type "StopIteration")->E (.ref e) {s with heap:=h',toks:=tk}) :
  wpAny (model prog w) A (Builtin.«zip.__next__» ⟨[.ref z],[]⟩) (fun fin s'=>∃v,fin = .done (.ret v)/\Q v s') E s:=by
 change wpAny _ _ (field (.ref z) 2>>=_) _ _ _
 apply A1
 apply D9 hz rfl (x:=.bool false) rfl
 change wpAny _ _ (field (.ref z) 3>>=_) _ _ _
 apply A1
 apply D9 hz rfl (x:=.ref TI) rfl
 apply A1
 apply EI hI rfl
 change wpAny _ _ (Builtin.SmallTypes.ownedTupleIsFree (.ref z)>>=_) _ _ _
 apply A1
 unfold Builtin.SmallTypes.ownedTupleIsFree
 apply A1
 apply D9 hz rfl (x:=.none) rfl
 apply Ae
 simp only[Iy]
 apply A1
 apply Nt
 apply A1
 apply D9 hz rfl (x:=.ref TO) rfl
 apply A1
 apply F8 hz (by simp)
 intro hA zA bA
 have zA':IsZip hA z TI TO .ellipsis:=zA
 clear zA
 have oA:Cw hA TO a b c:=bA.extBut _ _ Z.Oz hO
 have sA:=mv D1 s1 bA.extBut Z.zf
 have tA:=mv D2 s2 bA.extBut Z.zg
 have uA:=mv D3 s3 bA.extBut Z.ze
 apply A1
 simp only[List.zipIdx_cons,List.zipIdx_nil,Na,List.forIn_nil]
 apply A1
 apply A1
 apply Nu
 change wpAny _ _ (Builtin.SmallTypes.nextOf (.ref i1)>>=_) _ _ _
 apply A1
 rcases Tu le1 with l1|rfl
 rotate_left
 .apply D1.done _ _ _ sA
  rintro h' e kp ⟨o,ge,ce⟩
  have z':IsZip h' z TI TO .ellipsis:=kp _ _ Z.az.symm zA'
  have ne:e≠z:=fun q=>by subst q;rw[z']at ge;cases ge;simp at ce
  apply F8 z' (by simp)
  intro h2 _ b2
  exact qe rfl h2 e s.toks (fun c o c1 _ c3 _ _ x=>b2.extBut _ _ c1 (kp _ _ c3 (bA.extBut _ _ c1 x))) ⟨o,b2.extBut _ _ ne ge,ce⟩
 apply D1.item k _ _ _ l1 sA
 intro x hB t1 px sB bB
 apply Ae
 have oB:Cw hB TO a b c:=bB.extBut _ _ Z.Oa oA
 have zB:IsZip hB z TI TO .ellipsis:=bB.extBut _ _ Z.az.symm zA'
 have tB:=mv D2 tA bB.extBut Z.g1
 have uB:=mv D3 uA bB.extBut Z.e1
 apply A1
 apply EI oB rfl
 apply A1
 apply Og oB
 intro hC oC bC
 have oC':Cw hC TO x b c:=oC
 clear oC
 have zC:IsZip hC z TI TO .ellipsis:=bC.extBut _ _ Z.Oz.symm zB
 have sC:=mv D1 sB bC.extBut Z.of
 have tC:=mv D2 tB bC.extBut Z.og
 have uC:=mv D3 uB bC.extBut Z.oe
 apply A1
 apply FS
 apply Ae
 have upC:∀c o,c≠z->c≠TO->c≠i1->s.heap.get? c=some o->hC.get? c=some o:=fun c o c1 c2 c3 e=>bC.extBut _ _ c2 (bB.extBut _ _ c3 (bA.extBut _ _ c1 e))
 apply A1
 apply A1
 apply Nu
 change wpAny _ _ (Builtin.SmallTypes.nextOf (.ref i2)>>=_) _ _ _
 apply A1
 apply D2.item k _ _ _ l1 tC
 intro y hD t2 py tD bD
 apply Ae
 have oD:Cw hD TO x b c:=bD.extBut _ _ Z.Ob oC'
 have zD:IsZip hD z TI TO .ellipsis:=bD.extBut _ _ Z.bz.symm zC
 have sD:=mv D1 sC bD.extBut Z.f2
 have uD:=mv D3 uC bD.extBut Z.e2
 apply A1
 apply EI oD rfl
 apply A1
 apply Og oD
 intro hE oE bE
 have oE':Cw hE TO x y c:=oE
 clear oE
 have zE:IsZip hE z TI TO .ellipsis:=bE.extBut _ _ Z.Oz.symm zD
 have sE:=mv D1 sD bE.extBut Z.of
 have tE:=mv D2 tD bE.extBut Z.og
 have uE:=mv D3 uD bE.extBut Z.oe
 apply A1
 apply FS
 apply Ae
 apply A1
 apply A1
 apply Nu
 change wpAny _ _ (Builtin.SmallTypes.nextOf (.ref i3)>>=_) _ _ _
 apply A1
 apply D3.item k _ _ _ l1 uE
 intro v hF t3 pv uF bF
 apply Ae
 have oF:Cw hF TO x y c:=bF.extBut _ _ Z.Oc oE'
 have zF:IsZip hF z TI TO .ellipsis:=bF.extBut _ _ Z.cz.symm zE
 have sF:=mv D1 sE bF.extBut Z.f3
 have tF:=mv D2 tE bF.extBut Z.g3
 apply A1
 apply EI oF rfl
 apply A1
 apply Og oF
 intro hG oG bG
 have oG':Cw hG TO x y v:=oG
 clear oG
 have zG:IsZip hG z TI TO .ellipsis:=bG.extBut _ _ Z.Oz.symm zF
 have sG:=mv D1 sF bG.extBut Z.of
 have tG:=mv D2 tF bG.extBut Z.og
 have uG:=mv D3 uF bG.extBut Z.oe
 have upG:∀c o,c≠z->c≠TO->c≠i1->c≠i2->c≠i3->s.heap.get? c=some o->hG.get? c=some o:=fun c o c1 c2 c3 c4 c5 e=>bG.extBut _ _ c2 (bF.extBut _ _ c5 (bE.extBut _ _ c2 (bD.extBut _ _ c4 (upC c o c1 c2 c3 e))))
 have sz:hG.objs.size=s.heap.objs.size:=by rw[bG.1,bF.1,bE.1,bD.1,bC.1,bB.1,bA.1]
 apply A1
 apply FS
 apply Ae
 apply Ae
 apply A1
 apply EI oG' rfl
 apply A1
 refine Pt ?_
 change wpAny _ _ (Builtin.SmallTypes.ownedTupleHandOut (.ref z) (.ref hG.objs.size)>>=_) _ _ _
 apply A1
 unfold Builtin.SmallTypes.ownedTupleHandOut
 have zH:IsZip (hG.push {cls:=.type "tuple",data:=.seq #[x,y,v]}) z TI TO .ellipsis:=Aw _ zG
 have pH:Cw (hG.push {cls:=.type "tuple",data:=.seq #[x,y,v]}) hG.objs.size x y v:=B8 _ rfl
 apply A1
 apply F8 zH (by simp)
 intro hJ zJ bJ
 have zJ':IsZip hJ z TI TO (rawInt hG.objs.size):=zJ
 clear zJ
 apply F8 zJ' (by simp)
 intro hK zK bK
 have zK':IsZip hK z TI TO (rawInt hG.objs.size):=zK
 clear zK
 have far:hG.objs.size≠z:=BU (AA zG)
 have up:Heap.ExtBut z hG hK:=fun c o c1 e=>bK.extBut _ _ c1 (bJ.extBut _ _ c1 (Aw _ e))
 have pK:Cw hK hG.objs.size x y v:=bK.extBut _ _ far (bJ.extBut _ _ far pH)
 apply Ae
 refine⟨_,rfl,?_⟩
 have:=q l1 x y v hK t3 px py pv (by rw[←sz];exact zK') (up _ _ Z.Oz oG') (mv D1 sG up Z.zf) (mv D2 tG up Z.zg) (mv D3 uG up Z.ze) (by rw[←sz];exact pK) fun c o c1 c2 c3 c4 c5 e=>up c o c1 (upG c o c1 c2 c3 c4 c5 e)
 rw[←sz]at this
 exact this
theorem S3 {z TI TO i1 i2 i3:Addr}{f g e:List Addr}{n k:Nat}{P R V3:Nat->Value->Prop}{S T U:Nat->Heap->Prop}(Z:ZB z TI TO i1 i2 i3 f g e)(D1:Draws prog w A.in1 i1 f n P S)(D2:Draws prog w A.in1 i2 g n R T)(D3:Draws prog w A.in1 i3 e n V3 U){a b c:Value}{Q:Option Value->Shared->Prop}
  (hz:IsZip s.heap z TI TO .none) (hI:Cw s.heap TI (.ref i1) (.ref i2) (.ref i3)) (hO:Cw s.heap TO a b c) (s1:S k s.heap) (s2:T k s.heap) (s3:U k s.heap) (le1:k<=n)
  (q:k<n->∀x y v h' tk,P k x->R k y->V3 k v->IsZip h' z TI TO (rawInt s.heap.objs.size)->Cw h' TO x y v->S (k+1) h'->T (k+1) h'->U (k+1) h'->Cw h' s.heap.objs.size x y v->
   (∀c o,c≠z->c≠TO->c≠i1->c≠i2->c≠i3->s.heap.get? c=some o->h'.get? c=some o)->Q (some (.ref s.heap.objs.size)) {s with heap:=h',toks:=tk})
  (qe:k=n->∀h' tk,(∀c o,c≠z->c≠TO->c≠i1->c≠i2->c≠i3->s.heap.get? c=some o->h'.get? c=some o)->Q none {s with heap:=h',toks:=tk}) :
  wpAny (model prog w) A (pyNext (.ref z)) Q E s:=by
 have ty:s.TypeIs (.ref z) "zip":=⟨_,hz,rfl⟩
 unfold pyNext
 apply A1
 apply Nv
 apply wpAny_callSpecial?_slot (name:=Str.ofString "__next__") ty F.slot_zip_next
 refine Gj F.slot_zip_next ty F.entry_zip_next (XH Z D1 D2 D3 hz hI hO s1 s2 s3 le1 ?_ ?_) (F.args_zip_next_1 _)
 .intro l1 x y v h' tk a1 a2 a3 a4 a5 a6 a7 a8 a9 a10
  exact Ae (q l1 x y v h' tk a1 a2 a3 a4 a5 a6 a7 a8 a9 a10)
 .rintro l h' e tk kp ⟨o,ge,ce⟩
  exact A1 (Nw (T:="StopIteration") (b:=true) ⟨o,ge,ce⟩ Nx (Ae (qe l h' tk kp)))
end
theorem Wy (a b c:Value):checkTypeCall "zip" ⟨[a,b,c],[]⟩=pure ():=by kernel_rfl
theorem Xy (a b c:Value):checkBuiltinCall "zip.__new__" ⟨[.type "zip",a,b,c],[]⟩=pure ():=by kernel_rfl
theorem Zb (a b c d:Value):argsOk "object.__init__" ⟨[a,b,c,d],[]⟩:=by
 first
  |exact argsOk_of_eq (by kernel_rfl)
  |(unfold argsOk;kernel_rfl)
  |kernel_rfl
structure Lq.Ok7 (q:Lq)(L:List Lq):Prop where
 ok:q.Ok L.length
 l1:q.lo.1=""\/∃y∈L,q.lo.1=y.nm
 h1:q.hi.1=""\/∃y∈L,q.hi.1=y.nm
 lb : -(5+20*(L.length:Int))<=q.lo.2/\q.lo.2<=5+20*(L.length:Int)
 hb : -(5+20*(L.length:Int))<=q.hi.2/\q.hi.2<=5+20*(L.length:Int)
def IM (L:List Lq):Prop := ∀(j:Nat) (q:Lq),L[j]?=some q->q.Ok7 (L.take j)
theorem IM.ok {L:List Lq}(h:IM L):Md L:=fun j q hq=>by
 have:=(h j q hq).ok
 rwa [AV,Ij (FP (As.mp hq).1)]at this
theorem ZJ {p q:Lq}(h:BZ (qT p) (qT q)=true):p=q:=by
 obtain⟨a,⟨b1,b2⟩,⟨c1,c2⟩,d,e⟩:=p
 obtain⟨a',⟨b1',b2'⟩,⟨c1',c2'⟩,d',e'⟩:=q
 simp[qT,BZ,BK,DX]at h
 obtain⟨h1,⟨h2,h3⟩,⟨h4,h5⟩,h6,h7⟩:=h
 subst h1 h2 h3 h4 h5 h6 h7
 rfl
theorem RT:∀{A B:List Lq},BK (A.map qT) (B.map qT)=true->A=B
 |[],[],_=>rfl
 |[],b::B,h=>by simp[BK]at h
 |a::A,[],h=>by simp[BK]at h
 |
  a::A,b::B,h=>by
  rw[BY,BY,BK,F7]at h
  rw[ZJ h.1,RT h.2]
theorem KG:∀(f:Bj) (p:List Int) (j:Nat),(Fo.swF f p j).length<=FA f
 |.nil,_,_=>Ah _
 |.leaf _ _ r,p,j=>Nat.le_succ_of_le (KG r p (j+1))
 |
  .node _ _ s r,p,j=>by
  have h1:=KG s (p++[(j:Int)]) 0
  have h2:=KG r p (j+1)
  show(_::(_++_)).length<=FA s+FA r+1
  rw[B9,AF]
  lia
def vb:Nat->Int
 |0=>0
 |j+1=>vb j+(5+20*(j:Int))
def cn:Nat->Nat
 |0=>1
 |j+1=>cn j*(2*(vb (j+1)).toNat+1)
theorem Qd:∀j,0<=vb j
 |0=>GP _
 |j+1=>by have:=Qd j;show 0<=vb j+(5+20*(j:Int));lia
theorem RK {j:Nat}(h:j<=3):cn j<=101321:=by
 match j,h with
 |0,_=>decide
 |1,_=>decide
 |2,_=>decide
 |3,_=>decide
def FZ (m:Int)(v:List Int):Prop := ∀n∈v,-m<=n/\n<=m
theorem FZ.mono {m k:Int}{v:List Int}(h:FZ m v)(l:m<=k):FZ k v:=fun n hn=>by have:=h n hn;lia
theorem FZ.snoc {m:Int}{v:List Int}{n:Int}(h:FZ m v)(h1 : -m<=n)(h2:n<=m):FZ m (v++[n]):=fun x hx=>by
 rcases BO.mp hx with z|z
 .exact h x z
 .rw[Bz.mp z];exact⟨h1,h2⟩
def Mp (m:Int)(zs:List Str)(kvs:List (Ap×V)):Prop:=(∀z,z=("":Str)\/z∈zs->∃n,C0 kvs (.inr z)=some (.int n)/\-m<=n/\n<=m)/\kvs.length<=zs.length+1
theorem Mp.put {m:Int}{zs:List Str}{kvs:List (Ap×V)}{z:Str}{n:Int}(h:Mp m zs kvs)(h1 : -m<=n)(h2:n<=m):Mp m (zs++[z]) (CM kvs (.inr z) (.int n)):=by
 refine⟨fun y hy=>?_,?_⟩
 .by_cases c:z=y
  .subst c
   exact⟨n,by rw[Kg,Aj rfl],h1,h2⟩
  .rw[Kg,Ab (fun e=>c (Sum.inr.inj e).symm)]
   refine h.1 y ?_
   rcases hy with hy|hy
   .exact .inl hy
   .rcases BO.mp hy with hy|hy
    .exact .inr hy
    .exact absurd (Bz.mp hy).symm c
 .have:=OW kvs (Sum.inr z) (V.int n)
  have:=h.2
  rw[AF,Bf]
  lia
theorem Vu {ρ:List (Option Nat)}{σ:St}(o o' p:Option V):Lx (none::none::none::ρ) σ (o::o'::p::Cf ρ σ):=by
 refine⟨by unfold Cf;simp,fun j v e=>?_⟩
 rw[Kc,Kc,Kc]at e
 match j with
 |0=>simp at e
 |1=>simp at e
 |2=>simp at e
 |j+3=>simpa using e
end L2
namespace EX
open PySem PySem.Spec PyProof.Rows
def Cn (h:Heap)(e:Addr)(C:Value)(d:Option Addr)(tb:Value):Prop := ∃oe vs,h.get? e=some oe/\oe.cls=C/\oe.dict=d/\oe.data = .fields vs/\vs[1]?=some tb
def GG (h:Heap)(T:Addr)(fl:Value):Prop := ∃oT ts,h.get? T=some oT/\oT.data = .fields ts/\ts[3]?=some fl
def ER (fs ch:List Addr)(h h':Heap):Prop := ∀b o,h.get? b=some o->b∉ch->(b∉fs->h'.get? b=some o)/\∃sl,h'.get? b=some {o with slots:=sl}
theorem ER.mono {fs fs' ch ch':List Addr}{h h1:Heap}(a:ER fs ch h h1)(f:∀b∈fs,b∈fs')(c:∀b∈ch,b∈ch'):ER fs' ch' h h1:=fun x o e hc=>
 let ⟨p,q⟩:=a x o e fun z=>hc (c x z)
 ⟨fun hf=>p fun z=>hf (f x z),q⟩
section
variable {M:Model}{A:Around}{E:Value->Shared->Prop}{s:Shared}
theorem PL {base h:Heap}{l:List Env}{b:Addr}{o:Obj}{vs:Array Value}(hl:h.FunFrames base l)(ho:h.get? b=some o)(hd:o.data = .fields vs):b∉l.filterMap (·.frame):=fun hm=>by
 obtain⟨_,o',ho',hn⟩:=hl.mem hm
 rw[ho]at ho'
 cases ho'
 exact hn vs hd
theorem Qu {base:Heap}{env:Env}{outer:List Env}{L e:Addr}{C:Value}{d:Option Addr}{head tb:Value}{hadNext:Bool}{Q:Unit->Shared->Prop}
  (hfr:A.frames=some (env::outer)) (hl:s.heap.FunFrames base (env::outer)) (hf:env.frame=some L) (hx:Cn s.heap e C d tb)
  (h:∀h' T,s.heap.objs.size<=T->ER ((env::outer).filterMap (·.frame)) [e] s.heap h'->Cn h' e C d (.ref T)->GG h' T (rawInt L)->T≠e->Q () {s with heap:=h'}) :
  wpAny M A (do let a ←frameOf env;let pl ←entryPlaceOf L hadNext;let b ←EntryCells.newEntry head a .none (rawInt L) .none pl;setField (.ref e) 1 b) Q E s:=by
 obtain⟨oe,vs,he,hc,hdc,hd,h1⟩:=hx
 have hsz:1<vs.size:=(Ip.mp h1).1
 have hne:=PL hl he hd
 refine A1 (wpAny_frameOf_fun hfr hl hf fun h₁ hs₁=>?_)
 refine A1 (wpAny_entryPlaceOf fun pl hpl=>?_)
 unfold EntryCells.newEntry newFields
 refine A1 (Fu ?_ (hpl.sizeOk5 _ _ _ _ _))
 have he₁:h₁.get? e=some oe:=(hs₁.2.1 e hne).trans he
 generalize hob:({cls:=.type "traceback",dict:=none,data:=.fields ([head,.ref L,.none,rawInt L,.none]++(if pl.isEmpty then List.replicate 6 Value.none else pl)).toArray}:Obj)=ob
 have hobd:ob.data = .fields ([head,.ref L,.none,rawInt L,.none]++(if pl.isEmpty then List.replicate 6 Value.none else pl)).toArray:=by rw[←hob]
 have he₂:=Aw (h:=h₁) ob he₁
 have nf:ob.isFreed=false:=Obj.isFreed_of_fields hobd
 refine IB he₂ hd hsz ?_
 have hTe:h₁.objs.size≠e:=BU (AA he₁)
 have hd₃:=Obj.data_mapFields hd (·.setIfInBounds 1 (Value.ref h₁.objs.size))
 refine h _ h₁.objs.size (by rw[hs₁.1];exact Ah _) (fun b o hb hc=>?_) ?_ ?_ hTe
 .have hbe:b≠e:=fun z=>hc (by rw[z];exact Bz.mpr rfl)
  rw[DZ _ _ (Ne.symm hbe)]
  refine⟨fun hn=>Aw _ ((hs₁.2.1 b hn).trans hb),?_⟩
  obtain⟨sl,q⟩:=hs₁.2.2 b o hb
  exact⟨sl,Aw _ q⟩
 .exact⟨_,_,DG _ he₂ (Obj.isFreed_of_fields hd₃),by rw[Obj.cls_mapFields];exact hc,by obtain⟨c0,d0,dt,sl⟩:=oe;cases dt<;>exact hdc,hd₃,by simp[hsz]⟩
 .refine⟨ob,_,?_,hobd,by simp⟩
  rw[DZ _ _ (Ne.symm hTe)]
  exact B8 h₁ nf
theorem QH {base:Heap}{env:Env}{outer:List Env}{L e:Addr}{C:Value}{d:Option Addr}{Q:Unit->Shared->Prop}
  (hfr:A.frames=some (env::outer)) (hl:s.heap.FunFrames base (env::outer)) (hf:env.frame=some L) (hx:Cn s.heap e C d .none)
  (h:∀h' T,s.heap.objs.size<=T->ER ((env::outer).filterMap (·.frame)) [e] s.heap h'->Cn h' e C d (.ref T)->GG h' T (rawInt L)->T≠e->Q () {s with heap:=h'}) :
  wpAny M A (noteFrame (.ref e) env) Q E s:=by
 obtain⟨oe,vs,he,hc,hdc,hd,h1⟩:=id hx
 unfold noteFrame
 simp only[hf]
 refine A1 (D9 he hd h1 ?_)
 rw[Ab (by decide)]
 exact Qu hfr hl hf hx h
theorem c7 {base:Heap}{env:Env}{outer:List Env}{L e T0:Addr}{C:Value}{d:Option Addr}{Q:Unit->Shared->Prop}
  (hfr:A.frames=some (env::outer)) (hl:s.heap.FunFrames base (env::outer)) (hf:env.frame=some L) (hx:Cn s.heap e C d (.ref T0)) (ht:GG s.heap T0 .none) (hne:T0≠e)
  (h:∀h' T,s.heap.objs.size<=T->ER ((env::outer).filterMap (·.frame)) [e,T0] s.heap h'->Cn h' e C d (.ref T)->GG h' T (rawInt L)->T≠e->Q () {s with heap:=h'}) :
  wpAny M A (noteFrame (.ref e) env) Q E s:=by
 obtain⟨oe,vs,he,hc,hdc,hd,h1⟩:=id hx
 obtain⟨oT,ts,hT,hdT,h3⟩:=ht
 unfold noteFrame
 simp only[hf]
 refine A1 (D9 he hd h1 ?_)
 rw[Aj (show(Value.ref T0 != Value.none)=true from by simp)]
 refine A1 (D9 hT hdT h3 ?_)
 rw[Ab (show ¬((Value.none==rawInt L)=true) from by simp[rawInt])]
 refine A1 (IB hT hdT (Ip.mp h3).1 ?_)
 have other:∀b,b≠T0->(s.heap.update T0 (Obj.mapFields (·.setIfInBounds 3 Value.none))).get? b=s.heap.get? b:=fun b hb=>DZ _ _ (Ne.symm hb)
 have hTf:=PL hl hT hdT
 refine Qu (s:={s with heap:=s.heap.update T0 (Obj.mapFields (·.setIfInBounds 3 Value.none))}) hfr (hl.of_keeps fun b o hb hnf=>⟨o,(other b fun q=>by rw[q,hT]at hb;cases hb;exact hnf ts hdT).trans hb,rfl⟩) hf ⟨oe,vs,(other e (Ne.symm hne)).trans he,hc,hdc,hd,h1⟩ fun h' T hT0 hb hx' ht' hTe=>?_
 have hTn:s.heap.objs.size<=T:=by simpa[Heap.size_update] using hT0
 refine h h' T hTn (fun b o q hc=>?_) hx' ht' hTe
 have hbe:b∉[e]:=fun z=>hc (AS.mpr (.inl (Bz.mp z)))
 have hbT:b≠T0:=fun z=>hc (by rw[z];exact C6 _ BN)
 exact hb b o ((other b hbT).trans q) hbe
theorem MD {e T:Addr}{C:Value}{d:Option Addr}{fl:Value}{Q:Unit->Shared->Prop}(hx:Cn s.heap e C d (.ref T))(ht:GG s.heap T fl)(hne:T≠e)
  (h:∀h',ER [] [T] s.heap h'->Cn h' e C d (.ref T)->GG h' T .none->Q () {s with heap:=h'}):wpAny M A (setFlight (.ref e) none) Q E s:=by
 obtain⟨oe,vs,he,hc,hdc,hd,h1⟩:=id hx
 obtain⟨oT,ts,hT,hdT,h3⟩:=ht
 have hsz:3<ts.size:=(Ip.mp h3).1
 have other:∀b,b≠T->(s.heap.update T (Obj.mapFields (·.setIfInBounds 3 Value.none))).get? b=s.heap.get? b:=fun b hb=>DZ _ _ (Ne.symm hb)
 refine wpAny_setFlight_none he hd h1 hT hdT hsz (h _ (fun b o q hc=>?_) ⟨oe,vs,(other e (Ne.symm hne)).trans he,hc,hdc,hd,h1⟩ ⟨_,_,DG _ hT (Obj.isFreed_of_fields (Obj.data_mapFields hdT _)),Obj.data_mapFields hdT _,by simp[hsz]⟩)
 have hbT:b≠T:=fun z=>hc (by rw[z];exact BN)
 exact⟨fun _=>(other b hbT).trans q,o.slots,(other b hbT).trans q⟩
theorem Zf {e:Addr}{C:Value}{d:Option Addr}{Q:Unit->Shared->Prop}(hx:Cn s.heap e C d .none)(h:Q () s):wpAny M A (setFlight (.ref e) none) Q E s:=by
 obtain⟨oe,vs,he,hc,hdc,hd,h1⟩:=id hx
 unfold setFlight
 refine A1 (D9 he hd h1 ?_)
 rw[Ab (by decide)]
 exact Ae h
end
end EX
namespace EX
open PySem PySem.Spec PyProof.Rows
def JQ (h:Heap)(C:Addr)(bm:List Value):Prop := ∃nm q N bs hdct sn sub ab col dd k0 k1 k2 k3 k5 newId,h.get? C=some (excClassObj nm q C N bs bm hdct sn sub ab col dd k0 k1 k2 k3 k5 newId)
section
variable {M:Model}{A:Around}{E:Value->Shared->Prop}{s:Shared}{env:Env}
theorem cS {x:Sem Value}{Q:Flow->Shared->Prop}(hh:A.handled=none)
  (h:wpAny M A x (fun v s₁=>∃e d C bm,v = .ref e/\JQ s₁.heap C bm/\bm.contains (.type "BaseException")=true/\Cn s₁.heap e (.ref C) d .none/\E (.ref e) s₁) E s) :
  wpAny M A (raiseStmt env (some x) none) Q E s:=by
 unfold raiseStmt
 refine A1 (CV h (fun v s₁ h₁=>?_) fun _ _ x=>x)
 obtain⟨e,d,C,bm,rfl,⟨nm,q,N,bs,hdct,sn,sub,ab,col,dd,k0,k1,k2,k3,k5,newId,hC⟩,hbase,hx,hE⟩:=h₁
 have hcB:(Value.ref C::bm).contains (.type "BaseException")=true:=by rw[List.contains_cons,hbase,Bool.or_true]
 obtain⟨⟨c0,d0,dt,sl⟩,vs,he,hc,hdc,hd,h1⟩:=id hx
 obtain rfl:c0 = .ref C:=hc
 obtain rfl:dt = .fields vs:=hd
 obtain⟨hp,g,dr,tk,os⟩:=s₁
 repeat (first|with_reducible refine JJ he ?_|with_reducible refine JJ hC ?_|(with_reducible refine Px hC ?_;rw[hcB])|(refine A1 (Zf hx ?_))|wp_step)
 exact wpAny_raiseNew_none hh hE
theorem aO {e:Expr}{pos:Pos}{Q:Flow->Shared->Prop}(hh:A.handled=none)
  (h:wpAny M A (eval e env) (fun v s₁=>∃a d C bm,v = .ref a/\JQ s₁.heap C bm/\bm.contains (.type "BaseException")=true/\Cn s₁.heap a (.ref C) d .none/\E (.ref a) s₁) E s) :
  wpAny M A (exec (.Raise (some e) none pos) env) Q E s:=by
 rw[arm_exec_Raise]
 simp only[evalOpt,Option.map]
 refine A1 (JG (cS hh (A1 (CV h (fun v s₁ h₁=>A1 (JG (Ae h₁))) fun _ _ x=>x))))
theorem cC {h:Heap}{g:Array GenState}{dr:Drawn}{t:Nat}{os:OsState}{e C D:Addr}{bm bd:List Value}{d:Option Addr}{tb:Value}{Q:Bool->Shared->Prop}
  (kC:JQ h C bm) (kD:JQ h D bd) (hD:bd.contains (.type "BaseException")=true) (hx:Cn h e (.ref C) d tb)
  (hq:Q ((Value.ref C::bm).contains (.ref D)) ⟨h,g,dr,t,os⟩):wpAny M A (excMatches (.ref e) (.ref D)) Q E ⟨h,g,dr,t,os⟩:=by
 obtain⟨nm,q,N,bs,hdct,sn,sub,ab,col,dd,k0,k1,k2,k3,k5,newId,hC⟩:=kC
 obtain⟨nm',q',N',bs',hdct',sn',sub',ab',col',dd',k0',k1',k2',k3',k5',newId',hDc⟩:=kD
 obtain⟨oe,vs,he,hcls,hdc,hd,h1⟩:=hx
 have hcB:(Value.ref D::bd).contains (.type "BaseException")=true:=by rw[List.contains_cons,hD,Bool.or_true]
 have f:=tc_notTuple
 unfold excMatches
 generalize hb:(Value.ref C::bm).contains (.ref D)=b at hq
 repeat (any_goals (first|assumption|(with_reducible refine JJ he ?_;rw[hcls])|with_reducible refine JJ hDc ?_|(with_reducible refine Px hDc ?_;rw[hcB])|(with_reducible refine Px hC ?_;rw[hb])|wp_step))
 cases b<;>(wp_walk;exact hq)
end
end EX
namespace EX
open PySem PySem.Spec PySem.Calls PyProof.Rows
def Ub (x:Addr)(R:Result->Shared->Prop)(r:Result)(s':Shared):Prop:=match r with
 |.ok (.ret v)=>v = .none/\R (.ok (.ret (.ref x))) s'
 |.ok _=>False
 |.error e=>R (.error e) s'
abbrev Hk (C t:Addr):Obj:={cls:=.ref C,data:=.fields #[.ref t,.none,.none,.none,.bool false,.none]}
abbrev Jk (vs:List Value):Obj:={cls:=.type "tuple",data:=.seq vs.toArray}
section
variable {prog:Program}{w:World}{A:Around}{h:Heap}{g:Array GenState}{d:Drawn}{t:Nat}{os:OsState}{R:Result->Shared->Prop}
variable {nm q:Str}{C N:Addr}{bs bm bmB:List Value}{hdct:Bool}{sn:List Str}{sub:List Value}{ab:Bool}{col:Option Bool}{dd:Option Addr}{k0 k1 k2 k3 k5:Option Value}{B newId initId:String}
end
end EX
namespace EX
open PySem PySem.Spec PySem.Calls PyProof.Rows PySem.W PySem.Builtin PySem.Builtin.ObjectAttr
section
variable {prog:Program}{w:World}{A:Around}{E:Value->Shared->Prop}{s:Shared}{K:Frag}{x C:Addr}{ox:Obj}{od:Option Obj}{name:Str}{expr:Bool}
abbrev bmVE:List Value:=[.type "ValueError",.type "Exception",.type "BaseException",.type "object"]
def OY:List Value->List Value
 |.ref _::r=>OY r
 |l=>l
theorem Qv (self:Value):∀{l:List Value},OY l=bmVE->refuseLoop self "__setattr__" l=pure ()
 |[],e=>by cases e
 |.ref c::r,e=>by rw[refuseLoop_ref];exact Qv self (l:=r) e
 |.type n::r,e=>by rw[show Value.type n::r=bmVE from e];exact F.store_ValueError.passes self
 |.none::r,e=>by cases e
 |.bool _::r,e=>by cases e
 |.int _ _::r,e=>by cases e
 |.float _ _::r,e=>by cases e
 |.str _ _::r,e=>by cases e
 |.bytes _ _::r,e=>by cases e
 |.builtin _::r,e=>by cases e
def mroTail (K:Frag)(C:Addr):Bool:=(clsIn K C).any fun cd=>OY cd.mro==bmVE
def ClsT (h:Heap)(C N:Addr)(bm:List Value):Prop := ∃nm q bs hdct sn sub ab col dd k0 k1 k2 k3 k5,h.get? C=some (excClassObj nm q C N bs bm hdct sn sub ab col dd k0 k1 k2 k3 k5 "ValueError.__new__")/\OwnTail h bmVE bm
theorem ClsT.at {h:Heap}{C N:Addr}{bm:List Value}(x:ClsT h C N bm):JQ h C bm:=by
 obtain⟨nm,q,bs,hdct,sn,sub,ab,col,dd,k0,k1,k2,k3,k5,e,_⟩:=x
 exact⟨nm,q,N,bs,hdct,sn,sub,ab,col,dd,k0,k1,k2,k3,k5,_,e⟩
structure XC (K:Frag)(C:Addr):Prop where
 ga:findIn K (.ref C) "__getattribute__"=some (some (.builtin "BaseException.__getattribute__"))
 gh:findIn K (.ref C) "__getattr__"=some none
 be:mroIn K C (.type "BaseException")=some true
 sa:findIn K (.ref C) "__setattr__"=some (some (.builtin "object.__setattr__"))
 hd:hasDictIn K C=true
 mt:mroTail K C=true
 ob:mroIn K C (.type "object")=some true
 ct:∃N bm,∀h,K.In h->ClsT h C N bm
theorem Xj {v:Value}{Q:Unit->Shared->Prop}(X:K.In s.heap)(hx:s.heap.get? x=some ox)(hcl:ox.cls = .ref C)(hno:notCls ox=true)(hdn:ox.dict=none)(c:XC K C)(ha:findIn K (.ref C) name=some none)
  (hq:∀h' tk',(∀b o,b≠x->s.heap.get? b=some o->h'.get? b=some o)->h'.get? x=some {cls:=ox.cls,dict:=some s.heap.objs.size,data:=ox.data,slots:=ox.slots}->h'.Ns1 s.heap.objs.size (fun y=>if y=name then some v else none)->
   Q () {s with heap:=h',toks:=tk'}):wpAny (model prog w) A (setAttr (.ref x) name v) Q E s:=by
 obtain⟨h,g,d,t,os⟩:=s
 have I:InstAt h x ox C none:=⟨hx,hcl,hno,by rw[hdn];exact True.intro⟩
 have SF:=F.store_ValueError
 have L0:=I.type (M:=model prog w)
 have L1:=looks_findIn (M:=model prog w) X c.sa
 have L2:=looks_findIn (M:=model prog w) X ha
 obtain⟨cd,hc,ho⟩:=any_some c.mt
 obtain⟨cd',hc',hd'⟩:=any_some c.hd
 obtain rfl:cd=cd':=Cp (hc.symm.trans hc')
 have hm:Looks (model prog w) h (mroOf (.ref C)) cd.mro:=(looks_clsIn X hc).andThen .now
 have sub:Looks (model prog w) h (isInstance (.ref x) (.type "object")) true:=L0.andThen (looks_mroIn X c.ob)
 unfold setAttr callSpecial? specialOf
 refine A1 (wpAny_mkText (A1 (A1 (A1 (L0.at (L1.at ?_))))))
 refine DM ?_
 rw[SF.slot.bind]
 refine A1 (Ae (A1 ?_))
 refine Iv (TN SF.slot.plain SF.entry (@check_slot (model prog w) _ _ ⟨h,g,d,t+1,os⟩ "object.__setattr__" "object" "__setattr__" (.ref x) [.str name t,v] [] _ SF.kind SF.split sub (SF.args (.ref x) (.str name t) v) ?_))
 show wpAny _ _ (Builtin.«object.__setattr__» ⟨[.ref x,.str name t,v],[]⟩) _ _ _
 rw[osa_eq,refuse_eq]
 refine A1 (A1 (L0.at (A1 (hm.at ?_))))
 rw[Qv _ (GR.mp ho)]
 refine Ae (A1 (L0.at (A1 (L2.at (A1 (Ae ?_))))))
 dsimp only
 obtain⟨oc,odi,oda,osl⟩:=ox
 obtain rfl:oc = .ref C:=hcl
 obtain rfl:odi=none:=hdn
 have hx:h.get? x=some ⟨.ref C,none,oda,osl⟩:=hx
 unfold storeInOwnDict
 refine A1 (Ae ?_)
 rw[Ab (by simp)]
 refine A1 ?_
 unfold ownDictForStores instanceDict
 refine A1 (wpAny_loadPart hx ?_)
 dsimp only
 refine A1 ((looks_clsIn X hc).at ?_)
 rw[hd']
 simp only[Bool.not_true,Pe,Iw]
 rw[Ab (by simp[typeHasDict])]
 have hx₁:(h.push {cls:=.type "dict",data:=.dict #[]}).get? x=some ⟨.ref C,none,oda,osl⟩:=Aw _ hx
 have hxs:x≠h.objs.size:=AN (AA hx)
 have fin:wpAny (model prog w) A.in1 (storeInDict h.objs.size (.str name t) name v) (fun fin s'=>match fin with
   |Fin.done (Flow.ret _)=>Q () s'
   |_=>False) (fun e s'=>E e s') ⟨(h.push {cls:=.type "dict",data:=.dict #[]}).update x fun o=>{cls:=o.cls,dict:=some h.objs.size,data:=o.data,slots:=o.slots},g,d,t+1,os⟩:=by
  have hgd:((h.push {cls:=.type "dict",data:=.dict #[]}).update x fun o=>{cls:=o.cls,dict:=some h.objs.size,data:=o.data,slots:=o.slots}).get? h.objs.size=some {cls:=.type "dict",data:=.dict #[]}:=
   (Heap.get?_update_ne _ _ _ _ hxs.symm).trans (Heap.get?_push_at rfl rfl)
  have hnd:((h.push {cls:=.type "dict",data:=.dict #[]}).update x fun o=>{cls:=o.cls,dict:=some h.objs.size,data:=o.data,slots:=o.slots}).Ns h.objs.size (fun _=>none):=
   ⟨_,#[],_,hgd,rfl,fun e he=>absurd he (by simp),fun _=>rfl⟩
  unfold storeInDict newKeyGuard
  refine A1 (Ae (A1 (wpAny_nsSet1 (Heap.Ns1.of_empty hnd) fun h' hn' hs=>?_)))
  obtain⟨oD,esD,epD,hoD,hdD,hcD⟩:=hn'.count (Within.cons name v Within.nil)
  refine A1 (wpAny_lookBehind hoD (by rw[hdD];exact pastItsLine_dict (Cz hcD (by rw[B9,Ii,Gh];lia))) ?_)
  refine Ae (hq h' _ (fun b ob hbx hb=>(hs.2 b (AN (AA hb))).trans ((Heap.get?_update_ne _ _ _ _ hbx).trans (Aw _ hb))) ?_ hn')
  refine(hs.2 x hxs).trans (DG _ hx₁ ?_)
  have hfr:=(Heap.get?_some_iff.mp hx).2
  cases oda<;>first|rfl|exact hfr
 have fin2:=CV fin (Q':=fun fin s'=>match fin with
   |
    Fin.done f=>(match (Except.ok f:Result) with
    |Except.ok (Flow.ret v)=>wpAny (model prog w) A (pure (some v)) (fun a s'=>wpAny (model prog w) A (match a with|some val=>pure PUnit.unit|x=>unsupported "internal:no-__setattr__") Q E s') E s'
    |Except.ok a=>False
    |Except.error e=>E e s')
   |
    Fin.again c'=>c'.quiet=true/\codeAny (model prog w) A c' (fun r s'=>match r with
    |Except.ok (Flow.ret v)=>wpAny (model prog w) A (pure (some v)) (fun a s'=>wpAny (model prog w) A (match a with|some val=>pure PUnit.unit|x=>unsupported "internal:no-__setattr__") Q E s') E s'
    |Except.ok a=>False
    |Except.error e=>E e s') s') (fun fin s' z=>by
  rcases fin with(_|_|_|_)|_<;>first|exact Ae (Ae z)|exact z.elim) fun _ _ z=>z
 have hno':∀c,oda≠.cls c:=fun c z=>by rw[z]at hno;cases hno
 split
 .exact absurd rfl (hno' _)
 .refine A1 (wpAny_alloc' ?_)
  refine A1 (wpAny_update' hx₁ ?_)
  refine Ae ?_
  exact fin2
theorem Y6 {v:Value}{vs:Array Value}{R:Result->Shared->Prop}(X:K.In s.heap)(hx:s.heap.get? x=some ox)(hcl:ox.cls = .ref C)(hd:ox.data = .fields vs){t0:Addr}(h0:vs[0]?=some (.ref t0))(c:XC K C)
  (hq:∀h',(∀b o,b≠x->s.heap.get? b=some o->h'.get? b=some o)->h'.get? x=some {cls:=ox.cls,dict:=ox.dict,data:=.fields (vs.setIfInBounds 0 (.ref s.heap.objs.size)),slots:=ox.slots}->R (.ok (.ret .none)) {s with heap:=h'}) :
  codeAny (model prog w) A (.call (.builtin "ValueError.__init__") ⟨[.ref x,v],[]⟩) R s:=by
 obtain⟨h,g,d,t,os⟩:=s
 obtain⟨oc,odi,oda,osl⟩:=ox
 obtain rfl:oc = .ref C:=hcl
 obtain rfl:oda = .fields vs:=hd
 have hx:h.get? x=some ⟨.ref C,odi,.fields vs,osl⟩:=hx
 have L0:Looks (model prog w) h (typeOf (.ref x)) (.ref C):=(Looks.ld hx).andThen .now
 obtain⟨N,bm,ct⟩:=c.ct
 obtain⟨nm,q,bs,hdct,sn,sub,ab,col,dd,k0,k1,k2,k3,k5,hC,T⟩:=ct h X
 refine TN F.excBase_ValueError.init.plain F.excBase_ValueError.initEntry (wpAny_check_init_subT F.excBase_ValueError T hC hx rfl ?_)
 have hz:0<vs.size:=(Ip.mp h0).1
 wp_walk
 rw[h0]
 refine Ae ?_
 dsimp only
 have hx1:(h.push {cls:=Value.type "tuple",data:=Data.seq #[v]}).get? x=some ⟨.ref C,odi,.fields vs,osl⟩:=Aw _ hx
 refine A1 (IB hx1 rfl hz ?_)
 refine FS (Ae ?_)
 refine hq _ (fun b o hb e=>?_) ?_
 .rw[DZ _ _ (Ne.symm hb)]
  exact Aw _ e
 .rw[DG _ hx1 rfl]
  rfl
end
end EX
namespace EX
open PySem PySem.Spec PySem.Calls PyProof.Rows PySem.W PySem.Builtin PySem.Builtin.ObjectAttr
section
variable {prog:Program}{w:World}{A:Around}{E:Value->Shared->Prop}{s:Shared}{K:Frag}{x C:Addr}{ox:Obj}{od:Option Obj}
end
end EX
namespace EX
open PySem PySem.Spec PyProof.Rows
theorem Cn.one {h:Heap}{a:Addr}{C C':Addr}{d d':Option Addr}{t t':Value}(x:Cn h a (.ref C) d t)(y:Cn h a (.ref C') d' t'):C'=C/\d'=d:=by
 obtain⟨oe,vs,h0,h1,h2,_⟩:=x
 obtain⟨oe',vs',g0,g1,g2,_⟩:=y
 rw[h0]at g0
 cases g0
 exact⟨Value.ref.inj (g1.symm.trans h1),g2.symm.trans h2⟩
theorem ER.then {fs ch:List Addr}{h h1 h2:Heap}{T:Addr}(a:ER fs ch h h1)(hT:h.objs.size<=T)(b:ER [] [T] h1 h2):ER fs ch h h2:=fun x o e hc=>by
 obtain⟨p,sl,q⟩:=a x o e hc
 have nT:x∉[T]:=fun z=>absurd (AA e) (by rw[Bz.mp z];exact Nk.mpr hT)
 exact⟨fun hf=>(b x o (p hf) nT).1 (by simp),(b x _ q nT).2⟩
theorem Cn.there {h:Heap}{a:Addr}{C:Value}{d:Option Addr}{t:Value}(x:Cn h a C d t):∃u,h.get? a=some u:=let ⟨oe,_,e,_⟩:=x;⟨oe,e⟩
end EX
namespace L2
open PySem PySem.Spec PyProof.Rows EX
def GF (h:Heap)(a:Addr)(C:Value)(d:Option Addr):Prop := ∃oe vs t0,h.get? a=some oe/\oe.cls=C/\oe.dict=d/\oe.data = .fields vs/\vs[0]?=some (.ref t0)/\vs[1]?=some .none
theorem GF.at {h:Heap}{a:Addr}{C:Value}{d:Option Addr}(x:GF h a C d):Cn h a C d .none:=let ⟨oe,vs,_,h0,h1,h2,h3,_,h5⟩:=x;⟨oe,vs,h0,h1,h2,h3,h5⟩
def DQ (a C:Addr)(d:Option Addr):HO:=.ext fun h=>GF h a (.ref C) d
def DD (a C:Addr)(d:Option Addr):HO:=.ext fun h=>∃tb,Cn h a (.ref C) d tb
section
variable {P:Program}{w:World}{H:Hp}{h:Heap}{a C:Addr}{d:Option Addr}
theorem OB (x:GF h a (.ref C) d):BB P w H h a (DQ a C d):=by
 obtain⟨oe,vs,t0,h0,h1⟩:=x
 exact⟨⟨oe,vs,t0,h0,h1⟩,⟨oe,h0⟩,fun g1 g2 ⟨oe',vs',t0',z0,z⟩ k=>⟨oe',vs',t0',k _ z0,z⟩⟩
theorem N2 {tb:Value}(x:Cn h a (.ref C) d tb):BB P w H h a (DD a C d):=by
 obtain⟨oe,vs,h0,h1⟩:=x
 exact⟨⟨tb,oe,vs,h0,h1⟩,⟨oe,h0⟩,fun g1 g2 ⟨tb',oe',vs',z0,z⟩ k=>⟨tb',oe',vs',k _ z0,z⟩⟩
theorem K7 (x:Bv P w H h)(e:H a=some (DQ a C d)):GF h a (.ref C) d:=(show BB P w H h a (DQ a C d) from x a _ e).1
theorem Qq (x:Bv P w H h)(e:H a=some (DD a C d)):∃tb,Cn h a (.ref C) d tb:=(show BB P w H h a (DD a C d) from x a _ e).1
end
theorem Nz {H:Hp}{a:Addr}{o:HO}(h:H a=some o):upd H a o=H:=by
 funext b
 unfold upd
 split
 .rename_i e;rw[e,h]
 .rfl
def Jo (P:Program)(w:World):EE:=fun outer H s E e s'=>∃(a C:Addr) (d:Option Addr) (T:Addr) (H':Hp),e = .ref a/\s'.os=s.os/\AllBare s'.gens/\Un (DV outer) [] H H' s.heap s'.heap/\Bv P w H' s'.heap/\H' a=some (DD a C d)/\
 Cn s'.heap a (.ref C) d (.ref T)/\GG s'.heap T .none/\T≠a/\H' T=none/\s.heap.objs.size<=T/\E (.ref a) none H'
section
variable {X:Cx}{pins:List (Addr×Obj)}{σ:St}{H:Hp}{s:Shared}{a C:Addr}{d:Option Addr}
def NS (X:Cx)(pins:List (Addr×Obj))(H:Hp)(T:Addr):Prop:=H T=none/\X.s₀.heap.objs.size<=T/\T≠X.env.locals/\(∀x c,X.env.cells.lookup x=some c->c≠T)/\∀p∈X.pn++pins,p.1≠T
theorem A2.tok_new (I:A2 X pins σ H s){T:Addr}(hT:s.heap.objs.size<=T):NS X pins H T:=
 ⟨I.hok.fresh hT,Cz I.sz hT,BU (BS I.lt hT),fun x c e z=>by
  obtain⟨v,o,ho,_⟩:=I.cell x c e
  exact absurd (AA ho) (by rw[z];exact Nk.mpr hT),fun p hp z=>by
  have:=(I.pin p hp).1
  exact absurd (AA this) (by rw[z];exact Nk.mpr hT)⟩
theorem A2.fly {ch:List Addr}{h':Heap}{o:HO}{φ:Heap->Prop}(I:A2 X pins σ H s)(hb:ER (DV X.stack) (a::ch) s.heap h')(ha:H a=some (.ext φ))(new:BB X.prog X.w (upd H a o) h' a o)(ho:∃u,h'.get? a=some u)
  (hch:∀b∈ch,NS X pins H b):A2 X pins σ (upd H a o) {s with heap:=h'}:=by
 have nea:∀b,H b=none->b≠a:=fun b n z=>by rw[z,ha]at n;cases n
 have nof:∀b u,H b=some u->(∀ψ,u≠.ext ψ)->b≠a:=fun b u e n z=>by rw[z,ha]at e;cases e;exact n φ rfl
 refine I.call' (s':={s with heap:=h'}) (ch:=ch) rfl ⟨fun b ob q n hf hc=>?_,fun b ob q n hf hc=>?_,fun b ob q n hc=>?_,fun b ob q hc=>?_,fun b xs q=>?_,fun b ob u q=>?_,fun b ps q=>⟨#[],?_⟩⟩ (fun b u e=>?_) I.bare fun b hm=>?_
 .exact(hb b ob q fun z=>(AS.mp z).elim (nea b n) hc).1 hf
 .exact(hb b ob q fun z=>(AS.mp z).elim (nea b n) hc).2
 .rw[Af (nea b n)];exact n
 .by_cases z:b=a
  .rw[z];exact ho
  .obtain⟨_,sl,q'⟩:=hb b ob q fun y=>(AS.mp y).elim z hc
   exact⟨_,q'⟩
 .rw[Af (nof b _ q fun ψ y=>by cases y)];exact q
 .rw[Af (nof b _ q fun ψ y=>by cases y)];exact q
 .rw[Af (nof b _ q fun ψ y=>by cases y),q];simp
 .by_cases z:b=a
  .subst z;rw[A6]at e;cases e;exact new
  .rw[Af z]at e
   have kp:∀c v,H c≠none->c≠a->s.heap.get? c=some v->h'.get? c=some v:=fun c v n1 n2 q=>
    (hb c v q fun y=>(AS.mp y).elim n2 fun m=>n1 (hch c m).1).1 fun m=>n1 (I.stkFree c m)
   refine(I.hok b u e).stay (fun c v hc q=>?_) (fun c q=>?_) fun c xs q=>?_
   .rcases hc with rfl|hc
    .exact kp c v (by rw[e];simp) z q
    .exact kp c v (by rw[hc];simp) (nof c _ hc fun ψ y=>by cases y) q
   .rw[Af (nof c _ q fun ψ y=>by cases y)];exact q
   .rw[Af (nof c _ q fun ψ y=>by cases y)];exact q
 .obtain⟨_,h2,h3,h4,h5⟩:=hch b hm
  exact⟨.inr h2,h3,h4,h5⟩
end
section
variable {X:Cx}
def Oy (X:Cx)(Ek:St->XK):Prop := ∀(pins:List (Addr×Obj)) (σ:St) (H:Hp) (s:Shared) (a C:Addr) (d:Option Addr),A2 X pins σ H s->H a=some (DQ a C d)->Ek σ (.ref a) none (upd H a (DD a C d))->X.xe (.ref a) s
def Rp (X:Cx)(Ek:St->XK):Prop := ∀(pins:List (Addr×Obj)) (σ:St) (H:Hp) (s:Shared) (e:Value) (s':Shared),A2 X pins σ H s->Jo X.prog X.w X.stack H s (Ek σ) e s'->X.xe e s'
variable {P:Program}{w:World}{K:Faa}{mg:Str->Option Value}{base:Heap}{N:List Str}{qual:Str}{scope:Scope}{f:Addr}{cd:Value}{A:Around}{outer:List Env}{s₀:Shared}{H₀:Hp}{E:XK}
theorem XQ:Oy (GL (Jo P w) P w K mg base N qual scope f cd A outer s₀ H₀ E) (fun _=>E):=by
 intro pins σ H s a C d I ha hE
 have x:=K7 I.hok ha
 show wpAny _ _ (leaving _ (.ref a)) _ _ s
 unfold leaving
 refine A1 (QH (base:=base) (L:=s₀.heap.objs.size) I.ok.frames I.stack rfl x.at fun h1 T hT b1 x1 t1 ne=>?_)
 refine MD (s:={s with heap:=h1}) x1 t1 ne fun h2 b2 x2 t2=>?_
 have J:=I.fly (o:=DD a C d) (ch:=[]) (h':=h2) (b1.then hT b2) ha (N2 x2) x2.there (fun b z=>absurd z (by simp))
 exact⟨a,C,d,T,_,rfl,J.os,J.bare,J.base,J.hok,A6,x2,t2,ne,by rw[Af ne];exact I.hok.fresh hT,Cz I.sz hT,hE⟩
end
section
variable {P:Program}{w:World}{K:Faa}{mg:Str->Option Value}{base:Heap}
theorem AW.okX {x qual:Str}{st:Stmt}{f:Addr}{fd:FuncData}{N ps:List Str}{k:Nat}{sp:Sp}(F:AW K x qual st f fd)(S:B7 N ps (AK st))(len:∀vs H Q E,sp vs H Q E->vs.length=ps.length)
  (hbody:∀(cdv:Value) (A:Around) (outer:List Env) (s:Shared) (H:Hp) (vs:List V) (Q:VK) (E:XK),Cb k (A.deeper (envOfC qual (AK st) s.heap.objs.size f cdv))->sp vs H Q E->
   ∃t,DS (GL (Jo P w) P w K mg base N qual (AK st) f cdv A outer s H E) (GZ st) t/\t {nx:=fun _ H'=>Q .non H',rt:=Q} (start N vs) H):AU P w K mg base (Jo P w) (k+1) f fd ps sp:=by
 obtain⟨oc,od,kV,doc,pm,an,cdv,ct,osl,rfl,lk,hcd⟩:=F.ex
 exact Se lk hcd S len fun A outer s H vs Q E hr hsp=>hbody cdv A outer s H vs Q E hr hsp
end
section
variable {X:Cx}{Ek:St->XK}{e:Expr}{te:TE}{pos:Pos}
def V9 (K:Faa)(Ek:St->XK)(te:TE):TS:=fun _ σ H=>te σ H fun v H1=>∃a C d,v = .ref a/\H1 a=some (DQ a C d)/\XC K C/\Ek σ (.ref a) none (upd H1 a (DD a C d))
theorem ZX (hc:X.calm=true)(hr:Oy X Ek)(he:PE X e te):PS X (.Raise (some e) none pos) (V9 X.K Ek te):=by
 intro pins s σ H D I h
 refine aO (I.ok.hd hc) (Ax (he pins s σ H _ I h) fun u s1 q=>?_)
 obtain⟨v,H1,I1,r,a,C,d,rfl,ha,xc,q⟩:=q
 obtain rfl:u = .ref a:=r
 obtain⟨N,bm,ct⟩:=xc.ct
 have c1:=ct _ I1.kIn
 obtain⟨_,_,_,_,_,_,_,_,_,_,_,_,_,_,_,T⟩:=id c1
 exact⟨a,d,C,bm,rfl,c1.at,T.hasType (by decide),(K7 I1.hok ha).at,hr pins σ H1 s1 a C d I1 ha q⟩
end
end L2
namespace EX
open PySem PySem.Spec PyProof.Rows
theorem ClsT.base {h:Heap}{C N:Addr}{bm:List Value}(x:ClsT h C N bm):bm.contains (.type "BaseException")=true:=by
 obtain⟨_,_,_,_,_,_,_,_,_,_,_,_,_,_,_,T⟩:=x
 exact T.hasType (by decide)
end EX
namespace L2
open PySem PySem.Spec PyProof.Rows EX
abbrev Cx.tried (X:Cx)(pn:List (Addr×Obj))(xe:Value->Shared->Prop):Cx:={X with pn:=pn,xe:=xe}
abbrev Cx.held (X:Cx)(a:Addr):Cx:={X with A:=X.A.mark (some (.ref a)),calm:=false,xe:=fun _ _=>False}
section
variable {X:Cx}{pins pins':List (Addr×Obj)}{σ:St}{H:Hp}{s:Shared}{a:Addr}{xe:Value->Shared->Prop}{pn:List (Addr×Obj)}
theorem Cx.Ok.tried (ok:X.Ok):(X.tried pn xe).Ok:=⟨ok.mod,ok.kind,ok.glob,ok.blt,ok.above,ok.inj,ok.has,ok.cab,ok.hd,ok.frames,ok.stk,ok.exf,ok.bs,ok.bsz,ok.noex,ok.exfs,ok.funs,ok.frf⟩
theorem Cx.Ok.untried (ok:(X.tried pn xe).Ok):X.Ok:=⟨ok.mod,ok.kind,ok.glob,ok.blt,ok.above,ok.inj,ok.has,ok.cab,ok.hd,ok.frames,ok.stk,ok.exf,ok.bs,ok.bsz,ok.noex,ok.exfs,ok.funs,ok.frf⟩
theorem Cx.Ok.held (ok:X.Ok):(X.held a).Ok:=⟨ok.mod,ok.kind,ok.glob,ok.blt,ok.above,ok.inj,ok.has,ok.cab,(fun z=>nomatch z),ok.frames,ok.stk,ok.exf,ok.bs,ok.bsz,ok.noex,ok.exfs,ok.funs,ok.frf⟩
theorem A2.tried (I:A2 X pins σ H s):A2 (X.tried (X.pn++pins) xe) [] σ H s:=⟨I.ok.tried,I.os,I.bare,I.base,I.loc,I.cell,I.free,I.freeC,fun p hp=>I.pin p (by simpa using hp),I.hok,I.len⟩
theorem A2.untried (I:A2 (X.tried (X.pn++pins) xe) pins' σ H s):A2 X pins σ H s:=⟨I.ok.untried,I.os,I.bare,I.base,I.loc,I.cell,I.free,I.freeC,fun p hp=>I.pin p (CA _ hp),I.hok,I.len⟩
theorem A2.held (I:A2 X pins σ H s):A2 (X.held a) pins σ H s:=⟨I.ok.held,I.os,I.bare,I.base,I.loc,I.cell,I.free,I.freeC,I.pin,I.hok,I.len⟩
theorem A2.unheld (ok:X.Ok)(I:A2 (X.held a) pins σ H s):A2 X pins σ H s:=⟨ok,I.os,I.bare,I.base,I.loc,I.cell,I.free,I.freeC,I.pin,I.hok,I.len⟩
theorem SP.untried {D:CL}{f:Flow}{s':Shared}(h:SP (X.tried (X.pn++pins) xe) pins' D f s'):SP X pins D f s':=by
 cases f with
 |next=>obtain⟨σ',H',I,q⟩:=h;exact⟨σ',H',I.untried,q⟩
 |brk=>obtain⟨σ',H',I,q⟩:=h;exact⟨σ',H',I.untried,q⟩
 |cont=>obtain⟨σ',H',I,q⟩:=h;exact⟨σ',H',I.untried,q⟩
 |ret u=>obtain⟨v,σ',H',I,r,q⟩:=h;exact⟨v,σ',H',I.untried,r,q⟩
theorem SP.unheld (ok:X.Ok){D:CL}{f:Flow}{s':Shared}(h:SP (X.held a) pins D f s'):SP X pins D f s':=by
 cases f with
 |next=>obtain⟨σ',H',I,q⟩:=h;exact⟨σ',H',I.unheld ok,q⟩
 |brk=>obtain⟨σ',H',I,q⟩:=h;exact⟨σ',H',I.unheld ok,q⟩
 |cont=>obtain⟨σ',H',I,q⟩:=h;exact⟨σ',H',I.unheld ok,q⟩
 |ret u=>obtain⟨v,σ',H',I,r,q⟩:=h;exact⟨v,σ',H',I.unheld ok,r,q⟩
end
def PH (X:Cx)(hs:List ExceptHandler)(th:Addr->Addr->Option Addr->TS):Prop:=
 ∀(pins:List (Addr×Obj)) (s:Shared) (σ:St) (H:Hp) (D:CL) (a C:Addr) (d:Option Addr) (T:Addr),A2 X pins σ H s->H a=some (DD a C d)->Cn s.heap a (.ref C) d (.ref T)->GG s.heap T .none->T≠a->NS X pins H T->
  th a C d D σ H->wpAny (model X.prog X.w) X.A (handleBy (.ref a) X.env hs) (SP X pins D) X.xe s
def Vs (K:Faa)(Dc:Addr)(ts:Addr->TS)(th:Addr->Addr->Option Addr->TS):Addr->Addr->Option Addr->TS:=fun a C d D σ H=>
 ∃N bm b,(∀h,K.In h->ClsT h C N bm)/\(Value.ref C::bm).contains (.ref Dc)=b/\if b=true then ts a D σ H else th a C d D σ H
section
variable {X:Cx}{x n:Str}{np pos:Pos}{Dc:Addr}{b₀:Stmt}{suite:List Stmt}{rest:List ExceptHandler}{ts:Addr->TS}{th:Addr->Addr->Option Addr->TS}
theorem Uq (hg:Gl X x)(hm:X.mg x=some (.ref Dc))(xd:XC X.K Dc)(hs:∀a,DS (X.held a) (b₀::suite) (ts a))(hr:PH X rest th)(hdb:(x==("__debug__":Str))=false:=by decide) :
  PH X (.ExceptHandler (some (.Name x np)) none (b₀::suite) pos::rest) (Vs X.K Dc ts th):=by
 intro pins s σ H D a C d T I ha hx ht hne hT h
 obtain⟨N,bm,b,ct,hb,h⟩:=h
 obtain⟨N',bd,cd⟩:=xd.ct
 have I':A2 (X.held a) pins σ H s:=I.held
 refine wpAny_handleBy_cons (codeAny_handlers_test (IW I' hg hm ?_ hdb)) (by intro q;cases q)
 obtain⟨hp,g,dr,t,os⟩:=s
 refine cC (ct hp I.kIn).at (cd hp I.kIn).at (cd hp I.kIn).base hx ?_
 rw[hb]
 cases b with
 |
  false=>
  rw[Ab (by simp)]at h
  exact hr pins _ σ H D a C d T I ha hx ht hne hT h
 |
  true=>
  rw[Aj rfl]at h
  refine codeAny_handlers_suite (MD hx ht hne fun h2 b2 x2 t2=>?_)
  have J:=I.fly (o:=DD a C d) (ch:=[T]) (h':=h2) (b2.mono (fun b z=>by cases z) fun b z=>C6 _ z) ha (N2 x2) x2.there (fun b z=>by rw[Bz.mp z];exact hT)
  rw[Nz ha]at J
  exact CV (hs a pins _ σ H D J.held h) (fun f s2 q=>q.unheld I.ok) fun _ _ z=>z.elim
end
def WJ (tb:(St->XK)->TS)(th:Addr->Addr->Option Addr->TS):TS:=fun D σ H=>tb (fun σ' v _ H'=>∃a C d,v = .ref a/\H' a=some (DD a C d)/\th a C d D σ' H') D σ H
theorem Vy {X:Cx}{body:List Stmt}{h₀:ExceptHandler}{hs:List ExceptHandler}{pos:Pos}{tb:(St->XK)->TS}{th:Addr->Addr->Option Addr->TS}
  (hb:∀pn xe Ek,Rp (X.tried pn xe) Ek->Oy (X.tried pn xe) Ek->DS (X.tried pn xe) body (tb Ek)) (hh:PH X (h₀::hs) th) (hst:X.stack=X.env::X.outer:=by rfl) (hfr:X.env.frame=some X.env.locals:=by rfl) :
  PS X (.Try body (h₀::hs) [] [] pos) (WJ tb th):=by
 intro pins s σ H D I h
 rw[arm_exec_Try]
 refine A1 (JG (wpAny_tryStmt_except ?_))
 refine CV (hb (X.pn++pins) (fun e s₁=>wpAny (model X.prog X.w) X.A (noteFrame e X.env) (fun _ s₂=>wpAny (model X.prog X.w) X.A (setFlight e none) (fun _ s₃=>wpAny (model X.prog X.w) X.A (handleBy e X.env (h₀::hs)) (SP X pins D) X.xe s₃) X.xe s₂) X.xe s₁)
  (fun σ' v _ H'=>∃a C d,v = .ref a/\H' a=some (DD a C d)/\th a C d D σ' H') ?_ ?_ [] s σ H D I.tried h) (fun f s1 q=>?_) (fun _ _ z=>z)
 .intro pins' σ' H1 s1 e s' I1 hc
  obtain⟨a,C,d,T0,H',rfl,os,bare,un,hok,ha,x0,t0,ne0,hT0,sT0,a',C',d',ea,ha',hth⟩:=hc
  obtain rfl:a=a':=Value.ref.inj ea
  have J1:A2 X pins σ' H1 s1:=I1.untried
  have J:=J1.call' (ch:=[]) os un hok bare (fun b z=>absurd z (by simp))
  obtain⟨tb',y⟩:=Qq J.hok ha'
  obtain⟨rfl,rfl⟩:=Cn.one x0 y
  have tk:=J1.tok_new sT0
  refine c7 (base:=X.base) (L:=X.env.locals) (env:=X.env) (outer:=X.outer) (by rw[←hst];exact J.ok.frames) (by rw[←hst];exact J.stack) hfr x0 t0 ne0 fun h1 T hT b1 x1 t1 ne=>?_
  refine MD (s:={s' with heap:=h1}) x1 t1 ne fun h2 b2 x2 t2=>?_
  rw[←hst]at b1
  have J2:=J.fly (o:=DD a C' d') (ch:=[T0]) (h':=h2) (b1.then hT b2) ha (N2 x2) x2.there (fun b z=>by rw[Bz.mp z];exact⟨hT0,tk.2⟩)
  rw[Nz ha]at J2
  exact hh pins _ σ' H' D a C' d' T J2 ha x2 t2 ne (J.tok_new hT) hth
 .intro pins' σ' H1 s1 a C d I1 ha hE
  obtain⟨a',C',d',ea,ha',hth⟩:=hE
  obtain rfl:a=a':=Value.ref.inj ea
  have J:A2 X pins σ' H1 s1:=I1.untried
  have x:=K7 J.hok ha
  refine QH (base:=X.base) (L:=X.env.locals) (env:=X.env) (outer:=X.outer) (by rw[←hst];exact J.ok.frames) (by rw[←hst];exact J.stack) hfr x.at fun h1 T hT b1 x1 t1 ne=>?_
  refine MD (s:={s1 with heap:=h1}) x1 t1 ne fun h2 b2 x2 t2=>?_
  rw[←hst]at b1
  have J2:=J.fly (o:=DD a C d) (ch:=[]) (h':=h2) (b1.then hT b2) ha (N2 x2) x2.there (fun b z=>absurd z (by simp))
  obtain⟨tb',y⟩:=Qq J2.hok ha'
  obtain⟨rfl,rfl⟩:=Cn.one x2 y
  have tk:=J.tok_new hT
  exact hh pins _ σ' _ D a C' d' T J2 ha' x2 t2 ne ⟨by rw[Af ne];exact tk.1,tk.2⟩ hth
 .have q:=q.untried
  cases f with
  |next=>exact Np q
  |_=>exact q
section
variable {X:Cx}{k:Nat}{f C:Addr}{fd:FuncData}{ps:List Str}{sp:Sp}{dvs:List V}{ds:List Value}{Ek:St->XK}{x:Str}{p pos:Pos}{e:Expr}{es:List Expr}{t:TA}
def UG (sp:Sp)(dvs:List V)(Ek:St->XK)(t:TA):TE:=fun σ H Q=>t σ H fun vs H1=>sp (vs++dvs) H1 Q (Ek σ)
theorem RF (F:AU X.prog X.w X.K X.mg X.base (Jo X.prog X.w) k f fd ps sp)(hr:Cb k X.A)(hg:Gl X x)(hm:X.mg x=some (.ref f))(hk:PySem.W.keepIn X.K (.ref f)=true)(hb:AY X.K fd ps ds)(hd:Az dvs ds)(hx:Rp X Ek)
  (ha:PA X (e::es) t) (hdb:(x==("__debug__":Str))=false:=by decide) (he:starEach (e::es) X.env=(false,eval e X.env)::starEach es X.env:=by rfl) (hpl:(backTo pos (starEach es X.env)).any (·.1)=false:=by rfl) :
  PE X (.Call (.Name x p) (e::es) [] pos) (UG sp dvs Ek t):=by
 intro pins s σ H Q I h
 refine Gi (IW I hg hm ?_ hdb)
 refine P3 (h₀:=X.base) I.ok.mod.kin hk (Ax (ha pos pins s σ H _ I h) fun us s1 zz=>?_) he hpl
 obtain⟨vs,H1,I1,r,q⟩:=zz
 refine⟨I1.kIn,?_⟩
 have r2:Az (vs++dvs) (us++ds):=r.append hd
 have hl:(us++ds).length=ps.length:=by rw[←r2.length];exact F.len _ _ _ _ q
 refine Iv (JI (F.run X.A X.stack s1 H1 ⟨us,[]⟩ (us++ds) (vs++dvs) Q (Ek σ) hr I1.env0 (hb s1 us I1.kIn hl) r2 q) fun r s' hq=>?_)
 cases r with
 |error e=>exact hx pins σ H1 s1 e s' I1 hq
 |
  ok fl=>
  cases fl with
  |ret u=>exact I1.after hq
  |next=>exact False.elim hq
  |brk=>exact False.elim hq
  |cont=>exact False.elim hq
end
end L2
namespace EX
open PySem PySem.Spec PySem.Calls PyProof.Rows PySem.W
section
variable {prog:Program}{w:World}{A:Around}{h:Heap}{g:Array GenState}{d:Drawn}{t:Nat}{os:OsState}{R:Result->Shared->Prop}{C N:Addr}{bm:List Value}
theorem Xq {E:Value->Shared->Prop}{rest:List Value}{f:Addr}{Q:PySem.Fin->Shared->Prop}(ct:ClsT h C N bm)(hL:Looks (model prog w) h (typeLookup (.ref C) "__init__") (some (.ref f)))
  (hB:∀self,Looks (model prog w) h (bindSpecial (.ref f) self) (.ref f,[self]))
  (hq:wpAny (model prog w) A (call (.ref f) (.ref (h.objs.size+1)::rest)) (fun v s'=>v = .none/\Q (.done (.ret (.ref (h.objs.size+1)))) s') E ⟨(h.push (Jk rest)).push (Hk C h.objs.size),g,d,t,os⟩) (hrest:rest.length<=sizeLine) :
  wpAny (model prog w) A (Builtin.«type.__call__» ⟨.ref C::rest,[]⟩) Q E ⟨h,g,d,t,os⟩:=by
 obtain⟨nm,q,bs,hdct,sn,sub,ab,col,dd,k0,k1,k2,k3,k5,hC,T⟩:=ct
 repeat (first|with_reducible refine JJ hC ?_|with_reducible refine wpAny_madeBy_exc hC ?_|wp_step)
 refine codeAny_call_builtin_code (Code.quiet_builtin _ F.excBase_ValueError.quiet) (wpAny_check_new_subT F.excBase_ValueError T hC ?_)
 refine codeAny_exc_new_subT F.excBase_ValueError T hC ?_ hrest
 show wpAny _ _ _ _ _ _
 have k:∀b o,h.get? b=some o->((h.push (Jk rest)).push (Hk C h.objs.size)).get? b=some o:=fun b o e=>Aw _ (Aw _ e)
 have hC₁:=k _ _ hC
 have hget:((h.push (Jk rest)).push (Hk C h.objs.size)).get? (h.objs.size+1)=some (Hk C h.objs.size):=by heap_get
 have hcC:(Value.ref C::bm).contains (.ref C)=true:=by simp
 unfold isInstance
 repeat (first|with_reducible refine JJ hget ?_|(with_reducible refine Px hC₁ ?_;rw[hcC])|wp_step)
 show wpAny _ _ (typeLookup (.ref C) _) _ _ _
 refine(hL.keeps k).at ?_
 refine DM (A1 (((hB _).keeps k).at ?_))
 refine A1 (CV hq (fun v s' hv=>?_) fun _ _ z=>z)
 obtain⟨rfl,hv⟩:=hv
 wp_walk
 exact hv
theorem Wh {rest:List Value}{f:Addr}(ct:ClsT h C N bm)(hL:Looks (model prog w) h (typeLookup (.ref C) "__init__") (some (.ref f)))(hB:∀self,Looks (model prog w) h (bindSpecial (.ref f) self) (.ref f,[self]))
  (hq:codeAny (model prog w) (A.under (.builtin "type.__call__" ⟨.ref C::rest,[]⟩)) (.call (.ref f) ⟨.ref (h.objs.size+1)::rest,[]⟩) (Ub (h.objs.size+1) R) ⟨(h.push (Jk rest)).push (Hk C h.objs.size),g,d,t,os⟩) (hrest:rest.length<=sizeLine) :
  codeAny (model prog w) A (.call (.ref C) ⟨rest,[]⟩) R ⟨h,g,d,t,os⟩:=by
 have f1:=tc_lookup
 have f2:=tc_bind (.ref C)
 obtain⟨nm,q,bs,hdct,sn,sub,ab,col,dd,k0,k1,k2,k3,k5,hC,T⟩:=id ct
 have hT:(⟨h,g,d,t,os⟩:Shared).TypeIs (.ref C) "type":=⟨_,hC,rfl⟩
 refine codeAny_of_tree ?_
 show wpAny _ _ (callAny (.ref C) _) _ _ _
 repeat (any_goals (first|assumption|with_reducible refine JJ hC ?_|wp_step))
 refine⟨rfl,?_⟩
 refine codeAny_call_builtin_at (Code.quiet_builtin _ (by decide +kernel)) entry_typeCall (wpAny_check_type_call_sub hC (Xq ct hL hB (Iv (JI hq fun r s' z=>?_)) hrest))
 rcases r with e|(v|_|_|_)<;>first|exact z|exact z.elim
end
end EX
namespace L2
open PySem PySem.Spec PyProof.Rows
section
open EX
section
variable {X:Cx}{pins:List (Addr×Obj)}{σ:St}{H:Hp}{s:Shared}{M:Model}{A:Around}{E:Value->Shared->Prop}
end
section
variable {X:Cx}{x n:Str}{np pos:Pos}{Dc:Addr}{b₀:Stmt}{suite:List Stmt}{rest:List ExceptHandler}{ts:Addr->TS}{th:Addr->Addr->Option Addr->TS}{i:Nat}
end
section
variable {X:Cx}{k:Nat}{f C:Addr}{fd:FuncData}{ps:List Str}{sp:Sp}{CX:EE}{E:XK}{x:Str}{p pos:Pos}{e:Expr}{es:List Expr}{t:TA}
structure S7 (K:Faa)(C f:Addr):Prop where
 xc:XC K C
 init:PySem.W.findIn K (.ref C) "__init__"=some (some (.ref f))
 fn:PySem.W.isFn K (.ref f)=true
 kp:PySem.W.keepIn K (.ref C)=true
structure VL (K:Faa)(C:Addr):Prop where
 xc:XC K C
 init:PySem.W.findIn K (.ref C) "__init__"=some (some (.builtin "ValueError.__init__"))
 kp:PySem.W.keepIn K (.ref C)=true
def ak (C:Addr)(sp:Sp)(E:XK)(t:TA):TE:=fun σ H Q=>t σ H fun vs H1=>vs.length<=1000/\∀a,H1 a=none->sp (.ref a::vs) (upd H1 a (DQ a C none)) (fun v H2=>v = .non/\Q (.ref a) H2) E
theorem c8 (M:S7 X.K C f)(F:AU X.prog X.w X.K X.mg X.base CX k f fd ps sp)(hr:Cb (k+1) X.A)(hg:Gl X x)(hm:X.mg x=some (.ref C))(hb:AY X.K fd ps [])(hx:J6 CX X E)
  (ha:PA X (e::es) t) (hdb:(x==("__debug__":Str))=false:=by decide) (he:starEach (e::es) X.env=(false,eval e X.env)::starEach es X.env:=by rfl) (hpl:(backTo pos (starEach es X.env)).any (·.1)=false:=by rfl) :
  PE X (.Call (.Name x p) (e::es) [] pos) (ak C sp E t):=by
 intro pins s σ H Q I h
 refine Gi (IW I hg hm ?_ hdb)
 refine P3 (h₀:=X.base) I.ok.mod.kin M.kp (Ax (ha pos pins s σ H _ I h) fun us s1 zz=>?_) he hpl
 obtain⟨vs,H1,I1,r,l10,q⟩:=zz
 refine⟨I1.kIn,?_⟩
 obtain⟨hp,g,d,tk,os⟩:=s1
 have hq:=q (hp.objs.size+1) (I1.hok.fresh (F6 _))
 have nx:GF ((hp.push (Jk us)).push (Hk C hp.objs.size)) (hp.objs.size+1) (.ref C) none:=⟨_,_,_,by heap_get,rfl,rfl,rfl,rfl,rfl⟩
 have I2:=I1.laid (h':=(hp.push (Jk us)).push (Hk C hp.objs.size)) (t':=tk) (o:=DQ (hp.objs.size+1) C none) (fun b o e=>Aw _ (Aw _ e)) (F6 _) (OB nx)
 have r2:Az (V.ref (hp.objs.size+1)::vs) (Value.ref (hp.objs.size+1)::us):=.cons rfl r
 have hl:(Value.ref (hp.objs.size+1)::us).length=ps.length:=by rw[←r2.length];exact F.len _ _ _ _ hq
 have hb':=hb _ (Value.ref (hp.objs.size+1)::us) I2.kIn (by rw[FR];exact hl)
 rw[FR]at hb'
 obtain⟨N,bm,ct⟩:=M.xc.ct
 refine Iv (Wh (ct hp I1.kIn) (PySem.W.looks_findIn I1.kIn M.init) (fun self=>PySem.W.bind_fn I1.kIn self (GR.mp M.fn)) (JI (F.run _ X.stack _ _ ⟨Value.ref (hp.objs.size+1)::us,[]⟩ (Value.ref (hp.objs.size+1)::us) _ _ E (hr.make C us []) (I2.env0.make C us []) hb' r2 hq) fun r s' hq'=>?_) (by show us.length<=sizeLine;rw[←r.length,Gh];lia))
 cases r with
 |error e=>exact hx pins σ _ _ e s' I2 hq'
 |
  ok fl=>
  cases fl with
  |
   ret u=>
   obtain⟨v,H',I3,rv,ev,q3⟩:=I2.after hq'
   subst ev
   exact⟨rv,⟨V.ref (hp.objs.size+1),H',I3,rfl,q3⟩⟩
  |next=>exact False.elim hq'
  |brk=>exact False.elim hq'
  |cont=>exact False.elim hq'
end
end
section
open EX
structure XI (K:Faa)(C:Addr):Prop where
 xc:XC K C
 ca:PySem.W.findIn K (.ref C) "__class__"=some (some (.builtin "object.__class__"))
 cg:PySem.W.specialIn K (.builtin "object.__class__") "__get__"=some (some (.builtin "getset_descriptor.__get__"))
 ck:PySem.W.takesIn K (.builtin "object.__class__")=some true
section
variable {X:Cx}{e o:Expr}{ta tv:TE}{f x:Str}{pos pos' p apos:Pos}
def XR (K:Faa)(ta tv:TE)(f:Str):TS:=fun D σ H=>tv σ H fun y H1=>ta σ H1 fun x H2=>∃a C,x = .ref a/\H2 a=some (DQ a C none)/\XC K C/\Di K C f/\
 ∀dx,H2 dx=none->dx≠a->D.nx σ (upd (upd H2 dx (.xd [(f,y)])) a (DQ a C (some dx)))
theorem Yf (ha:PE X o ta)(hv:PE X e tv)(hs:swapsWith e (some (.Attribute o f pos')) pos.line X.env=pure false):PS X (.Assign [.Attribute o f pos'] e pos) (XR X.K ta tv f):=by
 intro pins s σ H D I h
 refine dc (Ax (hv pins s σ H _ I h) fun u s1 zz=>?_) hs
 obtain⟨y,H1,I1,ry,q⟩:=zz
 refine Ax (ha pins s1 σ H1 _ I1 q) fun ov s2 zz=>?_
 obtain⟨x,H2,I2,rx,a,C,ex,hx,c,n,q2⟩:=zz
 subst ex
 obtain rfl:ov=Value.ref a:=rx
 obtain⟨oe,vs,t0,h0,h1,h2,h3,h4,h5⟩:=K7 I2.hok hx
 refine Xj I2.kIn h0 h1 (by unfold PySem.W.notCls;rw[h3]) h2 c n fun h' tk' kp hx' ns=>?_
 have fr:H2 s2.heap.objs.size=none:=I2.hok.fresh (Ah _)
 have ne:s2.heap.objs.size≠a:=BU (AA h0)
 have q3:=q2 s2.heap.objs.size fr ne
 have nw:GF h' a (.ref C) (some s2.heap.objs.size):=⟨_,vs,t0,hx',h1,rfl,h3,h4,h5⟩
 refine⟨σ,_,?_,q3⟩
 have nof:∀b v,H2 b=some v->(∀ψ,v≠.ext ψ)->b≠a:=fun b v e n z=>by rw[z,hx]at e;cases e;exact n _ rfl
 have nod:∀b v,H2 b=some v->b≠s2.heap.objs.size:=fun b v e z=>by rw[z,fr]at e;cases e
 have nob:∀b v,s2.heap.get? b=some v->b≠s2.heap.objs.size:=fun b v e=>AN (AA e)
 have none_a:∀b,H2 b=none->b≠a:=fun b e z=>by rw[z,hx]at e;cases e
 refine I2.un (t':=tk') ⟨fun b ob q n _ _=>kp b ob (none_a b n) q,fun b ob q n _ _=>⟨ob.slots,kp b ob (none_a b n) q⟩,fun b ob q n _=>?_,fun b ob q _=>?_,fun b xs q=>?_,fun b ob v q=>?_,fun b ps q=>⟨#[],?_⟩⟩ fun b v e=>?_
 .rw[Af (none_a b n),Af (nob b _ q)];exact n
 .by_cases z:b=a
  .rw[z];exact⟨_,hx'⟩
  .exact⟨ob,kp b ob z q⟩
 .rw[Af (nof b _ q fun ψ z=>by cases z),Af (nod b _ q)];exact q
 .rw[Af (nof b _ q fun ψ z=>by cases z),Af (nod b _ q)];exact q
 .rw[Af (nof b _ q fun ψ z=>by cases z),Af (nod b _ q),q];simp
 .by_cases z:b=a
  .subst z;rw[A6]at e;cases e;exact OB nw
  .rw[Af z]at e
   by_cases z2:b=s2.heap.objs.size
   .subst z2
    rw[A6]at e
    cases e
    refine⟨_,ns,fun g=>?_⟩
    by_cases hg:g=f
    .subst hg
     rw[Aj rfl]
     simp only[List.lookup,TM]
     exact ry
    .rw[Ab hg]
     have hb:(g==f)=false:=Iu.mpr hg
     simp only[List.lookup,hb]
     trivial
   .rw[Af z2]at e
    refine(I2.hok b v e).stay (fun c o hc q=>kp c o ?_ q) (fun c q=>?_) fun c xs q=>?_
    .rcases hc with rfl|hc
     .exact z
     .exact nof c _ hc fun ψ y=>by cases y
    .rw[Af (nof c _ q fun ψ y=>by cases y),Af (nod c _ q)];exact q
    .rw[Af (nof c _ q fun ψ y=>by cases y),Af (nod c _ q)];exact q
def Yy (K:Faa)(t:TA):TE:=fun σ H Q=>t σ H fun vs H1=>∃a C d v,vs=[.ref a,v]/\H1 a=some (DQ a C d)/\XC K C/\Q .non H1
structure XB (K:Faa)(D:Addr):Prop where
 ga:PySem.W.specialIn K (.ref D) "__getattribute__"=some (some (.builtin "type.__getattribute__"))
 rd:PySem.W.readsIn K D (.type "type")=true
 fc:PySem.W.findCls K (.ref D) (.type "type") "__init__"=some (.val (.builtin "ValueError.__init__"))
theorem Wt {D:Addr}{es:List Expr}{t:TA}{pl:Sem Bool}(hg:Gl X x)(hm:X.mg x=some (.ref D))(c:XB X.K D)(ha:PA X (e::es) t)(hdb:(x==("__debug__":Str))=false:=by decide)
  (hst:starEach (e::es) X.env=(false,eval e X.env)::starEach es X.env:=by rfl) (hpl:(backTo pos (starEach es X.env)).any (·.1)=false:=by rfl)
  (ht:eval (.Call (.Attribute (.Name x p) "__init__" apos) (e::es) [] pos) X.env=(do
   let ov ←eval (.Name x p) X.env
   standAt apos.atName
   let (f,first) ←holding [ov] (getMethod ov "__init__" pl)
   callWith pos f first (backTo pos (starEach (e::es) X.env)) (backToKw pos (keywordEach [] X.env))):=by rfl) :
  PE X (.Call (.Attribute (.Name x p) "__init__" apos) (e::es) [] pos) (Yy X.K t):=by
 intro pins s σ H Q I h
 refine PySem.W.methodCall_KW (pl:=pl) (IW I hg hm ?_ hdb) ht
 refine PySem.W.method_cls I.kIn c.ga ?_
 refine PySem.W.cls_value I.kIn c.rd c.fc rfl ?_
 have I0:A2 X pins σ H {s with toks:=s.toks+1}:=I.tok _
 refine cY (Ax (ha pos pins _ σ H _ I0 h) fun us s1 zz=>?_) hst hpl
 obtain⟨vs,H1,I1,r1,a,C,d,v,ev,hx,xc,q1⟩:=zz
 subst ev
 obtain⟨u1,r1',rfl,ra,rr⟩:∃u1 r1',us=u1::r1'/\AD (.ref a) u1/\Az [v] r1':=by cases r1 with|cons a b=>exact⟨_,_,rfl,a,b⟩
 obtain⟨u2,rfl,rv⟩:=EK rr
 obtain rfl:u1 = .ref a:=ra
 obtain⟨oe,vs,t0,h0,h1,h2,h3,h4,h5⟩:=K7 I1.hok hx
 refine Iv (Y6 I1.kIn h0 h1 h3 h4 xc fun h' kp hx'=>?_)
 have nw:GF h' a (.ref C) d:=⟨_,_,_,hx',h1,h2,rfl,by
  have hz:0<vs.size:=(Ip.mp h4).1
  simp[hz];rfl,by
  rw[Array.getElem?_setIfInBounds_ne (by decide)];exact h5⟩
 have J:=I1.write (x:=a) (e:=a) (o:=DQ a C d) (h':=h') (t':=s1.toks) (by rw[hx];exact True.intro) (.inl rfl) kp ⟨_,hx'⟩ (OB nw)
 rw[Nz hx]at J
 exact⟨.non,H1,J,rfl,q1⟩
end
end
end L2
namespace Wv
variable {α:Type}
end Wv
namespace L2
open PySem PySem.Spec PyProof.Rows
section
variable {X:Cx}{es:List Expr}{env:Env}{p:Pos}
def R3 (K:Faa):List V->Hp->VK->Prop:=fun xs H Q=>∃p ys,xs=[V.ref p]/\(A5 K H p ys\/A9 K H p ys)/\Q (V.int (ys.length:Int)) H
end
mutual
def Er (H:Hp):PyData->V->Prop
 |.none,x=>x = .non
 |.bool b,x=>x = .bl b
 |.int i,x=>x = .int i
 |.str y,x=>x = .str y
 |.list ds,x=>∃p xs,x = .ref p/\H p=some (.lst xs)/\Fj H ds xs
 |.tuple ds,x=>∃p xs,x = .ref p/\H p=some (.tup xs)/\Fj H ds xs
 |.dict _,_=>False
def Fj (H:Hp):List PyData->List V->Prop
 |[],xs=>xs=[]
 |d::ds,xs=>∃x xs',xs=x::xs'/\Er H d x/\Fj H ds xs'
end
section
variable {X:Cx}{pins:List (Addr×Obj)}{σ:St}{H:Hp}{s:Shared}
mutual
theorem Er.reads (I:A2 X pins σ H s):∀{d:PyData} {x:V} {u:Value},Er H d x->AD x u->∃as,PySem.Reads s.heap u d as
 |.none,x,u,h,r=>by rw[Er]at h;subst h;cases r;exact⟨_,.none⟩
 |.bool b,x,u,h,r=>by rw[Er]at h;subst h;cases r;exact⟨_,.bool b⟩
 |.int i,x,u,h,r=>by rw[Er]at h;subst h;obtain⟨t,rfl⟩:=r;exact⟨_,.int i t⟩
 |.str y,x,u,h,r=>by rw[Er]at h;subst h;obtain⟨t,rfl⟩:=r;exact⟨_,.str y t⟩
 |
  .list ds,x,u,h,r=>by
  rw[Er]at h
  obtain⟨p,xs,rfl,hp,hs⟩:=h
  cases r
  obtain⟨its,rv,pl,hz⟩:=I.list (A5.of hp)
  obtain⟨o,ho,hc,n,hd⟩:=pl.isList
  obtain⟨as,ra⟩:=Fj.reads I hs rv
  exact⟨_,.list ho hc hd (by simpa using ra)⟩
 |
  .tuple ds,x,u,h,r=>by
  rw[Er]at h
  obtain⟨p,xs,rfl,hp,hs⟩:=h
  cases r
  obtain⟨its,rv,pl,hz⟩:=I.tuple (A9.of hp)
  obtain⟨o,ho,hc,n,hd⟩:=pl
  obtain⟨as,ra⟩:=Fj.reads I hs rv
  exact⟨_,.tuple ho hc hd (by simpa using ra)⟩
 |.dict _,x,u,h,r=>by rw[Er]at h;exact h.elim
theorem Fj.reads (I:A2 X pins σ H s):∀{ds:List PyData} {xs:List V} {us:List Value},Fj H ds xs->Az xs us->∃as,PySem.ReadsAll s.heap us ds as
 |[],xs,us,h,r=>by rw[Fj]at h;subst h;cases r;exact⟨_,.nil⟩
 |
  d::ds,xs,us,h,r=>by
  rw[Fj]at h
  obtain⟨x,xs',rfl,h1,h2⟩:=h
  cases r with
  |
   cons r1 r2=>
   obtain⟨as,a⟩:=Er.reads I h1 r1
   obtain⟨bs,b⟩:=Fj.reads I h2 r2
   exact⟨_,.cons a b⟩
end
structure FC (n w:Nat)(d:PyData):Prop where
 sh:d.showable=true
 lf:d.leavesShort 13=true
 wt:d.weight<=w
 dp:d.depth<=n
 nd:d.hasDict=false
end
theorem S2 {n w:Nat}:∀{ds:List PyData},(∀d∈ds,FC n w d)->PyData.showableAll ds=true/\PyData.leavesShortAll 13 ds=true/\PyData.weightAll ds<=(w+1)*ds.length/\PyData.depthAll ds<=n/\PyData.hasDictAll ds=false
 |[],_=>by simp[PyData.showableAll,PyData.leavesShortAll,PyData.weightAll,PyData.depthAll,PyData.hasDictAll]
 |
  d::ds,h=>by
  obtain⟨a,b,c,e,f⟩:=S2 (ds:=ds) fun x hx=>h x (C6 _ hx)
  have g:=h d BN
  have g3:=g.wt
  have g4:=g.dp
  simp only[PyData.showableAll,PyData.leavesShortAll,PyData.weightAll,PyData.depthAll,PyData.hasDictAll,g.sh,g.lf,g.nd,a,b,f,B9,Bool.and_self,Bool.or_self]
  refine⟨trivial,trivial,?_,by lia,trivial⟩
  rw[Nat.mul_add,Nat.mul_one]
  lia
theorem Vv {n w:Nat}{ds:List PyData}(h:∀d∈ds,FC n w d):FC (n+1) ((w+1)*ds.length) (.list ds):=by
 obtain⟨a,b,c,e,f⟩:=S2 h
 exact⟨by rw[PyData.showable];exact a,by rw[PyData.leavesShort];exact b,by rw[PyData.weight];exact c,by rw[PyData.depth];lia,by rw[PyData.hasDict];exact f⟩
theorem FC.mono {n w m v:Nat}{d:PyData}(h:FC n w d)(h1:n<=m)(h2:w<=v):FC m v d:=⟨h.sh,h.lf,Cz h.wt h2,Cz h.dp h1,h.nd⟩
def OX (n w:Nat)(d:PyData):Bool:=d.showable&&(d.leavesShort 13&&(decide (d.weight<=w)&&(decide (d.depth<=n)&&!d.hasDict)))
theorem aC {n w:Nat}{d:PyData}(h:OX n w d=true):FC n w d:=by
 unfold OX at h
 simp only[F7,TJ,Bool.not_eq_true']at h
 exact⟨h.1,h.2.1,h.2.2.1,h.2.2.2.1,h.2.2.2.2⟩
theorem VQ {i:Nat}(h:i<500):FC 1 20 (.int (i:Int)):=by
 have:∀i<500,OX 1 20 (.int ((i:Nat):Int))=true:=by decide +kernel
 exact aC (this i h)
section
open EX
def Ya (t:TE):TE:=fun σ H Q=>t σ H fun v H1=>∃p d,v = .ref p/\Er H1 d (.ref p)/\FC 50 1000000 d/\(d.shown.length<=15000013->Q (.str d.shown) H1)
theorem Zw {X:Cx}{e:Expr}{t:TE}{pos:Pos}(hg:X.A.guards=some [])(hu:X.A.units+64<cLine)(h:PE X e t):PE X (.FormattedValue e 114 none pos) (Ya t):=by
 intro pins s σ H Q I hq
 refine wpAny_FormattedValue_repr (Ax (h pins s σ H _ I hq) fun v s1 hx=>?_)
 obtain⟨x,H1,I1,r1,p,d,rfl,hs,sm,q⟩:=hx
 obtain rfl:v = .ref p:=r1
 obtain⟨as,rd⟩:=hs.reads I1 (u:=.ref p) rfl
 have dp:=sm.dp
 have sl:d.shown.length<=15000013:=by
  have:=PyData.shown_le 13 (by decide) d sm.lf
  have:=sm.wt
  lia
 have sz:d.shown.length<=sizeLine:=PyData.shown_fits (B:=13) (by decide) (by decide) sm.lf (Cz sm.wt (by decide))
 refine pyReprObj_of_reads rd sm.sh (PyData.noDict_hsm sm.nd) hg (by lia) (fun _ _ e=>e) (fun h' u tk hk=>?_) sz
 have I2:A2 X pins σ H1 {s1 with heap:=h',toks:=tk}:=I1.kept (t':=tk) hk
 exact wpAny_formatField_str ⟨.str d.shown,H1,I2,⟨_,rfl⟩,q sl⟩ ⟨.str d.shown,H1,I2.tok _,⟨_,rfl⟩,q sl⟩ sz
section
variable {P:Program}{w:World}{K:Faa}{mg:Str->Option Value}{base:Heap}
end
section
variable {X:Cx}{k:Nat}{f:Addr}{fd:FuncData}{ps:List Str}{sp:Sp}{x:Str}{p pos:Pos}{e:Expr}{es:List Expr}{t:TA}
end
end
section
open EX
def MH (K:Faa)(C:Addr)(own:List Addr):Bool:=match K.lookup C with
 |
  some ⟨.type "type",_,.cls cd,sl⟩=>(match cd.mro,sl.toList with
  |.ref C'::bm,[_,_,_,_,some (.builtin n),_]=>C'==C&&n=="ValueError.__new__"&&!cd.hasDel&&bm==own.map Value.ref++bmVE&&PySem.W.tailIn K bmVE bm
  |_,_=>false)
 |_=>false
theorem IP {K:Faa}{C:Addr}{own:List Addr}(q:MH K C own=true):∃N,∀h,K.In h->ClsT h C N (own.map Value.ref++bmVE):=by
 unfold MH at q
 split at q
 .rename_i dd cd sl ho
  split at q
  .rename_i C' bm k0 k1 k2 k3 n k5 hm hs
   simp only[F7,GR,Bool.not_eq_true']at q
   obtain⟨⟨⟨⟨rfl,rfl⟩,hdel⟩,hb⟩,ht⟩:=q
   obtain⟨nm,bs,mro,ns,qn,hd,sn,sub,ab,col,del⟩:=cd
   dsimp only at hm hdel
   subst hm hdel
   have hsl:sl = #[k0,k1,k2,k3,some (.builtin "ValueError.__new__"),k5]:=by
    obtain⟨l⟩:=sl
    simp only at hs
    rw[hs]
   subst hsl
   rw[←hb]
   exact⟨ns,fun h X=>⟨nm,qn,bs,hd,sn,sub,ab,col,dd,k0,k1,k2,k3,k5,X _ _ ho,PySem.W.tail_of_in X ht⟩⟩
  .cases q
 .cases q
def Vw:Addr->Addr->Option Addr->TS:=fun _ _ _ _ _ _=>False
theorem Z7 {X:Cx}:PH X [] Vw:=fun _ _ _ _ _ _ _ _ _ _ _ _ _ _ _ h=>h.elim
theorem Ui {C:Addr}{own:List Addr}{D:Addr}:(Value.ref C::(own.map Value.ref++bmVE)).contains (.ref D)=decide (D=C\/D∈own):=by
 rw[L8,List.contains_iff_mem,decide_eq_true_iff]
 simp[bmVE]
end
section
open EX
def Xs (C:Addr):Sp:=fun vs H Q _=>∃(a rg:Addr) (rs:List Int),vs=[.ref a,.ref rg]/\H a=some (DQ a C none)/\H rg=some (.lst (rs.map V.int))/\rs.length<=60/\(∀x∈rs,0<=x/\x<60)/\
 ∀l dx,H l=none->l≠dx->H dx=none->dx≠a->Q .non (upd (upd (upd H l (.lst (rs.map V.int))) dx (.xd [("ring",.ref l)])) a (DQ a C (some dx)))
theorem aG {H:Hp}{p:Addr}{rs:List Int}(h:H p=some (.lst (rs.map V.int)))(h60:∀x∈rs,0<=x/\x<60)(hl:rs.length<=60):∃d,Er H d (.ref p)/\FC 50 1000000 d:=by
 have rps:∀l:List Int,Fj H (l.map PyData.int) (l.map V.int):=fun l=>by
  induction l with
  |nil=>rfl
  |cons x l ih=>exact⟨_,_,rfl,rfl,ih⟩
 refine⟨.list (rs.map PyData.int),⟨p,_,rfl,h,rps rs⟩,?_⟩
 refine(Vv (n:=1) (w:=20) fun d hd=>?_).mono (by decide) ?_
 .obtain⟨x,hx,rfl⟩:=C9.mp hd
  obtain⟨h0,h1⟩:=h60 x hx
  obtain⟨m,rfl⟩:∃m:Nat,x=(m:Int):=⟨x.toNat,by lia⟩
  exact VQ (by lia)
 .rw[Al];lia
theorem Qr:(Str.empty++("no values, by the ring ":Str)).length<=30:=by decide +kernel
theorem Xg {x y:Str}{n:Nat}(hx:x.length<=30)(hy:y.length<=n)(hn:n<=15000013):(x++y).length<=sizeLine:=by
 rw[O9,Gh]
 lia
theorem OE {H H1:Hp}{a:Addr}{o:HO}(e:A8 H H1)(h:H a=none):A8 H (upd H1 a o):=fun b ob hb=>by
 rw[Af (AI hb h)]
 exact e _ _ hb
end
end L2
namespace Bd
open PySem L2
theorem Holds.left {f:Nat->Int}{B C:List Ao}(h:Holds f (B++C)):Holds f B:=fun b hb=>h b (CA _ hb)
theorem cH {n:Nat}{B:List Ao}{x y:Nat}{f:Nat->Int}(hy:y<n)(hf:Holds f B)(hw:WF n B)(hne:x≠y)(hq:(fin B y).q x=none)(k:Int):∃g,Holds g (B++[⟨y,x,k⟩]):=by
 have hst:=OO hy hf hw (LN hy hf hw).1
 have hJ:=Ji.all hy hf hw (FH B y)
 change LC B (fin B y) at hst
 change Ji n B y f (fin B y) at hJ
 have hL:(fin B y).L x=none:=by
  cases hL:(fin B y).L x with
  |none=>rfl
  |
   some lx=>
   rcases hJ.has x lx hL with h|⟨i,h⟩
   .exact absurd h hne
   .rw[hq]at h;cases h
 have hS:∃T:Int,0<=T/\f y-f x-k<=T:=by
  rcases Int.le_total 0 (f y-f x-k) with c|c
  .exact⟨_,c,GP _⟩
  .exact⟨0,GP _,c⟩
 obtain⟨T,T0,T1⟩:=hS
 refine⟨fun v=>f v-(if(fin B y).L v=none then 0 else T),fun b hb=>?_⟩
 rcases BO.mp hb with h|h
 .have h0:=hf b h
  show f b.x-(if(fin B y).L b.x=none then 0 else T)-(f b.y-(if(fin B y).L b.y=none then 0 else T))<=b.c
  cases ey:(fin B y).L b.y with
  |none=>rw[Aj rfl];split<;>lia
  |
   some l=>
   obtain⟨lx,e1,_⟩:=hst b h l ey
   rw[e1,Ab (by simp),Ab (by simp)]
   lia
 .rw[Bz.mp h]
  show f y-(if(fin B y).L y=none then 0 else T)-(f x-(if(fin B y).L x=none then 0 else T))<=k
  rw[hJ.at0,hL,Ab (by simp),Aj rfl]
  lia
end Bd
namespace L2
open PySem PySem.Spec PyProof.Rows EX Bd
def WA (C:Addr):Sp:=fun vs H Q E=>∃(n:Nat) (b:Addr) (B:List Ao) (x y:Nat),vs=[.int (n:Int),.ref b,.int (x:Int),.int (y:Int)]/\EY H b B/\WF n B/\n<=1000/\B.length<=60/\x<n/\y<n/\
 (∀f,Holds f B->∀(v:V) (H':Hp),A8 H H'->Jw n B x y H' v->Q v H')/\
 (∀(R:List Nat) (u:Nat->Nat),E4 n B=(.str "ring",By R)->Fh B R u->∀(a dx r:Addr) (H':Hp),A8 H H'->H' a=some (DD a C (some dx))->H' dx=some (.xd [("ring",.ref r)])->H' r=some (.lst (By R))->E (.ref a) none H')
end L2
namespace Fo
variable {W:Type}
theorem Jm:∀(f:F W) (q:List Int) (j:Nat) (en:En),en∈deedsF f q j->∃(r:Nat) (rs:List Int),en.path=q++(r:Int)::rs/\j<=r
 |.nil,q,j,en,h=>nomatch h
 |
  .leaf k pl rest,q,j,en,h=>by
  rcases AS.mp (show en∈⟨k,pl,q++[(j:Int)]⟩::deedsF rest q (j+1) from h) with rfl|h
  .exact⟨j,[],rfl,Ah _⟩
  .obtain⟨r,rs,e,l⟩:=Jm rest q (j+1) en h
   exact⟨r,rs,e,by lia⟩
 |
  .node c w sub rest,q,j,en,h=>by
  rcases BO.mp (show en∈deedsF sub (q++[(j:Int)]) 0++deedsF rest q (j+1) from h) with h|h
  .obtain⟨r,rs,e,l⟩:=Jm sub (q++[(j:Int)]) 0 en h
   exact⟨j,(r:Int)::rs,by rw[e,DH];rfl,Ah _⟩
  .obtain⟨r,rs,e,l⟩:=Jm rest q (j+1) en h
   exact⟨r,rs,e,by lia⟩
theorem sw_pre:∀(f:F W) (q:List Int) (j:Nat) (s:Sw W),s∈swF f q j->∃(r:Nat) (rs:List Int),s.1=q++(r:Int)::rs/\j<=r
 |.nil,q,j,s,h=>nomatch h
 |
  .leaf k pl rest,q,j,s,h=>by
  obtain⟨r,rs,e,l⟩:=sw_pre rest q (j+1) s h
  exact⟨r,rs,e,by lia⟩
 |
  .node c w sub rest,q,j,s,h=>by
  rcases AS.mp (show s∈(q++[(j:Int)],c,w)::(swF sub (q++[(j:Int)]) 0++swF rest q (j+1)) from h) with rfl|h
  .exact⟨j,[],rfl,Ah _⟩
  rcases BO.mp h with h|h
  .obtain⟨r,rs,e,l⟩:=sw_pre sub (q++[(j:Int)]) 0 s h
   exact⟨j,(r:Int)::rs,by rw[e,DH];rfl,Ah _⟩
  .obtain⟨r,rs,e,l⟩:=sw_pre rest q (j+1) s h
   exact⟨r,rs,e,by lia⟩
theorem Lr {q x y:List Int}{a b:Int}{P S:List Int}(hP:P=q++a::x)(hS:S=q++b::y)(h:P.take S.length=S):a=b:=by
 have l:q.length<S.length:=by rw[hS,AF,B9];lia
 have e:(P.take S.length)[q.length]?=S[q.length]?:=by rw[h]
 rw[CS l,hP,hS,BH (Ah _),BH (Ah _),Cq]at e
 exact Cp e
theorem sw_longer:∀(f:F W) (q:List Int) (j:Nat) (en:En) (s:Sw W),en∈deedsF f q j->s∈swF f q j->en.path.take s.1.length=s.1->s.1.length<en.path.length
 |.nil,q,j,en,s,h,_,_=>nomatch h
 |
  .leaf k pl rest,q,j,en,s,h,hs,e=>by
  rcases AS.mp (show en∈⟨k,pl,q++[(j:Int)]⟩::deedsF rest q (j+1) from h) with rfl|h
  .obtain⟨r,rs,e1,l⟩:=sw_pre rest q (j+1) s hs
   have:=Lr (q:=q) (x:=[]) (a:=(j:Int)) rfl e1 e
   lia
  .exact sw_longer rest q (j+1) en s h hs e
 |
  .node c w sub rest,q,j,en,s,h,hs,e=>by
  rcases BO.mp (show en∈deedsF sub (q++[(j:Int)]) 0++deedsF rest q (j+1) from h) with h|h
  .rcases AS.mp (show s∈(q++[(j:Int)],c,w)::(swF sub (q++[(j:Int)]) 0++swF rest q (j+1)) from hs) with rfl|hs
   .obtain⟨r,rs,e1,l⟩:=Jm sub _ 0 en h
    rw[e1]
    show(q++[(j:Int)]).length<_
    rw[AF (as:=q++[(j:Int)]),B9]
    lia
   rcases BO.mp hs with hs|hs
   .exact sw_longer sub _ 0 en s h hs e
   .obtain⟨r,rs,e1,l⟩:=sw_pre rest q (j+1) s hs
    obtain⟨r2,rs2,e2,l2⟩:=Jm sub _ 0 en h
    have:=Lr (q:=q) (a:=(j:Int)) (x:=(r2:Int)::rs2) (by rw[e2,DH];rfl) e1 e
    lia
  .obtain⟨r2,rs2,e2,l2⟩:=Jm rest q (j+1) en h
   rcases AS.mp (show s∈(q++[(j:Int)],c,w)::(swF sub (q++[(j:Int)]) 0++swF rest q (j+1)) from hs) with rfl|hs
   .have:=Lr (q:=q) (b:=(j:Int)) (y:=[]) e2 rfl e
    lia
   rcases BO.mp hs with hs|hs
   .obtain⟨r,rs,e1,l⟩:=sw_pre sub _ 0 s hs
    have:=Lr (q:=q) (b:=(j:Int)) (y:=(r:Int)::rs) e2 (by rw[e1,DH];rfl) e
    lia
   .exact sw_longer rest q (j+1) en s h hs e
theorem O4:∀(f:F W) (q:List Int) (j r:Nat) {c:Bool} {w:W} {sub:F W},L6 f r=some (.sweep c w sub)->(q++[((j+r:Nat):Int)],c,w)∈swF f q j/\∀s∈swF sub (q++[((j+r:Nat):Int)]) 0,s∈swF f q j
 |.nil,q,j,r,c,w,sub,h=>by cases r<;>cases h
 |.leaf k pl rest,q,j,0,c,w,sub,h=>by cases h
 |
  .leaf k pl rest,q,j,r+1,c,w,sub,h=>by
  have:=O4 rest q (j+1) r h
  rw[show j+1+r=j+(r+1) by lia]at this
  exact this
 |
  .node c' w' s' rest,q,j,0,c,w,sub,h=>by
  cases h
  exact⟨BN,fun s hs=>C6 _ (CA _ hs)⟩
 |
  .node c' w' s' rest,q,j,r+1,c,w,sub,h=>by
  have:=O4 rest q (j+1) r h
  rw[show j+1+r=j+(r+1) by lia]at this
  exact⟨C6 _ (C7 _ this.1),fun s hs=>C6 _ (C7 _ (this.2 s hs))⟩
theorem Qg:∀(rs:List Nat) (f:F W) (q:List Int) (j r:Nat) (ws:List (Bool×W)),Down f (r::rs) ws->∀e x,ws[e]?=some x->((q++((j+r:Nat):Int)::rs.map (fun n:Nat=>(n:Int))).take (q.length+e+1),x)∈swF f q j
 |
  rs,f,q,j,r,ws,h,e,x,hx=>by
  rcases h with⟨_,_,_,_,rfl⟩|⟨c,w,sub,ws',h1,rfl,h2⟩
  .cases hx
  .obtain⟨m1,m2⟩:=O4 f q j r h1
   cases e with
   |
    zero=>
    cases hx
    rw[show q.length+0+1=q.length+1 by lia,List.take_append,CU (by lia),show q.length+1-q.length=1 by lia]
    exact m1
   |
    succ e=>
    cases rs with
    |nil=>exact h2.elim
    |
     cons r' rs'=>
     have:=Qg rs' sub (q++[((j+r:Nat):Int)]) 0 r' ws' h2 e x hx
     have:=m2 _ this
     rw[DH,AF,Bf,Lb]at this
     rw[show q.length+(e+1)+1=q.length+1+e+1 by lia]
     exact this
theorem level_sw {f:F W}{B:List (Bo W)}{i:Nat}{en:En}{b:Bo W}(h:Is f B 0)(ok:Ok B)(he:(deedsF f [] 0)[i]?=some en)(hb:B[i]?=some b){e:Nat}{x:Bool×W}(hx:b.ways[e]?=some x):(en.path.take (e+1),x)∈swF f [] 0:=by
 obtain⟨r,rs,e1,d⟩:=deeds_down f B 0 [] 0 i en b h (fun _ _ _=>Bk _) ok (fun _ _=>Bk _) he hb
 have:=Qg rs f [] 0 r _ d e x (by rw[La];exact hx)
 rw[Ii,show 0+e+1=e+1 by lia,Ih]at this
 rw[e1,Ih]
 exact this
end Fo
namespace L2
open PySem PySem.Spec PyProof.Rows
section
open EX Bd
theorem WQ {X:Cx}(hc:X.calm=true):E8 X (.builtin "max") (fun xs H Q=>∃(p:Addr) (ns:List Int),xs=[.ref p]/\A5 X.K H p (ns.map V.int)/\0<ns.length/\∀M∈ns,(∀a∈ns,a<=M)->Q (.int M) H):=by
 intro pins s σ H xs us Q I r h
 obtain⟨p,ns,rfl,hq,hpos,q⟩:=h
 obtain⟨u,rfl,ru⟩:=EK r
 cases ru
 obtain⟨its,rv,pl,hz⟩:=I.list hq
 have hi:=J5 rv
 obtain⟨xs,e⟩:=hi.allInts.items
 have hns:ns=xs.toList.map (·.1):=by rw[←hi.numsOf,←Nr,←e]
 have hsz:0<xs.size:=by
  have h3:=hpos;rw[hns,Al,DF]at h3;exact h3
 have hl:=pl.isList
 rw[e]at hl
 refine max_intList (I.ok.hd hc) hl hsz fun v h' tk hv hk=>?_
 obtain⟨t,rfl⟩:=Lj hv
 obtain⟨h1,h2⟩:=argBest_gt (numAt xs) (xs.size-1)
 refine⟨.int _,H,I.kept (t':=tk) hk,⟨_,rfl⟩,q _ ?_ fun a ha=>?_⟩
 .rw[hns,IC];exact getD_mem (by rw[Al,DF];lia)
 .rw[hns]at ha
  obtain⟨j,hj,rfl⟩:=mem_getD ha
  rw[Al,DF]at hj
  rw[←IC];exact h2 j (by lia)
structure GB (B:List Am):Prop where
 ok:Fo.Ok B
 len:∀b∈B,b.ways.length<=6
 pll:∀b∈B,b.pl.length=b.ways.length
 n6:B.length<=6
 nd:(B.map (·.k)).Nodup
def Hb (H:Hp)(p:Addr)(B:List Am)(f:Bj):Prop:=Gv H p f/\Fo.Is f B 0/\GB B
theorem Hb.over {H H':Hp}{p:Addr}{B:List Am}{f:Bj}(h:Hb H p B f)(e:A8 H H'):Hb H' p B f:=⟨h.1.over e,h.2⟩
theorem Qw {f:Bj}{B:List Am}{i j s:Nat}{b c:Am}{x y:Fo.En}(h:Fo.Is f B 0)(g:Fo.Ok B)(hb:B[i]?=some b)(hc:B[j]?=some c)(hx:(Fo.deedsF f [] 0)[i]?=some x)(hy:(Fo.deedsF f [] 0)[j]?=some y)(hm:Om B i j s) :
  s<=b.ways.length/\s<=c.ways.length/\(∀e<s,x.path.getD e 0=y.path.getD e 0)/\(s<b.ways.length->s<c.ways.length->x.path.getD s 0≠y.path.getD s 0)/\x.path.length=b.ways.length+1/\y.path.length=c.ways.length+1:=by
 have zero:∀i c,B[i+1]?=some c->0<=c.sh:=fun _ _ _=>Bk _
 obtain⟨r1,rs1,e1,d1⟩:=Fo.deeds_down f B 0 [] 0 i x b h zero g (fun _ _=>Bk _) hx hb
 obtain⟨r2,rs2,e2,d2⟩:=Fo.deeds_down f B 0 [] 0 j y c h zero g (fun _ _=>Bk _) hy hc
 have l1:=MX d1
 have l2:=MX d2
 rw[La]at l1 l2
 have x1:x.path.length=b.ways.length+1:=by rw[e1,Ih,B9,Al,←l1];rfl
 have y1:y.path.length=c.ways.length+1:=by rw[e2,Ih,B9,Al,←l2];rfl
 have sep:∀{u v:List Int} {n:Nat},Fo.Sep u v n->n<u.length/\n<v.length/\(∀e<n,u.getD e 0=v.getD e 0)/\u.getD n 0≠v.getD n 0:=fun{u v n} hs=>by
  obtain⟨cc,a,b,q,r,rfl,rfl,rfl,hab⟩:=hs
  refine⟨by simp,by simp,fun e he=>?_,?_⟩
  .rw[Cd,Cd,C8 he,C8 he]
  .rw[Cd,Cd,BH (Ah _),BH (Ah _),Cq]
   show a≠b
   lia
 rcases hm with⟨rfl,b',hb',rfl⟩|⟨hij,hl⟩|⟨hij,hl⟩
 .rw[hb]at hb' hc
  cases hb'
  cases hc
  rw[hx]at hy
  cases hy
  exact⟨Ah _,Ah _,fun _ _=>rfl,fun z=>by lia,x1,y1⟩
 .obtain⟨_,hs⟩:=Fo.deeds_sep f B 0 [] 0 i j s x y h zero hij hx hy hl
  obtain⟨a1,a2,a3,a4⟩:=sep hs
  simp only[Ii,Lb,Nd]at a1 a2 a3 a4
  exact⟨by lia,by lia,a3,fun _ _=>a4,x1,y1⟩
 .obtain⟨_,hs⟩:=Fo.deeds_sep f B 0 [] 0 j i s y x h zero hij hy hx hl
  obtain⟨a1,a2,a3,a4⟩:=sep hs
  simp only[Ii,Lb,Nd]at a1 a2 a3 a4
  exact⟨by lia,by lia,fun e he=>(a3 e he).symm,fun _ _ z=>a4 z.symm,x1,y1⟩
def Fe (f:Bj):List (List Int):=((Fo.swF f [] 0).filter (·.2.1)).map (·.1)
def Bx (u w:Nat->Nat)(ln hn:Nat->Int):Nat->List Ao
 |0=>[]
 |n+1=>Bx u w ln hn n++[⟨u n,1+n,-(ln n)⟩]++[⟨1+n,w n,hn n⟩]
theorem Q6 (u w:Nat->Nat)(ln hn:Nat->Int):∀n,(Bx u w ln hn n).length=2*n
 |0=>rfl
 |n+1=>by rw[Bx,AF,AF,Q6 u w ln hn n];show 2*n+1+1=_;lia
theorem F0 (u w:Nat->Nat)(ln hn:Nat->Int):∀n i,i<n->(⟨u i,1+i,-(ln i)⟩:Ao)∈Bx u w ln hn n/\(⟨1+i,w i,hn i⟩:Ao)∈Bx u w ln hn n
 |
  n+1,i,h=>by
  rw[Bx]
  rcases DJ i n with z|z
  .obtain⟨a,b⟩:=F0 u w ln hn n i z
   exact⟨CA _ (CA _ a),CA _ (CA _ b)⟩
  .have:i=n:=by lia
   subst this
   exact⟨CA _ (C7 _ BN),C7 _ BN⟩
theorem J0 (u w:Nat->Nat)(ln hn:Nat->Int):∀n b,b∈Bx u w ln hn n->∃i<n,b=⟨u i,1+i,-(ln i)⟩\/b=⟨1+i,w i,hn i⟩
 |0,b,h=>nomatch h
 |
  n+1,b,h=>by
  rw[Bx]at h
  rcases BO.mp h with h|h
  .rcases BO.mp h with h|h
   .obtain⟨i,hi,e⟩:=J0 u w ln hn n b h
    exact⟨i,by lia,e⟩
   .exact⟨n,by lia,.inl (Bz.mp h)⟩
  .exact⟨n,by lia,.inr (Bz.mp h)⟩
theorem Qa {u w:Nat->Nat}{ln hn:Nat->Int}{n:Nat}(h:∀i<n,u i<=i/\w i<=i):WF (1+n) (Bx u w ln hn n):=fun b hb=>by
 obtain⟨i,hi,rfl|rfl⟩:=J0 u w ln hn n b hb
 .have:=h i hi;exact⟨by show u i<1+n;lia,by show 1+i<1+n;lia⟩
 .have:=h i hi;exact⟨by show 1+i<1+n;lia,by show w i<1+n;lia⟩
theorem SV {u w:Nat->Nat}{ln hn:Nat->Int}{n:Nat}(h:∀i<n,u i<=i/\w i<=i):∀v,v<1+n->∃M:Int,∀f,Holds f (Bx u w ln hn n)->f v-f 0<=M/\f 0-f v<=M:=by
 intro v
 induction v using Nat.strongRecOn with
 |
  _ v ih=>
  intro hv
  rcases Nl v with rfl|hp
  .exact⟨0,fun f _=>by lia⟩
  obtain⟨i,rfl⟩:∃i,v=1+i:=⟨v-1,by lia⟩
  have hi:i<n:=by lia
  obtain⟨h1,h2⟩:=h i hi
  obtain⟨M1,m1⟩:=ih (u i) (by lia) (by lia)
  obtain⟨M2,m2⟩:=ih (w i) (by lia) (by lia)
  obtain⟨a,b⟩:=F0 u w ln hn n i hi
  have up:∀x y:Int,∃M,x<=M/\y<=M:=fun x y=>by
   rcases Int.le_total x y with z|z
   .exact⟨y,z,GP _⟩
   .exact⟨x,GP _,z⟩
  obtain⟨M,k1,k2⟩:=up (M1-ln i) (M2+hn i)
  refine⟨M,fun f hf=>?_⟩
  have c1:f (u i)-f (1+i)<=-(ln i):=hf _ a
  have c2:f (1+i)-f (w i)<=hn i:=hf _ b
  have:=m1 f hf
  have:=m2 f hf
  lia
theorem Re {u w:Nat->Nat}{ln hn:Nat->Int}{n:Nat}(h:∀i<n,u i<=i/\w i<=i){x y:Nat}(hx:x<1+n)(hy:y<1+n)(h0:x=0\/y=0){f:Nat->Int}(hf:Holds f (Bx u w ln hn n)):∃(c:Int) (R:List Nat) (vs:List V),GM (1+n) (Bx u w ln hn n) x y=some (c,R,vs)/\(∀g,Holds g (Bx u w ln hn n)->g x-g y<=c)/\∃g,Holds g (Bx u w ln hn n)/\g x-g y=c:=by
 have wf:=Qa (ln:=ln) (hn:=hn) h
 rcases Xp hx hy hf wf with⟨e,ne,q⟩|⟨c,R,g,v,e,g0,hg,hgc,hC,hc,hRl,_,_⟩
 .exfalso
  have bd:∃M:Int,∀f,Holds f (Bx u w ln hn n)->f x-f y<=M:=by
   rcases h0 with rfl|rfl
   .obtain⟨M,m⟩:=SV (ln:=ln) (hn:=hn) h y hy
    exact⟨M,fun f hf=>(m f hf).2⟩
   .obtain⟨M,m⟩:=SV (ln:=ln) (hn:=hn) h x hx
    exact⟨M,fun f hf=>(m f hf).1⟩
  obtain⟨M,m⟩:=bd
  obtain⟨g,hg⟩:=cH hy hf wf ne q (-(M+1))
  have h1:=m g hg.left
  have h2:g y-g x<=-(M+1):=hg ⟨y,x,-(M+1)⟩ (C7 _ BN)
  lia
 .exact⟨c,R,_,e,fun g' hg'=>by have:=hC.sum hg';lia,g,hg,hgc⟩
def Q4 (D:Dw)(i:Nat):Str:=match D.loops[i]? with
 |some t=>t.nm
 |none=>""
def Fs (D:Dw)(i:Nat):Str×Int:=match D.loops[i]? with
 |some t=>t.lo
 |none=>("",0)
def Fi (D:Dw)(i:Nat):Str×Int:=match D.loops[i]? with
 |some t=>t.hi
 |none=>("",0)
theorem Hf {D:Dw}{i:Nat}{t:Hm}(h:D.loops[i]?=some t):Q4 D i=t.nm/\Fs D i=t.lo/\Fi D i=t.hi:=by unfold Q4 Fs Fi;rw[h];exact⟨rfl,rfl,rfl⟩
structure LW (D:Dw)(u w:Nat->Nat):Prop where
 l3:D.loops.length<=3
 lt:∀i<D.loops.length,u i<=i/\w i<=i
 lo:∀i<D.loops.length,D4 (D.loops.map (·.nm)) (Fs D i).1 1 (u i:Int)
 hi:∀i<D.loops.length,D4 (D.loops.map (·.nm)) (Fi D i).1 1 (w i:Int)
abbrev DU (D:Dw)(u w:Nat->Nat):List Ao:=Bx u w (fun i=>(Fs D i).2) (fun i=>(Fi D i).2) D.loops.length
theorem YX {H:Hp}{u w:Nat->Nat}{ln hn:Nat->Int}:∀(n:Nat) {ys:List V},E6 H ys (Gz (Kt 1 (fun i=>(u i:Int)) ln) (JT 1 (fun i=>(w i:Int)) hn) n)->FJ H ys (Bx u w ln hn n):=fun n ys h=>by
 have e:∀n,Gz (Kt 1 (fun i=>(u i:Int)) ln) (JT 1 (fun i=>(w i:Int)) hn) n=(Bx u w ln hn n).map fun b=>((b.x:Int),(b.y:Int),b.c):=fun n=>by
  induction n with
  |zero=>rfl
  |
   succ n ih=>
   rw[Gz,Bx,ih,B3,B3]
   have:((1+n:Nat):Int)=1+(n:Int):=by lia
   show _++[((u n:Int),1+(n:Int),-(ln n))]++[(1+(n:Int),(w n:Int),hn n)]=_++[((u n:Int),((1+n:Nat):Int),-(ln n))]++[(((1+n:Nat):Int),(w n:Int),hn n)]
   rw[this]
 rw[e]at h
 refine⟨by rw[h.1,Al],fun i v b hv hb=>?_⟩
 obtain⟨t,rfl,ht⟩:=h.2 i v _ hv (by rw[AQ,hb];rfl)
 exact⟨t,rfl,ht⟩
def GW (D:Dw)(u w:Nat->Nat)(e:Nat)(d:Int)(L:List Int):Prop:=(L=[]/\∀f,¬Holds f (DU D u w))\/∃lo hi,L=[lo,hi]/\(∀f,Holds f (DU D u w)->lo<=f (1+e)-f 0+d/\f (1+e)-f 0+d<=hi)/\(∃f,Holds f (DU D u w)/\f (1+e)-f 0+d=lo)/\∃f,Holds f (DU D u w)/\f (1+e)-f 0+d=hi
theorem GW.len {D:Dw}{u w:Nat->Nat}{e:Nat}{d:Int}{L:List Int}(h:GW D u w e d L):L.length<=2:=by
 rcases h with⟨rfl,_⟩|⟨_,_,rfl,_⟩
 .exact Bk _
 .exact Ah _
def XZ (C:Addr)(c:Cs):Sp:=fun vs H Q _=>∃(x:V) (pp:Addr) (D:Dw) (u w:Nat->Nat) (e:Nat) (d:Int),vs=[x,.ref pp]/\Du C c H x D/\LW D u w/\H pp=some (.tup [.int (e:Int),.int d])/\e<D.loops.length/\∀(r:Addr) (H':Hp) (L:List Int),A8 H H'->H' r=some (.lst (L.map V.int))->GW D u w e d L->Q (.ref r) H'
structure OC (B:List Am)(Ds:List Dw)(u w:Nat->Nat->Nat):Prop where
 dd:∀b∈B,∃(k:Nat) (D:Dw),b.k=(k:Int)/\Ds[k]?=some D/\∀p∈b.pl,0<=p.1/\p.1<(D.loops.length:Int)
 lw:∀(k:Nat) (D:Dw),Ds[k]?=some D->LW D (u k) (w k)
inductive E7 (Ds:List Dw)(u w:Nat->Nat->Nat)(P:List Int):List Fo.En->List Int->Prop
 |nil:E7 Ds u w P [] []
 |skip {en:Fo.En} {ens:List Fo.En} {L:List Int}:E7 Ds u w P ens L->en.path.take P.length≠P->E7 Ds u w P (ens++[en]) L
 |add {en:Fo.En} {ens:List Fo.En} {L M:List Int} {k e:Nat} {D:Dw} {d:Int}:E7 Ds u w P ens L->en.path.take P.length=P->en.k=(k:Int)->Ds[k]?=some D->en.pl[P.length-1]?=some ((e:Int),d)->GW D (u k) (w k) e d M->E7 Ds u w P (ens++[en]) (L++M)
theorem E7.len {Ds:List Dw}{u w:Nat->Nat->Nat}{P:List Int}{ens:List Fo.En}{L:List Int}(h:E7 Ds u w P ens L):L.length<=2*ens.length:=by
 induction h with
 |nil=>exact Ah _
 |skip _ _ ih=>rw[AF,Bf];lia
 |add _ _ _ _ _ hM ih=>rw[AF,AF,Bf];have:=hM.len;lia
def FX (L:List Int)(pr:Int×Int):Prop:=(L=[]/\pr=(0,0))\/(pr.1∈L/\(∀a∈L,pr.1<=a)/\pr.2∈L/\∀a∈L,a<=pr.2)
def MN (Ds:List Dw)(u w:Nat->Nat->Nat)(f:Bj)(P:List Int)(pr:Int×Int):Prop := ∃L,E7 Ds u w P (Fo.deedsF f [] 0) L/\FX L pr
def Fb (H:Hp)(y:V)(pr:Int×Int):Prop := ∃t,y = .ref t/\H t=some (.tup [.int pr.1,.int pr.2])
theorem Fb.over {H H':Hp}{y:V}{pr:Int×Int}(h:Fb H y pr)(e:A8 H H'):Fb H' y pr:=let ⟨t,a,b⟩:=h;⟨t,a,e _ _ b⟩
def Zy (CP C:Addr)(c:Cs):Sp:=fun vs H Q _=>∃(v:V) (p pa:Addr) (n:Int) (Ds:List Dw) (B:List Am) (f:Bj) (u w:Nat->Nat->Nat) (s:Fo.Sw Str),vs=[v,.ref p,.ref pa]/\Kj CP C c H v n Ds/\Hb H p B f/\OC B Ds u w/\s∈Fo.swF f [] 0/\H pa=some (.tup (s.1.map V.int))/\∀(y:V) (H':Hp) (pr:Int×Int),A8 H H'->Fb H' y pr->MN Ds u w f s.1 pr->Q y H'
def Vc:Sp:=fun vs H Q _=>∃(p:Addr) (B:List Am) (f:Bj),vs=[.ref p]/\Hb H p B f/\∀(r:Addr) (ys:List V) (H':Hp),A8 H H'->H' r=some (.lst ys)->AE (DN H') ys (Fe f)->Q (.ref r) H'
def pK (P:List Int):List Ap:=P.map Sum.inl
theorem X9 {P R:List Int}(h:pK P=pK R):P=R:=by
 unfold pK at h
 have:∀{x y:List Int},x.map (Sum.inl:Int->Ap)=y.map Sum.inl->x=y:=fun{x y} h=>by
  induction x generalizing y with
  |
   nil=>cases y with
   |nil=>rfl
   |cons _ _=>cases h
  |
   cons a x ih=>cases y with
   |nil=>cases h
   |
    cons b y=>
    rw[BY,BY]at h
    injection h with h1 h2
    injection h1 with h1
    rw[h1,ih h2]
 exact this h
open Classical in
theorem RZ:∀A B:List Int,FD (A.map fun i=>Tr.v (.int i)) (B.map fun i=>Tr.v (.int i))=true
 |[],_=>by cases ‹List Int› <;> rfl
 |_::_,[]=>rfl
 |a::A,b::B=>by rw[BY,BY,FD,RZ A B];rfl
theorem RD:∀A:List Int,BK (A.map fun i=>Tr.v (.int i)) (A.map fun i=>Tr.v (.int i))=true
 |[]=>rfl
 |a::A=>by rw[BY,BK,RD A,BZ,R7 rfl];rfl
theorem c6 {A B:List Int}(h:A≠B):BK (A.map fun i=>Tr.v (.int i)) (B.map fun i=>Tr.v (.int i))=false:=by
 induction A generalizing B with
 |
  nil=>cases B with
  |nil=>exact absurd rfl h
  |cons b B=>rfl
 |
  cons a A ih=>cases B with
  |nil=>rfl
  |
   cons b B=>
   rw[BY,BY,BK,BZ]
   by_cases c:a=b
   .subst c
    rw[ih (fun z=>h (by rw[z])),N7]
   .have:DX (.int a) (.int b)=false:=by simp[DX,c]
    rw[this];rfl
theorem cV {L:List (List Ap×V)}{i:Nat}{k:List Ap}{v:V}(nd:(L.map fun x=>x.1).Nodup)(h:L[i]?=some (k,v)):C0 L k=some v:=by
 induction L generalizing i with
 |nil=>cases h
 |
  cons x L ih=>
  rw[BY,Ig]at nd
  cases i with
  |zero=>cases h;exact EM rfl
  |
   succ i=>
   rw[EJ (fun z=>nd.1 (by rw[z];exact C9.mpr ⟨_,AO h,rfl⟩))]
   exact ih nd.2 h
end
def G0 (n:Nat)(prev:List (Nat×Nat))(b:Am):List (Nat×Nat):=prev.take b.sh++(((List.range b.ways.length).map fun e=>(n,e)).drop b.sh)
inductive B5 (B:List Am):Nat->Nat->Nat->Prop
 |own {j e:Nat} {b:Am}:B[j]?=some b->b.sh<=e->e<b.ways.length->B5 B j e j
 |up {j e m:Nat} {b:Am}:B[j+1]?=some b->e<b.sh->e<b.ways.length->B5 B j e m->B5 B (j+1) e m
theorem B5.lt {B:List Am}{j e m:Nat}(h:B5 B j e m):∃b,B[j]?=some b/\e<b.ways.length:=by cases h with
 |own h1 _ h3=>exact⟨_,h1,h3⟩
 |up h1 _ h3 _=>exact⟨_,h1,h3⟩
theorem B5.le {B:List Am}{j e m:Nat}(h:B5 B j e m):m<=j:=by induction h with
 |own=>exact Ah _
 |up _ _ _ _ ih=>lia
theorem B5.inj {B:List Am}{j e m m':Nat}(h:B5 B j e m)(g:B5 B j e m'):m=m':=by
 induction h with
 |
  own h1 h2 h3=>
  cases g with
  |own=>rfl
  |up g1 g2 _ _=>rw[h1]at g1;cases g1;lia
 |
  up h1 h2 h3 _ ih=>
  cases g with
  |own g1 g2 _=>rw[h1]at g1;cases g1;lia
  |up _ _ _ g4=>exact ih g4
theorem B5.ex {B:List Am}(ok:Fo.Ok B)(h0:∀b,B.head?=some b->b.sh=0):∀(j e:Nat) (b:Am),B[j]?=some b->e<b.ways.length->∃m,B5 B j e m
 |0,e,b,hb,he=>⟨0,.own hb (by rw[h0 b (by rw[Nj];exact hb)];exact Bk _) he⟩
 |
  j+1,e,b,hb,he=>by
  rcases DJ e b.sh with z|z
  .have l:=(As.mp hb).1
   have ha:B[j]?=some (B[j]'(by lia)):=AC (by lia)
   generalize B[j]'(by lia)=c at ha
   have:=(ok.ln j c b ha hb).1
   obtain⟨m,hm⟩:=B5.ex ok h0 j e c ha (by lia)
   exact⟨m,.up hb z he hm⟩
  .exact⟨_,.own hb z he⟩
theorem B5.big {B:List Am}{e k:Nat}{c:Am}(k3:B[k]?=some c)(z:c.sh<=e){j m:Nat}(h:B5 B j e m):k<=j->k<=m:=by
 induction h with
 |own h1 h2 h3=>intro h;exact h
 |
  @up j e m b h1 h2 h3 h4 ih=>
  intro hk
  rcases DJ j k with z2|z2
  .have:k=j+1:=by lia
   subst this
   rw[h1]at k3
   cases k3
   lia
  .exact ih z z2
theorem B5.on {B:List Am}(ok:Fo.Ok B){i e s m:Nat}(hs:e<s):∀(n:Nat),(∀k c,i<k->k<=i+n->B[k]?=some c->s<=c.sh)->i+n<B.length->(B5 B i e m↔B5 B (i+n) e m)
 |0,_,_=>Iff.rfl
 |
  n+1,hl,hb=>by
  rw[B5.on ok hs n (fun k c h1 h2 h3=>hl k c h1 (by lia) h3) (by lia)]
  have hc:B[i+n+1]?=some (B[i+n+1]'hb):=AC _
  generalize B[i+n+1]'hb=c at hc
  have:=hl (i+n+1) c (by lia) (by lia) hc
  have:=ok.sh c (AO hc)
  refine⟨fun h=>.up hc (by lia) (by lia) h,fun h=>?_⟩
  cases h with
  |own h1 h2 h3=>rw[show i+(n+1)=i+n+1 from rfl,hc]at h1;cases h1;lia
  |up h1 h2 h3 h4=>exact h4
theorem B5.share {B:List Am}(ok:Fo.Ok B){i e s m m':Nat}(hi:B5 B i e m)(n:Nat)(hj:B5 B (i+n) e m')(hl:Fo.Least B i (i+n) s):m=m'↔e<s:=by
 refine⟨fun hm=>?_,fun hs=>?_⟩
 .rcases DJ e s with z|z
  .exact z
  .exfalso
   obtain⟨⟨k,c,k1,k2,k3,k4⟩,_⟩:=hl
   have:=hj.big k3 (by lia) k2
   have:=hi.le
   lia
 .obtain⟨b,hb,_⟩:=hj.lt
  exact((B5.on ok hs n hl.2 (As.mp hb).1).mp hi).inj hj
theorem B5.many {B:List Am}(ok:Fo.Ok B){i j e s m m':Nat}(hi:B5 B i e m)(hj:B5 B j e m')(hm:Om B i j s):m=m'↔e<s:=by
 rcases hm with⟨rfl,b,hb,rfl⟩|⟨hij,hl⟩|⟨hij,hl⟩
 .obtain⟨b',hb',he⟩:=hi.lt
  rw[hb]at hb'
  cases hb'
  exact⟨fun _=>he,fun _=>hi.inj hj⟩
 .obtain⟨n,rfl⟩:∃n,j=i+n:=⟨j-i,by lia⟩
  exact hi.share ok n hj hl
 .obtain⟨n,rfl⟩:∃n,i=j+n:=⟨i-j,by lia⟩
  rw[←hj.share ok n hi hl]
  exact eq_comm
theorem YV {n:Nat}{prev:List (Nat×Nat)}{b:Am}(h1:b.sh<=prev.length)(h2:b.sh<=b.ways.length):(G0 n prev b).length=b.ways.length:=by
 unfold G0
 rw[AF,AV,GN,Al,EH]
 lia
theorem Y5 {n e:Nat}{prev:List (Nat×Nat)}{b:Am}(h1:b.sh<=prev.length)(h:e<b.sh):(G0 n prev b)[e]?=prev[e]?:=by
 unfold G0
 rw[C8 (by rw[AV];lia),CS h]
theorem W6 {n e:Nat}{prev:List (Nat×Nat)}{b:Am}(h1:b.sh<=prev.length)(h:b.sh<=e)(h2:e<b.ways.length):(G0 n prev b)[e]?=some (n,e):=by
 unfold G0
 have l:(prev.take b.sh).length=b.sh:=by rw[AV];lia
 rw[BH (by lia),l,Io,show b.sh+(e-b.sh)=e by lia,AQ,JB h2]
 rfl
inductive EF (B:List Am):Nat->List (List (Nat×Nat))->Prop
 |nil:EF B 0 []
 |snoc {n:Nat} {R:List (List (Nat×Nat))} {row:List (Nat×Nat)} {b:Am}:EF B n R->B[n]?=some b->row.length=b.ways.length->(∀e,e<b.ways.length->∃m,row[e]?=some (m,e)/\B5 B n e m)->EF B (n+1) (R++[row])
theorem EF.len {B:List Am}{n:Nat}{R:List (List (Nat×Nat))}(h:EF B n R):R.length=n:=by
 induction h with
 |nil=>rfl
 |snoc _ _ _ _ ih=>rw[AF,ih];rfl
theorem EF.at {B:List Am}{n:Nat}{R:List (List (Nat×Nat))}(h:EF B n R){i:Nat}{b:Am}(hi:i<n)(hb:B[i]?=some b):∃row,R[i]?=some row/\row.length=b.ways.length/\∀e,e<b.ways.length->∃m,row[e]?=some (m,e)/\B5 B i e m:=by
 induction h with
 |nil=>lia
 |
  @snoc n R row b' h1 h2 h3 h4 ih=>
  rcases DJ i n with z|z
  .obtain⟨r,a,c⟩:=ih z
   exact⟨r,by rw[C8 (by rw[h1.len];exact z)];exact a,c⟩
  .have:i=n:=by lia
   subst this
   rw[hb]at h2
   cases h2
   exact⟨row,by rw[BH (by rw[h1.len];exact Ah _),h1.len,Cq];rfl,h3,h4⟩
theorem EF.next {B:List Am}(ok:Fo.Ok B)(h0:∀b,B.head?=some b->b.sh=0){n:Nat}{R:List (List (Nat×Nat))}{b:Am}(h:EF B n R)(hb:B[n]?=some b):EF B (n+1) (R++[if b.sh=0 then(List.range b.ways.length).map fun e=>(n,e) else G0 n (R.getD (n-1) []) b]):=by
 have hsh:=ok.sh b (AO hb)
 by_cases c:b.sh=0
 .rw[Aj c]
  refine .snoc h hb (by rw[Al,EH]) fun e he=>⟨n,?_,.own hb (by lia) he⟩
  rw[AQ,JB he]
  rfl
 .rw[Ab c]
  cases n with
  |zero=>exact absurd (h0 b (by rw[Nj];exact hb)) c
  |
   succ n=>
   have l:=(As.mp hb).1
   have ha:B[n]?=some (B[n]'(by lia)):=AC _
   generalize B[n]'(by lia)=a at ha
   obtain⟨row,r1,r2,r3⟩:=h.at (Ie n) ha
   have hln:=(ok.ln n a b ha hb).1
   have e:R.getD (n+1-1) []=row:=by rw[Cd,Nat.add_sub_cancel,r1];rfl
   rw[e]
   refine .snoc h hb (YV (by lia) hsh) fun e he=>?_
   rcases DJ e b.sh with z|z
   .obtain⟨m,m1,m2⟩:=r3 e (by lia)
    exact⟨m,by rw[Y5 (by lia) z];exact m1,.up hb z he m2⟩
   .exact⟨n+1,W6 (by lia) z he,.own hb z he⟩
theorem YA {α:Type}{l:List α}{i:Nat}{d x:α}(h:l[i]?=some x):l.getD i d=x:=by rw[Cd,h];rfl
def Xk:Sp:=fun vs H Q _=>∃(m:Int),vs=[.int m]/\0<=m/\∀(n:Nat) (H':Hp),A8 H H'->1<=n->n<=6->Q (.int (n:Int)) H'
def Dr (sc b:Int)(s:Str×Int):Str×Int:=if s.1="" then("",sc*s.2+b) else(s.1,sc*s.2)
def Hi (sc b:Int)(q:Lq):Hm:=⟨q.nm,Dr sc b q.lo,Dr sc b q.hi⟩
def BG (sc b:Int)(D:Dq):Dw:=⟨D.L.map (Hi sc b),"a",[("",0)],.n 1,D.path⟩
def Sc (sc:Int):Prop:=0<sc/\sc<=10000000000000000
def ah:Sp:=fun vs H Q _=>∃(x:V) (sc b:Int) (s:Str×Int),vs=[x,.int sc,.int b]/\Sc sc/\DE H x s/\∀(r:V) (H':Hp),A8 H H'->DE H' r (Dr sc b s)->Q r H'
def VV (C:Addr)(c:Cs):Sp:=fun vs H Q _=>∃(l:Addr) (sc b:Int) (xs:List V) (Ds:List Dq),vs=[.ref l,.int sc,.int b]/\Sc sc/\H l=some (.lst xs)/\AE (Hs H) xs Ds/\Ds.length<=6/\(∀D∈Ds,D.L.length<=3)/\∀(r:Addr) (ys:List V) (H':Hp),A8 H H'->H' r=some (.lst ys)->AE (Du C c H') ys (Ds.map (BG sc b))->Q (.ref r) H'
theorem Ss {zs:List Str}{z:Str}:∀{j:Nat},zs[j]?=some z->∃i≤j,zs[i]?=some z/\∀m<i,zs[m]?≠some z
 |0,h=>⟨0,Ah _,h,fun m hm=>absurd hm (JE _)⟩
 |
  j+1,h=>by
  by_cases c:∃i≤j,zs[i]?=some z
  .obtain⟨i,hi,e⟩:=c
   obtain⟨k,k1,k2⟩:=Ss e
   exact⟨k,by lia,k2⟩
  .exact⟨j+1,Ah _,h,fun m hm e=>c ⟨m,by lia,e⟩⟩
theorem Kp (sc b:Int)(s:Str×Int):(Dr sc b s).1=s.1:=by
 unfold Dr
 split
 .next h=>exact h.symm
 .rfl
theorem Zv {D:Dq}{sc b:Int}(h:IM D.L)(h3:D.L.length<=3):∃u w,LW (BG sc b D) u w:=by
 have ln:(BG sc b D).loops.length=D.L.length:=by show(D.L.map _).length=_;rw[Al]
 have nm:(BG sc b D).loops.map (·.nm)=D.L.map (·.nm):=by show(D.L.map _).map _=_;rw[Il];rfl
 have one:∀(i:Nat) (z:Str),i<D.L.length->(z=""\/∃y∈D.L.take i,z=y.nm)->∃u:Nat,u<=i/\D4 (D.L.map (·.nm)) z 1 (u:Int):=fun i z hi hz=>by
  by_cases c:z=""
  .exact⟨0,Bk _,.inl ⟨c,rfl⟩⟩
  .rcases hz with hz|⟨y,hy,rfl⟩
   .exact absurd hz c
   .obtain⟨j,hj,e⟩:=Nb.mp hy
    rw[AV]at hj
    have hj':(D.L.map (·.nm))[j]?=some y.nm:=by
     rw[AQ,←CS (show j<i by lia),AC (by rw[AV];exact hj),e]
     rfl
    obtain⟨k,k1,k2,k3⟩:=Ss hj'
    exact⟨1+k,by lia,.inr ⟨c,k,k2,k3,by lia⟩⟩
 have ch:∀g:Lq->Str,(∀(i:Nat) (q:Lq),D.L[i]?=some q->g q=""\/∃y∈D.L.take i,g q=y.nm)->∃u:Nat->Nat,∀i q,D.L[i]?=some q->u i<=i/\D4 (D.L.map (·.nm)) (g q) 1 (u i:Int):=fun g hg=>by
  have:∀i,∃u:Nat,∀q,D.L[i]?=some q->u<=i/\D4 (D.L.map (·.nm)) (g q) 1 (u:Int):=fun i=>by
   by_cases c:i<D.L.length
   .have hq:D.L[i]?=some D.L[i]:=AC c
    obtain⟨u,h1,h2⟩:=one i _ c (hg i _ hq)
    exact⟨u,fun q e=>by rw[hq]at e;cases e;exact⟨h1,h2⟩⟩
   .exact⟨0,fun q e=>absurd (As.mp e).1 c⟩
  exact⟨fun i=>Classical.choose (this i),fun i=>Ni (this i)⟩
 obtain⟨u,hu⟩:=ch (fun q=>q.lo.1) fun i q hq=>(h i q hq).l1
 obtain⟨w,hw⟩:=ch (fun q=>q.hi.1) fun i q hq=>(h i q hq).h1
 have at_:∀i,i<(BG sc b D).loops.length->∃q,D.L[i]?=some q/\(BG sc b D).loops[i]?=some (Hi sc b q):=fun i hi=>by
  rw[ln]at hi
  have hq:D.L[i]?=some D.L[i]:=AC hi
  exact⟨_,hq,by show(D.L.map _)[i]?=_;rw[AQ,hq];rfl⟩
 refine⟨u,w,by rw[ln];exact h3,fun i hi=>?_,fun i hi=>?_,fun i hi=>?_⟩
 .obtain⟨q,hq,_⟩:=at_ i hi
  exact⟨(hu i q hq).1,(hw i q hq).1⟩
 .obtain⟨q,hq,e⟩:=at_ i hi
  rw[nm,(Hf e).2.1]
  show D4 _ (Dr sc b q.lo).1 _ _
  rw[Kp]
  exact(hu i q hq).2
 .obtain⟨q,hq,e⟩:=at_ i hi
  rw[nm,(Hf e).2.2]
  show D4 _ (Dr sc b q.hi).1 _ _
  rw[Kp]
  exact(hw i q hq).2
def C5 (k:Nat×Nat):List Int:=[(k.1:Int),(k.2:Int)]
theorem YD {k l:Nat×Nat}(h:C5 k=C5 l):k=l:=by
 obtain⟨a,b⟩:=k
 obtain⟨c,d⟩:=l
 unfold C5 at h
 injection h with h1 h2
 injection h2 with h2 _
 have h1:(a:Int)=(c:Int):=h1
 have h2:(b:Int)=(d:Int):=h2
 have e1:a=c:=by lia
 have e2:b=d:=by lia
 rw[e1,e2]
def G7 (H:Hp)(x:V)(k:Nat×Nat):Prop := ∃t,x = .ref t/\H t=some (.tup [.int (k.1:Int),.int (k.2:Int)])
theorem G7.tk {H H':Hp}{x:V}{k:Nat×Nat}(h:G7 H x k)(e:TK H H'):G7 H' x k:=let ⟨t,a,b⟩:=h;⟨t,a,e _ _ b⟩
theorem G7.over {H H':Hp}{x:V}{k:Nat×Nat}(h:G7 H x k)(e:A8 H H'):G7 H' x k:=h.tk (A8.tk e)
def Gb (H:Hp)(x:V)(row:List (Nat×Nat)):Prop := ∃r ys,x = .ref r/\H r=some (.lst ys)/\AE (G7 H) ys row
theorem Gb.over {H H':Hp}{x:V}{row:List (Nat×Nat)}(h:Gb H x row)(e:A8 H H'):Gb H' x row:=let ⟨r,ys,a,b,c⟩:=h;⟨r,ys,a,e _ _ b,c.mono fun _ _ z=>z.over e⟩
theorem Gb.av {H:Hp}{l:Addr}{xs:List V}{x:V}{row:List (Nat×Nat)}(h:Gb H x row)(hl:H l=some (.lst xs))(hn:x≠.ref l):Gb (av H [l]) x row:=by
 obtain⟨r,ys,rfl,a,b⟩:=h
 exact⟨r,ys,rfl,by rw[Ka (by rw[Bz];exact fun z=>hn (by rw[z]))];exact a,b.mono fun _ _ z=>z.tk (Je hl)⟩
def KC (H:Hp)(l:Addr)(R:List (List (Nat×Nat))):Prop := ∃xs,H l=some (.lst xs)/\AE (Gb H) xs R
theorem KC.over {H H':Hp}{l:Addr}{R:List (List (Nat×Nat))}(h:KC H l R)(e:A8 H H'):KC H' l R:=let ⟨xs,a,b⟩:=h;⟨xs,e _ _ a,b.mono fun _ _ z=>z.over e⟩
def Z4:Sp:=fun vs H Q _=>∃(l:Addr) (B:List Am),vs=[.ref l]/\Hv H l B/\JU B/\∀(r:Addr) (H':Hp) (R:List (List (Nat×Nat))),A8 H H'->KC H' r R->EF B B.length R->Q (.ref r) H'
def Us (K:Faa):Sp:=fun vs H Q _=>∃(sc:Addr) (ns:List Int) (first:Int),vs=[.ref sc,.int first]/\A5 K H sc (ns.map V.int)/\0<=first/\first<=1000/\∀(r:Addr) (H':Hp) (scl b:Int),A8 H H'->H' r=some (.tup [.int scl,.int b])->Sc scl->Q (.ref r) H'
section
variable {P:Program}{w:World}{A:Around}{E:Value->Shared->Prop}
theorem YU {h:Heap}{g:Array GenState}{dr:Drawn}{tk:Nat}{os:OsState}{it d:Addr}{o:Obj}{es:Array DictEntry}{i ep:Nat}{e:DictEntry}{ok ov:Value}{R:PySem.Fin->Shared->Prop}(hit:IsItemIter h it d i es.size ep ok ov)(hod:h.get? d=some o)(hdd:o.data = .dict es ep)(hx:es[i]?=some e)
  (hQ:∀h',IsItemIterOut h' it d (i+1) es.size ep e.key e.val h.objs.size->h'.get? h.objs.size=some {cls:=.type "tuple",data:=.seq #[e.key,e.val]}->h'.objs.size=h.objs.size+1->(∀b o,b≠it->h.get? b=some o->h'.get? b=some o)->R (.done (.ret (.ref h.objs.size))) ⟨h',g,dr,tk,os⟩) :
  wpAny (model P w) A (Builtin.«dict_itemiterator.__next__» ⟨[.ref it],[]⟩) R E ⟨h,g,dr,tk,os⟩:=by
 have hT:Shared.TypeIs ⟨h,g,dr,tk,os⟩ (.ref it) "dict_itemiterator":=⟨_,hit,rfl⟩
 have hlt:i<es.size:=(Ip.mp hx).1
 unfold Builtin.«dict_itemiterator.__next__»
 repeat (any_goals (first|assumption|wp_step))
 rw[hdd]
 refine Ae ?_
 dsimp only
 rw[Ab (by simp)]
 refine A1 (Ae ?_)
 refine A1 (IE hod hdd ?_)
 rw[Ab (by simp)]
 refine Ae ?_
 dsimp only
 rw[Ab (show ¬((i:Int)<0) by lia),EG,hx]
 dsimp only
 refine A1 (A1 (Py hT (Ae ?_)))
 refine A1 (Lk hT ?_)
 refine A1 (F8 hit (by simp;decide) fun h1 he1 hs1=>?_)
 have hT1:Shared.TypeIs ⟨h1,g,dr,tk,os⟩ (.ref it) "dict_itemiterator":=⟨_,he1,rfl⟩
 refine A1 (DM ?_)
 refine A1 (Lk hT1 ?_)
 refine A1 (Lk hT1 ?_)
 rw[Ab (by decide)]
 have he1:IsItemIter h1 it d (i+1) es.size ep ok ov:=by
  rw[Aj (by decide),Ab (by decide)]at he1
  exact he1
 unfold Builtin.Dict_items.pairFromOwner
 refine A1 (Pt ?_)
 have hz1:h1.objs.size=h.objs.size:=hs1.1
 have hil:it<h.objs.size:=AA hit
 have he2:IsItemIter (h1.push {cls:=.type "tuple",data:=.seq #[e.key,e.val]}) it d (i+1) es.size ep ok ov:=Aw _ he1
 have ht2:(h1.push {cls:=.type "tuple",data:=.seq #[e.key,e.val]}).get? h.objs.size=some {cls:=.type "tuple",data:=.seq #[e.key,e.val]}:=by rw[←hz1];exact B8 _ rfl
 have k2:∀b o,b≠it->h.get? b=some o->(h1.push {cls:=.type "tuple",data:=.seq #[e.key,e.val]}).get? b=some o:=fun b o hb z=>Aw _ (hs1.extBut b o hb z)
 have hz2:(h1.push {cls:=.type "tuple",data:=.seq #[e.key,e.val]}).objs.size=h.objs.size+1:=by rw[Gf,hz1]
 generalize h1.push {cls:=.type "tuple",data:=.seq #[e.key,e.val]}=h2 at he2 ht2 k2 hz2
 rw[hz1]
 clear he1 hs1 hT1 hz1
 repeat (any_goals (first|assumption|wp_step))
 have q3:=DG (Obj.mapFields fun x=>x.setIfInBounds 6 e.key) he2 rfl
 have b3:Heap.SameBut it h2 _:=Gg (f:=Obj.mapFields fun x=>x.setIfInBounds 6 e.key) ..
 generalize h2.update it (Obj.mapFields fun x=>x.setIfInBounds 6 e.key)=h3 at q3 b3
 have q4:=DG (Obj.mapFields fun x=>x.setIfInBounds (6+1) e.val) q3 rfl
 have b4:Heap.SameBut it h3 _:=Gg (f:=Obj.mapFields fun x=>x.setIfInBounds (6+1) e.val) ..
 generalize h3.update it (Obj.mapFields fun x=>x.setIfInBounds (6+1) e.val)=h4 at q4 b4
 have q5:=DG (Obj.mapFields fun x=>x.setIfInBounds 0 (rawInt ↑h.objs.size)) q4 rfl
 have b5:Heap.SameBut it h4 _:=Gg (f:=Obj.mapFields fun x=>x.setIfInBounds 0 (rawInt ↑h.objs.size)) ..
 generalize h4.update it (Obj.mapFields fun x=>x.setIfInBounds 0 (rawInt ↑h.objs.size))=h5 at q5 b5
 have q6:=DG (Obj.mapFields fun x=>x.setIfInBounds 1 (.bool false)) q5 rfl
 have b6:Heap.SameBut it h5 _:=Gg (f:=Obj.mapFields fun x=>x.setIfInBounds 1 (.bool false)) ..
 generalize h5.update it (Obj.mapFields fun x=>x.setIfInBounds 1 (.bool false))=h6 at q6 b6
 refine hQ h6 q6 ?_ ?_ ?_
 .exact b6.extBut _ _ (BU hil) (b5.extBut _ _ (BU hil) (b4.extBut _ _ (BU hil) (b3.extBut _ _ (BU hil) ht2)))
 .rw[b6.1,b5.1,b4.1,b3.1,hz2]
 .exact fun b o hb z=>b6.extBut b o hb (b5.extBut b o hb (b4.extBut b o hb (b3.extBut b o hb (k2 b o hb z))))
end
section
variable {P:Program}{w:World}{A:Around}{E:Value->Shared->Prop}
theorem YF {h:Heap}{g:Array GenState}{dr:Drawn}{tk:Nat}{os:OsState}{it d:Addr}{o:Obj}{es:Array DictEntry}{i ep:Nat}{ok ov:Value}{R:PySem.Fin->Shared->Prop}(hh:A.handled=none)(hit:IsItemIter h it d i es.size ep ok ov)(hod:h.get? d=some o)(hdd:o.data = .dict es ep)(hx:es[i]?=none)
  (hE:∀h' e,Heap.ExtBut it h h'->(∃ob,h'.get? e=some ob/\ob.cls = .type "StopIteration")->E (.ref e) ⟨h',g,dr,tk,os⟩) :
  wpAny (model P w) A (Builtin.«dict_itemiterator.__next__» ⟨[.ref it],[]⟩) R E ⟨h,g,dr,tk,os⟩:=by
 have hT:Shared.TypeIs ⟨h,g,dr,tk,os⟩ (.ref it) "dict_itemiterator":=⟨_,hit,rfl⟩
 unfold Builtin.«dict_itemiterator.__next__»
 repeat (any_goals (first|assumption|wp_step))
 rw[hdd]
 refine Ae ?_
 dsimp only
 rw[Ab (by simp)]
 refine A1 (Ae ?_)
 refine A1 (IE hod hdd ?_)
 rw[Ab (by simp)]
 refine Ae ?_
 dsimp only
 rw[Ab (show ¬((i:Int)<0) by lia),EG,hx]
 dsimp only
 refine A1 (A1 (Py hT (Ae ?_)))
 refine A1 (IB hit rfl (by simp;decide) ?_)
 have sb:Heap.ExtBut it h _:=(Gg (h:=h) (a:=it) (f:=Obj.mapFields fun x=>x.setIfInBounds (if Builtin.Dict_items.ownsTuple "dict_itemiterator"=true then 2 else 0) Value.none) ..).extBut
 dsimp only
 generalize h.update it (Obj.mapFields fun x=>x.setIfInBounds (if Builtin.Dict_items.ownsTuple "dict_itemiterator"=true then 2 else 0) Value.none)=h1 at sb
 simp only[newExc,newTuple]
 repeat (any_goals (first|assumption|wp_step))
 simp only[raiseNew]
 refine A1 (Pq ?_)
 rw[hh]
 exact A1 (Ae (Pr (hE _ _ ((sb.push _).push _) ⟨_,B8 _ rfl,rfl⟩)))
theorem Uv {s:Shared}{it d:Addr}{o:Obj}{es:Array DictEntry}{i ep:Nat}{ok ov:Value}{Q:Option Value->Shared->Prop}(hh:A.handled=none)(hit:IsItemIter s.heap it d i es.size ep ok ov)(hod:s.heap.get? d=some o)(hdd:o.data = .dict es ep)
  (hQ:∀e,es[i]?=some e->∀h',IsItemIterOut h' it d (i+1) es.size ep e.key e.val s.heap.objs.size->h'.get? s.heap.objs.size=some {cls:=.type "tuple",data:=.seq #[e.key,e.val]}->h'.objs.size=s.heap.objs.size+1->(∀b o,b≠it->s.heap.get? b=some o->h'.get? b=some o)->Q (some (.ref s.heap.objs.size)) {s with heap:=h'})
  (hN:es[i]?=none->∀h',Heap.ExtBut it s.heap h'->Q none {s with heap:=h'}):wpAny (model P w) A (pyNext (.ref it)) Q E s:=by
 have hT:s.TypeIs (.ref it) "dict_itemiterator":=⟨_,hit,rfl⟩
 obtain⟨h,g,dr,tk,os⟩:=s
 unfold pyNext
 refine A1 (Nv (wpAny_callSpecial?_slot (name:=Str.ofString "__next__") hT F.slot_dict_itemiterator_next (Gj F.slot_dict_itemiterator_next hT F.entry_dict_itemiterator_next ?_ (F.args_dict_itemiterator_next_1 _))))
 cases hx:es[i]? with
 |some e=>exact YU hit hod hdd hx fun h' a b c k=>⟨_,rfl,Ae (hQ e hx h' a b c k)⟩
 |
  none=>
  refine YF (show A.in1.handled=none from hh) hit hod hdd hx fun h' e xb zz=>?_
  obtain⟨ob,he,hc⟩:=zz
  exact A1 (Nw (T:="StopIteration") (b:=true) ⟨ob,he,hc⟩ Nx (Ae (hN hx h' xb)))
end
def Dy:List (Int×Int)->List Bool->List Int
 |p::pl,c::cs=>if c then Dy pl cs else p.1::Dy pl cs
 |_,_=>[]
theorem Qj:∀(pl:List (Int×Int)) (cs:List Bool) (p:Int×Int) (c:Bool),pl.length=cs.length->Dy (pl++[p]) (cs++[c])=Dy pl cs++(if c then[] else[p.1])
 |[],[],p,c,_=>by cases c<;>rfl
 |[],_::_,p,c,h=>by cases h
 |_::_,[],p,c,h=>by cases h
 |
  q::pl,d::cs,p,c,h=>by
  have ih:=Qj pl cs p c (by simpa using h)
  show(if d then Dy (pl++[p]) (cs++[c]) else q.1::Dy (pl++[p]) (cs++[c]))=(if d then Dy pl cs else q.1::Dy pl cs)++_
  rw[ih]
  cases d<;>rfl
def NU (m:Nat)(p:Int×Int):Prop:=0<=p.1/\p.1<(m:Int)/\-1000000000000000000<=p.2/\p.2<=1000000000000000000
def NY (m:Nat)(pl:List (Int×Int))(cs:List Bool):Prop:=pl.length=cs.length/\pl.length<=6/\(∀p∈pl,NU m p)/\(Dy pl cs).Perm (EU m)
open Classical in
theorem X1 {l:List Int}{n:Nat}(h:l.Perm (EU n)){x:Int}(hx:x∈l):∃k:Nat,x=(k:Int)/\k<n:=by
 have:=h.subset hx
 unfold EU at this
 obtain⟨k,hk,rfl⟩:=C9.mp this
 exact⟨k,rfl,FO.mp hk⟩
def Js (b:Am):List Bool:=b.ways.map (·.1)
theorem QS:∀(ps:List (Int×Int)) (ws:List Bb),ps.length=ws.length->(Dy ps (ws.map (·.1))).length=Bg ws
 |[],[],_=>rfl
 |[],_::_,h=>by cases h
 |_::_,[],h=>by cases h
 |
  p::ps,w::ws,h=>by
  have ih:_=List.countP (fun w:Bb=>!w.1) ws:=QS ps ws (by simpa using h)
  show(if w.1 then Dy ps (ws.map (·.1)) else p.1::Dy ps (ws.map (·.1))).length=List.countP (fun w:Bb=>!w.1) (w::ws)
  rw[Pf]
  cases h:w.1 with
  |true=>show(Dy ps (ws.map (·.1))).length=_;rw[ih];rfl
  |false=>show(Dy ps (ws.map (·.1))).length+1=_;rw[ih];rfl
theorem PY:∀(l m:List Int),l.Nodup->(∀x∈l,x∈m)->l.length=m.length->l.Perm m
 |[],[],_,_,_=>.refl _
 |[],_::_,_,_,h=>by cases h
 |
  a::l,m,nd,hs,hl=>by
  have ha:=hs a BN
  rw[Ig]at nd
  have e:=List.perm_cons_erase ha
  refine .trans (.cons a (PY l (m.erase a) nd.2 (fun x hx=>?_) ?_)) e.symm
  .exact(Tp (fun z:x=a=>nd.1 (by rw[←z];exact hx))).mpr (hs x (C6 _ hx))
  .rw[Tq ha,←hl,B9]
   rfl
theorem aX (n:Nat):(EU n).length=n:=by unfold EU;rw[Al,EH]
theorem PV {R:List Int}{n:Nat}(nd:R.Nodup)(hl:R.length=n)(hm:∀k∈R,0<=k/\k<(n:Int)):R.Perm (EU n):=by
 refine PY R _ nd (fun x hx=>?_) (by rw[aX];exact hl)
 have:=hm x hx
 unfold EU
 exact C9.mpr ⟨x.toNat,FO.mpr (by lia),by lia⟩
structure LD (B:List Am)(D R:List Int)(i:Nat):Prop where
 st:Fk B R i
 lf:∀b∈B,∃(k m:Nat),b.k=(k:Int)/\D[k]?=some (m:Int)/\NY m b.pl (Js b)/\(m=0->b.ways=[])
theorem LD.snoc {B:List Am}{D R:List Int}{i:Nat}{b:Am}(h:LD B D R i)(hk:R[i]?=some b.k)(h1:b.sh<=b.ways.length)(h0:B=[]->b.sh=0)(h2:∀c,B.getLast?=some c->b.sh<=c.ways.length/\b.ways.take b.sh=c.ways.take b.sh)(hw:BI b.ways<=3/\b.ways.length<=6)(hp:b.pl.length=b.ways.length)(lb:∃(k m:Nat),b.k=(k:Int)/\D[k]?=some (m:Int)/\NY m b.pl (Js b)/\(m=0->b.ways=[])):LD (B++[b]) D R (i+1):=by
 refine⟨h.st.snoc hk h1 h0 h2 hw hp,fun c hc=>?_⟩
 rcases BO.mp hc with z|z
 .exact h.lf c z
 .rw[Bz.mp z];exact lb
def UV (K:Faa):Sp:=fun vs H Q _=>∃(sc sw lo:Addr) (ns L:List Int) (first:Int) (ws:List Bb) (M:Nat),vs=[.ref sc,.int first,.ref sw,.ref lo,.bl true]/\A5 K H sc (ns.map V.int)/\0<=first/\first<=1000/\ET H sw ws/\ws.length<=6/\H lo=some (.lst (L.map V.int))/\L.length<=3/\Bg ws=L.length/\(ws≠[]->L≠[])/\(∀z∈L,0<=z/\z<(M:Int))/\
 ∀(r:Addr) (H':Hp) (ps:List (Int×Int)),A8 H H'->H r=none->FN H' r ps->ps.length=ws.length->(∀p∈ps,NU M p)->Dy ps (ws.map (·.1))=L->Q (.ref r) H'
def Yb (D:List Int)(b:Am):Prop := ∃(k m:Nat),b.k=(k:Int)/\D[k]?=some (m:Int)/\NY m b.pl (Js b)/\(m=0->b.ways=[])
structure K9 (B:List Am)(D:List Int):Prop where
 lv:JU B
 ks:(B.map (·.k)).Perm (EU D.length)
 lf:∀b∈B,Yb D b
def ZG (K:Faa):Sp:=fun vs H Q _=>∃(sc dl wl:Addr) (ns D:List Int) (first:Int),vs=[.ref sc,.int first,.ref dl,.ref wl,.bl true]/\A5 K H sc (ns.map V.int)/\0<=first/\first<=100/\H dl=some (.lst (D.map V.int))/\H wl=some (.lst Jg)/\(∀d∈D,0<=d/\d<=3)/\0<D.length/\D.length<=6/\
 ∀(r:Addr) (H':Hp) (B:List Am),A8 H H'->Hv H' r B->K9 B D->B.length=D.length->Q (.ref r) H'
section
open Bd
def CO (sc b:Int)(u:Nat->Nat)(ln:Nat->Int)(i:Nat):Int:=sc*ln i+(if u i=0 then b else 0)
def B1 (sc b:Int)(f:Nat->Int)(j:Nat):Int:=if j=0 then 0 else sc*(f j-f 0)+b
def F2 (sc b:Int)(g:Nat->Int)(j:Nat):Int:=if j=0 then 0 else(g j-g 0-b)/sc
def EN (sc b:Int)(g:Nat->Int)(j:Nat):Int:=if j=0 then 0 else -((b-(g j-g 0))/sc)
theorem s1 (i:Nat):¬1+i=0:=by lia
theorem LM {u w:Nat->Nat}{ln hn:Nat->Int}{n:Nat}{sc b:Int}{f:Nat->Int}(hs:0<sc)(h:Holds f (Bx u w ln hn n)):Holds (B1 sc b f) (Bx u w (CO sc b u ln) (CO sc b w hn) n):=fun bd hb=>by
 obtain⟨i,hi,rfl|rfl⟩:=J0 _ _ _ _ n bd hb
 .have h1:f (u i)-f (1+i)<=-(ln i):=h _ (F0 u w ln hn n i hi).1
  have m:=cZ h1 (Pg hs)
  show B1 sc b f (u i)-B1 sc b f (1+i)<=-(CO sc b u ln i)
  unfold B1 CO
  rw[Ab (s1 i)]
  rw[Iq,Int.mul_neg]at m
  by_cases c:u i=0
  .rw[Aj c,Aj c,Iq]
   rw[c]at m
   lia
  .rw[Ab c,Ab c,Iq,Iq]
   lia
 .have h1:f (1+i)-f (w i)<=hn i:=h _ (F0 u w ln hn n i hi).2
  have m:=cZ h1 (Pg hs)
  show B1 sc b f (1+i)-B1 sc b f (w i)<=CO sc b w hn i
  unfold B1 CO
  rw[Ab (s1 i)]
  rw[Iq]at m
  by_cases c:w i=0
  .rw[Aj c,Aj c,Iq]
   rw[c]at m
   lia
  .rw[Ab c,Ab c,Iq,Iq]
   lia
theorem GI {x y c sc:Int}(hs:0<sc)(h:x+c*sc<=y):x/sc+c<=y/sc:=by
 rw[←Int.add_mul_ediv_right x c (by lia)]
 exact Int.ediv_le_ediv hs h
theorem Z1 {u w:Nat->Nat}{ln hn:Nat->Int}{n:Nat}{sc b:Int}{g:Nat->Int}(hs:0<sc)(h:Holds g (Bx u w (CO sc b u ln) (CO sc b w hn) n)):Holds (F2 sc b g) (Bx u w ln hn n):=fun bd hb=>by
 obtain⟨i,hi,rfl|rfl⟩:=J0 _ _ _ _ n bd hb
 .have h1:g (u i)-g (1+i)<=-(CO sc b u ln i):=h _ (F0 u w _ _ n i hi).1
  show F2 sc b g (u i)-F2 sc b g (1+i)<=-(ln i)
  unfold CO at h1
  unfold F2
  rw[Ab (s1 i)]
  rw[Ph]at h1
  by_cases c:u i=0
  .rw[Aj c]
   rw[Aj c,c]at h1
   have:=GI (x:=0) (c:=ln i) (y:=g (1+i)-g 0-b) hs (by lia)
   rw[Pi]at this
   lia
  .rw[Ab c]
   rw[Ab c]at h1
   have:=GI (x:=g (u i)-g 0-b) (c:=ln i) (y:=g (1+i)-g 0-b) hs (by lia)
   lia
 .have h1:g (1+i)-g (w i)<=CO sc b w hn i:=h _ (F0 u w _ _ n i hi).2
  show F2 sc b g (1+i)-F2 sc b g (w i)<=hn i
  unfold CO at h1
  unfold F2
  rw[Ab (s1 i)]
  rw[Ph]at h1
  by_cases c:w i=0
  .rw[Aj c]
   rw[Aj c,c]at h1
   have:=GI (x:=g (1+i)-g 0-b) (c := -(hn i)) (y:=0) hs (by rw[Pj];lia)
   rw[Pi]at this
   lia
  .rw[Ab c]
   rw[Ab c]at h1
   have:=GI (x:=g (1+i)-g 0-b) (c := -(hn i)) (y:=g (w i)-g 0-b) hs (by rw[Pj];lia)
   lia
theorem aT {u w:Nat->Nat}{ln hn:Nat->Int}{n:Nat}{sc b:Int}{g:Nat->Int}(hs:0<sc)(h:Holds g (Bx u w (CO sc b u ln) (CO sc b w hn) n)):Holds (EN sc b g) (Bx u w ln hn n):=fun bd hb=>by
 obtain⟨i,hi,rfl|rfl⟩:=J0 _ _ _ _ n bd hb
 .have h1:g (u i)-g (1+i)<=-(CO sc b u ln i):=h _ (F0 u w _ _ n i hi).1
  show EN sc b g (u i)-EN sc b g (1+i)<=-(ln i)
  unfold CO at h1
  unfold EN
  rw[Ab (s1 i)]
  rw[Ph]at h1
  by_cases c:u i=0
  .rw[Aj c]
   rw[Aj c,c]at h1
   have:=GI (x:=b-(g (1+i)-g 0)) (c:=ln i) (y:=0) hs (by lia)
   rw[Pi]at this
   lia
  .rw[Ab c]
   rw[Ab c]at h1
   have:=GI (x:=b-(g (1+i)-g 0)) (c:=ln i) (y:=b-(g (u i)-g 0)) hs (by lia)
   lia
 .have h1:g (1+i)-g (w i)<=CO sc b w hn i:=h _ (F0 u w _ _ n i hi).2
  show EN sc b g (1+i)-EN sc b g (w i)<=hn i
  unfold CO at h1
  unfold EN
  rw[Ab (s1 i)]
  rw[Ph]at h1
  by_cases c:w i=0
  .rw[Aj c]
   rw[Aj c,c]at h1
   have:=GI (x:=0) (c := -(hn i)) (y:=b-(g (1+i)-g 0)) hs (by rw[Pj];lia)
   rw[Pi]at this
   lia
  .rw[Ab c]
   rw[Ab c]at h1
   have:=GI (x:=b-(g (w i)-g 0)) (c := -(hn i)) (y:=b-(g (1+i)-g 0)) hs (by rw[Pj];lia)
   lia
def BC (v:List Int)(j:Nat):Int:=if j=0 then 0 else v.getD (j-1) 0
def GE (f:Nat->Int)(n:Nat):List Int:=(List.range n).map fun i=>f (1+i)-f 0
theorem Qm (f:Nat->Int)(n:Nat):(GE f n).length=n:=by unfold GE;rw[Al,EH]
theorem L4 {f:Nat->Int}{n i:Nat}(h:i<n):(GE f n).getD i 0=f (1+i)-f 0:=by
 unfold GE
 rw[Cd,AQ,JB h]
 rfl
theorem Yl {f:Nat->Int}{n j:Nat}(h:j<=n):BC (GE f n) j=f j-f 0:=by
 unfold BC
 by_cases c:j=0
 .rw[Aj c,c];lia
 .rw[Ab c,L4 (by lia),show 1+(j-1)=j by lia]
theorem OS {u w:Nat->Nat}{ln hn:Nat->Int}{n:Nat}(hl:∀i<n,u i<=i/\w i<=i){f g:Nat->Int}{k:Int}(h:∀j≤n,g j=f j-k)(hf:Holds f (Bx u w ln hn n)):Holds g (Bx u w ln hn n):=fun bd hb=>by
 obtain⟨i,hi,rfl|rfl⟩:=J0 _ _ _ _ n bd hb
 .have h1:f (u i)-f (1+i)<=-(ln i):=hf _ (F0 u w ln hn n i hi).1
  have l:=hl i hi
  show g (u i)-g (1+i)<=-(ln i)
  rw[h _ (by lia),h _ (by lia)]
  lia
 .have h1:f (1+i)-f (w i)<=hn i:=hf _ (F0 u w ln hn n i hi).2
  have l:=hl i hi
  show g (1+i)-g (w i)<=hn i
  rw[h _ (by lia),h _ (by lia)]
  lia
theorem Sz {u w:Nat->Nat}{ln hn:Nat->Int}{n:Nat}(hl:∀i<n,u i<=i/\w i<=i){f:Nat->Int}(hf:Holds f (Bx u w ln hn n)):Holds (BC (GE f n)) (Bx u w ln hn n):=OS hl (fun j hj=>Yl hj) hf
def Ex (M T:List Int):Prop:=(∀a∈M,a∈T)/\∀t∈T,(∃a∈M,a<=t)/\∃a∈M,t<=a
theorem Ex.nil:Ex [] []:=⟨fun a h=>(by cases h),fun a h=>(by cases h)⟩
theorem Ex.app {M T M' T':List Int}(h:Ex M T)(g:Ex M' T'):Ex (M++M') (T++T'):=by
 refine⟨fun a ha=>?_,fun t ht=>?_⟩
 .rcases BO.mp ha with z|z
  .exact CA _ (h.1 a z)
  .exact C7 _ (g.1 a z)
 .rcases BO.mp ht with z|z
  .obtain⟨⟨a,a1,a2⟩,c,c1,c2⟩:=h.2 t z
   exact⟨⟨a,CA _ a1,a2⟩,c,CA _ c1,c2⟩
  .obtain⟨⟨a,a1,a2⟩,c,c1,c2⟩:=g.2 t z
   exact⟨⟨a,C7 _ a1,a2⟩,c,C7 _ c1,c2⟩
theorem Ex.one {M T:List Int}(h:Ex M T){p q:Int×Int}(hp:FX M p)(hq:FX T q):p=q:=by
 rcases hp with⟨rfl,rfl⟩|⟨p1,p2,p3,p4⟩
 .rcases hq with⟨_,rfl⟩|⟨q1,_⟩
  .rfl
  .obtain⟨⟨a,ha,_⟩,_⟩:=h.2 _ q1
   cases ha
 .rcases hq with⟨rfl,_⟩|⟨q1,q2,q3,q4⟩
  .cases h.1 _ p1
  .have e1:=q2 _ (h.1 _ p1)
   have e2:=q4 _ (h.1 _ p3)
   obtain⟨⟨a,ha,la⟩,_⟩:=h.2 _ q1
   obtain⟨_,c,hc,lc⟩:=h.2 _ q3
   have:=p2 a ha
   have:=p4 c hc
   obtain⟨x,y⟩:=p
   obtain⟨x',y'⟩:=q
   simp only at *
   rw[show x=x' by lia,show y=y' by lia]
def Et (u w:Nat->Nat)(ln hn:Nat->Int)(n:Nat)(R:List (List Int)):Prop := ∀v,v∈R↔v.length=n/\Holds (BC v) (Bx u w ln hn n)
def Eo (L:List Lq)(i:Nat):Int:=match L[i]? with
 |some q=>q.lo.2
 |none=>0
def Ew (L:List Lq)(i:Nat):Int:=match L[i]? with
 |some q=>q.hi.2
 |none=>0
theorem So {u w:Nat->Nat}{ln hn ln' hn':Nat->Int}:∀n,(∀i<n,ln i=ln' i/\hn i=hn' i)->Bx u w ln hn n=Bx u w ln' hn' n
 |0,_=>rfl
 |
  n+1,h=>by
  rw[Bx,Bx,So n fun i hi=>h i (by lia),(h n (by lia)).1,(h n (by lia)).2]
theorem SM {zs:List Str}{sc b:Int}{s:Str×Int}{k:Nat}(h:D4 zs s.1 1 (k:Int)):(Dr sc b s).2=sc*s.2+(if k=0 then b else 0):=by
 unfold Dr
 rcases h with⟨z,e⟩|⟨z,j,_,_,e⟩
 .rw[Aj z,Aj (by lia)]
 .rw[Ab z,Ab (by lia)]
  show sc*s.2=_
  lia
theorem Xn {D:Dq}{sc b:Int}{u w:Nat->Nat}(h:LW (BG sc b D) u w):DU (BG sc b D) u w=Bx u w (CO sc b u (Eo D.L)) (CO sc b w (Ew D.L)) D.L.length:=by
 have ln:(BG sc b D).loops.length=D.L.length:=by show(D.L.map _).length=_;rw[Al]
 unfold DU
 rw[ln]
 refine So _ fun i hi=>?_
 have hq:D.L[i]?=some D.L[i]:=AC hi
 have hl:(BG sc b D).loops[i]?=some (Hi sc b D.L[i]):=by show(D.L.map _)[i]?=_;rw[AQ,hq];rfl
 have a:=h.lo i (by rw[ln];exact hi)
 have c:=h.hi i (by rw[ln];exact hi)
 have e:=Hf hl
 rw[e.2.1]at a
 rw[e.2.2]at c
 have a:D4 _ (Dr sc b D.L[i].lo).1 1 _:=a
 have c:D4 _ (Dr sc b D.L[i].hi).1 1 _:=c
 rw[Kp]at a c
 show(Fs (BG sc b D) i).2=_/\(Fi (BG sc b D) i).2=_
 rw[e.2.1,e.2.2]
 show(Dr sc b D.L[i].lo).2=_/\(Dr sc b D.L[i].hi).2=_
 rw[SM a,SM c]
 unfold CO Eo Ew
 rw[hq]
 exact⟨rfl,rfl⟩
theorem XU {D:Dq}{sc b:Int}{u w:Nat->Nat}{e:Nat}{d:Int}{M:List Int}{R:List (List Int)}(hs:0<sc)(lw:LW (BG sc b D) u w)(he:e<D.L.length)(hR:Et u w (Eo D.L) (Ew D.L) D.L.length R)(hM:GW (BG sc b D) u w e d M):Ex M (R.map fun v=>sc*v.getD e 0+b+d):=by
 have ln:(BG sc b D).loops.length=D.L.length:=by show(D.L.map _).length=_;rw[Al]
 have hl:∀i<D.L.length,u i<=i/\w i<=i:=fun i hi=>lw.lt i (by rw[ln];exact hi)
 unfold GW at hM
 rw[Xn lw]at hM
 have at1:∀v:List Int,BC v (1+e)=v.getD e 0:=fun v=>by unfold BC;rw[Ab (s1 e),show 1+e-1=e by lia]
 have at0:∀v:List Int,BC v 0=0:=fun v=>by unfold BC;rw[Aj rfl]
 have upv:∀v:List Int,B1 sc b (BC v) (1+e)-B1 sc b (BC v) 0=sc*v.getD e 0+b:=fun v=>by
  unfold B1
  rw[Ab (s1 e),Aj rfl,at1,at0,Int.sub_zero (v.getD e 0)]
  lia
 rcases hM with⟨rfl,no⟩|⟨lo,hi,rfl,bd,⟨f,hf,ef⟩,g,hg,eg⟩
 .have:R=[]:=by
   cases R with
   |nil=>rfl
   |cons v R=>exact absurd (LM hs ((hR v).mp BN).2) (no _)
  rw[this]
  exact Ex.nil
 .refine⟨fun a ha=>?_,fun t ht=>?_⟩
  .rcases AS.mp ha with rfl|ha
   .have hd:=Sz hl (Z1 hs hf)
    have m:=(hR (GE (F2 sc b f) D.L.length)).mpr ⟨Qm _ _,hd⟩
    refine C9.mpr ⟨_,m,?_⟩
    have b1:=(bd _ (LM (b:=b) hs hd)).1
    rw[upv,L4 he]at b1
    rw[L4 he]
    have e0:F2 sc b f 0=0:=by unfold F2;rw[Aj rfl]
    have e1:F2 sc b f (1+e)=(f (1+e)-f 0-b)/sc:=by unfold F2;rw[Ab (s1 e)]
    rw[e0,e1,Int.sub_zero]at b1 ⊢
    have:=Int.mul_ediv_self_le (x:=f (1+e)-f 0-b) (k:=sc) (by lia)
    lia
   .rw[Bz.mp ha]
    have hd:=Sz hl (aT hs hg)
    have m:=(hR (GE (EN sc b g) D.L.length)).mpr ⟨Qm _ _,hd⟩
    refine C9.mpr ⟨_,m,?_⟩
    have b1:=(bd _ (LM (b:=b) hs hd)).2
    rw[upv,L4 he]at b1
    rw[L4 he]
    have e0:EN sc b g 0=0:=by unfold EN;rw[Aj rfl]
    have e1:EN sc b g (1+e) = -((b-(g (1+e)-g 0))/sc):=by unfold EN;rw[Ab (s1 e)]
    rw[e0,e1,Int.sub_zero,Int.mul_neg]at b1 ⊢
    have:=Int.mul_ediv_self_le (x:=b-(g (1+e)-g 0)) (k:=sc) (by lia)
    lia
  .obtain⟨v,hv,rfl⟩:=C9.mp ht
   have:=bd _ (LM (b:=b) hs ((hR v).mp hv).2)
   rw[upv]at this
   exact⟨⟨lo,BN,this.1⟩,hi,C6 _ BN,this.2⟩
end
section
variable {P:Program}{w:World}{A:Around}{E:Value->Shared->Prop}
abbrev Hr (h:Heap)(it d:Addr)(i n ep:Nat)(ok ov:Value)(a:Addr)(f:Bool):Prop:=PySem.W.KdxIt h it d i n ep ok ov a f
theorem XG {h:Heap}{g:Array GenState}{dr:Drawn}{tk:Nat}{os:OsState}{it d a:Addr}{f:Bool}{o oa:Obj}{es:Array DictEntry}{i ep:Nat}{e:DictEntry}{ok ov:Value}{R:PySem.Fin->Shared->Prop}(hit:Hr h it d i es.size ep ok ov a f)(ha:h.get? a=some oa)(hai:a≠it)(hod:h.get? d=some o)(hdd:o.data = .dict es ep)(hx:es[i]?=some e)
  (hQ:∀h',Hr h' it d (i+1) es.size ep ok ov a true->h'.get? h.objs.size=some {cls:=.type "tuple",data:=.seq #[e.key,e.val]}->h'.objs.size=h.objs.size+1->(∀b o,b≠it->h.get? b=some o->h'.get? b=some o)->R (.done (.ret (.ref h.objs.size))) ⟨h',g,dr,tk,os⟩) :
  wpAny (model P w) A (Builtin.«dict_itemiterator.__next__» ⟨[.ref it],[]⟩) R E ⟨h,g,dr,tk,os⟩:=by
 have hT:Shared.TypeIs ⟨h,g,dr,tk,os⟩ (.ref it) "dict_itemiterator":=⟨_,hit,rfl⟩
 have hlt:i<es.size:=(Ip.mp hx).1
 unfold Builtin.«dict_itemiterator.__next__»
 repeat (any_goals (first|assumption|wp_step))
 rw[hdd]
 refine Ae ?_
 dsimp only
 rw[Ab (by simp)]
 refine A1 (Ae ?_)
 refine A1 (IE hod hdd ?_)
 rw[Ab (by simp)]
 refine Ae ?_
 dsimp only
 rw[Ab (show ¬((i:Int)<0) by lia),EG,hx]
 dsimp only
 refine A1 (A1 (Py hT (Ae ?_)))
 refine A1 (Lk hT ?_)
 refine A1 (F8 hit (by simp;decide) fun h1 he1 hs1=>?_)
 have hT1:Shared.TypeIs ⟨h1,g,dr,tk,os⟩ (.ref it) "dict_itemiterator":=⟨_,he1,rfl⟩
 refine A1 (DM ?_)
 refine A1 (Lk hT1 ?_)
 refine A1 (Lk hT1 ?_)
 rw[Ab (by decide)]
 have he1:Hr h1 it d (i+1) es.size ep ok ov a f:=by
  rw[Aj (by decide),Ab (by decide)]at he1
  exact he1
 unfold Builtin.Dict_items.pairFromOwner
 refine A1 (Pt ?_)
 have hz1:h1.objs.size=h.objs.size:=hs1.1
 have hil:it<h.objs.size:=AA hit
 have he2:Hr (h1.push {cls:=.type "tuple",data:=.seq #[e.key,e.val]}) it d (i+1) es.size ep ok ov a f:=Aw _ he1
 have ht2:(h1.push {cls:=.type "tuple",data:=.seq #[e.key,e.val]}).get? h.objs.size=some {cls:=.type "tuple",data:=.seq #[e.key,e.val]}:=by rw[←hz1];exact B8 _ rfl
 have k2:∀b o,b≠it->h.get? b=some o->(h1.push {cls:=.type "tuple",data:=.seq #[e.key,e.val]}).get? b=some o:=fun b o hb z=>Aw _ (hs1.extBut b o hb z)
 have hz2:(h1.push {cls:=.type "tuple",data:=.seq #[e.key,e.val]}).objs.size=h.objs.size+1:=by rw[Gf,hz1]
 generalize h1.push {cls:=.type "tuple",data:=.seq #[e.key,e.val]}=h2 at he2 ht2 k2 hz2
 rw[hz1]
 clear he1 hs1 hT1 hz1
 have ha2:=k2 a oa hai ha
 refine A1 ?_
 unfold Builtin.Dict_items.ownedTupleIsFree
 refine A1 (D9 he2 rfl rfl ?_)
 show wpAny _ _ (loadIfAlive (a:Int).toNat>>=_) _ _ _
 rw[EG]
 refine A1 (PySem.W.kdx_alive ha2 ?_)
 rw[Ab (by simp)]
 refine A1 (D9 he2 rfl rfl ?_)
 have no:∀h3,Hr h3 it d (i+1) es.size ep ok ov a true->Heap.SameBut it h2 h3->R (.done (.ret (.ref h.objs.size))) ⟨h3,g,dr,tk,os⟩:=fun h3 q3 b3=>hQ h3 q3 (b3.extBut _ _ (BU hil) ht2) (by rw[b3.1,hz2]) fun b o hb z=>b3.extBut b o hb (k2 b o hb z)
 cases f with
 |
  true=>
  refine TQ (fun z=>absurd z (by simp)) (fun _=>Ae ?_)
  exact Ae (Ae (no h2 he2 (Heap.SameBut.refl _ _)))
 |
  false=>
  refine TQ (fun _=>?_) (fun z=>absurd (by simp) z)
  refine A1 (F8 he2 (by simp) fun h3 he3 hs3=>Ae ?_)
  exact Ae (Ae (no h3 he3 hs3))
theorem YJ {h:Heap}{g:Array GenState}{dr:Drawn}{tk:Nat}{os:OsState}{it d a:Addr}{f:Bool}{o:Obj}{es:Array DictEntry}{i ep:Nat}{ok ov:Value}{R:PySem.Fin->Shared->Prop}(hh:A.handled=none)(hit:Hr h it d i es.size ep ok ov a f)(hod:h.get? d=some o)(hdd:o.data = .dict es ep)(hx:es[i]?=none)
  (hE:∀h' e,Heap.ExtBut it h h'->(∃ob,h'.get? e=some ob/\ob.cls = .type "StopIteration")->E (.ref e) ⟨h',g,dr,tk,os⟩) :
  wpAny (model P w) A (Builtin.«dict_itemiterator.__next__» ⟨[.ref it],[]⟩) R E ⟨h,g,dr,tk,os⟩:=by
 have hT:Shared.TypeIs ⟨h,g,dr,tk,os⟩ (.ref it) "dict_itemiterator":=⟨_,hit,rfl⟩
 unfold Builtin.«dict_itemiterator.__next__»
 repeat (any_goals (first|assumption|wp_step))
 rw[hdd]
 refine Ae ?_
 dsimp only
 rw[Ab (by simp)]
 refine A1 (Ae ?_)
 refine A1 (IE hod hdd ?_)
 rw[Ab (by simp)]
 refine Ae ?_
 dsimp only
 rw[Ab (show ¬((i:Int)<0) by lia),EG,hx]
 dsimp only
 refine A1 (A1 (Py hT (Ae ?_)))
 refine A1 (IB hit rfl (by simp;decide) ?_)
 have sb:Heap.ExtBut it h _:=(Gg (h:=h) (a:=it) (f:=Obj.mapFields fun x=>x.setIfInBounds (if Builtin.Dict_items.ownsTuple "dict_itemiterator"=true then 2 else 0) Value.none) ..).extBut
 dsimp only
 generalize h.update it (Obj.mapFields fun x=>x.setIfInBounds (if Builtin.Dict_items.ownsTuple "dict_itemiterator"=true then 2 else 0) Value.none)=h1 at sb
 simp only[newExc,newTuple]
 repeat (any_goals (first|assumption|wp_step))
 simp only[raiseNew]
 refine A1 (Pq ?_)
 rw[hh]
 exact A1 (Ae (Pr (hE _ _ ((sb.push _).push _) ⟨_,B8 _ rfl,rfl⟩)))
def Gr (h:Heap)(it d S:Addr)(i n ep:Nat):Prop:=(i=0/\∃ok ov,IsItemIter h it d 0 n ep ok ov)\/∃ok ov a f oa,Hr h it d i n ep ok ov a f/\h.get? a=some oa/\a≠it/\a≠S
theorem Gr.typ {h:Heap}{it d S:Addr}{i n ep:Nat}(x:Gr h it d S i n ep):∃o,h.get? it=some o/\o.cls = .type "dict_itemiterator":=by
 rcases x with⟨_,_,_,q⟩|⟨_,_,_,_,_,q,_⟩
 .exact⟨_,q,rfl⟩
 .exact⟨_,q,rfl⟩
theorem Qk {s:Shared}{it d S:Addr}{o:Obj}{es:Array DictEntry}{i ep:Nat}{Q:Option Value->Shared->Prop}(hh:A.handled=none)(st:Gr s.heap it d S i es.size ep)(hS:S<s.heap.objs.size)(hod:s.heap.get? d=some o)(hdd:o.data = .dict es ep)
  (hQ:∀e,es[i]?=some e->∀h',Gr h' it d S (i+1) es.size ep->h'.get? s.heap.objs.size=some {cls:=.type "tuple",data:=.seq #[e.key,e.val]}->h'.objs.size=s.heap.objs.size+1->(∀b o,b≠it->s.heap.get? b=some o->h'.get? b=some o)->Q (some (.ref s.heap.objs.size)) {s with heap:=h'})
  (hN:es[i]?=none->∀h',Heap.ExtBut it s.heap h'->Q none {s with heap:=h'}):wpAny (model P w) A (pyNext (.ref it)) Q E s:=by
 obtain⟨ob,hob,hc⟩:=st.typ
 have hT:s.TypeIs (.ref it) "dict_itemiterator":=⟨ob,hob,hc⟩
 rcases st with⟨rfl,ok,ov,hit⟩|⟨ok,ov,a,f,oa,hit,ha,hai,haS⟩
 .exact Uv hh hit hod hdd (fun e he h' a b c k=>hQ e he h' (.inr ⟨e.key,e.val,_,false,_,a,b,BU (AA hit),BU hS⟩) b c k) hN
 obtain⟨h,g,dr,tk,os⟩:=s
 unfold pyNext
 refine A1 (Nv (wpAny_callSpecial?_slot (name:=Str.ofString "__next__") hT F.slot_dict_itemiterator_next (Gj F.slot_dict_itemiterator_next hT F.entry_dict_itemiterator_next ?_ (F.args_dict_itemiterator_next_1 _))))
 cases hx:es[i]? with
 |some e=>exact XG hit ha hai hod hdd hx fun h' q b c k=>⟨_,rfl,Ae (hQ e hx h' (.inr ⟨ok,ov,a,true,oa,q,k a oa hai ha,hai,haS⟩) b c k)⟩
 |
  none=>
  refine YJ (show A.in1.handled=none from hh) hit hod hdd hx fun h' e xb zz=>?_
  obtain⟨ob,he,hc⟩:=zz
  exact A1 (Nw (T:="StopIteration") (b:=true) ⟨ob,he,hc⟩ Nx (Ae (hN hx h' xb)))
def F1 (h:Heap)(I:Addr)(as:List Addr)(es:Array DictEntry)(i:Nat):Prop:=as.length=i/\(∀(j:Nat) (a:Addr) (e:DictEntry),as[j]?=some a->es[j]?=some e->I<a/\h.get? a=some {cls:=.type "tuple",data:=.seq #[e.key,e.val]})/\as.Nodup
theorem F1.up {h h':Heap}{I:Addr}{as:List Addr}{es:Array DictEntry}{i:Nat}(x:F1 h I as es i)(k:∀b o,I<b->h.get? b=some o->h'.get? b=some o):F1 h' I as es i:=⟨x.1,fun j a e h1 h2=>let ⟨p,q⟩:=x.2.1 j a e h1 h2;⟨p,k a _ p q⟩,x.2.2⟩
theorem F1.snoc {h:Heap}{I a:Addr}{as:List Addr}{es:Array DictEntry}{i:Nat}{e:DictEntry}(x:F1 h I as es i)(he:es[i]?=some e)(ha:I<a)(ht:h.get? a=some {cls:=.type "tuple",data:=.seq #[e.key,e.val]})(hn:a∉as):F1 h I (as++[a]) es (i+1):=by
 refine⟨by rw[AF,x.1];rfl,fun j b u h1 h2=>?_,Pk.mpr ⟨x.2.2,List.pairwise_singleton _ _,fun b hb c hc z=>hn (by rw[←Bz.mp hc,←z];exact hb)⟩⟩
 rcases DJ j as.length with z|z
 .rw[C8 z]at h1
  exact x.2.1 j b u h1 h2
 .have l:=(As.mp h1).1
  rw[AF,Bf]at l
  have:j=as.length:=by lia
  subst this
  rw[BH (Ah _),Cq]at h1
  cases h1
  rw[x.1,he]at h2
  cases h2
  exact⟨ha,ht⟩
abbrev Ff (acc:Array Value)(c:Nat):Obj:={cls:=.type "list",dict:=none,data:=.seq acc c,slots := #[]}
theorem Gr.up {h h':Heap}{it d S:Addr}{i n ep:Nat}(x:Gr h it d S i n ep)(k:∀b o,b≠S->h.get? b=some o->h'.get? b=some o)(hI:it≠S):Gr h' it d S i n ep:=by
 rcases x with⟨e,ok,ov,q⟩|⟨ok,ov,a,f,oa,q,z,y,x⟩
 .exact .inl ⟨e,ok,ov,k _ _ hI q⟩
 .exact .inr ⟨ok,ov,a,f,oa,k _ _ hI q,k _ _ x z,y,x⟩
theorem W7 {s:Shared}{S I d:Addr}{o:Obj}{es:Array DictEntry}{ep:Nat}{R:Result->Shared->Prop}{h1:Heap}(hh:A.handled=none)(hSI:S<I)(hSd:d≠S)(hId:d≠I)(hn:es.size<=sizeLine)(hdd:o.data = .dict es ep)(res:Value)
  (hR:∀h' tk acc c as,(∀b o,b≠S->b≠I->h1.get? b=some o->h'.get? b=some o)->h'.get? S=some (Ff acc c)->acc.toList=as.map Value.ref->F1 h' I as es es.size->R (.ok (.ret res)) {s with heap:=h',toks:=tk}) :
  ∀(k i:Nat) (h:Heap) (tk c:Nat) (acc:Array Value) (as:List Addr),es.size-i=k->i<=es.size->Gr h I d S i es.size ep->h.get? d=some o->(∀b o,b≠S->b≠I->h1.get? b=some o->h.get? b=some o)->h.get? S=some (Ff acc c)->acc.toList=as.map Value.ref->F1 h I as es i->I<h.objs.size->
   codeAny (model P w) A (.builtin "list.extend.loop" ⟨[.ref S,.ref I,res],[]⟩) R {s with heap:=h,toks:=tk}:=by
 have ne:S≠I:=AN hSI
 intro k
 induction k with
 |
  zero=>
  intro i h tk c acc as hk hi st hd kp hS ha gt hIs
  have ei:i=es.size:=by lia
  subst ei
  refine IF PySem.F.entry_extend_loop ?_
  rw[Around.under_plainId Nm _]
  refine A1 (Qk (s:={s with heap:=h,toks:=tk}) (A:=A.in1) hh st (AA hS) hd hdd (fun e he=>?_) fun _ h' xb=>?_)
  .rw[Array.getElem?_eq_none (Ah _)]at he
   cases he
  .exact Ae (hR h' tk acc c as (fun b o n1 n2 e=>xb b o n2 (kp b o n1 n2 e)) (xb S _ ne hS) ha (gt.up fun b o l e=>xb b o (BU l) e))
 |
  succ k ih=>
  intro i h tk c acc as hk hi st hd kp hS ha gt hIs
  have sz:acc.size=i:=by rw[←DF,ha,Al,gt.1]
  refine IF PySem.F.entry_extend_loop ?_
  rw[Around.under_plainId Nm _]
  refine A1 (Qk (s:={s with heap:=h,toks:=tk}) (A:=A.in1) hh st (AA hS) hd hdd (fun e he h' st' ht hz kp'=>?_) fun hx=>?_)
  rotate_left
  .rw[Ld (by lia)]at hx
   cases hx
  have hS':=kp' S _ ne hS
  have Sl:=AA hS
  have up:∀b o,b≠S->h'.get? b=some o->(h'.update S (Obj.mapSeq (·.push (Value.ref h.objs.size)))).get? b=some o:=fun b o hb z=>(DZ _ _ (Ne.symm hb)).trans z
  have htu:=up h.objs.size _ (BU Sl) ht
  refine A1 ?_
  refine ID hS' rfl (Ae ⟨IG Nm _,?_⟩) (by rw[sz];lia) (by show(acc.push (Value.ref h.objs.size)).size<=sizeLine+1;rw[Array.size_push,sz];lia)
  refine ih (i+1) _ tk _ (acc.push (Value.ref h.objs.size)) (as++[h.objs.size]) (by lia) (by lia) (st'.up up (Ne.symm ne)) (up d o hSd (kp' d o hId hd)) (fun b o n1 n2 z=>up b o n1 (kp' b o n2 (kp b o n1 n2 z))) (DG _ hS' rfl) (by rw[Array.toList_push,ha,B3];rfl) ?_ (P7 hIs (AA htu))
  refine(gt.up fun b o l z=>up b o (BU (P7 hSI l)) (kp' b o (BU l) z)).snoc he hIs htu fun hb=>?_
  obtain⟨j,hj⟩:=GQ.mp hb
  have jl:=(As.mp hj).1
  have gl:=gt.1
  have:=(gt.2.1 j _ es[j] hj (Ld (by lia))).2
  exact absurd (AA this) (D7 _)
end
section
variable {P:Program}{w:World}{A:Around}{E:Value->Shared->Prop}{s:Shared}
theorem cA (d:Addr)(hd:(d==sysModules)=false):MeetsIn P w (Builtin.«dict.items» ⟨[.ref d],[]⟩) (fun _ R s=>s.TypeIs (.ref d) "dict"/\R (.ok (.ret (.ref s.heap.objs.size))) {s with heap:=s.heap.push {cls:=.type "dict_items",data:=.fields #[.ref d]}}):=
 .of_wp fun A R s ⟨ht,h⟩=>by
  unfold Builtin.«dict.items» Builtin.Dict.noArgs
  refine A1 (A1 (wpAny_notOrdered_dict ht (Ae ?_)))
  refine A1 (m:=Builtin.Dict.showsAll d) ?_
  unfold Builtin.Dict.showsAll
  rw[hd]
  exact Ae (A1 (Fu (Ae ⟨_,rfl,h⟩)))
theorem U6 (d:Addr)(hd:(d==sysModules)=false):MeetsIn P w (Builtin.«dict.values» ⟨[.ref d],[]⟩) (fun _ R s=>s.TypeIs (.ref d) "dict"/\R (.ok (.ret (.ref s.heap.objs.size))) {s with heap:=s.heap.push {cls:=.type "dict_values",data:=.fields #[.ref d]}}):=
 .of_wp fun A R s ⟨ht,h⟩=>by
  refine A1 ?_
  unfold Builtin.Dict.noArgs
  refine A1 (wpAny_notOrdered_dict ht (Ae ?_))
  refine A1 (m:=Builtin.Dict.showsAll d) ?_
  unfold Builtin.Dict.showsAll
  rw[hd]
  exact Ae (A1 (Fu (Ae ⟨_,rfl,h⟩)))
abbrev NI (d:Addr)(n ep:Nat):Obj:={cls:=.type "dict_itemiterator",data:=.fields #[.none,.bool false,.ref d,.int 0 0,.int n 0,.int ep 0,.none,.none]}
theorem WW {v d:Addr}{o:Obj}{es:Array DictEntry}{ep:Nat}{Q:Value->Shared->Prop}(hv:s.heap.IsItemsView v d)(ho:s.heap.get? d=some o)(hd:o.data = .dict es ep)(hQ:Q (.ref s.heap.objs.size) {s with heap:=s.heap.push (NI d es.size ep)}):wpAny (model P w) A (pyIter (.ref v)) Q E s:=by
 obtain⟨ov,hov,_,hdv⟩:=id hv
 refine wpAny_pyIter_slot hv.typeIs F.slot_dict_items_iter (Gj F.slot_dict_items_iter hv.typeIs F.entry_dict_items_iter ?_ (F.args_dict_items_iter_1 _))
 unfold Builtin.«dict_items.__iter__» Builtin.Dict_items.dictOf Builtin.Dict_items.newIterator
 refine A1 (Ae (A1 (A1 (D9 hov hdv (x:=.ref d) rfl (Ae ?_)))))
 refine A1 (A1 (wpAny_dictEntries ho hd (A1 (IE ho hd ?_))))
 dsimp only
 rw[Aj (show Builtin.Dict_items.ownsTuple "dict_itemiterator"=true by decide)]
 refine Fu (Ae ⟨_,rfl,"dict_itemiterator",_,⟨_,B8 _ rfl,rfl⟩,F.slot_dict_itemiterator_next.lookup,?_⟩) (by simp only[sizeOk,Builtin.Dict_items.ownedTupleFields,AZ,AF,B9,Ii,Gh];lia)
 simpa[rawInt,Builtin.Dict_items.ownedTupleFields] using hQ
theorem aq {r d S:Addr}{o:Obj}{es:Array DictEntry}{ep c0:Nat}{R:Result->Shared->Prop}(hh:A.handled=none)(hv:s.heap.IsItemsView r d)(ho:s.heap.get? d=some o)(hd:o.data = .dict es ep)(hSr:S≠r)(hSd:d≠S)(res:Value)(hS:s.heap.get? S=some (Ff #[] c0))(hn:es.size<=sizeLine)
  (hR:∀h' tk acc c as,(∀b o,b≠S->s.heap.get? b=some o->h'.get? b=some o)->h'.get? S=some (Ff acc c)->acc.toList=as.map Value.ref->F1 h' s.heap.objs.size as es es.size->R (.ok (.ret res)) {s with heap:=h',toks:=tk}) :
  wpAny (model P w) A.in1 (Builtin.List.listExtendWith (.ref S) (.ref r) res) (fun fin s'=>match fin with|.done f=>R (.ok f) s'|.again c'=>c'.quiet=true/\codeAny (model P w) A c' R s') (fun e s'=>R (.error e) s') s:=by
 have Sl:=AA hS
 have dl:=AA ho
 have go:∀(h:Heap) (c1 tk:Nat),(∀b o,b≠S->(s.heap.push (NI d es.size ep)).get? b=some o->h.get? b=some o)->h.get? S=some (Ff #[] c1)->codeAny (model P w) A (.builtin "list.extend.loop" ⟨[.ref S,.ref s.heap.objs.size,res],[]⟩) R {s with heap:=h,toks:=tk}:=fun h c1 tk k hS1=>by
  have hI:=k s.heap.objs.size _ (BU Sl) (B8 _ rfl)
  have kp:∀b o,b≠S->s.heap.get? b=some o->h.get? b=some o:=fun b o n e=>k b o n (Aw _ e)
  exact W7 (s:=s) (h1:=s.heap) hh Sl hSd (AN dl) hn hd res (fun h' tk' acc c as k' q1 q2 q3=>hR h' tk' acc c as (fun b o n e=>k' b o n (AN (AA e)) e) q1 q2 q3) es.size 0 h tk c1 #[] [] rfl (Bk _) (.inl ⟨rfl,.none,.none,hI⟩) (kp d o hSd ho) (fun b o n _ e=>kp b o n e) hS1 rfl ⟨rfl,(fun j a e h1=>by cases h1),P8⟩ (AA hI)
 unfold Builtin.List.listExtendWith
 refine A1 (Pm (T:="dict_items") hv.typeIs ?_)
 rw[Ab (by rw[show Builtin.List.listSameRef (.ref S) (.ref r)=false by simp[Builtin.List.listSameRef,hSr]];decide)]
 refine A1 (WW hv ho hd ?_)
 have hS1:(s.heap.push (NI d es.size ep)).get? S=some (Ff #[] c0):=Aw _ hS
 refine A1 (DM (PySem.W.kdx_hint (let ⟨o,ho,hc,_⟩:=hv;⟨o,Aw _ ho,hc⟩) ?_))
 refine TQ (fun _=>?_) (fun _=>Ae ⟨IG Nm _,go _ c0 _ (fun b o _ e=>e) hS1⟩)
 refine A1 (Nt (A1 ?_))
 show wpAny _ _ (updateSeq S (·.push .none)>>=fun _=>updateSeq S (·.pop)) _ _ _
 refine A1 (ID hS1 rfl ?_)
 have hS2:=DG (Obj.mapSeq (·.push Value.none)) hS1 rfl
 refine ID (hz:=by seq_fits) hS2 rfl (Ae ⟨IG Nm _,go _ _ _ (fun b o n e=>?_) (DG (Obj.mapSeq (·.pop)) hS2 rfl)⟩)
 rw[DZ _ _ (Ne.symm n),DZ _ _ (Ne.symm n)]
 exact e
theorem aa {r d S:Addr}{o:Obj}{es:Array DictEntry}{ep:Nat}{R:Result->Shared->Prop}(hh:A.handled=none)(hv:s.heap.IsItemsView r d)(ho:s.heap.get? d=some o)(hd:o.data = .dict es ep)(hSr:S≠r)(hSd:d≠S)(hS:s.heap.get? S=some (Ff #[] 0))(hn:es.size<=sizeLine)
  (hR:∀h' tk acc c as,(∀b o,b≠S->s.heap.get? b=some o->h'.get? b=some o)->h'.get? S=some (Ff acc c)->acc.toList=as.map Value.ref->F1 h' S as es es.size->R (.ok (.ret .none)) {s with heap:=h',toks:=tk}) :
  wpAny (model P w) A.in1 (Builtin.«list.__init__» ⟨[.ref S,.ref r],[]⟩) (fun fin s'=>match fin with|.done f=>R (.ok f) s'|.again c'=>c'.quiet=true/\codeAny (model P w) A c' R s') (fun e s'=>R (.error e) s') s:=by
 show wpAny _ _ (do let old ←Builtin.List.listItems (.ref S);Builtin.List.listUpdate (.ref S) (fun _ => #[]);letGo old.toList.reverse;Builtin.List.listExtendWith (.ref S) (.ref r) .none) _ _ s
 unfold Builtin.List.listItems
 refine A1 (A1 (EI hS rfl (Ae ?_)))
 refine A1 (m:=updateSeq S (fun _ => #[])) (ID hS rfl (A1 (FS ?_)))
 have k:∀b o,b≠S->s.heap.get? b=some o->(s.heap.update S (Obj.mapSeq (fun _=>(#[]:Array Value)))).get? b=some o:=fun b o n e=>by rw[DZ _ _ (Ne.symm n)];exact e
 refine aq hh (let ⟨o,ho,x⟩:=hv;⟨o,k r o hSr.symm ho,x⟩) (k d o hSd ho) hd hSr hSd .none (DG (Obj.mapSeq (fun _=>(#[]:Array Value))) hS rfl) hn fun h' tk acc c as k' q1 q2 q3=>?_
 exact hR h' tk acc c as (fun b o n e=>k' b o n (k b o n e)) q1 q2 ⟨q3.1,(fun j a e h1 h2=>let ⟨p,q⟩:=q3.2.1 j a e h1 h2;⟨Nat.lt_of_le_of_lt (FP (AA (DG (Obj.mapSeq (fun _=>(#[]:Array Value))) hS rfl))) p,q⟩),q3.2.2⟩
theorem Xd {r d:Addr}{o:Obj}{es:Array DictEntry}{ep:Nat}{Q:Value->Shared->Prop}(hh:A.handled=none)(hv:s.heap.IsItemsView r d)(ho:s.heap.get? d=some o)(hd:o.data = .dict es ep)(hn:es.size<=sizeLine)
  (hQ:∀h' tk acc c as,(∀b o,s.heap.get? b=some o->h'.get? b=some o)->h'.get? s.heap.objs.size=some (Ff acc c)->acc.toList=as.map Value.ref->F1 h' s.heap.objs.size as es es.size->Q (.ref s.heap.objs.size) {s with heap:=h',toks:=tk}):wpAny (model P w) A (call (.type "list") [.ref r]) Q E s:=by
 refine callType_codes (Q₁:=fun obj t=>obj = .ref s.heap.objs.size/\t={s with heap:=s.heap.push {cls:=.type "list",data:=.seq #[]}}) PySem.F.called_list (PySem.F.typeCall_list_1 _) PySem.F.entry_list_init (code_list_new _ ⟨rfl,rfl⟩) fun obj t h1=>?_
 obtain⟨rfl,rfl⟩:=h1
 have rl:r<s.heap.objs.size:=let ⟨_,ho,_⟩:=hv;AA ho
 refine⟨⟨_,B8 _ rfl,rfl⟩,PySem.F.args_list_init_2 _ _,aa (A:=A.in1) hh (let ⟨o,ho,x⟩:=hv;⟨o,Aw _ ho,x⟩) (Aw _ ho) hd (BU rl) (AN (AA ho)) (B8 _ rfl) hn fun h' tk acc c as k q1 q2 q3=>?_⟩
 exact⟨rfl,hQ h' tk acc c as (fun b o e=>k b o (AN (AA e)) (Aw _ e)) q1 q2 q3⟩
end
section
variable {P:Program}{w:World}{A:Around}{E:Value->Shared->Prop}
abbrev Hq (h:Heap)(it d:Addr)(i n ep:Nat):Prop:=h.get? it=some {cls:=.type "dict_valueiterator",dict:=none,data:=.fields #[.ref d,.int i 0,.int n 0,.int ep 0],slots := #[]}
theorem Zx {h:Heap}{g:Array GenState}{dr:Drawn}{tk:Nat}{os:OsState}{it d:Addr}{o:Obj}{es:Array DictEntry}{i ep:Nat}{e:DictEntry}{R:PySem.Fin->Shared->Prop}(hit:Hq h it d i es.size ep)(hod:h.get? d=some o)(hdd:o.data = .dict es ep)(hx:es[i]?=some e)
  (hQ:∀h',Hq h' it d (i+1) es.size ep->Heap.SameBut it h h'->R (.done (.ret e.val)) ⟨h',g,dr,tk,os⟩) :
  wpAny (model P w) A (Builtin.«dict_valueiterator.__next__» ⟨[.ref it],[]⟩) R E ⟨h,g,dr,tk,os⟩:=by
 have hT:Shared.TypeIs ⟨h,g,dr,tk,os⟩ (.ref it) "dict_valueiterator":=⟨_,hit,rfl⟩
 have hlt:i<es.size:=(Ip.mp hx).1
 unfold Builtin.«dict_valueiterator.__next__»
 repeat (any_goals (first|assumption|wp_step))
 rw[hdd]
 refine Ae ?_
 dsimp only
 rw[Ab (by simp)]
 refine A1 (Ae ?_)
 refine A1 (IE hod hdd ?_)
 rw[Ab (by simp)]
 refine Ae ?_
 dsimp only
 rw[Ab (show ¬((i:Int)<0) by lia),EG,hx]
 dsimp only
 refine A1 (A1 (df hT (Ae ?_)))
 refine A1 (TR hT ?_)
 refine A1 (F8 hit (by simp;decide) fun h1 he1 hs1=>?_)
 have hT1:Shared.TypeIs ⟨h1,g,dr,tk,os⟩ (.ref it) "dict_valueiterator":=⟨_,he1,rfl⟩
 refine A1 (DM ?_)
 refine A1 (TR hT1 ?_)
 refine A1 (TR hT1 ?_)
 rw[Aj (by decide)]
 have he1:Hq h1 it d (i+1) es.size ep:=by
  rw[Ab (by decide),Ab (by decide)]at he1
  exact he1
 exact Ae (Ae (hQ h1 he1 hs1))
theorem cq {h:Heap}{g:Array GenState}{dr:Drawn}{tk:Nat}{os:OsState}{it d:Addr}{o:Obj}{es:Array DictEntry}{i ep:Nat}{R:PySem.Fin->Shared->Prop}(hh:A.handled=none)(hit:Hq h it d i es.size ep)(hod:h.get? d=some o)(hdd:o.data = .dict es ep)(hx:es[i]?=none)
  (hE:∀h' e,Heap.ExtBut it h h'->(∃ob,h'.get? e=some ob/\ob.cls = .type "StopIteration")->E (.ref e) ⟨h',g,dr,tk,os⟩) :
  wpAny (model P w) A (Builtin.«dict_valueiterator.__next__» ⟨[.ref it],[]⟩) R E ⟨h,g,dr,tk,os⟩:=by
 have hT:Shared.TypeIs ⟨h,g,dr,tk,os⟩ (.ref it) "dict_valueiterator":=⟨_,hit,rfl⟩
 unfold Builtin.«dict_valueiterator.__next__»
 repeat (any_goals (first|assumption|wp_step))
 rw[hdd]
 refine Ae ?_
 dsimp only
 rw[Ab (by simp)]
 refine A1 (Ae ?_)
 refine A1 (IE hod hdd ?_)
 rw[Ab (by simp)]
 refine Ae ?_
 dsimp only
 rw[Ab (show ¬((i:Int)<0) by lia),EG,hx]
 dsimp only
 refine A1 (A1 (df hT (Ae ?_)))
 refine A1 (IB hit rfl (by simp;decide) ?_)
 have sb:Heap.ExtBut it h _:=(Gg (h:=h) (a:=it) (f:=Obj.mapFields fun x=>x.setIfInBounds (if Builtin.Dict_items.ownsTuple "dict_valueiterator"=true then 2 else 0) Value.none) ..).extBut
 dsimp only
 generalize h.update it (Obj.mapFields fun x=>x.setIfInBounds (if Builtin.Dict_items.ownsTuple "dict_valueiterator"=true then 2 else 0) Value.none)=h1 at sb
 simp only[newExc,newTuple]
 repeat (any_goals (first|assumption|wp_step))
 simp only[raiseNew]
 refine A1 (Pq ?_)
 rw[hh]
 exact A1 (Ae (Pr (hE _ _ ((sb.push _).push _) ⟨_,B8 _ rfl,rfl⟩)))
theorem QP {s:Shared}{it d:Addr}{o:Obj}{es:Array DictEntry}{i ep:Nat}{Q:Option Value->Shared->Prop}(hh:A.handled=none)(hit:Hq s.heap it d i es.size ep)(hod:s.heap.get? d=some o)(hdd:o.data = .dict es ep)
  (hQ:∀e,es[i]?=some e->∀h',Hq h' it d (i+1) es.size ep->Heap.SameBut it s.heap h'->Q (some e.val) {s with heap:=h'})
  (hN:es[i]?=none->∀h',Heap.ExtBut it s.heap h'->Q none {s with heap:=h'}):wpAny (model P w) A (pyNext (.ref it)) Q E s:=by
 have hT:s.TypeIs (.ref it) "dict_valueiterator":=⟨_,hit,rfl⟩
 obtain⟨h,g,dr,tk,os⟩:=s
 unfold pyNext
 refine A1 (Nv (wpAny_callSpecial?_slot (name:=Str.ofString "__next__") hT F.slot_dict_valueiterator_next (Gj F.slot_dict_valueiterator_next hT F.entry_dict_valueiterator_next ?_ (F.args_dict_valueiterator_next_1 _))))
 cases hx:es[i]? with
 |some e=>exact Zx hit hod hdd hx fun h' a b=>⟨_,rfl,Ae (hQ e hx h' a b)⟩
 |
  none=>
  refine cq (show A.in1.handled=none from hh) hit hod hdd hx fun h' e xb zz=>?_
  obtain⟨ob,he,hc⟩:=zz
  exact A1 (Nw (T:="StopIteration") (b:=true) ⟨ob,he,hc⟩ Nx (Ae (hN hx h' xb)))
abbrev QC (d:Addr)(n ep:Nat):Obj:={cls:=.type "dict_valueiterator",data:=.fields #[.ref d,.int 0 0,.int n 0,.int ep 0]}
theorem Ux {s:Shared}{v d:Addr}{o:Obj}{es:Array DictEntry}{ep:Nat}{Q:Value->Shared->Prop}(hv:s.heap.IsValuesView v d)(ho:s.heap.get? d=some o)(hd:o.data = .dict es ep)(hQ:Q (.ref s.heap.objs.size) {s with heap:=s.heap.push (QC d es.size ep)}):wpAny (model P w) A (pyIter (.ref v)) Q E s:=by
 obtain⟨ov,hov,_,hdv⟩:=id hv
 refine wpAny_pyIter_slot hv.typeIs F.slot_dict_values_iter (Gj F.slot_dict_values_iter hv.typeIs F.entry_dict_values_iter ?_ (F.args_dict_values_iter_1 _))
 unfold Builtin.«dict_values.__iter__» Builtin.Dict_items.dictOf Builtin.Dict_items.newIterator
 refine A1 (Ae (A1 (A1 (D9 hov hdv (x:=.ref d) rfl (Ae ?_)))))
 refine A1 (A1 (wpAny_dictEntries ho hd (A1 (IE ho hd ?_))))
 dsimp only
 rw[Ab (show ¬Builtin.Dict_items.ownsTuple "dict_valueiterator"=true by decide)]
 refine Fu (Ae ⟨_,rfl,"dict_valueiterator",_,⟨_,B8 _ rfl,rfl⟩,F.slot_dict_valueiterator_next.lookup,?_⟩)
 simpa[rawInt] using hQ
theorem Xz {r d:Addr}{o:Obj}{es:Array DictEntry}{ep:Nat}(hd:o.data = .dict es ep):PySem.W.KdlSrc P w "dict_values" r d es.size (fun i v=>∃e,es[i]?=some e/\v=e.val) (fun h=>h.IsValuesView r d/\h.get? d=some o) where
 type:=fun _ hm=>hm.1.typeIs
 there:=fun _ hm=>⟨let ⟨_,ho,_⟩:=hm.1;AA ho,AA hm.2⟩
 keep:=fun _ _ hm hk=>⟨let ⟨o,ho,x⟩:=hm.1;⟨o,hk r (.inl rfl) o ho,x⟩,hk d (.inr rfl) o hm.2⟩
 notList:=by decide
 notTuple:=by decide
 hint:=fun _ _ _ _ hm hq=>PySem.W.kdl_hint_values hm.1.typeIs hq
 iter:=fun A s hh hm=>by
  have ne:d≠s.heap.objs.size:=AN (AA hm.2)
  refine⟨QC d es.size ep,fun i h=>Hq h s.heap.objs.size d i es.size ep/\h.get? d=some o,fun E Q hq=>Ux hm.1 hm.2 hd hq,?_,B8 _ rfl,Aw _ hm.2⟩
  refine⟨fun b hb=>?_,fun i h h' st k=>⟨k _ BN _ st.1,k _ (C6 _ BN) _ st.2⟩,fun i t Q E hi st hQ=>?_,fun t Q E st hQ=>?_,fun i t Q E st hQ=>?_⟩
  .rw[Bz.mp hb];exact BN
  .refine QP hh st.1 st.2 hd (fun e he h' a b=>hQ e.val h' t.toks ⟨e,he,rfl⟩ ⟨a,b.extBut d o ne st.2⟩ fun c u n z=>b.extBut c u (fun q=>n (by rw[q];exact BN)) z) fun hx=>?_
   rw[Ld hi]at hx
   cases hx
  .refine QP hh st.1 st.2 hd (fun e he=>?_) fun _ h' xb=>hQ h' t.toks fun c u n z=>xb c u (fun q=>n (by rw[q];exact BN)) z
   rw[Array.getElem?_eq_none (Ah _)]at he
   cases he
  .exact wpAny_pyIter_valiter ⟨_,st.1,rfl,rfl⟩ hQ
end
theorem A2.laidM {X:Cx}{pins:List (Addr×Obj)}{σ:St}{H H':Hp}{s:Shared}{h':Heap}{t':Nat}(I:A2 X pins σ H s)(k:∀b u,s.heap.get? b=some u->h'.get? b=some u)(old:A8 H H')(new:∀b u,H b=none->H' b=some u->s.heap.objs.size<=b/\BB X.prog X.w H' h' b u):A2 X pins σ H' {s with heap:=h',toks:=t'}:=by
 refine I.un ⟨fun b u q _ _ _=>k b u q,fun b u q _ _ _=>⟨u.slots,k b u q⟩,fun b u q n _=>?_,fun b u q _=>⟨u,k b u q⟩,fun b xs q=>old _ _ q,fun b u xs q=>old _ _ q,fun b ps q=>⟨#[],by rw[old _ _ q];simp⟩⟩ fun b u e=>?_
 .cases c:H' b with
  |none=>rfl
  |some v=>exact absurd (AA q) (Nk.mpr (new b v n c).1)
 .cases c:H b with
  |none=>exact(new b u c e).2
  |
   some v=>
   have:=old _ _ c
   rw[e]at this
   cases this
   exact(I.hok b u c).stay (fun c v _ q=>k c v q) (fun c q=>old _ _ q) fun c xs q=>old _ _ q
def VI (td:TE):TE:=fun σ H Q=>td σ H fun x H1=>∃a kvs,x = .ref a/\H1 a=some (.dT kvs)/\∀l,H1 l=none->Q (.ref l) (upd H1 l (.lst (kvs.map (·.2))))
theorem KT.vals {H:Hp}{kvs:List (List Ap×V)}{xs:List (List Ap×Addr×Value)}(r:KT H kvs xs):Az (kvs.map (·.2)) (xs.map (·.2.2)):=by
 induction r with
 |nil=>exact .nil
 |cons h _ ih=>exact .cons h.2.2 ih
theorem KT.len {H:Hp}{kvs:List (List Ap×V)}{xs:List (List Ap×Addr×Value)}(r:KT H kvs xs):kvs.length=xs.length:=by
 induction r with
 |nil=>rfl
 |cons h _ ih=>rw[B9,B9,ih]
theorem KT.at {H:Hp}{kvs:List (List Ap×V)}{xs:List (List Ap×Addr×Value)}(r:KT H kvs xs):∀{j:Nat} {q:List Ap×V},kvs[j]?=some q->∃x,xs[j]?=some x/\H x.2.1=some (.tup (q.1.map kV))/\AD q.2 x.2.2:=by
 induction r with
 |nil=>intro j q h;cases h
 |
  @cons p q ps qs h _ ih=>
  intro j u hu
  cases j with
  |zero=>cases hu;exact⟨q,rfl,h.2⟩
  |succ j=>exact ih hu
theorem VE {X:Cx}{o:Expr}{td:TE}{p apos cpos pos:Pos}(hc:X.calm=true)(hgl:Gl X "list")(hml:X.mg "list"=none)(ho:PE X o td)
  (hbase:attributeBase o "values" X.env (eval o X.env)=eval o X.env:=by rfl) (hline:(apos.endLine==cpos.line)=true:=by rfl):PE X (.Call (.Name "list" p) [.Call (.Attribute o "values" apos) [] [] cpos] [] pos) (VI td):=by
 intro pins s σ H Q I h
 refine Gi (Ed I hgl hml Jc ?_ (by decide) (by decide))
 refine Ge ?_ rfl rfl
 show wpAny _ _ (spliced ((false,eval (.Call (.Attribute o "values" apos) [] [] cpos) X.env)::backTo pos (starEach [] X.env))) _ _ s
 refine Calls.spliced_cons ?_
 refine TH hbase rfl hline Tj PySem.F.slot_dict_values PySem.F.type_dict_values (Ax (ho pins s σ H _ I h) fun u s1 hx=>?_)
 obtain⟨x,H1,I1,rx,a,kvs,ex,d,q⟩:=hx
 subst ex
 obtain rfl:u=Value.ref a:=rx
 obtain⟨t1,t2,_⟩:=Os I1 (.inr ⟨kvs,.inl d⟩)
 refine⟨t1,t2,?_⟩
 obtain⟨z,hd,xs,rel,od,es,ep,hod,_,hdd,hes,_⟩:=OV I1.hok d
 refine Calls.callWith_builtin rfl (Tg ?_)
 refine Pn PySem.F.slot_dict_values t1 PySem.F.entry_dict_values (PySem.F.args_dict_values_1 _) (U6 a hd) ⟨t1,?_⟩
 refine Calls.spliced_nil ?_
 have esz:es.size=kvs.length:=by rw[←DF,hes,Al,rel.len]
 refine PySem.W.kdl_call (s:={s1 with heap:=s1.heap.push {cls:=.type "dict_values",data:=.fields #[.ref a]}}) (Xz (r:=s1.heap.objs.size) (d:=a) hdd) (I1.ok.hd hc) ⟨⟨_,B8 _ rfl,rfl,rfl⟩,Aw _ hod⟩ (by rw[esz];exact z) fun h' tk acc c' hk hl' hi=>?_
 have hsz:(s1.heap.push {cls:=.type "dict_values",data:=.fields #[.ref a]}).objs.size=s1.heap.objs.size+1:=Gf ..
 have hf:H1 (s1.heap.objs.size+1)=none:=I1.hok.fresh (F6 _)
 change h'.get? (s1.heap.push {cls:=.type "dict_values",data:=.fields #[.ref a]}).objs.size=_ at hl'
 rw[hsz]at hl'
 have ea:acc.toList=xs.map (·.2.2):=by
  refine Lc fun j=>?_
  rw[AQ,P6]
  cases c:acc[j]? with
  |
   none=>
   have:xs[j]?=none:=by
    rw[N3,←rel.len,←esz,←hi.1]
    exact Array.getElem?_eq_none_iff.mp c
   rw[this];rfl
  |
   some v=>
   obtain⟨e,he,rfl⟩:=hi.2 j v c
   have:es.toList[j]?=some e:=by rw[P6];exact he
   rw[hes,AQ]at this
   cases c2:xs[j]? with
   |none=>rw[c2]at this;cases this
   |some x=>rw[c2]at this;cases this;rfl
 refine⟨.ref (s1.heap.objs.size+1),upd H1 (s1.heap.objs.size+1) (.lst (kvs.map (·.2))),I1.laid (t':=tk) (o:=.lst (kvs.map (·.2))) (fun b o e=>hk b o (Aw _ e)) (F6 _) ⟨by rw[Al];exact z,acc.toList,c',by rw[ea];exact rel.vals,by simpa using hl'⟩,?_,q _ hf⟩
 show Value.ref _=Value.ref _
 rw[←hsz]
def W1 (td:TE):TE:=fun σ H Q=>td σ H fun x H1=>∃a kvs,x = .ref a/\H1 a=some (.dT kvs)/\∀(l:Addr) (ys:List V) (H2:Hp),A8 H1 H2->H1 l=none->H2 l=some (.lst ys)->AE (Ms H2) ys kvs->Q (.ref l) H2
theorem SD:∀as:List Addr,Az (as.map V.ref) (as.map Value.ref)
 |[]=>.nil
 |a::as=>.cons rfl (SD as)
open Classical in
def GH (H:Hp)(L:Addr)(as:List Addr)(kvs:List (List Ap×V))(xs:List (List Ap×Addr×Value)):Hp:=fun b=>
 if b=L then some (.lst (as.map V.ref)) else if h:∃j:Nat,as[j]?=some b then(kvs[choose h]?).bind fun q=>(xs[choose h]?).map fun x=>HO.tup [.ref x.2.1,q.2] else H b
theorem aV {X:Cx}{o:Expr}{td:TE}{p apos cpos pos:Pos}(hc:X.calm=true)(hgl:Gl X "list")(hml:X.mg "list"=none)(ho:PE X o td)
  (hbase:attributeBase o "items" X.env (eval o X.env)=eval o X.env:=by rfl) (hline:(apos.endLine==cpos.line)=true:=by rfl):PE X (.Call (.Name "list" p) [.Call (.Attribute o "items" apos) [] [] cpos] [] pos) (W1 td):=by
 intro pins s σ H Q I h
 refine Gi (Ed I hgl hml Jc ?_ (by decide) (by decide))
 refine Ge ?_ rfl rfl
 show wpAny _ _ (spliced ((false,eval (.Call (.Attribute o "items" apos) [] [] cpos) X.env)::backTo pos (starEach [] X.env))) _ _ s
 refine Calls.spliced_cons ?_
 refine TH hbase rfl hline Tj PySem.F.slot_dict_items PySem.F.type_dict_items (Ax (ho pins s σ H _ I h) fun u s1 hx=>?_)
 obtain⟨x,H1,I1,rx,a,kvs,ex,d,q⟩:=hx
 subst ex
 obtain rfl:u=Value.ref a:=rx
 obtain⟨t1,t2,_⟩:=Os I1 (.inr ⟨kvs,.inl d⟩)
 refine⟨t1,t2,?_⟩
 obtain⟨z,hd,xs,rel,od,es,ep,hod,_,hdd,hes,_⟩:=OV I1.hok d
 refine Calls.callWith_builtin rfl (Tg ?_)
 refine Pn PySem.F.slot_dict_items t1 PySem.F.entry_dict_items (PySem.F.args_dict_items_1 _) (cA a hd) ⟨t1,?_⟩
 refine Calls.spliced_nil ?_
 have esz:es.size=kvs.length:=by rw[←DF,hes,Al,rel.len]
 refine Xd (s:={s1 with heap:=s1.heap.push {cls:=.type "dict_items",data:=.fields #[.ref a]}}) (r:=s1.heap.objs.size) (d:=a) (I1.ok.hd hc) ⟨_,B8 _ rfl,rfl,rfl⟩ (Aw _ hod) hdd (by rw[esz];exact z) fun h' tk acc c as hk hl' ha gt=>?_
 have hsz:(s1.heap.push {cls:=.type "dict_items",data:=.fields #[.ref a]}).objs.size=s1.heap.objs.size+1:=Gf ..
 change h'.get? (s1.heap.push {cls:=.type "dict_items",data:=.fields #[.ref a]}).objs.size=_ at hl'
 change F1 h' (s1.heap.push {cls:=.type "dict_items",data:=.fields #[.ref a]}).objs.size as es es.size at gt
 rw[hsz]at hl' gt
 obtain⟨gl,gt,nd⟩:=gt
 have hf:H1 (s1.heap.objs.size+1)=none:=I1.hok.fresh (F6 _)
 have pr:∀(j:Nat) (b:Addr),as[j]?=some b->∃(q:List Ap×V) (x:List Ap×Addr×Value),kvs[j]?=some q/\xs[j]?=some x/\H1 x.2.1=some (.tup (q.1.map kV))/\AD q.2 x.2.2/\s1.heap.objs.size+1<b/\h'.get? b=some {cls:=.type "tuple",data:=.seq #[.ref x.2.1,x.2.2]}:=fun j b hb=>by
  have jl:=(As.mp hb).1
  have hq:kvs[j]?=some (kvs[j]'(by lia)):=AC _
  obtain⟨x,hx,h1,h2⟩:=rel.at hq
  have he:es[j]?=some (entryOfKey (tupleKind (Dt X.prog X.w)) x):=by rw[←P6,hes,AQ,hx];rfl
  obtain⟨g1,g2⟩:=gt j b _ hb he
  exact⟨_,x,hq,hx,h1,h2,g1,g2⟩
 have at_:∀(j:Nat) (b:Addr) (q:List Ap×V) (x:List Ap×Addr×Value),as[j]?=some b->kvs[j]?=some q->xs[j]?=some x->GH H1 (s1.heap.objs.size+1) as kvs xs b=some (.tup [.ref x.2.1,q.2]):=fun j b q x hb hq hx=>by
  obtain⟨_,_,_,_,_,_,lb,_⟩:=pr j b hb
  unfold GH
  have ex:∃j:Nat,as[j]?=some b:=⟨j,hb⟩
  rw[Ab (BU lb),dif_pos ex]
  have ej:Classical.choose ex=j:=by
   have h1:=Ni ex
   obtain⟨l1,e1⟩:=As.mp h1
   obtain⟨l2,e2⟩:=As.mp hb
   rcases Pd (Classical.choose ex) j with z|z|z
   .exact absurd (e1.trans e2.symm) (Ir.mp nd _ _ l1 l2 z)
   .exact z
   .exact absurd (e2.trans e1.symm) (Ir.mp nd _ _ l2 l1 z)
  rw[ej,hq,hx]
  rfl
 have sm:A8 H1 (GH H1 (s1.heap.objs.size+1) as kvs xs):=fun b u hb=>by
  have bl:=I1.hok.lt hb
  have b1:b≠s1.heap.objs.size+1:=AN (Nat.lt_succ_of_lt bl)
  unfold GH
  rw[Ab b1,dif_neg (fun⟨j,hj⟩=>by obtain⟨_,_,_,_,_,_,lb,_⟩:=pr j b hj;exact absurd (P7 lb (Nat.lt_succ_of_lt bl)) (D7 _))]
  exact hb
 have hL:GH H1 (s1.heap.objs.size+1) as kvs xs (s1.heap.objs.size+1)=some (.lst (as.map V.ref)):=by unfold GH;rw[Aj rfl]
 refine⟨.ref (s1.heap.objs.size+1),GH H1 (s1.heap.objs.size+1) as kvs xs,A2.laidM (s:=s1) (h':=h') (t':=tk) I1 (fun b o e=>hk b o (Aw _ e)) sm fun b u n e=>?_,by show Value.ref _=Value.ref _;rw[←hsz],q _ _ _ sm hf hL ⟨by rw[Al];lia,fun j y q hy hq=>?_⟩⟩
 .by_cases c1:b=s1.heap.objs.size+1
  .subst c1
   rw[hL]at e
   cases e
   exact⟨F6 _,by rw[Al];lia,acc.toList,c,by rw[ha];exact SD as,by simpa using hl'⟩
  .by_cases c2:∃j:Nat,as[j]?=some b
   .obtain⟨j,hj⟩:=c2
    obtain⟨q,x,hq,hx,h1,h2,lb,hb⟩:=pr j b hj
    rw[at_ j b q x hj hq hx]at e
    cases e
    refine⟨by lia,by show 2<=sizeLine;rw[Gh];decide,[.ref x.2.1,x.2.2],.cons rfl (.cons h2 .nil),_,hb,rfl,⟨_,rfl⟩,rfl⟩
   .unfold GH at e
    rw[Ab c1,dif_neg c2,n]at e
    cases e
 .rw[AQ]at hy
  cases c:as[j]? with
  |none=>rw[c]at hy;cases hy
  |
   some b=>
   rw[c]at hy
   cases hy
   obtain⟨q',x,hq',hx,h1,_⟩:=pr j b c
   rw[hq]at hq'
   cases hq'
   exact⟨b,x.2.1,rfl,at_ j b q x c hq hx,sm _ _ h1⟩
section
abbrev Ls (M:Bool):String:=bif M then"min.loop" else"max.loop"
abbrev SX (M:Bool):CmpOp:=bif M then .Lt else .Gt
variable {P:Program}{w:World}{A:Around}{R:Result->Shared->Prop}{I:Addr}{fp wr:List Addr}{n:Nat}{Pv:Nat->Value->Prop}{St:Nat->Heap->Prop}
theorem aZ (M:Bool){d:Value}(W:Walks P w A.in1 I fp wr n Pv St)(bt:Nat->Nat->Bool)(hcmp:CmpOf P w A.in1 (SX M) Pv bt)(S:Addr)(hSf:S∉fp) :
  ∀(k j:Nat) (s:Shared) (vb:Value) (c:Nat),n-(j+1)=k->j+1<=n->St (j+1) s.heap->Pv (argBest bt j) vb->s.heap.get? S=some (Ff #[vb,vb] c)->
  (∀v h' tk,Pv (argBest bt (n-1)) v->(∀b o,b∉wr->b≠S->s.heap.get? b=some o->h'.get? b=some o)->R (.ok (.ret v)) {s with heap:=h',toks:=tk})->
  codeAny (model P w) A (.builtin (Ls M) ⟨[.ref I,.none,.ref S],[(Str.ofString "default",d)]⟩) R s:=by
 have hSw:S∉wr:=fun h=>hSf (W.sub _ h)
 have nm:(toString "min"++toString ".loop":String)="min.loop":=by decide
 have nM:(toString "max"++toString ".loop":String)="max.loop":=by decide
 have pl:plainId (Ls M)=true:=by cases M<;>first|exact F.plain_max_loop|exact F.plain_min_loop
 cases M<;>(
  intro k
  induction k with
  |
   zero=>
   intro j s vb c hk hj hst hPb hS hR
   have e:j+1=n:=by lia
   subst e
   first|refine IF F.entry_min_loop ?_|refine IF F.entry_max_loop ?_
   rw[Around.under_plainId pl _]
   refine A1 (m:=seqItems? (.ref S)) (EI hS rfl ?_)
   refine A1 (m:=tryCatch (pyNext (.ref I)) _) (Ny (W.done s _ _ hst fun h' tk k'=>?_))
   refine A1 (m:=updateSeq S (fun _ => #[])) (ID (k' S _ hSw hS) rfl (A1 (FS (Ae ?_))))
   refine hR vb _ tk hPb fun b o n1 n2 z=>?_
   show(h'.update S _).get? b=some o
   rw[DZ _ _ (Ne.symm n2)]
   exact k' b o n1 z
  |
   succ k ih=>
   intro j s vb c hk hj hst hPb hS hR
   have lt:j+1<n:=by lia
   first|refine IF F.entry_min_loop ?_|refine IF F.entry_max_loop ?_
   rw[Around.under_plainId pl _]
   refine A1 (m:=seqItems? (.ref S)) (EI hS rfl ?_)
   refine A1 (m:=tryCatch (pyNext (.ref I)) _) (Ny (W.item (j+1) s _ _ lt hst fun v h' tk hP hst' k'=>?_))
   have hS':=k' S _ hSw hS
   refine A1 (m:=tryCatch (holding [v,v] (richCompare _ v vb>>=_)) _) (Ny (DM (A1 (hcmp (j+1) (argBest bt j) v vb _ _ _ hP hPb ?_))))
   refine A1 (DM (Lh (A1 (FS (Ae ?_)))))
   cases hb:bt (j+1) (argBest bt j) with
   |
    true=>
    rw[Aj rfl]
    refine A1 ?_
    refine ID hS' rfl (A1 (FS ?_))
    first|rw[nm]|rw[nM]
    have up:∀b o,b≠S->h'.get? b=some o->(h'.update S (Obj.mapSeq fun _ => #[v,v])).get? b=some o:=fun b o n2 z=>by rw[DZ _ _ (Ne.symm n2)];exact z
    refine Ae ⟨IG pl _,ih (j+1) _ v _ (by lia) lt (W.frame _ _ _ hst' fun b hbf o z=>up b o (fun q=>hSf (by rw[←q];exact hbf)) z) (by simp only[argBest,hb,Iy];exact hP) (DG _ hS' rfl) fun v' h2 tk2 hP' k2=>?_⟩
    exact hR v' h2 tk2 hP' fun b o n1 n2 z=>k2 b o n1 n2 (up b o n2 (k' b o n1 z))
   |
    false=>
    rw[Ab (by decide)]
    refine A1 (FS ?_)
    first|rw[nm]|rw[nM]
    refine Ae ⟨IG pl _,ih (j+1) _ vb c (by lia) lt hst' (by simp only[argBest,hb,Pe,Iw];exact hPb) hS' fun v' h2 tk2 hP' k2=>?_⟩
    exact hR v' h2 tk2 hP' fun b o n1 n2 z=>k2 b o n1 n2 (k' b o n1 z))
theorem S4 (M:Bool){d:Value}(W:Walks P w A.in1 I fp wr n Pv St)(bt:Nat->Nat->Bool)(hcmp:CmpOf P w A.in1 (SX M) Pv bt)(S:Addr)(hSf:S∉fp){s:Shared}{c:Nat}(hst:St 0 s.heap)(hS:s.heap.get? S=some (Ff #[] c))
  (hN:n=0->∀h' tk,(∀b o,b∉wr->b≠S->s.heap.get? b=some o->h'.get? b=some o)->R (.ok (.ret d)) {s with heap:=h',toks:=tk})
  (hR:0<n->∀v h' tk,Pv (argBest bt (n-1)) v->(∀b o,b∉wr->b≠S->s.heap.get? b=some o->h'.get? b=some o)->R (.ok (.ret v)) {s with heap:=h',toks:=tk}) :
  codeAny (model P w) A (.builtin (Ls M) ⟨[.ref I,.none,.ref S],[(Str.ofString "default",d)]⟩) R s:=by
 have hSw:S∉wr:=fun h=>hSf (W.sub _ h)
 have nm:(toString "min"++toString ".loop":String)="min.loop":=by decide
 have nM:(toString "max"++toString ".loop":String)="max.loop":=by decide
 have pl:plainId (Ls M)=true:=by cases M<;>first|exact F.plain_max_loop|exact F.plain_min_loop
 cases M<;>(
  first|refine IF F.entry_min_loop ?_|refine IF F.entry_max_loop ?_
  rw[Around.under_plainId pl _]
  refine A1 (m:=seqItems? (.ref S)) (EI hS rfl ?_)
  rcases Nl n with z|z
  .subst z
   refine A1 (m:=tryCatch (pyNext (.ref I)) _) (Ny (W.done s _ _ hst fun h' tk k'=>?_))
   refine A1 (m:=rule _) (Nt (Ae ?_))
   exact hN rfl h' tk fun b o n1 _ z=>k' b o n1 z
  .refine A1 (m:=tryCatch (pyNext (.ref I)) _) (Ny (W.item 0 s _ _ z hst fun v h' tk hP hst' k'=>?_))
   have hS':=k' S _ hSw hS
   refine A1 (m:=updateSeq S (fun _ => #[v,v])) (ID hS' rfl ?_)
   first|rw[nm]|rw[nM]
   have up:∀b o,b≠S->h'.get? b=some o->(h'.update S (Obj.mapSeq fun _ => #[v,v])).get? b=some o:=fun b o n2 z=>by rw[DZ _ _ (Ne.symm n2)];exact z
   refine Ae ⟨IG pl _,aZ _ W bt hcmp S hSf _ 0 _ v _ rfl z (W.frame _ _ _ hst' fun b hbf o y=>up b o (fun q=>hSf (by rw[←q];exact hbf)) y) hP (DG _ hS' rfl) fun v' h2 tk2 hP' k2=>?_⟩
   exact hR z v' h2 tk2 hP' fun b o n1 n2 y=>k2 b o n1 n2 (up b o n2 (k' b o n1 y)))
theorem cN (a d:Value):argsOk "min" ⟨[a],[(Str.ofString "default",d)]⟩:=by unfold argsOk;kernel_rfl
theorem YL (a d:Value):argsOk "max" ⟨[a],[(Str.ofString "default",d)]⟩:=by unfold argsOk;kernel_rfl
end
theorem QA {P:Program}{w:World}{A:Around}{E:Value->Shared->Prop}{s:Shared}{id:String}{b:Builtin}{args:List Value}{kw:List (Str×Value)}{Q:Value->Shared->Prop}(hk:builtinKind id=none)(hp:plainId id=true)(hb:entryFor table id=some b)(ha:argsOk id ⟨args,kw⟩)
  (hc:wpAny (model P w) A.in1 (b ⟨args,kw⟩) (fun fin s'=>match fin with
   |.done f=>(match (Except.ok f:Result) with|.ok (.ret v)=>Q v s'|.ok _=>False|.error e=>E e s')
   |.again c'=>c'.quiet=true/\codeAny (model P w) A c' (fun r s'=>match r with|.ok (.ret v)=>Q v s'|.ok _=>False|.error e=>E e s') s') E s):wpAny (model P w) A (call (.builtin id) args kw) Q E s:=by
 refine Iv (TN hp hb ?_)
 simp only[checkBuiltinCall,hk]
 cases z:Manifest.signature? id with
 |none=>exact Ae hc
 |
  some sig=>
  have y:Bind.checkArgs id sig ⟨args,kw⟩=pure ():=by simpa only[argsOk,z] using ha
  simp only[y]
  exact Ae hc
theorem VX {P:Program}{w:World}{A:Around}{E:Value->Shared->Prop}{s:Shared}{l:Addr}{xs:Array (Int×Tok)}{d:Value}{Q:Value->Shared->Prop}(hh:A.handled=none)(hl:s.heap.IsList l (intItems xs))
  (hN:xs.size=0->∀h' tk,(∀b o,s.heap.get? b=some o->h'.get? b=some o)->Q d {s with heap:=h',toks:=tk})
  (hR:0<xs.size->∀v h' tk,(intItems xs)[argBest (fun i j=>decide (numAt xs i<numAt xs j)) (xs.size-1)]?=some v->(∀b o,s.heap.get? b=some o->h'.get? b=some o)->Q v {s with heap:=h',toks:=tk}) :
  wpAny (model P w) A (call (.builtin "min") [.ref l] [(Str.ofString "default",d)]) Q E s:=by
 have nm:(toString "min"++toString ".loop":String)="min.loop":=by decide
 refine QA F.kind_min F.plain_min F.entry_min (cN _ _) ?_
 refine A1 (m:=Builtin.Builtins.bindParams "min" ["key","default"] 0 ⟨[],[(Str.ofString "default",d)]⟩) (wpAny_of_eq (a:=[none,some d]) rfl ?_)
 refine A1 (Ae (A1 (iter_intList hl fun s2 e st hfp hlI=>?_)))
 subst e
 refine A1 (Fu ?_)
 rw[nm]
 have sz:(intItems xs).size=xs.size:=by simp[intItems]
 have W:=Walks.list (prog:=P) (w:=w) (A:=A.in1) hh s.heap.objs.size l hlI (intItems xs)
 have hSf:(s.heap.push {cls:=.type "list_iterator",data:=.fields #[.ref l,.int 0 0]}).objs.size∉[s.heap.objs.size,l]:=fun hm=>D7 _ (hfp _ hm)
 refine Ae ⟨IG F.plain_min_loop _,S4 true W (fun i j=>decide (numAt xs i<numAt xs j)) (CmpOf.ints_lt (numAt xs) (fun _ _=>Lj)) _ hSf (W.frame _ _ _ st fun b _ o e=>Aw _ e) (B8 _ rfl) (fun z h' tk k=>?_) fun z v h' tk hP k=>?_⟩
 .exact hN (by rw[←sz];exact z) h' tk (old_kept fun b o n e=>k b o n (AN (AA e)) (Aw _ e))
 .exact hR (by rw[←sz];exact z) v h' tk (by rw[←sz];exact hP) (old_kept fun b o n e=>k b o n (AN (AA e)) (Aw _ e))
def X7 (ta:TA)(td:TE):TE:=fun σ H Q=>ta σ H fun xs H1=>td σ H1 fun dv H2=>∃(p:Addr) (ns:List Int),xs=[.ref p]/\H2 p=some (.lst (ns.map V.int))/\(ns=[]->Q dv H2)/\∀M∈ns,(∀a∈ns,M<=a)->Q (.int M) H2
theorem WM {X:Cx}{e ed:Expr}{ta:TA}{td:TE}{p kp pos:Pos}(hc:X.calm=true)(hg:Gl X "min")(hm:X.mg "min"=none)(ha:PA X [e] ta)(hd:PE X ed td)(hs:starEach [e] X.env=[(false,eval e X.env)]:=by rfl) :
  PE X (.Call (.Name "min" p) [e] [⟨some "default",ed,kp⟩] pos) (X7 ta td):=by
 intro pins s σ H Q I h
 refine Gi (Ed I hg hm Mo ?_ (by decide) (by decide))
 refine PyProof.Rows.callWith_kw (Ax (ha pos pins s σ H _ I h) fun us s1 zz=>?_) (by rw[hs];rfl) (by rw[hs];rfl)
 obtain⟨vs,H1,I1,r1,q1⟩:=zz
 refine PyProof.Rows.kws_cons (Ax (hd pins s1 σ H1 _ I1 q1) fun u s2 zz=>?_)
 obtain⟨dv,H2,I2,rd,q2⟩:=zz
 refine PyProof.Rows.kws_nil ?_
 obtain⟨lp,ns,rfl,hq,qN,qR⟩:=q2
 obtain⟨u0,rfl,ru⟩:=EK r1
 cases ru
 show wpAny _ _ (call (.builtin "min") [.ref lp] [(Str.ofString "default",u)]) _ _ s2
 obtain⟨its,rv,pl,hz⟩:=I2.list (A5.of hq)
 have hi:=J5 rv
 obtain⟨xs,e⟩:=hi.allInts.items
 have hns:ns=xs.toList.map (·.1):=by rw[←hi.numsOf,←Nr,←e]
 have hl:=pl.isList
 rw[e]at hl
 have nl:ns.length=xs.size:=by rw[hns,Al,DF]
 refine VX (I2.ok.hd hc) hl (fun z h' tk hk=>?_) fun z v h' tk hv hk=>?_
 .exact⟨dv,H2,I2.kept (t':=tk) hk,rd,qN (JF (by lia))⟩
 obtain⟨t,rfl⟩:=Lj hv
 obtain⟨h1,h2⟩:=argBest_lt (numAt xs) (xs.size-1)
 refine⟨.int _,H2,I2.kept (t':=tk) hk,⟨_,rfl⟩,qR _ ?_ fun a ha=>?_⟩
 .rw[hns,IC];exact getD_mem (by rw[Al,DF];lia)
 .rw[hns]at ha
  obtain⟨j,hj,rfl⟩:=mem_getD ha
  rw[Al,DF]at hj
  rw[←IC];exact h2 j (by lia)
theorem Z3 {P:Program}{w:World}{A:Around}{E:Value->Shared->Prop}{s:Shared}{l:Addr}{xs:Array (Int×Tok)}{d:Value}{Q:Value->Shared->Prop}(hh:A.handled=none)(hl:s.heap.IsList l (intItems xs))
  (hN:xs.size=0->∀h' tk,(∀b o,s.heap.get? b=some o->h'.get? b=some o)->Q d {s with heap:=h',toks:=tk})
  (hR:0<xs.size->∀v h' tk,(intItems xs)[argBest (fun i j=>decide (numAt xs i>numAt xs j)) (xs.size-1)]?=some v->(∀b o,s.heap.get? b=some o->h'.get? b=some o)->Q v {s with heap:=h',toks:=tk}) :
  wpAny (model P w) A (call (.builtin "max") [.ref l] [(Str.ofString "default",d)]) Q E s:=by
 have nm:(toString "max"++toString ".loop":String)="max.loop":=by decide
 refine QA F.kind_max F.plain_max F.entry_max (YL _ _) ?_
 refine A1 (m:=Builtin.Builtins.bindParams "max" ["key","default"] 0 ⟨[],[(Str.ofString "default",d)]⟩) (wpAny_of_eq (a:=[none,some d]) rfl ?_)
 refine A1 (Ae (A1 (iter_intList hl fun s2 e st hfp hlI=>?_)))
 subst e
 refine A1 (Fu ?_)
 rw[nm]
 have sz:(intItems xs).size=xs.size:=by simp[intItems]
 have W:=Walks.list (prog:=P) (w:=w) (A:=A.in1) hh s.heap.objs.size l hlI (intItems xs)
 have hSf:(s.heap.push {cls:=.type "list_iterator",data:=.fields #[.ref l,.int 0 0]}).objs.size∉[s.heap.objs.size,l]:=fun hm=>D7 _ (hfp _ hm)
 refine Ae ⟨IG F.plain_max_loop _,S4 false W (fun i j=>decide (numAt xs i>numAt xs j)) (CmpOf.ints_gt (numAt xs) (fun _ _=>Lj)) _ hSf (W.frame _ _ _ st fun b _ o e=>Aw _ e) (B8 _ rfl) (fun z h' tk k=>?_) fun z v h' tk hP k=>?_⟩
 .exact hN (by rw[←sz];exact z) h' tk (old_kept fun b o n e=>k b o n (AN (AA e)) (Aw _ e))
 .exact hR (by rw[←sz];exact z) v h' tk (by rw[←sz];exact hP) (old_kept fun b o n e=>k b o n (AN (AA e)) (Aw _ e))
def VH (ta:TA)(td:TE):TE:=fun σ H Q=>ta σ H fun xs H1=>td σ H1 fun dv H2=>∃(p:Addr) (ns:List Int),xs=[.ref p]/\H2 p=some (.lst (ns.map V.int))/\(ns=[]->Q dv H2)/\∀M∈ns,(∀a∈ns,a<=M)->Q (.int M) H2
theorem U9 {X:Cx}{e ed:Expr}{ta:TA}{td:TE}{p kp pos:Pos}(hc:X.calm=true)(hg:Gl X "max")(hm:X.mg "max"=none)(ha:PA X [e] ta)(hd:PE X ed td)(hs:starEach [e] X.env=[(false,eval e X.env)]:=by rfl) :
  PE X (.Call (.Name "max" p) [e] [⟨some "default",ed,kp⟩] pos) (VH ta td):=by
 intro pins s σ H Q I h
 refine Gi (Ed I hg hm QO ?_ (by decide) (by decide))
 refine PyProof.Rows.callWith_kw (Ax (ha pos pins s σ H _ I h) fun us s1 zz=>?_) (by rw[hs];rfl) (by rw[hs];rfl)
 obtain⟨vs,H1,I1,r1,q1⟩:=zz
 refine PyProof.Rows.kws_cons (Ax (hd pins s1 σ H1 _ I1 q1) fun u s2 zz=>?_)
 obtain⟨dv,H2,I2,rd,q2⟩:=zz
 refine PyProof.Rows.kws_nil ?_
 obtain⟨lp,ns,rfl,hq,qN,qR⟩:=q2
 obtain⟨u0,rfl,ru⟩:=EK r1
 cases ru
 show wpAny _ _ (call (.builtin "max") [.ref lp] [(Str.ofString "default",u)]) _ _ s2
 obtain⟨its,rv,pl,hz⟩:=I2.list (A5.of hq)
 have hi:=J5 rv
 obtain⟨xs,e⟩:=hi.allInts.items
 have hns:ns=xs.toList.map (·.1):=by rw[←hi.numsOf,←Nr,←e]
 have hl:=pl.isList
 rw[e]at hl
 have nl:ns.length=xs.size:=by rw[hns,Al,DF]
 refine Z3 (I2.ok.hd hc) hl (fun z h' tk hk=>?_) fun z v h' tk hv hk=>?_
 .exact⟨dv,H2,I2.kept (t':=tk) hk,rd,qN (JF (by lia))⟩
 obtain⟨t,rfl⟩:=Lj hv
 obtain⟨h1,h2⟩:=argBest_gt (numAt xs) (xs.size-1)
 refine⟨.int _,H2,I2.kept (t':=tk) hk,⟨_,rfl⟩,qR _ ?_ fun a ha=>?_⟩
 .rw[hns,IC];exact getD_mem (by rw[Al,DF];lia)
 .rw[hns]at ha
  obtain⟨j,hj,rfl⟩:=mem_getD ha
  rw[Al,DF]at hj
  rw[←IC];exact h2 j (by lia)
def KS (K:Faa)(a b c:Addr):It:=
 ⟨fun i H=>∃xs ys zs x y v,A5 K H a xs/\A9 K H b ys/\A5 K H c zs/\xs.length=ys.length/\xs.length=zs.length/\xs[i]?=some x/\ys[i]?=some y/\zs[i]?=some v,
  fun i H u H'=>∃x y v T,(∀xs,A5 K H a xs->xs[i]?=some x)/\(∀ys,A9 K H b ys->ys[i]?=some y)/\(∀zs,A5 K H c zs->zs[i]?=some v)/\H T=none/\u = .ref T/\H'=upd H T (.tup [x,y,v]),
  fun i H=>∃xs ys zs,A5 K H a xs/\A9 K H b ys/\A5 K H c zs/\xs.length=ys.length/\xs.length=zs.length/\i=xs.length⟩
theorem bU {P:Program}{w:World}{K:Faa}{elts:List Expr}{x1:Nat}{pos:Pos}(a b c z TI TO i1 i2 i3:Addr)(D:ZB z TI TO i1 i2 i3 [i1,a] [i2,b] [i3,c])(na:a≠i1)(nb:b≠i2)(nc:c≠i3) :
  Gn P w K (.Tuple elts x1 pos) (KS K a b c) [z,TI,TO,i1,i2,i3] z (fun i h=>IsZip h z TI TO .none/\Cw h TI (.ref i1) (.ref i2) (.ref i3)/\(∃p q r,Cw h TO p q r)/\h.IsListIter i1 a i/\h.IsTupleIter i2 b i/\h.IsListIter i3 c i) where
 mem:=by simp
 obj:=fun i h st c hc=>by
  obtain⟨hz,hTI,⟨p,q,r,hTO⟩,h1,h2,h3⟩:=st
  simp only[AS,DI,or_false]at hc
  rcases hc with rfl|rfl|rfl|rfl|rfl|rfl
  .exact⟨_,hz,fun v z=>by cases z⟩
  .exact⟨_,hTI,fun v z=>by cases z⟩
  .exact⟨_,hTO,fun v z=>by cases z⟩
  .obtain⟨o,e,c,d⟩:=h1
   exact⟨o,e,fun v z=>by rw[d]at z;cases z⟩
  .obtain⟨o,e,c,d⟩:=h2
   exact⟨o,e,fun v z=>by rw[d]at z;cases z⟩
  .obtain⟨o,e,c,d⟩:=h3
   exact⟨o,e,fun v z=>by rw[d]at z;cases z⟩
 keep:=fun i h h' st k=>by
  obtain⟨hz,hTI,⟨p,q,r,hTO⟩,h1,h2,h3⟩:=st
  exact⟨k z (by simp) _ hz,k TI (by simp) _ hTI,⟨p,q,r,k TO (by simp) _ hTO⟩,h1.at fun o e=>k i1 (by simp) o e,h2.at fun o e=>k i2 (by simp) o e,h3.at fun o e=>k i3 (by simp) o e⟩
 item:=by
  intro X hP hw hK hc i pins s σ H E I hf st hg
  subst hP hw hK
  obtain⟨xs,ys,zs,x,y,v,hq1,hq2,hq3,e12,e13,hx,hy,hv⟩:=hg
  obtain⟨its1,rv1,p1,_⟩:=I.list hq1
  obtain⟨its2,rv2,p2,_⟩:=I.tuple hq2
  obtain⟨its3,rv3,p3,_⟩:=I.list hq3
  obtain⟨hz,hTI,⟨pa,qa,ra,hTO⟩,h1,h2,h3⟩:=st
  have p1':s.heap.IsList a its1.toArray:=p1.isList
  have p2':s.heap.IsTuple b its2.toArray:=p2
  have p3':s.heap.IsList c its3.toArray:=p3.isList
  have l1:=rv1.length
  have l2:=rv2.length
  have l3:=rv3.length
  obtain⟨b1,_⟩:=As.1 hx
  have hn:X.A.in1.handled=none:=I.ok.hd hc
  have d1:=Draws.list (prog:=X.prog) (w:=X.w) hn i1 a na its1.toArray
  have d2:=Jq (prog:=X.prog) (w:=X.w) hn i2 b nb its2.toArray
  have d3:=Draws.list (prog:=X.prog) (w:=X.w) hn i3 c nc its3.toArray
  rw[show its2.toArray.size=its1.toArray.size by simp;lia]at d2
  rw[show its3.toArray.size=its1.toArray.size by simp;lia]at d3
  refine S3 (k:=i) D d1 d2 d3 hz hTI hTO ⟨h1,p1'⟩ ⟨h2,p2'⟩ ⟨h3,p3'⟩ (by simp;lia) (fun _ u1 u2 u3 hh tk hu1 hu2 hu3 hz' hTO' h1' h2' h3' hT hk=>⟨_,rfl,?_⟩) fun q=>absurd q (by simp;lia)
  obtain⟨w1,hw1,r1⟩:=rv1.get hx
  obtain⟨w2,hw2,r2⟩:=rv2.get hy
  obtain⟨w3,hw3,r3⟩:=rv3.get hv
  have e1:w1=u1:=by simpa[hw1] using hu1
  have e2:w2=u2:=by simpa[hw2] using hu2
  have e3:w3=u3:=by simpa[hw3] using hu3
  subst e1 e2 e3
  refine TL hz' fun h5 hz5 hs5=>?_
  have hTn:H s.heap.objs.size=none:=I.hok.fresh (Ah _)
  have lts:∀c∈[z,TI,TO,i1,i2,i3],c<s.heap.objs.size:=fun c hc=>by
   simp only[AS,DI,or_false]at hc
   rcases hc with rfl|rfl|rfl|rfl|rfl|rfl
   .exact AA hz
   .exact AA hTI
   .exact AA hTO
   .obtain⟨_,e,_⟩:=h1;exact AA e
   .obtain⟨_,e,_⟩:=h2;exact AA e
   .obtain⟨_,e,_⟩:=h3;exact AA e
  have I1:A2 X pins σ (upd H s.heap.objs.size (.tup [x,y,v])) {s with heap:=s.heap.push {cls:=.type "tuple",data:=.seq #[w1,w2,w3]}}:=I.laid (t':=s.toks) (o:=.tup [x,y,v]) (fun b o e=>Aw _ e) (Ah _) ⟨Ar rfl,[w1,w2,w3],.cons r1 (.cons r2 (.cons r3 .nil)),ED.new _ _⟩
  have I2:A2 X pins σ (upd H s.heap.objs.size (.tup [x,y,v])) {s with heap:=h5,toks:=tk}:=by
   refine A2.turnedL (s:={s with heap:=s.heap.push {cls:=.type "tuple",data:=.seq #[w1,w2,w3]}}) (h':=h5) (ch:=[z,TI,TO,i1,i2,i3]) (t':=tk) I1 (fun b o hb q=>?_) (fun b hb=>?_)
   .simp only[AS,DI,or_false,not_or]at hb
    obtain⟨n1,n2,n3,n4,n5,n6⟩:=hb
    show h5.get? b=some o
    rw[hs5.2 b n1]
    rcases Ng q with⟨rfl,rfl⟩|q
    .exact hT
    .exact hk b o n1 n3 n4 n5 n6 q
   .obtain⟨f0,f1,f2,f3,f4,f5⟩:=hf b hb
    exact⟨by rw[Af (AN (lts b hb))];exact f0,f1,f2,f3,f4,f5⟩
  have k5:∀c,c≠z->∀o,hh.get? c=some o->h5.get? c=some o:=fun c hc o e=>(hs5.2 c hc).trans e
  refine⟨.ref s.heap.objs.size,_,I2,rfl,⟨x,y,v,_,fun zs hy=>by rw[I.list_inj hy hq1];exact hx,fun zs hy'=>by rw[I.tuple_inj hy' hq2];exact hy,fun zs hy'=>by rw[I.list_inj hy' hq3];exact hv,hTn,rfl,rfl⟩,⟨hz5,k5 TI D.Iz _ (hk TI _ D.Iz D.IO D.Ia D.Ib D.Ic hTI),⟨w1,w2,w3,k5 TO D.Oz _ hTO'⟩,h1'.1.at (k5 i1 D.az),h2'.1.at (k5 i2 D.bz),h3'.1.at (k5 i3 D.cz)⟩,fun b hb=>?_⟩
  rw[Af (AN (lts b hb))]
  exact(hf b hb).1
 done:=by
  intro X hP hw hK hc i pins s σ H E I hf st hg
  subst hP hw hK
  obtain⟨xs,ys,zs,hq1,hq2,hq3,e12,e13,hl⟩:=hg
  obtain⟨its1,rv1,p1,_⟩:=I.list hq1
  obtain⟨its2,rv2,p2,_⟩:=I.tuple hq2
  obtain⟨its3,rv3,p3,_⟩:=I.list hq3
  obtain⟨hz,hTI,⟨pa,qa,ra,hTO⟩,h1,h2,h3⟩:=st
  have p1':s.heap.IsList a its1.toArray:=p1.isList
  have p2':s.heap.IsTuple b its2.toArray:=p2
  have p3':s.heap.IsList c its3.toArray:=p3.isList
  have l1:=rv1.length
  have l2:=rv2.length
  have l3:=rv3.length
  have hn:X.A.in1.handled=none:=I.ok.hd hc
  have d1:=Draws.list (prog:=X.prog) (w:=X.w) hn i1 a na its1.toArray
  have d2:=Jq (prog:=X.prog) (w:=X.w) hn i2 b nb its2.toArray
  have d3:=Draws.list (prog:=X.prog) (w:=X.w) hn i3 c nc its3.toArray
  rw[show its2.toArray.size=its1.toArray.size by simp;lia]at d2
  rw[show its3.toArray.size=its1.toArray.size by simp;lia]at d3
  refine S3 (k:=i) D d1 d2 d3 hz hTI hTO ⟨h1,p1'⟩ ⟨h2,p2'⟩ ⟨h3,p3'⟩ (by simp;lia) (fun e1=>absurd e1 (by simp;lia)) fun _ h' tk hk=>⟨rfl,?_⟩
  refine I.turnedL (ch:=[z,TI,TO,i1,i2,i3]) (t':=tk) (fun b o hb q=>?_) hf
  simp only[AS,DI,or_false,not_or]at hb
  obtain⟨n1,n2,n3,n4,n5,n6⟩:=hb
  exact hk b o n1 n3 n4 n5 n6 q
 self:=fun _ _ _ _ _ st h=>by
  obtain⟨hz,_⟩:=st
  exact Li hz h
theorem b9 (a b c:Addr)(xs ys zs:Array Value) :
  Meets (Builtin.«zip.__new__» ⟨[.type "zip",.ref a,.ref b,.ref c],[]⟩) (fun _ R s=>s.heap.IsList a xs/\s.heap.IsTuple b ys/\s.heap.IsList c zs/\
   ∀h',IsZip h' (s.heap.objs.size+5) (s.heap.objs.size+3) (s.heap.objs.size+4) .none->Cw h' (s.heap.objs.size+3) (.ref s.heap.objs.size) (.ref (s.heap.objs.size+1)) (.ref (s.heap.objs.size+2))->Cw h' (s.heap.objs.size+4) .none .none .none->
    h'.IsListIter s.heap.objs.size a 0->h'.IsTupleIter (s.heap.objs.size+1) b 0->h'.IsListIter (s.heap.objs.size+2) c 0->(∀c o,s.heap.get? c=some o->h'.get? c=some o)->R (.ok (.ret (.ref (s.heap.objs.size+5)))) {s with heap:=h'}):=
 .of_wp fun prog w A R s h=>by
  obtain⟨hp,g,d,tk,os⟩:=s
  obtain⟨t1,t2,t3,h⟩:=h
  have hs:=sub_zip
  have u1:Heap.IsList (Shared.heap ⟨hp,g,d,tk,os⟩) a xs:=t1
  have u2:Heap.IsTuple (Shared.heap ⟨hp.push {cls:=.type "list_iterator",data:=.fields #[.ref a,.int 0 0]},g,d,tk,os⟩) b ys:=Heap.IsTuple.push t2 _
  have u3:Heap.IsList (Shared.heap ⟨(hp.push {cls:=.type "list_iterator",data:=.fields #[.ref a,.int 0 0]}).push {cls:=.type "tuple_iterator",data:=.fields #[.ref b,.int 0 0]},g,d,tk,os⟩) c zs:=Heap.IsList.push (Heap.IsList.push t3 _) _
  wp_walk using Nq u1,Pu u2,Nq u3
  refine⟨_,rfl,?_⟩
  have key:∀(n1 n2 n3 n4 n5:Nat) (h':Heap),n1=hp.objs.size+1->n2=hp.objs.size+2->n3=hp.objs.size+3->n4=hp.objs.size+4->n5=hp.objs.size+5->IsZip h' n5 n3 n4 .none->Cw h' n3 (.ref hp.objs.size) (.ref n1) (.ref n2)->Cw h' n4 .none .none .none->
    h'.IsListIter hp.objs.size a 0->h'.IsTupleIter n1 b 0->h'.IsListIter n2 c 0->(∀c o,hp.get? c=some o->h'.get? c=some o)->R (.ok (.ret (.ref n5))) ⟨h',g,d,tk,os⟩:=by
   rintro _ _ _ _ _ h' rfl rfl rfl rfl rfl
   exact h h'
  refine key (hp.push {cls:=.type "list_iterator",data:=.fields #[.ref a,.int 0 0]}).objs.size ((hp.push {cls:=.type "list_iterator",data:=.fields #[.ref a,.int 0 0]}).push {cls:=.type "tuple_iterator",data:=.fields #[.ref b,.int 0 0]}).objs.size _ _ _ _ ?e1 ?e2 ?e3 ?e4 ?e5 (B8 _ rfl) ?g5 ?g6 ?g7 ?g8 ?g9 ?g10
  case g5=>exact Aw _ (Aw _ (B8 _ rfl))
  case g6=>exact Aw _ (B8 _ rfl)
  case g7=>exact⟨_,Aw _ (Aw _ (Aw _ (Aw _ (Aw _ (B8 _ rfl))))),rfl,rfl⟩
  case g8=>exact⟨_,Aw _ (Aw _ (Aw _ (Aw _ (B8 _ rfl)))),rfl,rfl⟩
  case g9=>exact⟨_,Aw _ (Aw _ (Aw _ (B8 _ rfl))),rfl,rfl⟩
  case g10=>exact fun c o e=>Aw _ (Aw _ (Aw _ (Aw _ (Aw _ (Aw _ e)))))
  all_goals simp only[Gf]
def XS (K:Faa)(ta:TA):TI:=fun σ H R=>ta σ H fun vs H1=>∃a b c:Addr,vs=[.ref a,.ref b,.ref c]/\(∃xs,A5 K H1 a xs)/\(∃ys,A9 K H1 b ys)/\(∃zs,A5 K H1 c zs)/\R (KS K a b c) H1
theorem Zk {X:Cx}{a b c:Expr}{ta:TA}{p pos:Pos}{elts:List Expr}{x1:Nat}{pos2:Pos}(hg:Gl X "zip")(hm:X.mg "zip"=none)(ha:PA X [a,b,c] ta)(hs:starEach [a,b,c] X.env=[(false,eval a X.env),(false,eval b X.env),(false,eval c X.env)]:=by rfl)(hs2:starEach [b,c] X.env=[(false,eval b X.env),(false,eval c X.env)]:=by rfl) :
  PI X (.Tuple elts x1 pos2) (.Call (.Name "zip" p) [a,b,c] [] pos) (XS X.K ta):=by
 intro pins s σ H R I h
 refine Call_ (Ed I hg hm boot_zip (Ge (Ax (ha pos pins s σ H _ I h) fun us s1 zz=>?_) (by rw[hs,hs2]) (by rw[hs2];rfl)))
 obtain⟨vs,H1,I1,r1,q1⟩:=zz
 obtain⟨l1,l2,l3,rfl,⟨xs,hq1⟩,⟨ys,hq2⟩,⟨zs,hq3⟩,q⟩:=q1
 cases r1 with
 |
  cons r rr=>
  cases rr with
  |
   cons r' rr=>
   cases rr with
   |
    cons r'' rr=>
    cases rr
    cases r
    cases r'
    cases r''
    obtain⟨its1,rv1,p1,_⟩:=I1.list hq1
    obtain⟨its2,rv2,p2,_⟩:=I1.tuple hq2
    obtain⟨its3,rv3,p3,_⟩:=I1.list hq3
    have lt1:l1<s1.heap.objs.size:=(let ⟨_,e,_⟩:=p1.isList;AA e)
    have lt2:l2<s1.heap.objs.size:=p2.lt
    have lt3:l3<s1.heap.objs.size:=(let ⟨_,e,_⟩:=p3.isList;AA e)
    refine callType_new F.called_zip (by decide) (Wy _ _ _) (Xy _ _ _) (fun obj=>Zb obj _ _ _) F.entry_zip_new (b9 l1 l2 l3 its1.toArray its2.toArray its3.toArray) ⟨p1.isList,p2,p3.isList,fun h' hz hTI hTO h1 h2 h3 hk=>⟨⟨_,hz,rfl⟩,?_⟩⟩
    refine Li hz ?_
    have fp:∀b,s1.heap.objs.size<=b->F4 X pins H1 b:=fun b hb=>I1.fpOk hb (I1.hok.fresh hb)
    have I2:A2 X pins σ H1 {s1 with heap:=h',toks:=s1.toks}:=I1.kept hk
    generalize hN:s1.heap.objs.size=N at hz hTI hTO h1 h2 h3 lt1 lt2 lt3 fp
    refine⟨_,[N+5,N+3,N+4,N,N+1,N+2],_,_,H1,rfl,I2,bU l1 l2 l3 _ _ _ _ _ _ ⟨?_,?_,?_,?_,?_,?_,?_,?_,?_,?_,?_,?_,?_,?_,?_,?_,?_,?_,?_,?_,?_,?_,?_,?_⟩ ?_ ?_ ?_,⟨hz,hTI,⟨_,_,_,hTO⟩,h1,h2,h3⟩,fun b hb=>?_,q⟩
    case refine_28=>
     refine fp b ?_
     simp only[AS,DI,or_false]at hb
     rcases hb with rfl|rfl|rfl|rfl|rfl|rfl
     .exact CI _ 5
     .exact CI _ 3
     .exact CI _ 4
     .exact Ah _
     .exact CI _ 1
     .exact CI _ 2
    all_goals first
     |exact AN lt1
     |exact AN (BS lt2 (CI _ _))
     |exact AN (BS lt3 (CI _ _))
     |(show(_:Nat)≠_;lia)
     |(
      simp only[AS,DI,or_false,not_or]
      exact⟨by show(_:Nat)≠_;lia,by first
       |exact BU lt1
       |exact BU lt2
       |exact BU lt3
       |exact BU (BS lt1 (CI _ _))
       |exact BU (BS lt2 (CI _ _))
       |exact BU (BS lt3 (CI _ _))⟩)
theorem Wz {K:Faa}{a b c:Addr}{xs ys zs:List V}{g:TG}{tb:TS}{D:CL}{σ:St}{H:Hp}(hlen:xs.length=ys.length)(hlen2:xs.length=zs.length)(Pv:Nat->St->Hp->Prop)(h0:Pv 0 σ H)(hl:∀i σ H,i<=xs.length->Pv i σ H->A5 K H a xs/\A9 K H b ys/\A5 K H c zs)
  (hs:∀i x y v T σ H,xs[i]?=some x->ys[i]?=some y->zs[i]?=some v->Pv i σ H->H T=none->g (.ref T) σ (upd H T (.tup [x,y,v])) fun σ2 H2=>tb {D with nx:=Pv (i+1),ct:=Pv (i+1),bk:=D.nx} σ2 H2) (hd:∀σ H,Pv xs.length σ H->D.nx σ H) :
  ∃W:Nat->Nat->St->Hp->Prop,(∃m,W 0 m σ H)/\∀i m σ H,W i m σ H->
   ((KS K a b c).stop i H/\D.nx σ H)\/((KS K a b c).go i H/\∃N:St->Hp->Prop,(∀σ' H',N σ' H'->∃m',m'<m/\W (i+1) m' σ' H')/\∀x H',(KS K a b c).yld i H x H'->g x σ H' fun σ2 H2=>tb {D with nx:=N,ct:=N,bk:=D.nx} σ2 H2):=by
 refine⟨fun i m σ H=>m=xs.length-i/\i<=xs.length/\Pv i σ H,⟨xs.length,by simp,Bk _,h0⟩,?_⟩
 rintro i m σ H ⟨rfl,hi,p⟩
 obtain⟨q1,q2,q3⟩:=hl i σ H hi p
 by_cases hlt:i<xs.length
 .refine .inr ⟨⟨xs,ys,zs,xs[i],ys[i],zs[i],q1,q2,q3,hlen,hlen2,AC hlt,AC (by lia),AC (by lia)⟩,Pv (i+1),fun σ' H' p'=>⟨xs.length-(i+1),by lia,rfl,hlt,p'⟩,fun u H' yy=>?_⟩
  obtain⟨x,y,v,T,hx,hy,hv,hT,rfl,rfl⟩:=yy
  exact hs i x y v T σ H (hx xs q1) (hy ys q2) (hv zs q3) p hT
 .have e:i=xs.length:=by lia
  subst e
  exact .inl ⟨⟨xs,ys,zs,q1,q2,q3,hlen,hlen2,rfl⟩,hd σ H p⟩
section
open Bd
theorem B5.way {B:List Am}(ok:Fo.Ok B){j e m:Nat}(h:B5 B j e m):∃b c,B[j]?=some b/\B[m]?=some c/\b.ways[e]?=c.ways[e]?:=by
 induction h with
 |own h1 _ _=>exact⟨_,_,h1,h1,rfl⟩
 |
  @up j e m b h1 h2 h3 h4 ih=>
  obtain⟨a,c,ha,hc,eq⟩:=ih
  obtain⟨l1,l2⟩:=ok.ln j a b ha h1
  refine⟨b,c,h1,hc,?_⟩
  rw[←eq]
  have:(b.ways.take b.sh)[e]?=(a.ways.take b.sh)[e]?:=by rw[l2]
  rwa [CS h2,CS h2]at this
theorem B5.owner {B:List Am}{j e m:Nat}(h:B5 B j e m):∃c,B[m]?=some c/\c.sh<=e/\e<c.ways.length:=by
 induction h with
 |own h1 h2 h3=>exact⟨_,h1,h2,h3⟩
 |up _ _ _ _ ih=>exact ih
def EC:Nat->List Bb->List Nat
 |_,[]=>[]
 |e,w::ws=>(if w.1 then[e] else[])++EC (e+1) ws
theorem RO:∀(ws:List Bb) (e:Nat) (w:Bb),EC e (ws++[w])=EC e ws++(if w.1 then[e+ws.length] else[])
 |[],e,w=>by show(if w.1 then[e] else[])++[]=[]++_;rw[FR];rfl
 |
  x::ws,e,w=>by
  show(if x.1 then[e] else[])++EC (e+1) (ws++[w])=_
  rw[RO ws (e+1) w,B9,show e+(ws.length+1)=e+1+ws.length by lia,←DH]
  rfl
theorem P1:∀(ws:List Bb) (e x:Nat),x∈EC e ws->e<=x/\x<e+ws.length/\∃w,ws[x-e]?=some w/\w.1=true
 |[],e,x,h=>by cases h
 |
  w::ws,e,x,h=>by
  rcases BO.mp (show x∈(if w.1 then[e] else[])++EC (e+1) ws from h) with h|h
  .cases c:w.1 with
   |false=>rw[c]at h;cases h
   |
    true=>
    rw[c]at h
    have:x=e:=Bz.mp h
    subst this
    exact⟨Ah _,by rw[B9];lia,w,by rw[Cq];rfl,c⟩
  .obtain⟨h1,h2,v,hv,cv⟩:=P1 ws (e+1) x h
   refine⟨by lia,by rw[B9];lia,v,?_,cv⟩
   rw[show x-e=x-(e+1)+1 by lia]
   exact hv
theorem Ve {ws:List Bb}{e i:Nat}{w:Bb}(h:ws[i]?=some w)(c:w.1=true):e+i∈EC e ws:=by
 induction ws generalizing e i with
 |nil=>cases h
 |
  cons x ws ih=>
  show _∈(if x.1 then[e] else[])++EC (e+1) ws
  cases i with
  |zero=>cases h;rw[Aj c];exact CA _ BN
  |succ i=>rw[show e+(i+1)=e+1+i by lia];exact C7 _ (ih h)
theorem PD:∀(ws:List Bb) (e:Nat),(EC e ws).Nodup
 |[],_=>P8
 |
  w::ws,e=>by
  show((if w.1 then[e] else[])++EC (e+1) ws).Nodup
  refine Pk.mpr ⟨by split<;>simp,PD ws (e+1),fun a ha b hb z=>?_⟩
  have:=(P1 ws (e+1) b hb).1
  split at ha
  .have:=Bz.mp ha;lia
  .cases ha
def CY (b:Am)(i e:Nat):List (Nat×Nat):=(EC b.sh ((b.ways.take e).drop b.sh)).map fun x=>(i,x)
def DR:List Am->Nat->List (Nat×Nat)
 |[],_=>[]
 |b::B,i=>CY b i b.ways.length++DR B (i+1)
theorem QT:∀(A:List Am) (b:Am) (i:Nat),DR (A++[b]) i=DR A i++CY b (i+A.length) b.ways.length
 |[],b,i=>by show CY b i _++[]=[]++_;rw[FR];rfl
 |
  a::A,b,i=>by
  show CY a i _++DR (A++[b]) (i+1)=_
  rw[QT A b (i+1),B9,show i+(A.length+1)=i+1+A.length by lia,←DH]
  rfl
theorem bN (b:Am)(i:Nat):CY b i 0=[]:=by unfold CY;rw[List.take_zero,List.drop_nil];rfl
theorem NF {b:Am}{i e:Nat}{w:Bb}(h:b.ways[e]?=some w):CY b i (e+1)=CY b i e++(if decide (b.sh<=e)&&w.1 then[(i,e)] else[]):=by
 have l:=(As.mp h).1
 unfold CY
 rw[CJ h]
 by_cases c:b.sh<=e
 .have tl:(b.ways.take e).length=e:=by rw[AV];lia
  rw[List.drop_append_of_le_length (by rw[tl];exact c),RO,B3,GN,tl,show b.sh+(e-b.sh)=e by lia]
  rw[Da c,Bool.true_and]
  cases w.1<;>rfl
 .have z:∀x:List Bb,x.length<=b.sh->x.drop b.sh=[]:=fun x hx=>List.drop_of_length_le hx
  rw[z _ (by rw[AF,AV,Bf];lia),z _ (by rw[AV];lia),D8 c]
  rfl
theorem M4 {b:Am}{i e:Nat}{k:Nat×Nat}(h:k∈CY b i e):k.1=i/\b.sh<=k.2/\k.2<e/\∃w,b.ways[k.2]?=some w/\w.1=true:=by
 obtain⟨x,hx,rfl⟩:=C9.mp h
 obtain⟨h1,h2,w,hw,c⟩:=P1 _ _ _ hx
 rw[Io,show b.sh+(x-b.sh)=x by lia]at hw
 have l:=(As.mp hw).1
 rw[AV]at l
 rw[CS (by lia)]at hw
 exact⟨rfl,h1,by lia,w,hw,c⟩
theorem YG {b:Am}{i e x:Nat}{w:Bb}(hx:b.sh<=x)(he:x<e)(hw:b.ways[x]?=some w)(c:w.1=true):(i,x)∈CY b i e:=by
 refine C9.mpr ⟨x,?_,rfl⟩
 have:=Ve (e:=b.sh) (ws:=(b.ways.take e).drop b.sh) (i:=x-b.sh) (w:=w) (by rw[Io,show b.sh+(x-b.sh)=x by lia,CS he];exact hw) c
 rwa [show b.sh+(x-b.sh)=x by lia]at this
theorem PN (b:Am)(i e:Nat):(CY b i e).Nodup:=by
 unfold CY
 exact Ik.mpr ((PD _ _).imp fun h z=>h (by injection z))
theorem IT:∀(A:List Am) (i:Nat) (k:Nat×Nat),k∈DR A i->i<=k.1/\k.1<i+A.length/\∃b,A[k.1-i]?=some b/\b.sh<=k.2/\∃w,b.ways[k.2]?=some w/\w.1=true
 |[],i,k,h=>by cases h
 |
  a::A,i,k,h=>by
  rcases BO.mp (show k∈CY a i _++DR A (i+1) from h) with h|h
  .obtain⟨h1,h2,_,w,hw,c⟩:=M4 h
   exact⟨by lia,by rw[B9];lia,a,by rw[h1,Cq];rfl,h2,w,hw,c⟩
  .obtain⟨h1,h2,b,hb,r⟩:=IT A (i+1) k h
   exact⟨by lia,by rw[B9];lia,b,by rw[show k.1-i=k.1-(i+1)+1 by lia];exact hb,r⟩
theorem RW:∀(A:List Am) (i j x:Nat) (b:Am) (w:Bb),A[j]?=some b->b.sh<=x->b.ways[x]?=some w->w.1=true->(i+j,x)∈DR A i
 |[],_,_,_,_,_,h,_,_,_=>by cases h
 |
  a::A,i,j,x,b,w,h,h1,h2,c=>by
  show _∈CY a i _++DR A (i+1)
  cases j with
  |zero=>cases h;exact CA _ (YG h1 (As.mp h2).1 h2 c)
  |succ j=>rw[show i+(j+1)=i+1+j by lia];exact C7 _ (RW A (i+1) j x b w h h1 h2 c)
theorem OK:∀(A:List Am) (i:Nat),(DR A i).Nodup
 |[],_=>P8
 |
  a::A,i=>by
  show(CY a i _++DR A (i+1)).Nodup
  refine Pk.mpr ⟨PN _ _ _,OK A (i+1),fun x hx y hy z=>?_⟩
  have h1:=(M4 hx).1
  have h2:=(IT A (i+1) y hy).1
  rw[z]at h1
  lia
theorem SR (p:List Int):∀(ws:List Bb) (e:Nat),((Fo.swOf p e ws).filter (·.2.1)).map (·.1)=(EC e ws).map fun x=>p.take (x+1)
 |[],_=>rfl
 |
  w::ws,e=>by
  show((((p.take (e+1),w.1,w.2):Fo.Sw Str)::Fo.swOf p (e+1) ws).filter (·.2.1)).map (·.1)=((if w.1 then[e] else[])++EC (e+1) ws).map _
  rw[List.filter_cons,B3,←SR p ws (e+1)]
  cases c:w.1<;>simp
theorem Qo:∀(B:List Am) (ps:List (List Int)) (i:Nat),B.length=ps.length->(((B.zip ps).flatMap gS).filter (·.2.1)).map (·.1)=(DR B i).map fun k=>(ps.getD (k.1-i) []).take (k.2+1)
 |[],ps,i,_=>rfl
 |b::B,[],i,h=>by cases h
 |
  b::B,p::ps,i,h=>by
  rw[List.zip_cons_cons,List.flatMap_cons,List.filter_append,B3,Qo B ps (i+1) (by simpa using h)]
  show _=((CY b i b.ways.length++DR B (i+1)).map _)
  rw[B3]
  congr 1
  .show((Fo.swOf p b.sh (b.ways.drop b.sh)).filter (·.2.1)).map (·.1)=_
   rw[SR]
   unfold CY
   rw[Il,CU (Ah _)]
   refine P9 fun x _=>?_
   show _=((p::ps).getD (i-i) []).take (x+1)
   rw[Cq]
   rfl
  .refine P9 fun k hk=>?_
   have:=(IT B (i+1) k hk).1
   rw[show k.1-i=k.1-(i+1)+1 by lia]
   rfl
theorem Xx {f:Bj}{B:List Am}(hI:Fo.Is f B 0)(hn:0<B.length)(h0:∀b,B.head?=some b->b.sh=0):Fe f=(DR B 0).map fun k=>((G8 B).getD k.1 []).take (k.2+1):=by
 unfold Fe
 rw[Zj hI hn,WC h0,Qo B (G8 B) 0 (QL B).symm]
 rfl
inductive DC (B:List Am)(Ds:List Dq)(u w:Nat->Nat->Nat)(sc b:Int)(m e:Nat):Nat->List Int->Prop
 |zero:DC B Ds u w sc b m e 0 []
 |skip {n:Nat} {T:List Int}:DC B Ds u w sc b m e n T->¬B5 B n e m->DC B Ds u w sc b m e (n+1) T
 |add {n:Nat} {T:List Int} {bg:Am} {k:Nat} {D:Dq} {p:Int×Int} {R:List (List Int)}:DC B Ds u w sc b m e n T->B5 B n e m->B[n]?=some bg->bg.k=(k:Int)->Ds[k]?=some D->bg.pl[e]?=some p->Et (u k) (w k) (Eo D.L) (Ew D.L) D.L.length R->DC B Ds u w sc b m e (n+1) (T++R.map fun v=>sc*v.getD p.1.toNat 0+b+p.2)
theorem DC.none {B:List Am}{Ds:List Dq}{u w:Nat->Nat->Nat}{sc b:Int}{m e:Nat}:∀n,n<=m->DC B Ds u w sc b m e n []
 |0,_=>.zero
 |n+1,h=>.skip (DC.none n (by lia)) fun k=>by have:=k.le;lia
theorem E7.inv {Ds:List Dw}{u w:Nat->Nat->Nat}{P:List Int}{ens:List Fo.En}{en:Fo.En}{L:List Int}(h:E7 Ds u w P (ens++[en]) L):(E7 Ds u w P ens L/\en.path.take P.length≠P)\/∃(L' M:List Int) (k e:Nat) (D:Dw) (d:Int),L=L'++M/\E7 Ds u w P ens L'/\en.path.take P.length=P/\en.k=(k:Int)/\Ds[k]?=some D/\en.pl[P.length-1]?=some ((e:Int),d)/\GW D (u k) (w k) e d M:=by
 generalize hx:ens++[en]=X at h
 cases h with
 |nil=>exact absurd hx (by simp)
 |
  skip h1 h2=>
  obtain⟨rfl,e⟩:=List.append_inj' hx rfl
  cases e
  exact .inl ⟨h1,h2⟩
 |
  add h1 h2 h3 h4 h5 h6=>
  obtain⟨rfl,e⟩:=List.append_inj' hx rfl
  cases e
  exact .inr ⟨_,_,_,_,_,_,rfl,h1,h2,h3,h4,h5,h6⟩
theorem Sy {f:Bj}{B:List Am}(hI:Fo.Is f B 0)(ok:Fo.Ok B)(h0:∀b,B.head?=some b->b.sh=0){m e j:Nat}{bm bj:Am}{em ej:Fo.En}(km:B5 B m e m)(hm:B[m]?=some bm)(hj:B[j]?=some bj)(gm:(Fo.deedsF f [] 0)[m]?=some em)(gj:(Fo.deedsF f [] 0)[j]?=some ej):ej.path.take (e+1)=em.path.take (e+1)↔B5 B j e m:=by
 obtain⟨bm',hbm',le⟩:=km.lt
 rw[hm]at hbm'
 cases hbm'
 have lm:m<B.length:=(As.mp hm).1
 have lj:j<B.length:=(As.mp hj).1
 obtain⟨s,ms⟩:=Sj (B:=B) (i:=m) (j:=j) lm lj
 obtain⟨s1,s2,eqs,neq,lpm,lpj⟩:=Qw hI ok hm hj gm gj ms
 have wy:bm.ways[e]?=some bm.ways[e]:=AC le
 have msw:=Fo.level_sw hI ok gm hm wy
 have plen:(em.path.take (e+1)).length=e+1:=by rw[AV];lia
 by_cases c:e<bj.ways.length
 .obtain⟨m',km'⟩:=B5.ex ok h0 j e bj hj c
  have iff:=B5.many ok km km' ms
  constructor
  .intro h
   have:e<s:=by
    rcases DJ e s with z|z
    .exact z
    .exfalso
     refine neq (by lia) (by lia) ?_
     have:=congrArg (fun l:List Int=>l.getD s 0) h
     simp only[Cd]at this
     rw[CS (by lia),CS (by lia)]at this
     rw[Cd,Cd]
     exact this.symm
   rw[iff.mpr this]
   exact km'
  .intro h
   have:e<s:=iff.mp (h.inj km')
   refine Lc fun x=>?_
   rcases DJ x (e+1) with z|z
   .rw[CS z,CS z]
    have:=eqs x (by lia)
    rw[Cd,Cd,AC (by lia),AC (by lia)]at this
    rw[AC (by lia),AC (by lia)]
    exact congrArg some this.symm
   .rw[Pb (by rw[AV];lia),Pb (by rw[AV];lia)]
 .constructor
  .intro h
   have:=Fo.sw_longer f [] 0 ej _ (AO gj) msw (by show ej.path.take (em.path.take (e+1)).length=em.path.take (e+1);rw[plen];exact h)
   have:(em.path.take (e+1)).length<ej.path.length:=this
   lia
  .intro h
   obtain⟨b,hb,l⟩:=h.lt
   rw[hj]at hb
   cases hb
   exact absurd l c
theorem ZU {f:Bj}{B:List Am}{Ds:List Dq}{u w:Nat->Nat->Nat}{sc b:Int}(hs:0<sc)(hI:Fo.Is f B 0)(ok:Fo.Ok B)(h0:∀b,B.head?=some b->b.sh=0)(hlw:∀(k:Nat) (D:Dw),(Ds.map (BG sc b))[k]?=some D->LW D (u k) (w k)){m e:Nat}{bm:Am}{em:Fo.En}(km:B5 B m e m)(hm:B[m]?=some bm)(gm:(Fo.deedsF f [] 0)[m]?=some em)(pin:∀bg∈B,∀(k:Nat) (D:Dq),bg.k=(k:Int)->Ds[k]?=some D->∀p∈bg.pl,0<=p.1/\p.1<(D.L.length:Int)){n:Nat}{T:List Int}(hT:DC B Ds u w sc b m e n T):n<=B.length->∀L,E7 (Ds.map (BG sc b)) u w (em.path.take (e+1)) ((Fo.deedsF f [] 0).take n) L->Ex L T:=by
 have dl:=Fo.deeds_len [] 0 hI
 obtain⟨_,e1,le⟩:=km.lt
 rw[hm]at e1
 cases e1
 have plen:(em.path.take (e+1)).length=e+1:=by
  obtain⟨s,ms⟩:=Sj (B:=B) (i:=m) (j:=m) (As.mp hm).1 (As.mp hm).1
  obtain⟨_,_,_,_,lpm,_⟩:=Qw hI ok hm hm gm gm ms
  rw[AV];lia
 induction hT with
 |
  zero=>
  intro _ L hL
  rw[List.take_zero]at hL
  have:L=[]:=by
   generalize hx:([]:List Fo.En)=X at hL
   cases hL with
   |nil=>rfl
   |skip _ _=>exact absurd hx (by simp)
   |add _ _ _ _ _ _=>exact absurd hx (by simp)
  rw[this]
  exact Ex.nil
 |
  @skip n T h1 h2 ih=>
  intro hn L hL
  have hb:B[n]?=some B[n]:=AC (by lia)
  obtain⟨en,hen,_,_⟩:=MC hI hb
  rw[CJ hen]at hL
  rcases hL.inv with⟨hL,_⟩|⟨_,_,_,_,_,_,_,_,hp,_⟩
  .exact ih (by lia) L hL
  .rw[plen]at hp
   exact absurd ((Sy hI ok h0 km hm hb gm hen).mp hp) h2
 |
  @add n T bg k D p R h1 h2 h3 h4 h5 h6 h7 ih=>
  intro hn L hL
  obtain⟨en,hen,ek,epl⟩:=MC hI h3
  rw[CJ hen]at hL
  rcases hL.inv with⟨_,hp⟩|⟨L',M,k',e',D',d,rfl,hL',hp,hk',hD',hpl,hE⟩
  .rw[plen]at hp
   exact absurd ((Sy hI ok h0 km hm h3 gm hen).mpr h2) hp
  .have:k=k':=by rw[ek,h4]at hk';lia
   subst this
   rw[AQ,h5]at hD'
   cases hD'
   rw[plen,epl,show e+1-1=e by lia,h6]at hpl
   cases hpl
   have pi:=pin bg (AO h3) k D h4 h5 _ (AO h6)
   have lw:=hlw k (BG sc b D) (by rw[AQ,h5];rfl)
   refine(ih (by lia) L' hL').app ?_
   show Ex M (R.map fun v=>sc*v.getD ((e':Int)).toNat 0+b+d)
   rw[EG]
   exact XU hs lw (by have:=pi.2;show e'<_;have h:(e':Int)<(D.L.length:Int):=this;lia) h7 hE
end
theorem Ca {t u:TS}{D:CL}{σ:St}{H:Hp}(M:St->Hp->Prop)(hu:∀σ' H',M σ' H'->u D σ' H')(ht:∀N:St->Hp->Prop,(∀σ' H',M σ' H'->N σ' H')->t {D with nx:=N} σ H):Jl t u D σ H:=ht _ hu
theorem An {G:Prop}(h:∀G':Prop,(G->G')->G'):G:=h G id
def vO (Q:V->Prop):Option V->Prop
 |some v=>Q v
 |none=>False
def JV:St->Nat->(V->Prop)->Prop
 |[],_,_=>False
 |x::_,0,Q=>vO Q x
 |_::l,n+1,Q=>JV l n Q
theorem Sr:∀{σ:St} {i:Nat} {Q:V->Prop},JV σ i Q->∃v,σ[i]?=some (some v)/\Q v
 |[],_,_,h=>h.elim
 |some v::_,0,_,h=>⟨v,rfl,h⟩
 |none::_,0,_,h=>h.elim
 |_::l,n+1,Q,h=>Sr (σ:=l) (i:=n) (Q:=Q) h
theorem GD:∀{σ:St} {i:Nat} {Q Q':V->Prop},(∀v,Q v->Q' v)->JV σ i Q->JV σ i Q'
 |[],_,_,_,_,h=>h.elim
 |some v::_,0,_,_,k,h=>k v h
 |none::_,0,_,_,_,h=>h.elim
 |_::l,n+1,_,_,k,h=>GD (σ:=l) (i:=n) k h
def tV (i:Nat)(σ:St)(H:Hp)(Q:VK):Prop:=JV σ i fun v=>Q v H
theorem pw {X:Cx}(i:Nat){x:Str}{pos:Pos}(hN:X.N[i]?=some x:=by rfl)(hv:Ky X.env.scope x:=by first|exact Or.inl rfl|exact Or.inr (.inl rfl)|exact Or.inr (.inr rfl))(hd:(x==("__debug__":Str))=false:=by decide)
 (hcd:(x==("__classdict__":Str))=false:=by decide):PE X (.Name x pos) (tV i):=fun pins s σ H Q I h=>pv i hN hv hd hcd pins s σ H Q I (Sr h)
theorem ME.vr (i:Nat):ME (tV i):=fun σ H Q Q' hq h=>GD (fun v k=>hq v H k) h
def FI (g:Int->Int->V)(x y:V)(H:Hp)(Q:VK):Prop:=match x,y with
 |.int i,.int j=>Q (g i j) H
 |_,_=>False
def rJ (C:Int->Int->Prop)(g:Int->Int->V)(x y:V)(H:Hp)(Q:VK):Prop:=match x,y with
 |.int i,.int j=>C i j/\Q (g i j) H
 |_,_=>False
theorem Av {X:Cx}{f:Value->Value->Sem Value}{g:Int->Int->V}(h:BP X f (Hj g)):BP X f (FI g):=fun pins s σ H x y v u Q I rx ry k=>h pins s σ H x y v u Q I rx ry (by
 cases x<;>first|exact k.elim|(cases y<;>first|exact k.elim|exact⟨_,_,rfl,rfl,k⟩))
theorem oJ {X:Cx}{f:Value->Value->Sem Value}{C:Int->Int->Prop}{g:Int->Int->V}(h:BP X f (rI C g)):BP X f (rJ C g):=fun pins s σ H x y v u Q I rx ry k=>h pins s σ H x y v u Q I rx ry (by
 cases x<;>first|exact k.elim|(cases y<;>first|exact k.elim|exact⟨_,_,rfl,rfl,k⟩))
theorem MR.j0 (g:Int->Int->V):MR (FI g):=fun x y H Q Q' hq k=>by
 cases x<;>first|exact k.elim|(cases y<;>first|exact k.elim|exact hq _ _ k)
def gC (t:TG)(u:Fn)(vs:List V)(σ:St)(H:Hp)(Q:St->Hp->Prop):Prop:=match vs with
 |v::r=>t v σ H fun σ' H'=>u r σ' H' Q
 |[]=>False
theorem AH {X:Cx}{e:Expr}{es:List Expr}{t:TG}{u:Fn}(h1:PG X e t)(h2:Hd X es u)
  (hs:(assignEach (e::es) X.env).map (·.2)=assign e X.env::(assignEach es X.env).map (·.2):=by rfl):Hd X (e::es) (gC t u):=fun pins s σ H vs us Q I r h=>Xf h1 h2 hs pins s σ H vs us Q I r (by
 cases vs with
 |nil=>exact h.elim
 |cons v l=>exact⟨v,l,rfl,h⟩)
theorem Za {v:V}{σ:St}{H:Hp}{Q:VK}:tC v σ H Q=Q v H:=rfl
theorem ixT {K:Faa}{H:Hp}{t:Addr}{xs:List V}{i:Int}{v:V}{Q:VK}(h:H t=some (.tup xs))(e:Bh xs i=some v)(q:Q v H):Ea K (.ref t) (.int i) H Q:=⟨t,xs,i,v,rfl,rfl,A9.of h,e,q⟩
theorem ixL {K:Faa}{H:Hp}{t:Addr}{xs:List V}{i:Int}{v:V}{Q:VK}(h:H t=some (.lst xs))(e:Bh xs i=some v)(q:Q v H):Jt K (.ref t) (.int i) H Q:=⟨t,xs,i,v,rfl,rfl,A5.of h,e,q⟩
theorem GV {te:TE}{i:Nat}{u:TS}{D:CL}{σ:St}{H:Hp}{x:V}(h:∀Q:VK,Q x H->te σ H Q)(k:u D (σ.set i (some x)) H):Jl (J7 te (Aq i)) u D σ H:=h _ k
theorem Hz {l:List Int}{n:Nat}(h:l.length=n+1):∃a m,l=a::m/\m.length=n:=by
 cases l with
 |nil=>cases h
 |cons a m=>exact⟨a,m,rfl,Nat.succ.inj h⟩
theorem NX {l:List Int}(h:l.length=2):∃a b,l=[a,b]:=by
 obtain⟨a,l1,rfl,h1⟩:=Hz h
 obtain⟨b,l2,rfl,h2⟩:=Hz h1
 exact⟨a,b,by rw[JF h2]⟩
theorem LY {l:List Int}(h:l.length=3):∃a b c,l=[a,b,c]:=by
 obtain⟨a,l1,rfl,h1⟩:=Hz h
 obtain⟨b,c,rfl⟩:=NX h1
 exact⟨a,b,c,rfl⟩
theorem VJ {l:List Int}(h:l.length=7):∃a b c d e f g,l=[a,b,c,d,e,f,g]:=by
 obtain⟨a,l1,rfl,h1⟩:=Hz h
 obtain⟨b,l2,rfl,h2⟩:=Hz h1
 obtain⟨c,l3,rfl,h3⟩:=Hz h2
 obtain⟨d,l4,rfl,h4⟩:=Hz h3
 obtain⟨e,f,g,rfl⟩:=LY h4
 exact⟨a,b,c,d,e,f,g,rfl⟩
section
open Bd
abbrev Dm:=List ((Nat×Nat)×List Int)
structure HM (B:List Am)(Ds:List Dq)(u w:Nat->Nat->Nat)(sc b:Int)(i:Nat)(dm:Dm):Prop where
 ks:dm.map (·.1)=DR (B.take i) 0
 tm:∀x∈dm,DC B Ds u w sc b x.1.1 x.1.2 i x.2
structure CZ (B:List Am)(Ds:List Dq)(u w:Nat->Nat->Nat)(sc b:Int)(i e:Nat)(bg:Am)(dm:Dm):Prop where
 ks:dm.map (·.1)=DR (B.take i) 0++CY bg i e
 tm:∀x∈dm,DC B Ds u w sc b x.1.1 x.1.2 (if x.1.2<e then i+1 else i) x.2
section
variable {B:List Am}{Ds:List Dq}{u w:Nat->Nat->Nat}{sc b:Int}{i e:Nat}{bg:Am}{dm:Dm}
theorem HM.start (h:HM B Ds u w sc b i dm):CZ B Ds u w sc b i 0 bg dm:=⟨by rw[bN,FR];exact h.ks,fun x hx=>by rw[Ab (JE _)];exact h.tm x hx⟩
theorem CZ.key (h:CZ B Ds u w sc b i e bg dm)(il:i<B.length){x:(Nat×Nat)×List Int}(hx:x∈dm):(x.1.1<i/\∃c,B[x.1.1]?=some c/\c.sh<=x.1.2/\∃wy,c.ways[x.1.2]?=some wy/\wy.1=true)\/(x.1.1=i/\x.1.2<e):=by
 have:x.1∈dm.map (·.1):=C9.mpr ⟨x,hx,rfl⟩
 rw[h.ks]at this
 rcases BO.mp this with z|z
 .obtain⟨_,h2,c,hc,r⟩:=IT _ _ _ z
  rw[AV]at h2
  rw[Nd,CS (by lia)]at hc
  exact .inl ⟨by lia,c,hc,r⟩
 .obtain⟨h1,_,h3,_⟩:=M4 z
  exact .inr ⟨h1,h3⟩
theorem CZ.nd (h:CZ B Ds u w sc b i e bg dm)(il:i<B.length):(dm.map (·.1)).Nodup:=by
 rw[h.ks]
 refine Pk.mpr ⟨OK _ _,PN _ _ _,fun x hx y hy z=>?_⟩
 have h1:=(IT _ _ _ hx).2.1
 have h2:=(M4 hy).1
 rw[AV]at h1
 rw[z]at h1
 lia
theorem OD {x:(Nat×Nat)×List Int}(h:DC B Ds u w sc b x.1.1 x.1.2 (if x.1.2<e then i+1 else i) x.2)(no:x.1.2=e->¬B5 B i e x.1.1):DC B Ds u w sc b x.1.1 x.1.2 (if x.1.2<e+1 then i+1 else i) x.2:=by
 by_cases c:x.1.2<e
 .rw[Aj c]at h
  rw[Aj (by lia)]
  exact h
 .rw[Ab c]at h
  by_cases d:x.1.2=e
  .rw[Aj (by lia)]
   exact .skip h (by rw[d];exact no d)
  .rw[Ab (by lia)]
   exact h
theorem CZ.no (ok:Fo.Ok B)(h:CZ B Ds u w sc b i e bg dm)(hb:B[i]?=some bg){wy:Bb}(hw:bg.ways[e]?=some wy)(c:wy.1=false):CZ B Ds u w sc b i (e+1) bg dm:=by
 have il:=(As.mp hb).1
 refine⟨by rw[NF hw,c,N7];simpa using h.ks,fun x hx=>OD (h.tm x hx) fun d k=>?_⟩
 obtain⟨b1,c1,hb1,hc1,eq⟩:=k.way ok
 rw[hb]at hb1
 cases hb1
 rw[hw]at eq
 rcases h.key il hx with⟨_,c2,hc2,_,wy2,hwy2,ct⟩|⟨_,z⟩
 .rw[hc1]at hc2
  cases hc2
  rw[d,←eq]at hwy2
  cases hwy2
  rw[c]at ct
  cases ct
 .lia
theorem CZ.new (h:CZ B Ds u w sc b i e bg dm)(hb:B[i]?=some bg){wy:Bb}(hw:bg.ways[e]?=some wy)(c:wy.1=true)(hsh:bg.sh<=e){k:Nat}{D:Dq}{p:Int×Int}{R:List (List Int)}(hk:bg.k=(k:Int))(hD:Ds[k]?=some D)(hp:bg.pl[e]?=some p)(hR:Et (u k) (w k) (Eo D.L) (Ew D.L) D.L.length R):(i,e)∉dm.map (·.1)/\CZ B Ds u w sc b i (e+1) bg (dm++[((i,e),[]++R.map fun v=>sc*v.getD p.1.toNat 0+b+p.2)]):=by
 have il:=(As.mp hb).1
 have el:=(As.mp hw).1
 have ki:B5 B i e i:=.own hb hsh el
 refine⟨fun z=>?_,by rw[B3,h.ks,NF hw,c,Da hsh,DH];rfl,fun x hx=>?_⟩
 .obtain⟨x,hx,ex⟩:=C9.mp z
  rcases h.key il hx with⟨z,_⟩|⟨_,z⟩
  .rw[ex]at z
   exact absurd z (D7 _)
  .rw[ex]at z
   exact absurd z (D7 _)
 .rcases BO.mp hx with hx|hx
  .refine OD (h.tm x hx) fun d kx=>?_
   have:=kx.inj ki
   rcases h.key il hx with⟨z,_⟩|⟨_,z⟩
   .lia
   .lia
  .rw[Bz.mp hx]
   show DC B Ds u w sc b i e (if e<e+1 then i+1 else i) _
   rw[Aj (by lia)]
   exact .add (DC.none i (Ah _)) ki hb hk hD hp hR
theorem CZ.old (ok:Fo.Ok B)(h:CZ B Ds u w sc b i e bg dm)(hb:B[i]?=some bg){wy:Bb}(hw:bg.ways[e]?=some wy)(c:wy.1=true)(hsh:e<bg.sh){m:Nat}(km:B5 B i e m){k:Nat}{D:Dq}{p:Int×Int}{R:List (List Int)}(hk:bg.k=(k:Int))(hD:Ds[k]?=some D)(hp:bg.pl[e]?=some p)(hR:Et (u k) (w k) (Eo D.L) (Ew D.L) D.L.length R):∃(j:Nat) (T:List Int),dm[j]?=some ((m,e),T)/\CZ B Ds u w sc b i (e+1) bg (dm.set j ((m,e),T++R.map fun v=>sc*v.getD p.1.toNat 0+b+p.2)):=by
 have il:=(As.mp hb).1
 have el:=(As.mp hw).1
 have mi:m<i:=by
  have:=km.le
  rcases DJ m i with z|z
  .exact z
  .exfalso
   have:m=i:=by lia
   subst this
   obtain⟨c1,hc1,l1,_⟩:=km.owner
   rw[hb]at hc1
   cases hc1
   lia
 obtain⟨b1,c1,hb1,hc1,eq⟩:=km.way ok
 rw[hb]at hb1
 cases hb1
 obtain⟨c2,hc2,l1,l2⟩:=km.owner
 rw[hc1]at hc2
 cases hc2
 have hin:(m,e)∈dm.map (·.1):=by
  rw[h.ks]
  refine CA _ ?_
  have:=RW (B.take i) 0 m e c1 wy (by rw[CS mi];exact hc1) l1 (by rw[←eq];exact hw) c
  rwa [Lb]at this
 obtain⟨x,hx,ex⟩:=C9.mp hin
 obtain⟨j,hj⟩:=GQ.mp hx
 obtain⟨xk,T⟩:=x
 have ex:xk=(m,e):=ex
 subst ex
 have jl:=(As.mp hj).1
 refine⟨j,T,hj,?_,fun y hy=>?_⟩
 .rw[List.map_set,NF hw,D8 (by lia:¬bg.sh<=e)]
  have:(dm.map (·.1)).set j (m,e)=dm.map (·.1):=by
   refine Lc fun x=>?_
   rw[Pa]
   split
   .next z=>
    subst z
    rw[Aj (by rw[Al];exact jl),AQ,hj]
    rfl
   .rfl
  show(dm.map (·.1)).set j (m,e)=_
  rw[this,h.ks]
  simp
 .obtain⟨x,hx2⟩:=GQ.mp hy
  rw[Pa]at hx2
  split at hx2
  .next z=>
   subst z
   first|(rw[Aj jl]at hx2;cases hx2)|cases hx2
   show DC B Ds u w sc b m e (if e<e+1 then i+1 else i) _
   rw[Aj (by lia)]
   have t0:=h.tm _ (AO hj)
   have t0:DC B Ds u w sc b m e (if e<e then i+1 else i) T:=t0
   rw[Ab (D7 _)]at t0
   exact .add t0 km hb hk hD hp hR
  .next z=>
   refine OD (h.tm y (AO hx2)) fun d ky=>?_
   have em:=ky.inj km
   have nd:=h.nd il
   have e1:y.1=(m,e):=Prod.ext em d
   have g1:(dm.map (·.1))[x]?=some (m,e):=by rw[AQ,hx2];exact congrArg some e1
   have g2:(dm.map (·.1))[j]?=some (m,e):=by rw[AQ,hj];rfl
   obtain⟨p1,q1⟩:=As.mp g1
   obtain⟨p2,q2⟩:=As.mp g2
   rcases Pd x j with y|y|y
   .exact Ir.mp nd x j p1 p2 y (q1.trans q2.symm)
   .exact z y.symm
   .exact Ir.mp nd j x p2 p1 y (q2.trans q1.symm)
theorem CZ.fin (h:CZ B Ds u w sc b i bg.ways.length bg dm)(hb:B[i]?=some bg):HM B Ds u w sc b (i+1) dm:=by
 have il:=(As.mp hb).1
 refine⟨?_,fun x hx=>?_⟩
 .rw[CJ hb,QT,AV,Lb,Ij (by lia)]
  exact h.ks
 .have:=h.tm x hx
  by_cases c:x.1.2<bg.ways.length
  .rw[Aj c]at this
   exact this
  .rw[Ab c]at this
   refine .skip this fun k=>?_
   obtain⟨b1,hb1,l⟩:=k.lt
   rw[hb]at hb1
   cases hb1
   exact c l
end
structure C2 {α β:Type}(R:α->β->Prop)(xs:List α)(ys:List β):Prop where
 len:xs.length=ys.length
 at_:∀(i:Nat) (x:α) (y:β),xs[i]?=some x->ys[i]?=some y->R x y
theorem C2.nil {α β:Type}{R:α->β->Prop}:C2 R [] []:=⟨rfl,fun i x y h=>by cases h⟩
theorem C2.get {α β:Type}{R:α->β->Prop}{xs:List α}{ys:List β}(h:C2 R xs ys){i:Nat}{x:α}(hx:xs[i]?=some x):∃y,ys[i]?=some y/\R x y:=by
 have l:=(As.mp hx).1
 have hy:ys[i]?=some (ys[i]'(by rw[←h.len];exact l)):=AC _
 exact⟨_,hy,h.at_ i x _ hx hy⟩
theorem C2.get' {α β:Type}{R:α->β->Prop}{xs:List α}{ys:List β}(h:C2 R xs ys){i:Nat}{y:β}(hy:ys[i]?=some y):∃x,xs[i]?=some x/\R x y:=by
 have l:=(As.mp hy).1
 have hx:xs[i]?=some (xs[i]'(by rw[h.len];exact l)):=AC _
 exact⟨_,hx,h.at_ i _ y hx hy⟩
theorem C2.mono {α β:Type}{R S:α->β->Prop}{xs:List α}{ys:List β}(h:C2 R xs ys)(k:∀x y,R x y->S x y):C2 S xs ys:=⟨h.len,fun i x y a b=>k x y (h.at_ i x y a b)⟩
theorem C2.snoc {α β:Type}{R:α->β->Prop}{xs:List α}{ys:List β}(h:C2 R xs ys){x:α}{y:β}(r:R x y):C2 R (xs++[x]) (ys++[y]):=by
 refine⟨by rw[AF,AF,h.len];rfl,fun i a b ha hb=>?_⟩
 rcases DJ i xs.length with z|z
 .rw[C8 z]at ha
  rw[C8 (by rw[←h.len];exact z)]at hb
  exact h.at_ i a b ha hb
 .have l:=(As.mp ha).1
  rw[AF,Bf]at l
  have e:i=xs.length:=by lia
  subst e
  rw[BH (Ah _),Cq]at ha
  rw[h.len,BH (Ah _),Cq]at hb
  cases ha
  cases hb
  exact r
theorem C2.set {α β:Type}{R:α->β->Prop}{xs:List α}{ys:List β}(h:C2 R xs ys){j:Nat}{x:α}{y:β}(r:R x y):C2 R (xs.set j x) (ys.set j y):=by
 refine⟨by rw[Jx,Jx,h.len],fun i a b ha hb=>?_⟩
 by_cases c:j=i
 .subst c
  have l:=(As.mp ha).1
  rw[Jx]at l
  rw[L7 l]at ha
  rw[L7 (by rw[←h.len];exact l)]at hb
  cases ha
  cases hb
  exact r
 .rw[N4 c]at ha hb
  exact h.at_ i a b ha hb
def Ct (H:Hp)(q:List Ap×V)(x:(Nat×Nat)×List Int):Prop:=q.1=pK (C5 x.1)/\∃l,q.2 = .ref l/\H l=some (.lst (x.2.map V.int))
def Ez (H:Hp)(q:List Ap×V)(x:(Nat×Nat)×List Int):Prop:=q.1=pK (C5 x.1)/\∃pr,Fb H q.2 pr/\FX x.2 pr
theorem Si {kvs:List (List Ap×V)}{k:List Ap}{v:V}(h:k∉kvs.map (·.1)):CM kvs k v=kvs++[(k,v)]/\C0 kvs k=none:=by
 have:(kvs.any fun kv=>decide (kv.1=k))=false:=by
  rw[List.any_eq_false]
  intro x hx z
  exact h (C9.mpr ⟨x,hx,IA z⟩)
 refine⟨by unfold CM;rw[this];rfl,?_⟩
 rw[KB]at this
 cases c:C0 kvs k with
 |none=>rfl
 |some y=>rw[c]at this;cases this
theorem O1 {kvs:List (List Ap×V)}{k:List Ap}{v v':V}{j:Nat}(nd:(kvs.map (·.1)).Nodup)(h:kvs[j]?=some (k,v)):CM kvs k v'=kvs.set j (k,v'):=by
 have jl:=(As.mp h).1
 have:(kvs.any fun kv=>decide (kv.1=k))=true:=To.mpr ⟨(k,v),AO h,Da rfl⟩
 unfold CM
 rw[Aj this]
 refine Lc fun x=>?_
 rw[AQ,Pa]
 by_cases c:j=x
 .subst c
  rw[Aj rfl,Aj jl,h]
  show some (if k=k then(k,v') else(k,v))=_
  rw[Aj rfl]
 .rw[Ab c]
  cases d:kvs[x]? with
  |none=>rfl
  |
   some q=>
   show some (if q.1=k then(q.1,v') else q)=some q
   rw[Ab]
   intro z
   have g1:(kvs.map (·.1))[x]?=some k:=by rw[AQ,d];exact congrArg some z
   have g2:(kvs.map (·.1))[j]?=some k:=by rw[AQ,h];rfl
   obtain⟨p1,q1⟩:=As.mp g1
   obtain⟨p2,q2⟩:=As.mp g2
   rcases Pd x j with y|y|y
   .exact Ir.mp nd x j p1 p2 y (q1.trans q2.symm)
   .exact c y.symm
   .exact Ir.mp nd j x p2 p1 y (q2.trans q1.symm)
theorem PF {R:List Ap×V->(Nat×Nat)×List Int->Prop}(hR:∀q x,R q x->q.1=pK (C5 x.1)){kvs:List (List Ap×V)}{dm:Dm}(h:C2 R kvs dm):kvs.map (·.1)=dm.map fun x=>pK (C5 x.1):=by
 refine Lc fun j=>?_
 rw[AQ,AQ]
 cases c:kvs[j]? with
 |
  none=>
  have:dm[j]?=none:=by rw[N3,←h.len];exact N3.mp c
  rw[this];rfl
 |
  some q=>
  obtain⟨x,hx,r⟩:=h.get c
  rw[hx]
  exact congrArg some (hR q x r)
theorem Qi {k l:Nat×Nat}(h:pK (C5 k)=pK (C5 l)):k=l:=YD (X9 h)
theorem QX {dm:Dm}(h:(dm.map (·.1)).Nodup):(dm.map fun x=>pK (C5 x.1)).Nodup:=by
 have:dm.map (fun x=>pK (C5 x.1))=(dm.map (·.1)).map fun k=>pK (C5 k):=by rw[Il];rfl
 rw[this]
 exact Ik.mpr (h.imp fun n z=>n (Qi z))
def MQ (L:List Lq):Prop:=(L.map (·.nm)).Nodup/\∀q∈L,q.nm≠""
structure NB (Ds:List Dq):Prop where
 ok:∀D∈Ds,D.Ok
 in7:∀D∈Ds,IM D.L
 nd:∀D∈Ds,MQ D.L
theorem SQ {Ds:List Dq}{sc b:Int}(h:NB Ds):∃u w:Nat->Nat->Nat,∀(k:Nat) (D:Dw),(Ds.map (BG sc b))[k]?=some D->LW D (u k) (w k):=by
 have:∀k,∃p:(Nat->Nat)×(Nat->Nat),∀D:Dw,(Ds.map (BG sc b))[k]?=some D->LW D p.1 p.2:=fun k=>by
  by_cases c:k<Ds.length
  .have hq:Ds[k]?=some Ds[k]:=AC c
   obtain⟨u,w,l⟩:=Zv (sc:=sc) (b:=b) (h.in7 _ (AO hq)) (h.ok _ (AO hq)).ll
   exact⟨(u,w),fun D e=>by rw[AQ,hq]at e;cases e;exact l⟩
  .refine⟨(fun _=>0,fun _=>0),fun D e=>?_⟩
   have:=(As.mp e).1
   rw[Al]at this
   exact absurd this c
 exact⟨fun k=>(Classical.choose (this k)).1,fun k=>(Classical.choose (this k)).2,fun k=>Ni (this k)⟩
structure JL (L:List Lq)(u w:Nat->Nat):Prop where
 lt:∀i<L.length,u i<=i/\w i<=i
 lo:∀(i:Nat) (q:Lq),L[i]?=some q->D4 (L.map (·.nm)) q.lo.1 1 (u i:Int)
 hi:∀(i:Nat) (q:Lq),L[i]?=some q->D4 (L.map (·.nm)) q.hi.1 1 (w i:Int)
theorem SH {D:Dq}{sc b:Int}{u w:Nat->Nat}(h:LW (BG sc b D) u w):JL D.L u w:=by
 have ln:(BG sc b D).loops.length=D.L.length:=by show(D.L.map _).length=_;rw[Al]
 have nm:(BG sc b D).loops.map (·.nm)=D.L.map (·.nm):=by show(D.L.map _).map _=_;rw[Il];rfl
 have at_:∀(i:Nat) (q:Lq),D.L[i]?=some q->(BG sc b D).loops[i]?=some (Hi sc b q):=fun i q hq=>by show(D.L.map _)[i]?=_;rw[AQ,hq];rfl
 refine⟨fun i hi=>h.lt i (by rw[ln];exact hi),fun i q hq=>?_,fun i q hq=>?_⟩
 .have:=h.lo i (by rw[ln];exact(As.mp hq).1)
  rw[nm,(Hf (at_ i q hq)).2.1]at this
  have:D4 _ (Dr sc b q.lo).1 1 _:=this
  rwa [Kp]at this
 .have:=h.hi i (by rw[ln];exact(As.mp hq).1)
  rw[nm,(Hf (at_ i q hq)).2.2]at this
  have:D4 _ (Dr sc b q.hi).1 1 _:=this
  rwa [Kp]at this
def X2:Sp:=fun vs H Q _=>∃(cell:Int) (ll:Addr) (L:List Lq),vs=[.int cell,.ref ll]/\0<=cell/\Eb H ll L/\Md L/\L.length<=2/\∀(r:Addr) (H':Hp) (q:Lq),A8 H H'->Df H' (.ref r) q->q.Ok7 L->(q.nm∉L.map (·.nm)/\q.nm≠"")->Q (.ref r) H'
def U4 (K:Faa):Sp:=fun vs H Q _=>∃(p:Addr) (ns:List Int) (f:Int) (n:Nat),vs=[.ref p,.int f,.int (n:Int)]/\A5 K H p (ns.map V.int)/\0<=f/\f<=1000/\n<=6/\∀(r:Addr) (xs:List V) (H':Hp) (Ds:List Dq),A8 H H'->H' r=some (.lst xs)->AE (Hs H') xs Ds->Ds.length=n->NB Ds->Q (.ref r) H'
def W2:Sp:=fun vs H Q _=>∃(ll:Addr) (L:List Lq) (u w:Nat->Nat),vs=[.ref ll]/\Eb H ll L/\IM L/\MQ L/\JL L u w/\L.length<=3/\∀(r:Addr) (ys:List V) (H':Hp) (R:List (List Int)),A8 H H'->H r=none->H' r=some (.lst ys)->AE (DN H') ys R->Et u w (Eo L) (Ew L) L.length R->R.length<=101321->Q (.ref r) H'
def WH:Sp:=fun vs H Q _=>∃(dl ll kl:Addr) (xs:List V) (Ds:List Dq) (B:List Am) (R:List (List (Nat×Nat))) (u w:Nat->Nat->Nat) (sc b:Int),vs=[.ref dl,.ref ll,.ref kl,.int sc,.int b]/\H dl=some (.lst xs)/\AE (Hs H) xs Ds/\NB Ds/\(∀(k:Nat) (D:Dq),Ds[k]?=some D->JL D.L (u k) (w k))/\Hv H ll B/\K9 B (Ds.map fun D=>(D.L.length:Int))/\KC H kl R/\EF B B.length R/\Sc sc/\
 ∀(r:Addr) (kvs:List (List Ap×V)) (dm:Dm) (H':Hp),A8 H H'->H r=none->H' r=some (.dT kvs)->C2 (Ez H') kvs dm->HM B Ds u w sc b B.length dm->Q (.ref r) H'
def Zt (ex:Prop):Sp:=fun vs H Q _=>∃(fo r:Addr) (ys:List V) (E:List (Int×Int)) (kvs:List (List Ap×V)) (LE:List (Int×Int)),vs=[.ref fo,.ref r]/\H fo=some (.lst ys)/\AE (Fb H) ys E/\H r=some (.dT kvs)/\C2 (fun(q:List Ap×V) pr=>Fb H q.2 pr) kvs LE/\E=LE/\E.length<=1000/\∀H',A8 H H'->Q (.bl true) H'
theorem Ot {f:Bj}{B:List Am}{Ds:List Dq}{u w:Nat->Nat->Nat}{sc b:Int}{E:List (Int×Int)}{dm:Dm}(hs:0<sc)(hI:Fo.Is f B 0)(lv:K9 B (Ds.map fun D=>(D.L.length:Int)))(hn:0<B.length)(hlw:∀(k:Nat) (D:Dw),(Ds.map (BG sc b))[k]?=some D->LW D (u k) (w k))(hl:E.length=(Fe f).length)(hE:∀(i:Nat) (P:List Int) (pr:Int×Int),(Fe f)[i]?=some P->E[i]?=some pr->MN (Ds.map (BG sc b)) u w f P pr)(hd:HM B Ds u w sc b B.length dm):E.length=dm.length/\∀(i:Nat) (pr pr':Int×Int) (x:(Nat×Nat)×List Int),E[i]?=some pr->dm[i]?=some x->FX x.2 pr'->pr=pr':=by
 have ck:=Xx hI hn lv.lv.fst
 have ks:=hd.ks
 rw[CU (Ah _)]at ks
 have len:E.length=dm.length:=by
  rw[hl,ck,Al,←ks,Al]
 refine⟨len,fun i pr pr' x he hx hm=>?_⟩
 have xk:(DR B 0)[i]?=some x.1:=by rw[←ks,AQ,hx];rfl
 obtain⟨_,k2,c,hc,csh,wy,hwy,cw⟩:=IT B 0 x.1 (AO xk)
 rw[Nd]at hc
 obtain⟨em,hem,_,_⟩:=MC hI hc
 have ep:(G8 B)[x.1.1]?=some em.path:=by
  have l:x.1.1<(G8 B).length:=by rw[QL];lia
  have:=Z2 hI hn hem (AC l)
  rw[AC l,this]
 have hP:(Fe f)[i]?=some (em.path.take (x.1.2+1)):=by
  rw[ck,AQ,xk]
  show some (((G8 B).getD x.1.1 []).take (x.1.2+1))=_
  rw[Cd,ep]
  rfl
 obtain⟨L,hL,hM⟩:=hE i _ pr hP he
 have dlen:=Fo.deeds_len [] 0 hI
 have tm:=hd.tm x (AO hx)
 have hull:=ZU hs hI lv.lv.ok lv.lv.fst hlw (.own hc csh (As.mp hwy).1) hc hem (fun bg hbg k D hk hD p hp=>?_) tm (Ah _) L (by rw[show(Fo.deedsF f [] 0).take B.length=Fo.deedsF f [] 0 from CU (by lia)];exact hL)
 .exact hull.one hM hm
 .obtain⟨k',m',e1,e2,wp,_⟩:=lv.lf bg hbg
  have:k=k':=by lia
  subst this
  rw[AQ,hD]at e2
  have e2:(D.L.length:Int)=(m':Int):=Cp e2
  have:=wp.2.2.1 p hp
  exact⟨this.1,by have:=this.2.1;lia⟩
end
section
open Bd
def Lq.Ok9 (q:Lq)(L:List Lq):Prop:=q.Ok7 L/\q.nm∉L.map (·.nm)/\q.nm≠""
def CN (L:List Lq):Prop := ∀(j:Nat) (q:Lq),L[j]?=some q->q.Ok9 (L.take j)
theorem CN.ok7 {L:List Lq}(h:CN L):IM L:=fun j q hq=>(h j q hq).1
theorem CN.ok {L:List Lq}(h:CN L):Md L:=h.ok7.ok
theorem CN.nil:CN []:=fun j x hx=>by cases hx
theorem CN.snoc {L:List Lq}{q:Lq}(h:CN L)(hq:q.Ok9 L):CN (L++[q]):=fun j x hx=>by
 rcases DJ j L.length with z|z
 .rw[C8 z]at hx
  rw[da (FP z)]
  exact h j x hx
 .have l:=(As.mp hx).1
  rw[AF,Bf]at l
  have e:j=L.length:=by lia
  subst e
  rw[BH (Ah _),Cq]at hx
  cases hx
  rw[Lf rfl]
  exact hq
theorem CN.take {L:List Lq}(h:CN L)(n:Nat):CN (L.take n):=fun j x hx=>by
 have l:=(As.mp hx).1
 rw[AV]at l
 rw[CS (by lia)]at hx
 rw[Pc,Ij (by lia)]
 exact h j x hx
theorem CN.nd {L:List Lq}(h:CN L):MQ L:=by
 refine⟨Ik.mpr (Ir.mpr fun i j hi hj hij z=>?_),fun q hq=>?_⟩
 .refine(h j L[j] (AC hj)).2.1 (C9.mpr ⟨L[i],?_,z⟩)
  have:(L.take j)[i]?=some L[i]:=by rw[CS hij];exact AC hi
  exact AO this
 .obtain⟨j,hj⟩:=GQ.mp hq
  exact(h j q hj).2.2
def IQ (L:List Lq)(v:List Int)(m:Nat)(kvs:List (Ap×V)):Prop:=C0 kvs (.inr ("":Str))=some (.int 0)/\∀(j:Nat) (q:Lq) (n:Int),j<m->L[j]?=some q->v[j]?=some n->C0 kvs (.inr q.nm)=some (.int n)
theorem IQ.put {L:List Lq}{v:List Int}{m:Nat}{kvs:List (Ap×V)}{q:Lq}{n:Int}(nd:MQ L)(hq:L[m]?=some q)(hn:v[m]?=some n)(h:IQ L v m kvs):IQ L v (m+1) (CM kvs (.inr q.nm) (.int n)):=by
 refine⟨?_,fun j q' n' hj hq' hn'=>?_⟩
 .rw[Kg,Ab (fun e=>nd.2 q (AO hq) (Sum.inr.inj e).symm)]
  exact h.1
 .rcases DJ j m with z|z
  .rw[Kg,Ab]
   .exact h.2 j q' n' z hq' hn'
   .intro e
    have e:q'.nm=q.nm:=Sum.inr.inj e
    obtain⟨p1,q1⟩:=As.mp hq'
    obtain⟨p2,q2⟩:=As.mp hq
    refine Ir.mp (Ik.mp nd.1) j m p1 p2 z ?_
    rw[q1,q2]
    exact e
  .have:j=m:=by lia
   subst this
   rw[hq]at hq'
   rw[hn]at hn'
   cases hq'
   cases hn'
   rw[Kg,Aj rfl]
theorem IQ.look {L:List Lq}{v:List Int}{kvs:List (Ap×V)}{z:Str}{k i:Nat}(h:IQ L v i kvs)(hl:v.length=i)(hz:D4 (L.map (·.nm)) z 1 (k:Int))(hk:k<=i):C0 kvs (.inr z)=some (.int (BC v k)):=by
 rcases hz with⟨rfl,e⟩|⟨_,j,hj,_,e⟩
 .have:k=0:=by lia
  subst this
  exact h.1
 .have:k=1+j:=by lia
  subst this
  rw[AQ]at hj
  cases c:L[j]? with
  |none=>rw[c]at hj;cases hj
  |
   some q=>
   rw[c]at hj
   have hj:q.nm=z:=Cp hj
   have hv:v[j]?=some (v[j]'(by lia)):=AC _
   have:=h.2 j q _ (by lia) c hv
   rw[hj]at this
   rw[this]
   unfold BC
   rw[Ab (s1 j),show 1+j-1=j by lia,Cd,hv]
   rfl
theorem JY {v:List Int}{n:Int}{j:Nat}(h:j<=v.length):BC (v++[n]) j=BC v j:=by
 unfold BC
 by_cases c:j=0
 .rw[Aj c,Aj c]
 .rw[Ab c,Ab c,Cd,Cd,C8 (by lia)]
theorem NV {v:List Int}{n:Int}:BC (v++[n]) (1+v.length)=n:=by
 unfold BC
 rw[Ab (s1 _),show 1+v.length-1=v.length by lia,Cd,BH (Ah _),Cq]
 rfl
theorem Et.zero (u w:Nat->Nat)(ln hn:Nat->Int):Et u w ln hn 0 [[]]:=fun v=>by
 refine⟨fun h=>?_,fun h=>?_⟩
 .rw[Bz.mp h]
  exact⟨rfl,fun b hb=>nomatch hb⟩
 .rw[JF h.1]
  exact BN
theorem Et.step {u w:Nat->Nat}{ln hn:Nat->Int}{i:Nat}{R G:List (List Int)}(hl:∀j<i+1,u j<=j/\w j<=j)(h:Et u w ln hn i R)(hG:∀x,x∈G↔∃v∈R,∃n,x=v++[n]/\BC v (u i)+ln i<=n/\n<=BC v (w i)+hn i):Et u w ln hn (i+1) G:=fun x=>by
 have li:=hl i (by lia)
 have ext:∀(v:List Int) (n:Int),v.length=i->∀j≤i,BC (v++[n]) j=BC v j-0:=fun v n vl j hj=>by rw[JY (by lia)];lia
 have ext':∀(v:List Int) (n:Int),v.length=i->∀j≤i,BC v j=BC (v++[n]) j-0:=fun v n vl j hj=>by rw[JY (by lia)];lia
 rw[hG]
 refine⟨fun⟨v,hv,n,e,h1,h2⟩=>?_,fun⟨xl,hx⟩=>?_⟩
 .subst e
  obtain⟨vl,hh⟩:=(h v).mp hv
  refine⟨by rw[AF,Bf,vl],fun b hb=>?_⟩
  rw[Bx]at hb
  rcases BO.mp hb with hb|hb
  .rcases BO.mp hb with hb|hb
   .exact OS (fun j hj=>hl j (by lia)) (ext v n vl) hh b hb
   .rw[Bz.mp hb]
    show BC (v++[n]) (u i)-BC (v++[n]) (1+i)<=-(ln i)
    rw[←vl,NV,vl,JY (by lia)]
    lia
  .rw[Bz.mp hb]
   show BC (v++[n]) (1+i)-BC (v++[n]) (w i)<=hn i
   rw[←vl,NV,vl,JY (by lia)]
   lia
 .obtain⟨v,n,rfl⟩:∃v n,x=v++[n]:=by
   have ne:x≠[]:=fun z=>by rw[z]at xl;cases xl
   exact⟨x.dropLast,x.getLast ne,(List.dropLast_concat_getLast ne).symm⟩
  have vl:v.length=i:=by rw[AF,Bf]at xl;lia
  have a:=hx _ (F0 u w ln hn (i+1) i (by lia)).1
  have b:=hx _ (F0 u w ln hn (i+1) i (by lia)).2
  have a:BC (v++[n]) (u i)-BC (v++[n]) (1+i)<=-(ln i):=a
  have b:BC (v++[n]) (1+i)-BC (v++[n]) (w i)<=hn i:=b
  rw[←vl,NV,vl,JY (by lia)]at a b
  refine⟨v,(h v).mpr ⟨vl,OS (fun j hj=>hl j (by lia)) (ext' v n vl) fun b hb=>hx b ?_⟩,n,rfl,by lia,by lia⟩
  rw[Bx]
  exact CA _ (CA _ hb)
theorem aP {L:List Lq}{i:Nat}{q:Lq}(h:L[i]?=some q):Eo L i=q.lo.2/\Ew L i=q.hi.2:=by unfold Eo Ew;rw[h];exact⟨rfl,rfl⟩
end
section
open Bd
theorem Ct.over {H H':Hp}{q:List Ap×V}{x:(Nat×Nat)×List Int}(h:Ct H q x)(e:A8 H H'):Ct H' q x:=let ⟨a,l,b,c⟩:=h;⟨a,l,b,e _ _ c⟩
theorem Ct.put {H:Hp}{q:List Ap×V}{x:(Nat×Nat)×List Int}{d:Addr}{kvs:List (List Ap×V)}{o:HO}(h:Ct H q x)(hd:H d=some (.dT kvs)):Ct (upd H d o) q x:=by
 obtain⟨a,l,b,c⟩:=h
 exact⟨a,l,b,by rw[Af (fun z=>by rw[z,hd]at c;cases c)];exact c⟩
theorem Ez.over {H H':Hp}{q:List Ap×V}{x:(Nat×Nat)×List Int}(h:Ez H q x)(e:A8 H H'):Ez H' q x:=let ⟨a,l,b,c⟩:=h;⟨a,l,b.over e,c⟩
theorem Ez.put {H:Hp}{q:List Ap×V}{x:(Nat×Nat)×List Int}{d:Addr}{kvs:List (List Ap×V)}{o:HO}(h:Ez H q x)(hd:H d=some (.dT kvs)):Ez (upd H d o) q x:=by
 obtain⟨a,pr,⟨t,b,c⟩,m⟩:=h
 exact⟨a,pr,⟨t,b,by rw[Af (fun z=>by rw[z,hd]at c;cases c)];exact c⟩,m⟩
def DT (H:Hp)(n:Nat)(kvs:List (List Ap×V))(dm:Dm):Prop:=kvs.length=dm.length/\∀(i:Nat) (q:List Ap×V) (x:(Nat×Nat)×List Int),kvs[i]?=some q->dm[i]?=some x->(i<n->Ez H q x)/\(n<=i->Ct H q x)
theorem DT.start {H:Hp}{kvs:List (List Ap×V)}{dm:Dm}(h:C2 (Ct H) kvs dm):DT H 0 kvs dm:=⟨h.len,fun i q x hq hx=>⟨fun z=>absurd z (JE _),fun _=>h.at_ i q x hq hx⟩⟩
theorem DT.fin {H:Hp}{kvs:List (List Ap×V)}{dm:Dm}{n:Nat}(h:DT H n kvs dm)(hn:dm.length<=n):C2 (Ez H) kvs dm:=⟨h.1,fun i q x hq hx=>(h.2 i q x hq hx).1 (BS (As.mp hx).1 hn)⟩
theorem DT.over {H H':Hp}{kvs:List (List Ap×V)}{dm:Dm}{n:Nat}(h:DT H n kvs dm)(e:A8 H H'):DT H' n kvs dm:=⟨h.1,fun i q x hq hx=>⟨fun z=>((h.2 i q x hq hx).1 z).over e,fun z=>((h.2 i q x hq hx).2 z).over e⟩⟩
theorem DT.keys {H:Hp}{kvs:List (List Ap×V)}{dm:Dm}{n:Nat}(h:DT H n kvs dm):kvs.map (·.1)=dm.map fun x=>pK (C5 x.1):=
 PF (R:=fun q x=>q.1=pK (C5 x.1)) (fun _ _ z=>z) ⟨h.1,fun i q x hq hx=>by
  have:=h.2 i q x hq hx
  rcases DJ i n with z|z
  .exact(this.1 z).1
  .exact(this.2 z).1⟩
theorem DT.step {H:Hp}{kvs kvs':List (List Ap×V)}{dm:Dm}{n:Nat}{d:Addr}{o:HO}{x:(Nat×Nat)×List Int}{v:V}{pr:Int×Int}(h:DT H n kvs dm)(hd:H d=some (.dT kvs'))(hx:dm[n]?=some x)(hv:Fb H v pr)(hm:FX x.2 pr):DT (upd H d o) (n+1) (kvs.set n (pK (C5 x.1),v)) dm:=by
 refine⟨by rw[Jx];exact h.1,fun i q y hq hy=>?_⟩
 by_cases c:n=i
 .subst c
  have l:=(As.mp hq).1
  rw[Jx]at l
  rw[L7 l]at hq
  rw[hx]at hy
  cases hq
  cases hy
  exact⟨fun _=>Ez.put ⟨rfl,pr,hv,hm⟩ hd,fun z=>absurd z (by lia)⟩
 .rw[N4 c]at hq
  have:=h.2 i q y hq hy
  exact⟨fun z=>(this.1 (by lia)).put hd,fun z=>(this.2 (by lia)).put hd⟩
theorem Z5 {H:Hp}{B:List Am}{Ds:List Dq}{u w:Nat->Nat->Nat}{sc b:Int}{i e m k:Nat}{bg:Am}{dm:Dm}{kvs:List (List Ap×V)}{wy:Bb}{D:Dq}{p:Int×Int}{R:List (List Int)}(ok:Fo.Ok B)(dmi:CZ B Ds u w sc b i e bg dm)(ev:C2 (Ct H) kvs dm)(hb:B[i]?=some bg)(hw:bg.ways[e]?=some wy)(c:wy.1=true)(kat:B5 B i e m)(hk:bg.k=(k:Int))(hD:Ds[k]?=some D)(hp:bg.pl[e]?=some p)(hR:Et (u k) (w k) (Eo D.L) (Ew D.L) D.L.length R)(cR:R.length<=101321)(cT:∀x∈dm,x.2.length<=(if x.1.2<e then i+1 else i)*101321) :
  ∃(T:List Int) (dm':Dm),((C0 kvs (pK (C5 (m,e)))=none/\T=[])\/∃l,C0 kvs (pK (C5 (m,e)))=some (.ref l)/\H l=some (.lst (T.map V.int)))/\CZ B Ds u w sc b i (e+1) bg dm'/\(∀(H':Hp) (cl:Addr),(∀q x,Ct H q x->Ct H' q x)->H' cl=some (.lst ((T++R.map fun v=>sc*v.getD p.1.toNat 0+b+p.2).map V.int))->C2 (Ct H') (CM kvs (pK (C5 (m,e))) (.ref cl)) dm')/\T.length<=i*101321/\(∀x∈dm',x.2.length<=(if x.1.2<e+1 then i+1 else i)*101321)/\dm'.length<=dm.length+1:=by
 have il:=(As.mp hb).1
 have el:=(As.mp hw).1
 have mono:∀x∈dm,x.2.length<=(if x.1.2<e+1 then i+1 else i)*101321:=fun x hx=>Cz (cT x hx) (Lg _ (by split<;>split<;>lia))
 have ks:=PF (fun _ _ z=>z.1) ev
 rcases DJ e bg.sh with z|z
 .obtain⟨j,T,hj,dmi'⟩:=dmi.old ok hb hw c z kat hk hD hp hR
  obtain⟨⟨q1,q2⟩,hq,e1,l,e2,hl⟩:=ev.get' hj
  have e1:q1=pK (C5 (m,e)):=e1
  have e2:q2 = .ref l:=e2
  subst e1 e2
  have nd:(kvs.map (·.1)).Nodup:=by rw[ks];exact QX (dmi.nd il)
  have tl:T.length<=i*101321:=by
   have:=cT _ (AO hj)
   rw[Ab (D7 _)]at this
   exact this
  refine⟨T,_,.inr ⟨l,cV nd hq,hl⟩,dmi',fun H' cl ps hc=>?_,tl,fun x hx=>?_,by rw[Jx];lia⟩
  .rw[O1 nd hq]
   exact(ev.mono ps).set ⟨rfl,cl,rfl,hc⟩
  .obtain⟨n,hn⟩:=GQ.mp hx
   by_cases d:j=n
   .subst d
    rw[L7 (As.mp hj).1]at hn
    cases hn
    show(T++_).length<=(if e<e+1 then i+1 else i)*101321
    rw[Aj (by lia),AF,Al,Jz]
    lia
   .rw[N4 d]at hn
    exact mono x (AO hn)
 .have:m=i:=kat.inj (.own hb z el)
  subst this
  obtain⟨nin,dmi'⟩:=dmi.new hb hw c z hk hD hp hR
  have hnk:pK (C5 (m,e))∉kvs.map (·.1):=fun y=>by
   rw[ks]at y
   obtain⟨x,hx,ex⟩:=C9.mp y
   exact nin (C9.mpr ⟨x,hx,Qi ex⟩)
  refine⟨[],_,.inl ⟨(Si (v:=V.int 0) hnk).2,rfl⟩,dmi',fun H' cl ps hc=>?_,Bk _,fun x hx=>?_,by rw[AF];exact Ah _⟩
  .rw[(Si hnk).1]
   exact(ev.mono ps).snoc ⟨rfl,cl,rfl,hc⟩
  .rcases BO.mp hx with hx|hx
   .exact mono x hx
   .rw[Bz.mp hx]
    show([]++_:List Int).length<=(if e<e+1 then m+1 else m)*101321
    rw[Aj (by lia),Ih,Al,Jz]
    lia
theorem ZZ {v:List Int}{x:Int}{n:Nat}(hl:v.length=n)(h0:0<=x)(h1:x<(n:Int)):Bh (v.map V.int) x=some (.int (v.getD x.toNat 0)):=by
 obtain⟨k,rfl⟩:∃k:Nat,x=(k:Int):=⟨x.toNat,by lia⟩
 have:v[k]?=some (v[k]'(by lia)):=AC _
 refine CQ ?_
 rw[AQ,EG,Cd,this]
 rfl
end
section
open Bd
def WS (CP C:Addr)(c:Cs):Sp:=fun vs H Q _=>∃(v:V) (p:Addr) (n:Int) (Ds:List Dw) (B:List Am) (f:Bj) (u w:Nat->Nat->Nat),vs=[v,.ref p]/\Kj CP C c H v n Ds/\Hb H p B f/\OC B Ds u w/\∀(r:Addr) (ys:List V) (H':Hp) (E:List (Int×Int)),A8 H H'->H r=none->H' r=some (.lst ys)->AE (Fb H') ys E->E.length<=1000->E.length=(Fe f).length->(∀(i:Nat) (P:List Int) (pr:Int×Int),(Fe f)[i]?=some P->E[i]?=some pr->MN Ds u w f P pr)->Q (.ref r) H'
theorem Ov {B:List Am}{Ds:List Dq}{sc bs:Int}{u w:Nat->Nat->Nat}(l1:K9 B (Ds.map fun D=>(D.L.length:Int)))(hl:∀(k:Nat) (D:Dw),(Ds.map (BG sc bs))[k]?=some D->LW D (u k) (w k)):OC B (Ds.map (BG sc bs)) u w:=by
 refine⟨fun b hb=>?_,hl⟩
 obtain⟨k,m,bk,hk,wp,_⟩:=l1.lf b hb
 rw[AQ]at hk
 cases c:Ds[k]? with
 |none=>rw[c]at hk;cases hk
 |
  some D=>
  rw[c]at hk
  have hk:(D.L.length:Int)=(m:Int):=Cp hk
  refine⟨k,BG sc bs D,bk,by rw[AQ,c];rfl,fun p hp=>?_⟩
  have:=wp.2.2.1 p hp
  have ln:(BG sc bs D).loops.length=D.L.length:=by show(D.L.map _).length=_;rw[Al]
  rw[ln]
  exact⟨this.1,by have:=this.2.1;lia⟩
theorem XJ (n:Nat):(EU n).Nodup:=by
 unfold EU
 exact Ik.mpr (List.nodup_range.imp fun h z=>h (by injection z))
theorem UH {B:List Am}{D:List Int}(l1:K9 B D):GB B:=⟨l1.lv.ok,l1.lv.way,l1.lv.pll,l1.lv.len,l1.ks.nodup_iff.mpr (XJ _)⟩
theorem Oj {H:Hp}{kvs:List (List Ap×V)}{dm:Dm}{E:List (Int×Int)}(h:C2 (Ez H) kvs dm)(g:E.length=dm.length/\∀(i:Nat) (pr pr':Int×Int) (x:(Nat×Nat)×List Int),E[i]?=some pr->dm[i]?=some x->FX x.2 pr'->pr=pr'):C2 (fun(q:List Ap×V) pr=>Fb H q.2 pr) kvs E:=by
 refine⟨h.len.trans g.1.symm,fun i q pr hq hp=>?_⟩
 obtain⟨x,hx,_,pr',h1,h2⟩:=h.get hq
 rw[g.2 i pr pr' x hp hx h2]
 exact h1
end
end L2
namespace Fw
open PySem L2 Bd
def Bu (i:Nat):Stmt:=PySem.Challenge.pw_furrow_k64_ends_of_cut_sweeps.main.body.getD i (.Pass ⟨0,0,0,0⟩)
abbrev LP:Stmt:=MJ (Bu 3) 0
abbrev Ln:Stmt:=MJ (Bu 6) 0
abbrev M3:Stmt:=MJ (Bu 8) 0
abbrev Lz:Stmt:=MJ (Bu 9) 0
abbrev M9:Stmt:=Bu 11
abbrev LX:Stmt:=Bu 12
abbrev Mw:Stmt:=Bu 13
abbrev Ko:Stmt:=Bu 15
abbrev MU:Stmt:=Bu 16
abbrev LQ:Stmt:=Bu 17
abbrev Ke:Stmt:=Bu 19
abbrev Mq:Stmt:=Bu 20
abbrev Mc:Stmt:=Bu 21
abbrev MF:Stmt:=Bu 22
abbrev MO:Stmt:=Bu 24
abbrev Mn:Stmt:=Bu 25
abbrev Kv:Stmt:=Bu 27
abbrev KR:Stmt:=Bu 28
abbrev LI:Stmt:=Bu 29
abbrev Mb:Stmt:=Bu 30
abbrev MZ:Stmt:=Bu 32
abbrev LA:Stmt:=Bu 33
abbrev LS:Stmt:=Bu 34
abbrev K6:Stmt:=Bu 35
abbrev MM:Stmt:=Bu 36
abbrev MY:Stmt:=Bu 37
abbrev GU:Stmt:=Bu 38
abbrev Mh:Stmt:=Bu 39
abbrev MK:Stmt:=Bu 40
abbrev LL:Stmt:=Bu 41
abbrev Jp:Stmt:=Bu 42
abbrev M7:Stmt:=Bu 43
abbrev JP:Stmt:=Bu 44
abbrev JX:Stmt:=Bu 45
abbrev Mi:Stmt:=Bu 46
abbrev Ma:Stmt:=Bu 47
abbrev MV:Stmt:=Bu 48
abbrev KH:Stmt:=Bu 49
theorem Bt {N P:List Str}{sc:Scope}(a:sc.kind = .function:=by rfl)(b:sc.isCoroutine=false:=by rfl)(c:sc.isGenerator=false:=by rfl)(d:N.Nodup:=by decide +kernel)(e:N.take P.length=P:=by rfl)(f:∀x∈P,sc.names.lookup x=some .local\/sc.names.lookup x=some .cell:=by decide +kernel)(g:∀y∈sc.names,y.2≠.free:=by decide +kernel):B7 N P sc:=⟨a,b,c,d,e,f,g⟩
theorem cP:B7 ["self","ring"] ["self","ring"] (AK LP):=Bt
theorem W3:B7 ["self","n"] ["self","n"] (AK Ln):=Bt
theorem Ut:B7 ["self","names","lows","highs","table","spots","term","path"] ["self","names","lows","highs","table","spots","term","path"] (AK M3):=Bt
theorem XF:B7 ["self","size","deeds"] ["self","size","deeds"] (AK Lz):=Bt
theorem Kl:B7 ["items","path","cuts","found","number","item","here"] ["items","path","cuts"] (AK M9):=Bt
theorem Xm:B7 ["plan"] ["plan"] (AK LX):=Bt
theorem Km:B7 ["items","path","found","number","item","here"] ["items","path"] (AK Mw):=Bt
theorem IH:B7 ["count","bonds","values","lowered_by","lowered","lap"] ["count","bonds"] (AK Ko):=Bt
theorem IJ:B7 ["bonds","values","lowered_by","lowered","number","bond","top"] ["bonds","values","lowered_by"] (AK MU):=Bt
theorem GT:B7 ["count","bonds","lowered_by","lowered","start","lap","ring","at"] ["count","bonds","lowered_by","lowered"] (AK LQ):=Bt
theorem MG:B7 ["count","bonds","x","y","answer","chain","c"] ["count","bonds","x","y"] (AK Ke):=Bt
theorem JK:B7 ["count","bonds","x","y","reached_by","chain","at"] ["count","bonds","x","y"] (AK Mq):=Bt
theorem KL:B7 ["count","bonds","y","lengths","reached_by","shortened"] ["count","bonds","y"] (AK Mc):=Bt
theorem IL:B7 ["bonds","lengths","reached_by","shortened","number","bond","length"] ["bonds","lengths","reached_by"] (AK MF):=Bt
theorem KF:B7 ["deed","first","bonds","e","low","high"] ["deed","first"] (AK MO):=Bt
theorem aJ:B7 ["spot","names","first"] ["spot","names","first"] (AK Mn):=Bt
theorem cO:B7 ["program","plan"] ["program","plan"] (AK Kv):=Bt
theorem ZR:B7 ["plan"] ["plan"] (AK KR):=Bt
theorem Hh:B7 ["program","plan","path","depth","times","k","places","where","cuts"] ["program","plan","path"] (AK LI):=Bt
theorem Kz:B7 ["deed","pair","bonds","count","below","above"] ["deed","pair"] (AK Mb):=Bt
theorem KY:B7 ["_law_script","_law_k","_law_number"] ["_law_script","_law_k"] (AK MZ):=Bt
theorem LG:B7 ["_law_cell","_law_sizes","_law_found","_law_many"] ["_law_cell","_law_sizes"] (AK LA):=Bt
theorem cI:B7 ["_law_cell"] ["_law_cell"] (AK LS):=Bt
theorem CC:B7 ["_law_cell","_law_loops","_law_kind","_law_step","_law_many","_law_thin","_law_which","_law_sign","_law_more","_law_letters","_law_name","_law_at_here","_law_high","_law_outer","_law_low","_law_first","_law_last","_law_other"] ["_law_cell","_law_loops"] (AK K6):=Bt
theorem Dl:B7 ["_law_script","_law_first","_law_count_here","_law_deeds_here","_law_n","_law_deep","_law_common","_law_loops","_law_path","_law_old","_law_cell"] ["_law_script","_law_first","_law_count_here"] (AK MM):=Bt
theorem WV:B7 ["_law_spot","_law_scale","_law_base"] ["_law_spot","_law_scale","_law_base"] (AK MY):=Bt
theorem Gm:B7 ["_law_deeds_here","_law_scale","_law_base","_law_found","_law_loops","_law_path","_law_common","_law_names","_law_lows","_law_highs"] ["_law_deeds_here","_law_scale","_law_base"] (AK GU):=Bt
theorem EW:B7 ["_law_loops","_law_rows","_law_loop_here","_law_grown","_law_row","_law_worths","_law_other","_law_value","_law_low","_law_high"] ["_law_loops"] (AK Mh):=Bt
theorem DY:B7 ["_law_script","_law_first","_law_depth","_law_old","_law_ways","_law_sweeps_here","_law_free","_law_split","_law_pair","_law_share","_law_more","_law_way","_law_kind"] ["_law_script","_law_first","_law_depth","_law_old","_law_ways"] (AK MK):=Bt
theorem Eg:B7 ["_law_script","_law_first","_law_sweeps_here","_law_loops","_law_far","_law_places_here","_law_left","_law_e","_law_pair","_law_cell","_law_loop_here","_law_step","_law_big","_law_shift","_law_number"] ["_law_script","_law_first","_law_sweeps_here","_law_loops","_law_far"] (AK LL):=Bt
theorem DB:B7 ["_law_script","_law_first","_law_depths","_law_ways","_law_far","_law_start","_law_back","_law_front","_law_row","_law_leaves_here","_law_n","_law_k","_law_cell","_law_like","_law_turn","_law_flip","_law_loops","_law_old","_law_share","_law_sweeps_here"] ["_law_script","_law_first","_law_depths","_law_ways","_law_far"] (AK Jp):=Bt
theorem HQ:B7 ["_law_leaves_here","_law_level","_law_items_here","_law_at_here","_law_upto","_law_pair"] ["_law_leaves_here","_law_level"] (AK M7):=Bt
theorem J8:B7 ["_law_leaves_here","_law_found","_law_n","_law_leaf","_law_keys_here"] ["_law_leaves_here"] (AK JP):=Bt
theorem Fm:B7 ["_law_deeds_here","_law_leaves_here","_law_keys_here","_law_scale","_law_base","_law_found","_law_leaf","_law_row","_law_values_here","_law_sweep","_law_pair","_law_key","_law_times"] ["_law_deeds_here","_law_leaves_here","_law_keys_here","_law_scale","_law_base"] (AK JX):=Bt
theorem KA:B7 ["_law_script","_law_first","_law_scale","_law_base"] ["_law_script","_law_first"] (AK Mi):=Bt
theorem Zl:B7 ["_law_found"] ["_law_found"] (AK Ma):=Bt
theorem Lo:B7 ["_law_found","_law_limits_here","_law_due","_law_one","_law_other"] ["_law_found","_law_limits_here"] (AK MV):=Bt
theorem EL:B7 ["_law_script","_law_deeds_here","_law_first","_law_leaves_here","_law_plan","_law_keys_here","_law_scale","_law_base","_law_program","_law_due","_law_found","_law_other"] ["_law_script"] (AK KH):=Bt
theorem Wb:Dz (Eu [(".0",.local),("value",.local),("values",.free)]) (AK Ko) ["count","bonds","values","lowered_by","lowered","lap"] ["value","values"] [none,some 2]=true:=by decide +kernel
theorem Xt:(["value","values"]:List Str).Nodup:=by decide +kernel
theorem aF:Dz (Eu [(".0",.local),("number",.local),("bonds",.free)]) (AK Ke) ["count","bonds","x","y","answer","chain","c"] ["number","bonds"] [none,some 1]=true:=by decide +kernel
theorem ZO:(["number","bonds"]:List Str).Nodup:=by decide +kernel
theorem Vz:Dz (Eu [(".0",.local),("path",.local),("cut",.local),("way",.local)]) (AK KR) ["plan"] ["path","cut","way"] [none,none,none]=true:=by decide +kernel
theorem O3:(["path","cut","way"]:List Str).Nodup:=by decide +kernel
theorem bT:Dz (Eu [(".0",.local),("path",.local),("ends_at",.globalImplicit),("plan",.free),("program",.free)]) (AK Kv) ["program","plan"] ["path","plan","program"] [none,some 1,some 0]=true:=by decide +kernel
theorem aI:(["path","plan","program"]:List Str).Nodup:=by decide +kernel
theorem aL:Dz (Eu [(".0",.local),("_law_loop_here",.local)]) (AK K6) ["_law_cell","_law_loops","_law_kind","_law_step","_law_many","_law_thin","_law_which","_law_sign","_law_more","_law_letters","_law_name","_law_at_here","_law_high","_law_outer","_law_low","_law_first","_law_last","_law_other"] ["_law_loop_here"] [none]=true:=by decide +kernel
theorem UQ:(["_law_loop_here"]:List Str).Nodup:=by decide +kernel
theorem X4:Dz (Eu [(".0",.local),("_law_loop_here",.local)]) (AK GU) ["_law_deeds_here","_law_scale","_law_base","_law_found","_law_loops","_law_path","_law_common","_law_names","_law_lows","_law_highs"] ["_law_loop_here"] [none]=true:=by decide +kernel
theorem UW:(["_law_loop_here"]:List Str).Nodup:=by decide +kernel
theorem Zu:Dz (Eu [(".0",.local),("_law_loop_here",.local),("_law_told",.globalImplicit),("_law_base",.free),("_law_scale",.free)]) (AK GU) ["_law_deeds_here","_law_scale","_law_base","_law_found","_law_loops","_law_path","_law_common","_law_names","_law_lows","_law_highs"] ["_law_loop_here","_law_base","_law_scale"] [none,some 2,some 1]=true:=by decide +kernel
theorem YK:(["_law_loop_here","_law_base","_law_scale"]:List Str).Nodup:=by decide +kernel
theorem Vh:Dz (Eu [(".0",.local),("_law_loop_here",.local),("_law_told",.globalImplicit),("_law_base",.free),("_law_scale",.free)]) (AK GU) ["_law_deeds_here","_law_scale","_law_base","_law_found","_law_loops","_law_path","_law_common","_law_names","_law_lows","_law_highs"] ["_law_loop_here","_law_base","_law_scale"] [none,some 2,some 1]=true:=by decide +kernel
theorem VP:(["_law_loop_here","_law_base","_law_scale"]:List Str).Nodup:=by decide +kernel
theorem WK:Dz (Eu [(".0",.local),("_law_n",.local),("len",.globalImplicit),("_law_depths",.free),("_law_start",.free)]) (AK Jp) ["_law_script","_law_first","_law_depths","_law_ways","_law_far","_law_start","_law_back","_law_front","_law_row","_law_leaves_here","_law_n","_law_k","_law_cell","_law_like","_law_turn","_law_flip","_law_loops","_law_old","_law_share","_law_sweeps_here"] ["_law_n","_law_depths","_law_start"] [none,some 2,some 5]=true:=by decide +kernel
theorem VF:(["_law_n","_law_depths","_law_start"]:List Str).Nodup:=by decide +kernel
theorem X5:Dz (Eu [(".0",.local),("_law_e",.local),("_law_depths",.free),("_law_k",.free),("_law_turn",.free)]) (AK Jp) ["_law_script","_law_first","_law_depths","_law_ways","_law_far","_law_start","_law_back","_law_front","_law_row","_law_leaves_here","_law_n","_law_k","_law_cell","_law_like","_law_turn","_law_flip","_law_loops","_law_old","_law_share","_law_sweeps_here"] ["_law_e","_law_depths","_law_k","_law_turn"] [none,some 2,some 11,some 14]=true:=by decide +kernel
theorem Z8:(["_law_e","_law_depths","_law_k","_law_turn"]:List Str).Nodup:=by decide +kernel
theorem aA:Dz (Eu [(".0",.local),("_law_e",.local),("_law_n",.free)]) (AK JP) ["_law_leaves_here","_law_found","_law_n","_law_leaf","_law_keys_here"] ["_law_e","_law_n"] [none,some 2]=true:=by decide +kernel
theorem WR:(["_law_e","_law_n"]:List Str).Nodup:=by decide +kernel
theorem ZW:Dz (Eu [(".0",.local),("_law_value",.local),("_law_base",.free),("_law_pair",.free),("_law_scale",.free)]) (AK JX) ["_law_deeds_here","_law_leaves_here","_law_keys_here","_law_scale","_law_base","_law_found","_law_leaf","_law_row","_law_values_here","_law_sweep","_law_pair","_law_key","_law_times"] ["_law_value","_law_base","_law_pair","_law_scale"] [none,some 4,some 10,some 3]=true:=by decide +kernel
theorem Yv:(["_law_value","_law_base","_law_pair","_law_scale"]:List Str).Nodup:=by decide +kernel
theorem VO:Dz (Eu [(".0",.local),("_law_deed",.local),("len",.globalImplicit)]) (AK KH) ["_law_script","_law_deeds_here","_law_first","_law_leaves_here","_law_plan","_law_keys_here","_law_scale","_law_base","_law_program","_law_due","_law_found","_law_other"] ["_law_deed"] [none]=true:=by decide +kernel
theorem cU:(["_law_deed"]:List Str).Nodup:=by decide +kernel
structure BF (K:Faa)(x:Str)(st:Stmt)(f:Addr)(d:FuncData):Prop where
 a:PySem.W.nsIn K mainGlobals x=some (some (.ref f))
 F:AW K x x st f d
structure MW (K:Faa)(C:Addr)(x q:Str)(st:Stmt)(f:Addr)(d:FuncData):Prop where
 a:PySem.W.findIn K (.ref C) x=some (some (.ref f))
 i:PySem.W.isFn K (.ref f)=true
 F:AW K x q st f d
structure ClA (K:Faa)(C:Addr)(x:Str):Prop where
 a:PySem.W.nsIn K mainGlobals x=some (some (.ref C))
 pg:PySem.W.plainGet K C Str.empty=true
 hd:PySem.W.hasDictIn K C=true
 po:PySem.W.plainOver K C=true
 sa:PySem.W.findIn K (.ref C) "__setattr__"=some (some (.builtin "object.__setattr__"))
 mi:PySem.W.makesIn K C=true
 kc:PySem.W.keepIn K (.ref C)=true
abbrev Bs (x q:Str)(st:Stmt)(ps:List Str):Prop := ∀(kV doc pm:Value) (an:Option Addr) (cdv ct:Value) (us:List Value),us.length=ps.length->bindArgs (PySem.W.fnOf x q (Kh st) (GZ st) (AK st) .none kV doc pm an cdv ct) ⟨us,[]⟩=pure (ps.zip us)
structure Ad where
 f_J:Addr
 d_J:FuncData
 f_K:Addr
 d_K:FuncData
 f_L:Addr
 d_L:FuncData
 f_I:Addr
 d_I:FuncData
 f_e:Addr
 d_e:FuncData
 f_o:Addr
 d_o:FuncData
 f_f:Addr
 d_f:FuncData
 f_h:Addr
 d_h:FuncData
 f_p:Addr
 d_p:FuncData
 f_q:Addr
 d_q:FuncData
 f_i:Addr
 d_i:FuncData
 f_r:Addr
 d_r:FuncData
 f_s:Addr
 d_s:FuncData
 f_t:Addr
 d_t:FuncData
 f_u:Addr
 d_u:FuncData
 f_j:Addr
 d_j:FuncData
 f_c:Addr
 d_c:FuncData
 f_v:Addr
 d_v:FuncData
 f_w:Addr
 d_w:FuncData
 f_x:Addr
 d_x:FuncData
 f_a:Addr
 d_a:FuncData
 f_b:Addr
 d_b:FuncData
 f_y:Addr
 d_y:FuncData
 f_z:Addr
 d_z:FuncData
 f_A:Addr
 d_A:FuncData
 f_k:Addr
 d_k:FuncData
 f_l:Addr
 d_l:FuncData
 f_B:Addr
 d_B:FuncData
 f_C:Addr
 d_C:FuncData
 f_D:Addr
 d_D:FuncData
 f_E:Addr
 d_E:FuncData
 f_g:Addr
 d_g:FuncData
 f_F:Addr
 d_F:FuncData
 f_m:Addr
 d_m:FuncData
 f_G:Addr
 d_G:FuncData
 f_n:Addr
 d_n:FuncData
 f_d:Addr
 d_d:FuncData
 f_H:Addr
 d_H:FuncData
 c_Number:Addr
 c_Deed:Addr
 c_Program:Addr
 c_FurrowError:Addr
 c_NoValues:Addr
structure Tx (K:Faa)(mg:Str->Option Value)(a:Ad):Prop where
 F_J:AW K "__init__" "NoValues.__init__" LP a.f_J a.d_J
 b_J:AY K a.d_J ["self","ring"] []
 F_K:AW K "__init__" "Number.__init__" Ln a.f_K a.d_K
 b_K:AY K a.d_K ["self","n"] []
 F_L:AW K "__init__" "Deed.__init__" M3 a.f_L a.d_L
 b_L:AY K a.d_L ["self","names","lows","highs","table","spots","term","path"] []
 F_I:AW K "__init__" "Program.__init__" Lz a.f_I a.d_I
 b_I:AY K a.d_I ["self","size","deeds"] []
 F_e:AW K "deeds_within" "deeds_within" M9 a.f_e a.d_e
 b_e:AY K a.d_e ["items","path","cuts"] []
 m_e:mg "deeds_within"=some (.ref a.f_e)
 F_o:AW K "sweeps_of" "sweeps_of" LX a.f_o a.d_o
 b_o:AY K a.d_o ["plan"] []
 m_o:mg "sweeps_of"=some (.ref a.f_o)
 F_f:AW K "sweeps_within" "sweeps_within" Mw a.f_f a.d_f
 b_f:AY K a.d_f ["items","path"] []
 m_f:mg "sweeps_within"=some (.ref a.f_f)
 F_h:AW K "settled" "settled" Ko a.f_h a.d_h
 b_h:AY K a.d_h ["count","bonds"] []
 m_h:mg "settled"=some (.ref a.f_h)
 F_p:AW K "lowered_in_a_round" "lowered_in_a_round" MU a.f_p a.d_p
 b_p:AY K a.d_p ["bonds","values","lowered_by"] []
 m_p:mg "lowered_in_a_round"=some (.ref a.f_p)
 F_q:AW K "ring_behind" "ring_behind" LQ a.f_q a.d_q
 b_q:AY K a.d_q ["count","bonds","lowered_by","lowered"] []
 m_q:mg "ring_behind"=some (.ref a.f_q)
 F_i:AW K "most" "most" Ke a.f_i a.d_i
 b_i:AY K a.d_i ["count","bonds","x","y"] []
 m_i:mg "most"=some (.ref a.f_i)
 F_r:AW K "shortest_chain" "shortest_chain" Mq a.f_r a.d_r
 b_r:AY K a.d_r ["count","bonds","x","y"] []
 m_r:mg "shortest_chain"=some (.ref a.f_r)
 F_s:AW K "chains_to" "chains_to" Mc a.f_s a.d_s
 b_s:AY K a.d_s ["count","bonds","y"] []
 m_s:mg "chains_to"=some (.ref a.f_s)
 F_t:AW K "shortened_in_a_round" "shortened_in_a_round" MF a.f_t a.d_t
 b_t:AY K a.d_t ["bonds","lengths","reached_by"] []
 m_t:mg "shortened_in_a_round"=some (.ref a.f_t)
 F_u:AW K "loop_bonds" "loop_bonds" MO a.f_u a.d_u
 b_u:AY K a.d_u ["deed","first"] []
 m_u:mg "loop_bonds"=some (.ref a.f_u)
 F_j:AW K "unknown_of" "unknown_of" Mn a.f_j a.d_j
 b_j:AY K a.d_j ["spot","names","first"] []
 m_j:mg "unknown_of"=some (.ref a.f_j)
 F_c:AW K "ends" "ends" Kv a.f_c a.d_c
 b_c:AY K a.d_c ["program","plan"] []
 m_c:mg "ends"=some (.ref a.f_c)
 F_v:AW K "cut_paths" "cut_paths" KR a.f_v a.d_v
 b_v:AY K a.d_v ["plan"] []
 m_v:mg "cut_paths"=some (.ref a.f_v)
 F_w:AW K "ends_at" "ends_at" LI a.f_w a.d_w
 b_w:AY K a.d_w ["program","plan","path"] []
 m_w:mg "ends_at"=some (.ref a.f_w)
 F_x:AW K "end_times" "end_times" Mb a.f_x a.d_x
 b_x:AY K a.d_x ["deed","pair"] []
 m_x:mg "end_times"=some (.ref a.f_x)
 F_a:AW K "_law_at" "_law_at" MZ a.f_a a.d_a
 b_a:AY K a.d_a ["_law_script","_law_k"] []
 m_a:mg "_law_at"=some (.ref a.f_a)
 F_b:AW K "_law_digits" "_law_digits" LA a.f_b a.d_b
 b_b:AY K a.d_b ["_law_cell","_law_sizes"] []
 m_b:mg "_law_digits"=some (.ref a.f_b)
 F_y:AW K "_law_count" "_law_count" LS a.f_y a.d_y
 b_y:AY K a.d_y ["_law_cell"] []
 m_y:mg "_law_count"=some (.ref a.f_y)
 F_z:AW K "_law_loop" "_law_loop" K6 a.f_z a.d_z
 b_z:AY K a.d_z ["_law_cell","_law_loops"] []
 m_z:mg "_law_loop"=some (.ref a.f_z)
 F_A:AW K "_law_deeds" "_law_deeds" MM a.f_A a.d_A
 b_A:AY K a.d_A ["_law_script","_law_first","_law_count_here"] []
 m_A:mg "_law_deeds"=some (.ref a.f_A)
 F_k:AW K "_law_told" "_law_told" MY a.f_k a.d_k
 b_k:AY K a.d_k ["_law_spot","_law_scale","_law_base"] []
 m_k:mg "_law_told"=some (.ref a.f_k)
 F_l:AW K "_law_told_deeds" "_law_told_deeds" GU a.f_l a.d_l
 b_l:AY K a.d_l ["_law_deeds_here","_law_scale","_law_base"] []
 m_l:mg "_law_told_deeds"=some (.ref a.f_l)
 F_B:AW K "_law_values" "_law_values" Mh a.f_B a.d_B
 b_B:AY K a.d_B ["_law_loops"] []
 m_B:mg "_law_values"=some (.ref a.f_B)
 F_C:AW K "_law_sweeps" "_law_sweeps" MK a.f_C a.d_C
 b_C:AY K a.d_C ["_law_script","_law_first","_law_depth","_law_old","_law_ways"] []
 m_C:mg "_law_sweeps"=some (.ref a.f_C)
 F_D:AW K "_law_places" "_law_places" LL a.f_D a.d_D
 b_D:AY K a.d_D ["_law_script","_law_first","_law_sweeps_here","_law_loops","_law_far"] []
 m_D:mg "_law_places"=some (.ref a.f_D)
 F_E:AW K "_law_leaves" "_law_leaves" Jp a.f_E a.d_E
 b_E:AY K a.d_E ["_law_script","_law_first","_law_depths","_law_ways","_law_far"] []
 m_E:mg "_law_leaves"=some (.ref a.f_E)
 F_g:AW K "_law_items" "_law_items" M7 a.f_g a.d_g
 b_g:AY K a.d_g ["_law_leaves_here","_law_level"] []
 m_g:mg "_law_items"=some (.ref a.f_g)
 F_F:AW K "_law_keys" "_law_keys" JP a.f_F a.d_F
 b_F:AY K a.d_F ["_law_leaves_here"] []
 m_F:mg "_law_keys"=some (.ref a.f_F)
 F_m:AW K "_law_limits" "_law_limits" JX a.f_m a.d_m
 b_m:AY K a.d_m ["_law_deeds_here","_law_leaves_here","_law_keys_here","_law_scale","_law_base"] []
 m_m:mg "_law_limits"=some (.ref a.f_m)
 F_G:AW K "_law_frame" "_law_frame" Mi a.f_G a.d_G
 b_G:AY K a.d_G ["_law_script","_law_first"] []
 m_G:mg "_law_frame"=some (.ref a.f_G)
 F_n:AW K "_law_whole" "_law_whole" Ma a.f_n a.d_n
 b_n:AY K a.d_n ["_law_found"] []
 m_n:mg "_law_whole"=some (.ref a.f_n)
 F_d:AW K "_law_meet" "_law_meet" MV a.f_d a.d_d
 b_d:AY K a.d_d ["_law_found","_law_limits_here"] []
 m_d:mg "_law_meet"=some (.ref a.f_d)
 F_H:AW K "law" "law" KH a.f_H a.d_H
 b_H:AY K a.d_H ["_law_script"] []
 m_H:mg "law"=some (.ref a.f_H)
 cl_Number:Fy K a.c_Number
 mc_Number:mg "Number"=some (.ref a.c_Number)
 mk_Number:Mk K a.c_Number a.f_K
 n_Number_n:Di K a.c_Number "n"
 cl_Deed:Fy K a.c_Deed
 mc_Deed:mg "Deed"=some (.ref a.c_Deed)
 mk_Deed:Mk K a.c_Deed a.f_L
 n_Deed_names:Di K a.c_Deed "names"
 n_Deed_lows:Di K a.c_Deed "lows"
 n_Deed_highs:Di K a.c_Deed "highs"
 n_Deed_table:Di K a.c_Deed "table"
 n_Deed_spots:Di K a.c_Deed "spots"
 n_Deed_term:Di K a.c_Deed "term"
 n_Deed_path:Di K a.c_Deed "path"
 cl_Program:Fy K a.c_Program
 mc_Program:mg "Program"=some (.ref a.c_Program)
 mk_Program:Mk K a.c_Program a.f_I
 n_Program_size:Di K a.c_Program "size"
 n_Program_deeds:Di K a.c_Program "deeds"
 mc_FurrowError:mg "FurrowError"=some (.ref a.c_FurrowError)
 xi_FurrowError:XI K a.c_FurrowError
 ct_FurrowError:∃N,∀h,K.In h->EX.ClsT h a.c_FurrowError N (([]:List Addr).map Value.ref++EX.bmVE)
 xm_FurrowError:VL K a.c_FurrowError
 mc_NoValues:mg "NoValues"=some (.ref a.c_NoValues)
 xi_NoValues:XI K a.c_NoValues
 ct_NoValues:∃N,∀h,K.In h->EX.ClsT h a.c_NoValues N (([a.c_FurrowError]:List Addr).map Value.ref++EX.bmVE)
 xm_NoValues:S7 K a.c_NoValues a.f_J
 n_NoValues_ring:Di K a.c_NoValues "ring"
 xnd:([a.c_FurrowError,a.c_NoValues]:List Addr).Nodup
 xb:XB K a.c_FurrowError
 z_bool:mg "bool"=none
 z_enumerate:mg "enumerate"=none
 z_int:mg "int"=none
 z_isinstance:mg "isinstance"=none
 z_len:mg "len"=none
 z_list:mg "list"=none
 z_max:mg "max"=none
 z_min:mg "min"=none
 z_range:mg "range"=none
 z_sum:mg "sum"=none
 z_tuple:mg "tuple"=none
 z_zip:mg "zip"=none
def GC (a:Ad):Cs:=⟨a.c_Number,0,0,0⟩
section
variable {P:Program}{w:World}{K:Faa}{mg:Str->Option Value}{base:Heap}{a:Ad}
theorem Zo (T:Tx K mg a):AU P w K mg base Be 1 a.f_K a.d_K ["self","n"] (aU a.c_Number):=by
 refine T.F_K.ok W3 (fun vs H Q E h=>?_) (fun cdv A outer s H vs Q E hr h=>?_)
 .obtain⟨_,_,_,rfl,_⟩:=h;rfl
 obtain⟨x,dx,n,rfl,hx,q⟩:=h
 refine⟨_,(Ak (FB (pw 0) (pw 1) rfl)),?_⟩
 exact⟨x,_,dx,_,rfl,hx,T.cl_Number,T.n_Number_n,(by show 0<1000;decide),q _ (fun b o e hb=>by rw[Af hb];exact e) ⟨dx,A6⟩⟩
theorem cE (T:Tx K mg a):AU P w K mg base Be 1 a.f_L a.d_L ["self","names","lows","highs","table","spots","term","path"] (Ys a.c_Deed):=by
 refine T.F_L.ok Ut (fun vs H Q E h=>?_) (fun cdv A outer s H vs Q E hr h=>?_)
 .obtain⟨_,_,_,_,_,_,_,_,_,rfl,_⟩:=h;rfl
 obtain⟨x,dx,v1,v2,v3,v4,v5,v6,v7,rfl,hx,q⟩:=h
 refine⟨_,(A7 (FB (pw 0) (pw 1) rfl)
  (A7 (FB (pw 0) (pw 2) rfl)
  (A7 (FB (pw 0) (pw 3) rfl)
  (A7 (FB (pw 0) (pw 4) rfl)
  (A7 (FB (pw 0) (pw 5) rfl)
  (A7 (FB (pw 0) (pw 6) rfl)
  (Ak (FB (pw 0) (pw 7) rfl)))))))),?_⟩
 refine⟨x,_,dx,_,rfl,hx,T.cl_Deed,T.n_Deed_names,(by show 0<1000;decide),?_⟩
 refine⟨x,_,dx,_,rfl,A6,T.cl_Deed,T.n_Deed_lows,(by show 1<1000;decide),?_⟩
 refine⟨x,_,dx,_,rfl,A6,T.cl_Deed,T.n_Deed_highs,(by show 2<1000;decide),?_⟩
 refine⟨x,_,dx,_,rfl,A6,T.cl_Deed,T.n_Deed_table,(by show 3<1000;decide),?_⟩
 refine⟨x,_,dx,_,rfl,A6,T.cl_Deed,T.n_Deed_spots,(by show 4<1000;decide),?_⟩
 refine⟨x,_,dx,_,rfl,A6,T.cl_Deed,T.n_Deed_term,(by show 5<1000;decide),?_⟩
 refine⟨x,_,dx,_,rfl,A6,T.cl_Deed,T.n_Deed_path,(by show 6<1000;decide),?_⟩
 exact q _ (fun b o e hb=>by
   repeat rw[Af hb]
   exact e) ⟨dx,A6⟩
theorem Vn (T:Tx K mg a):AU P w K mg base Be 1 a.f_I a.d_I ["self","size","deeds"] (YH K a.c_Program):=by
 refine T.F_I.ok XF (fun vs H Q E h=>?_) (fun cdv A outer s H vs Q E hr h=>?_)
 .obtain⟨_,_,_,_,_,rfl,_⟩:=h;rfl
 obtain⟨x,dx,sz,p,ys,rfl,hx,hp,q⟩:=h
 refine⟨_,(A7 (FB (pw 0) (pw 1) rfl)
  (Ak (FB (pw 0) (Dj OT (by rfl) T.z_list Jc (A0 (pw 2) A4)) rfl))),?_⟩
 refine⟨x,_,dx,_,rfl,hx,T.cl_Program,T.n_Program_size,(by show 0<1000;decide),?_⟩
 refine⟨p,ys,rfl,.inl (A5.updI hp hx),fun l hl=>?_⟩
 have nxl:x≠l:=fun e=>by rw[e,A6]at hl;cases hl
 have hlH:H l=none:=by rw[Af (Ne.symm nxl)]at hl;exact hl
 refine⟨x,_,dx,_,rfl,(by rw[Af nxl];exact A6),T.cl_Program,T.n_Program_deeds,(by show 1<1000;decide),?_⟩
 refine q l _ hlH (fun b o e hb=>?_) ?_ ⟨dx,A6⟩
 .rw[Af hb,Af (AI e hlH),Af hb]
  exact e
 .rw[Af (Ne.symm nxl)]
  exact A6
theorem SU (T:Tx K mg a):∀n:Nat,AU P w K mg base Be (n+2) a.f_e a.d_e ["items","path","cuts"] (RV n)
 |
  0=>by
  have no:∀vs H Q E,¬RV 0 vs H Q E:=fun vs H Q E h=>by
   obtain⟨it,pa,cu,f,P',cs,_,_,_,_,hd,_⟩:=h
   have:=LO f
   lia
  exact⟨fun vs H Q E h=>absurd h (no vs H Q E),fun A outer s H args us vs Q E _ _ _ _ h=>absurd h (no vs H Q E)⟩
 |
  n+1=>by
  have G_e:=SU T n
  refine T.F_e.ok Kl (fun vs H Q E h=>?_) (fun cdv A outer s H vs Q E hr h=>?_)
  .obtain⟨_,_,_,_,_,_,rfl,_⟩:=h;rfl
  obtain⟨it,pa,cu,f,PP,cs,rfl,⟨xs,hit,hf⟩,hpa,hcu,hdep,pl,cl,hlen,q⟩:=h
  refine⟨_,(A7 (Ai (i:=3) Kl.nd rfl (.inl rfl) (BA A4))
  (A7 (CD PassesOwn.never rfl (T6 (by rfl) T.z_enumerate (A0 (pw 0) A4)) (De rfl (AH (AB (i:=4) Kl.nd rfl (.inl rfl)) (AH (AB (i:=5) Kl.nd rfl (.inl rfl)) Cy)))
  (A7 (Ai (i:=6) Kl.nd rfl (.inl rfl) (Aa Ja (pw 1) (Bq (A0 (pw 4) A4))))
  (Ak (Bi (AX Cc (Ag Ay (pw 5) A3 (fun _ _=>rfl)) Cj (AM _))
  (Ak (Ck (Cu Cr DK DL Dh (pw 3) (A0 (DA (Au (Ag Ay (pw 5) A3 (fun _ _=>rfl)) (Au (Ag Ay (pw 5) A3 (fun _ _=>rfl)) (Au (pw 6) (Au (pw 2) Co Cm) Cm) Fc) Fc)) A4))))
  (Ak (Ck (Cu Cr Tz TB OI (pw 3) (A0 (AJ G_e (hr.mono (by lia)) (by rfl) T.m_e T.F_e.kp T.b_e .nil AG (A0 (Ag Ay (pw 5) A3 (fun _ _=>rfl)) (A0 (pw 6) (A0 (Aa Ja (pw 2) (Bq (A0 (Ag Ay (pw 5) A3 (fun _ _=>rfl)) A4))) A4)))) A4))))))))
  (Ak (AR (pw 3))))),?_⟩
  refine⟨Ar rfl,fun fo hfo=>?_⟩
  have e1:=Ac hfo (.lst [])
  have hfo1:(upd H fo (.lst [])) fo=some (.lst []):=A6
  generalize upd H fo (.lst [])=H1 at e1 hfo1
  refine⟨it,rfl,⟨_,A9.of (e1 _ _ hit)⟩,?_⟩
  refine S5 (xs:=xs) (fun i σ' H'=>∃(g:Bj) (done:List Fo.En) (ys:List V) (o4 o5 o6:Option V),σ'=[some (.ref it),some (.ref pa),some (.ref cu),some (.ref fo),o4,o5,o6]/\A8 H H'/\Bw H (xs.drop i) g/\D0 g<=n+1/\H' fo=some (.lst ys)/\AE (Gw H') ys done/\done++Fo.deedsF g PP i=Fo.deedsF f PP 0) ⟨f,[],[],_,_,_,rfl,e1,hf,hdep,hfo1,.nil,rfl⟩ (fun i σ' H' _ pp=>by obtain⟨_,_,_,_,_,_,_,e,_⟩:=pp;exact A9.of (e _ _ hit)) (fun i x Tt σ' H' hx pp hT=>?_) (fun σ' H' pp=>?_)
  rotate_left
  .obtain⟨g,done,ys,o4,o5,o6,rfl,e,hg,_,hy,ay,hd⟩:=pp
   have hz:xs.drop xs.length=[]:=Nf (Ah _)
   rw[hz]at hg
   have gn:g = .nil:=by
    cases g with
    |nil=>rfl
    |leaf k pl r=>obtain⟨_,_,_,z,_⟩:=hg;cases z
    |node c w s r=>obtain⟨_,_,_,_,z,_⟩:=hg;cases z
   subst gn
   have:done=Fo.deedsF f PP 0:=by rw[←hd];show done=done++[];rw[FR]
   rw[this]at ay
   exact q fo ys _ e hy ay
  refine An fun _ zA=>?_
  obtain⟨g,done,ys,o4,o5,o6,rfl,e,hg,gdep,hy,ay,hd⟩:=pp
  obtain⟨hi,ex⟩:=As.mp hx
  refine zA ?_
  rw[JD hi,ex]at hg
  have tot:=congrArg List.length hd
  rw[AF]at tot
  have yl:=ay.1
  have sT:=Ac hT (.tup [V.int (i:Int),x])
  have e2:=e.trans sT
  have hy2:=sT _ _ hy
  have ay2:=ay.mono fun y v z=>z.over sT
  refine⟨Tt,_,rfl,A9.of A6,rfl,rfl,?_⟩
  generalize upd H' Tt (.tup [V.int (i:Int),x])=H2 at e2 hy2 ay2
  refine⟨Ar rfl,fun t1 ht1=>?_⟩
  have s3:=Ac ht1 (.tup [V.int (i:Int)])
  refine⟨pa,t1,_,[V.int (i:Int)],rfl,rfl,s3 _ _ (e2 _ _ hpa),A6,BD (by rw[Al,Bf];lia),fun he H3 e3 hhe=>?_⟩
  have hhe:H3 he=some (.tup ((PP++[(i:Int)]).map V.int)):=by rw[B3];exact hhe
  have e23:=s3.trans e3
  have eH3:=e2.trans e23
  have hy3:=e23 _ _ hy2
  have ay3:=ay2.mono fun y v z=>z.over e23
  dsimp only[Aq]
  clear s3 e3 sT
  cases g with
  |nil=>cases hg
  |
   leaf k pl rest=>
   refine An fun _ zB=>?_
   obtain⟨t,pp,zs,z,ht,hpr,hrest⟩:=hg
   refine zB ?_
   cases z
   change D0 rest<=n+1 at gdep
   change done++(⟨k,pl,PP++[(i:Int)]⟩::Fo.deedsF rest PP (i+1))=Fo.deedsF f PP 0 at hd
   have tot':done.length+(Fo.deedsF rest PP (i+1)).length+1=(Fo.deedsF f PP 0).length:=by rw[←hd,AF,B9];lia
   refine⟨t,_,0,_,rfl,rfl,A9.of (eH3 _ _ ht),rfl,rfl,_,rfl,BR (v:=true) (Da rfl) (Ce ?_)⟩
   refine⟨.inl ⟨rfl,_,A5.of hy3⟩,t,_,1,_,rfl,rfl,A9.of (eH3 _ _ ht),rfl,t,_,2,_,rfl,rfl,A9.of (eH3 _ _ ht),rfl,Ar rfl,fun r hr=>?_⟩
   have s4:=Ac hr (.tup [V.int k,V.ref pp,V.ref he,V.ref cu])
   have nr:r≠fo:=fun z=>by rw[z,hy3]at hr;cases hr
   refine⟨fo,_,_,rfl,rfl,s4 _ _ hy3,CF (by lia),?_⟩
   have tk:=(A8.tk s4).trans (TK.upd (o:=.lst (ys++[V.ref r])) (s4 _ _ hy3))
   refine⟨rest,done++[⟨k,pl,PP++[(i:Int)]⟩],_,_,_,_,rfl,fun a o ha=>by rw[Af (AI ha hfo)];exact s4 _ _ (eH3 _ _ ha),hrest,gdep,A6,?_,by rw[DH];exact hd⟩
   exact(ay3.mono fun y v z=>z.tk tk).snoc ⟨r,pp,he,cu,rfl,by rw[Af nr];exact A6,(hpr.over eH3).tk tk,tk _ _ hhe⟩
  |
   node c w sub rest=>
   refine An fun _ zC=>?_
   obtain⟨t,pp,zs,us,z,ht,hpp,hsub,hrest⟩:=hg
   refine zC ?_
   cases z
   unfold D0 at gdep
   change done++(Fo.deedsF sub (PP++[(i:Int)]) 0++Fo.deedsF rest PP (i+1))=Fo.deedsF f PP 0 at hd
   have tot':done.length+((Fo.deedsF sub (PP++[(i:Int)]) 0).length+(Fo.deedsF rest PP (i+1)).length)=(Fo.deedsF f PP 0).length:=by rw[←hd,AF,AF]
   refine⟨t,_,0,_,rfl,rfl,A9.of (eH3 _ _ ht),rfl,rfl,_,rfl,BR (v:=false) (dS (by decide +kernel)) (BW ?_)⟩
   refine⟨.inl ⟨rfl,_,A5.of hy3⟩,t,_,3,_,rfl,rfl,A9.of (eH3 _ _ ht),rfl,t,_,1,_,rfl,rfl,A9.of (eH3 _ _ ht),rfl,Ar rfl,fun t2 ht2=>?_⟩
   have s4:=Ac ht2 (.tup [V.bl c])
   refine⟨cu,t2,cs,[V.bl c],rfl,rfl,s4 _ _ (eH3 _ _ hcu),A6,BD (by rw[Bf];lia),fun cu2 H4 e4 hcu2=>?_⟩
   have e34:=s4.trans e4
   have eH4:=eH3.trans e34
   refine⟨pp,he,cu2,sub,PP++[(i:Int)],cs++[V.bl c],rfl,⟨zs,eH4 _ _ hpp,Bw.over eH4 hsub⟩,e34 _ _ hhe,hcu2,by lia,by rw[AF,Bf];lia,by rw[AF,Bf];lia,by lia,fun r ys2 H5 e5 hr5 ay5=>?_⟩
   have yl5:=ay5.1
   have hy5:=(e34.trans e5) _ _ hy3
   refine⟨fo,r,_,_,rfl,rfl,hy5,hr5,BD (by lia),?_⟩
   have tk:=TK.upd (o:=.lst (ys++ys2)) hy5
   refine⟨rest,done++Fo.deedsF sub (PP++[(i:Int)]) 0,_,_,_,_,rfl,fun a o ha=>by rw[Af (AI ha hfo)];exact e5 _ _ (eH4 _ _ ha),hrest,by lia,A6,?_,by rw[DH];exact hd⟩
   exact((ay3.mono fun y v z=>(z.over (e34.trans e5)).tk tk)).app (ay5.mono fun y v z=>z.tk tk)
theorem RA (T:Tx K mg a):∀n:Nat,AU P w K mg base Be (n+2) a.f_f a.d_f ["items","path"] (RY n)
 |
  0=>by
  have no:∀vs H Q E,¬RY 0 vs H Q E:=fun vs H Q E h=>by
   obtain⟨it,pa,f,P',_,_,_,hd,_⟩:=h
   have:=LO f
   lia
  exact⟨fun vs H Q E h=>absurd h (no vs H Q E),fun A outer s H args us vs Q E _ _ _ _ h=>absurd h (no vs H Q E)⟩
 |
  n+1=>by
  have G_f:=RA T n
  refine T.F_f.ok Km (fun vs H Q E h=>?_) (fun cdv A outer s H vs Q E hr h=>?_)
  .obtain⟨_,_,_,_,rfl,_⟩:=h;rfl
  obtain⟨it,pa,f,PP,rfl,⟨xs,hit,hf⟩,hpa,hdep,pl,hlen,q⟩:=h
  refine⟨_,(A7 (Ai (i:=2) Km.nd rfl (.inl rfl) (BA A4))
  (A7 (CD PassesOwn.never rfl (T6 (by rfl) T.z_enumerate (A0 (pw 0) A4)) (De rfl (AH (AB (i:=3) Km.nd rfl (.inl rfl)) (AH (AB (i:=4) Km.nd rfl (.inl rfl)) Cy)))
  (Ak (Bi (AX Cc (Ag Ay (pw 4) A3 (fun _ _=>rfl)) Cj (AM _))
  (A7 (Ai (i:=5) Km.nd rfl (.inl rfl) (Aa Ja (pw 1) (Bq (A0 (pw 3) A4))))
  (A7 (Ck (Cu Cr DK DL Dh (pw 2) (A0 (DA (Au (pw 5) (Au (Ag Ay (pw 4) A3 (fun _ _=>rfl)) (Au (Ag Ay (pw 4) A3 (fun _ _=>rfl)) Co Fc) Fc) Cm)) A4)))
  (Ak (Ck (Cu Cr Tz TB OI (pw 2) (A0 (AJ G_f (hr.mono (by lia)) (by rfl) T.m_f T.F_f.kp T.b_f .nil AG (A0 (Ag Ay (pw 4) A3 (fun _ _=>rfl)) (A0 (pw 5) A4))) A4))))))
  BE)))
  (Ak (AR (pw 2))))),?_⟩
  refine⟨Ar rfl,fun fo hfo=>?_⟩
  have e1:=Ac hfo (.lst [])
  have hfo1:(upd H fo (.lst [])) fo=some (.lst []):=A6
  generalize upd H fo (.lst [])=H1 at e1 hfo1
  refine⟨it,rfl,⟨_,A9.of (e1 _ _ hit)⟩,?_⟩
  refine S5 (xs:=xs) (fun i σ' H'=>∃(g:Bj) (done:List (Fo.Sw Str)) (ys:List V) (o4 o5 o6:Option V),σ'=[some (.ref it),some (.ref pa),some (.ref fo),o4,o5,o6]/\A8 H H'/\Bw H (xs.drop i) g/\D0 g<=n+1/\H' fo=some (.lst ys)/\AE (FE H') ys done/\done++Fo.swF g PP i=Fo.swF f PP 0) ⟨f,[],[],_,_,_,rfl,e1,hf,hdep,hfo1,.nil,rfl⟩ (fun i σ' H' _ pp=>by obtain⟨_,_,_,_,_,_,_,e,_⟩:=pp;exact A9.of (e _ _ hit)) (fun i x Tt σ' H' hx pp hT=>?_) (fun σ' H' pp=>?_)
  rotate_left
  .obtain⟨g,done,ys,o4,o5,o6,rfl,e,hg,_,hy,ay,hd⟩:=pp
   have hz:xs.drop xs.length=[]:=Nf (Ah _)
   rw[hz]at hg
   have gn:g = .nil:=by
    cases g with
    |nil=>rfl
    |leaf k pl r=>obtain⟨_,_,_,z,_⟩:=hg;cases z
    |node c w s r=>obtain⟨_,_,_,_,z,_⟩:=hg;cases z
   subst gn
   have:done=Fo.swF f PP 0:=by rw[←hd];show done=done++[];rw[FR]
   rw[this]at ay
   exact q fo ys _ e hfo hy ay
  refine An fun _ zA=>?_
  obtain⟨g,done,ys,o4,o5,o6,rfl,e,hg,gdep,hy,ay,hd⟩:=pp
  obtain⟨hi,ex⟩:=As.mp hx
  refine zA ?_
  rw[JD hi,ex]at hg
  have tot:=congrArg List.length hd
  rw[AF]at tot
  have yl:=ay.1
  have sT:=Ac hT (.tup [V.int (i:Int),x])
  have e2:=e.trans sT
  have hy2:=sT _ _ hy
  have ay2:=ay.mono fun y v z=>z.over sT
  refine⟨Tt,_,rfl,A9.of A6,rfl,rfl,?_⟩
  generalize upd H' Tt (.tup [V.int (i:Int),x])=H2 at e2 hy2 ay2
  cases g with
  |nil=>cases hg
  |
   leaf k pl rest=>
   refine An fun _ zB=>?_
   obtain⟨t,pp,zs,z,ht,hpr,hrest⟩:=hg
   refine zB ?_
   cases z
   change D0 rest<=n+1 at gdep
   change done++Fo.swF rest PP (i+1)=Fo.swF f PP 0 at hd
   refine⟨t,_,0,_,rfl,rfl,A9.of (e2 _ _ ht),rfl,rfl,_,rfl,BR (v:=false) (dS (by decide +kernel)) (BW ?_)⟩
   exact⟨rest,done,ys,_,_,_,rfl,e2,hrest,gdep,hy2,ay2,hd⟩
  |
   node c w sub rest=>
   refine An fun _ zC=>?_
   obtain⟨t,pp,zs,us,z,ht,hpp,hsub,hrest⟩:=hg
   refine zC ?_
   cases z
   unfold D0 at gdep
   change done++((PP++[(i:Int)],c,w)::(Fo.swF sub (PP++[(i:Int)]) 0++Fo.swF rest PP (i+1)))=Fo.swF f PP 0 at hd
   have tot':done.length+(((Fo.swF sub (PP++[(i:Int)]) 0).length+(Fo.swF rest PP (i+1)).length)+1)=(Fo.swF f PP 0).length:=by rw[←hd,AF,B9,AF]
   refine⟨t,_,0,_,rfl,rfl,A9.of (e2 _ _ ht),rfl,rfl,_,rfl,BR (v:=true) (Da rfl) (Ce ?_)⟩
   refine⟨Ar rfl,fun t1 ht1=>?_⟩
   have s3:=Ac ht1 (.tup [V.int (i:Int)])
   refine⟨pa,t1,_,[V.int (i:Int)],rfl,rfl,s3 _ _ (e2 _ _ hpa),A6,BD (by rw[Al,Bf];lia),fun he H3 e3 hhe=>?_⟩
   have hhe:H3 he=some (.tup ((PP++[(i:Int)]).map V.int)):=by rw[B3];exact hhe
   have e23:=s3.trans e3
   have eH3:=e2.trans e23
   have hy3:=e23 _ _ hy2
   have ay3:=ay2.mono fun y v z=>z.over e23
   dsimp only[Aq]
   clear s3 e3 sT
   refine⟨.inl ⟨rfl,_,A5.of hy3⟩,t,_,1,_,rfl,rfl,A9.of (eH3 _ _ ht),rfl,t,_,2,_,rfl,rfl,A9.of (eH3 _ _ ht),rfl,Ar rfl,fun r hr=>?_⟩
   have s4:=Ac hr (.tup [V.ref he,V.bl c,V.str w])
   have nr:r≠fo:=fun z=>by rw[z,hy3]at hr;cases hr
   refine⟨fo,_,_,rfl,rfl,s4 _ _ hy3,CF (by lia),?_⟩
   have tk:=(A8.tk s4).trans (TK.upd (o:=.lst (ys++[V.ref r])) (s4 _ _ hy3))
   have hhe4:=tk _ _ hhe
   have hfo4:(upd (upd H3 r (.tup [V.ref he,V.bl c,V.str w])) fo (.lst (ys++[V.ref r]))) fo=some (.lst (ys++[V.ref r])):=A6
   have eH4:A8 H (upd (upd H3 r (.tup [V.ref he,V.bl c,V.str w])) fo (.lst (ys++[V.ref r]))):=fun a o ha=>by rw[Af (AI ha hfo)];exact s4 _ _ (eH3 _ _ ha)
   have ay4:AE (FE (upd (upd H3 r (.tup [V.ref he,V.bl c,V.str w])) fo (.lst (ys++[V.ref r])))) (ys++[V.ref r]) (done++[(PP++[(i:Int)],c,w)]):=(ay3.mono fun y v z=>z.tk tk).snoc ⟨r,he,rfl,by rw[Af nr];exact A6,hhe4⟩
   generalize upd (upd H3 r (.tup [V.ref he,V.bl c,V.str w])) fo (.lst (ys++[V.ref r]))=H4 at tk hhe4 hfo4 eH4 ay4
   refine⟨.inl ⟨rfl,_,A5.of hfo4⟩,t,_,3,_,rfl,rfl,A9.of (eH4 _ _ ht),rfl,?_⟩
   refine⟨pp,he,sub,PP++[(i:Int)],rfl,⟨zs,eH4 _ _ hpp,Bw.over eH4 hsub⟩,hhe4,by lia,by rw[AF,Bf];lia,by lia,fun rr ys2 H5 e5 _ hr5 ay5=>?_⟩
   have yl5:=ay5.1
   have hy5:=e5 _ _ hfo4
   refine⟨fo,rr,_,_,rfl,rfl,hy5,hr5,BD (by rw[AF,Bf];lia),?_⟩
   have tk:=TK.upd (o:=.lst ((ys++[V.ref r])++ys2)) hy5
   refine⟨rest,(done++[(PP++[(i:Int)],c,w)])++Fo.swF sub (PP++[(i:Int)]) 0,_,_,_,_,rfl,fun a o ha=>by rw[Af (AI ha hfo)];exact e5 _ _ (eH4 _ _ ha),hrest,by lia,A6,?_,by rw[←hd];simp⟩
   exact((ay4.mono fun y v z=>(z.over e5).tk tk)).app (ay5.mono fun y v z=>z.tk tk)
theorem aQ (T:Tx K mg a):AU P w K mg base Be 10 a.f_o a.d_o ["plan"] XA:=by
 have G_f :=@RA P w K mg base a T 7
 refine T.F_o.ok Xm (fun vs H Q E h=>?_) (fun cdv A outer s H vs Q E hr h=>?_)
 .obtain⟨_,_,rfl,_⟩:=h;rfl
 obtain⟨p,f,rfl,hf,hdep,hlen,q⟩:=h
 refine⟨_,(Ak (AR (AJ G_f (hr.mono (by lia)) (by rfl) T.m_f T.F_f.kp T.b_f .nil AG (A0 (pw 0) (A0 (Bq A4) A4))))),?_⟩
 refine⟨Ar rfl,fun t1 ht1=>?_⟩
 have s1:=Ac ht1 (.tup [])
 exact⟨p,t1,f,[],rfl,hf.over s1,A6,hdep,by decide,hlen,fun l ys H3 e3 hn hl ay=>q l ys H3 (s1.trans e3) (s1.free hn) hl ay⟩
theorem UF (T:Tx K mg a):AU P w K mg base Be 1 a.f_p a.d_p ["bonds","values","lowered_by"] YR:=by
 refine T.F_p.ok IJ (fun vs H Q E h=>?_) (fun cdv A outer s H vs Q E hr h=>?_)
 .obtain⟨_,_,_,_,_,_,rfl,_⟩:=h;rfl
 obtain⟨b,v,l,B,n,s,rfl,nv,nl,nvl,hB,hw,hv,hl,q⟩:=h
 refine⟨_,(A7 (Ai (i:=3) IJ.nd rfl (.inl rfl) F3)
  (A7 (CD PassesOwn.never rfl (JW (by rfl) T.z_enumerate (A0 (pw 0) A4)) (De rfl (AH (AB (i:=4) IJ.nd rfl (.inl rfl)) (AH (AB (i:=5) IJ.nd rfl (.inl rfl)) Cy)))
  (A7 (Ai (i:=6) IJ.nd rfl (.inl rfl) (Aa (Av AL) (Ag B4 (pw 1) (Ag Ay (pw 5) A3 (fun _ _=>rfl)) (fun _ _=>rfl)) (Ag Ay (pw 5) A3 (fun _ _=>rfl))))
  (Ak (Bi (AX (Av FL) (Ag B4 (pw 1) (Ag Ay (pw 5) A3 (fun _ _=>rfl)) (fun _ _=>rfl)) (pw 6) (AM _))
  (A7 (Ee (pw 6) (K0 (pw 1) (Ag Ay (pw 5) A3 (fun _ _=>rfl)) KO))
  (A7 (Ee (pw 4) (K0 (pw 2) (Ag Ay (pw 5) A3 (fun _ _=>rfl)) KO))
  (Ak (Ai (i:=3) IJ.nd rfl (.inl rfl) (Ag Ay (pw 5) A3 (fun _ _=>rfl))))))
  BE))))
  (Ak (AR (pw 3))))),?_⟩
 refine An fun _ zA=>?_
 obtain⟨vs,hb,hbs⟩:=hB
 refine zA ?_
 have hbl:=hbs.1
 refine⟨b,rfl,⟨_,A5.of hb⟩,?_⟩
 refine K8 (xs:=vs) (fun i σ' H'=>Jf H H' v l/\(∃o4 o5 o6,σ'=[some (.ref b),some (.ref v),some (.ref l),some (KP (rnd B i {s with low:=none}).low),o4,o5,o6])/\H' v=some (.lst (vl n (rnd B i {s with low:=none}).v))/\H' l=some (.lst (pl n (rnd B i {s with low:=none}).p))) ⟨fun a o e _ _=>e,⟨_,_,_,rfl⟩,hv,hl⟩ (fun i σ' H' _ p=>A5.of (p.1 _ _ hb nv nl)) (fun i x Tt σ' H' hx p hT=>?_) (fun σ' H' p=>?_)
 case refine_2=>
  refine An fun _ zB=>?_
  obtain⟨e,⟨o4,o5,o6,rfl⟩,h1,h2⟩:=p
  refine zB ?_
  rw[hbl]at h1 h2 ⊢
  exact q H' e h1 h2
 refine An fun _ zC=>?_
 obtain⟨e,⟨o4,o5,o6,rfl⟩,h1,h2⟩:=p
 have hi:i<B.length:=by have:=(As.mp hx).1;lia
 have eB:B[i]?=some B[i]:=AC hi
 obtain⟨t,rfl,ht⟩:=hbs.2 i x _ hx eB
 refine zC ?_
 have hW:=hw _ (Nc hi)
 have ht':=e _ _ ht (EZ ht hv (by intro z;cases z)) (EZ ht hl (by intro z;cases z))
 have st:rnd B (i+1) {s with low:=none}=II i B[i] (rnd B i {s with low:=none}):=by
  show(match B[i]? with|some b=>II i b (rnd B i {s with low:=none})|none=>rnd B i {s with low:=none})=_
  rw[eB]
 rw[st]
 generalize rnd B i {s with low:=none}=s0 at h1 h2 ⊢
 generalize B[i]=bb at ht' hW
 have sT:=Ac hT (.tup [V.int (i:Int),.ref t])
 have ht2:=sT _ _ ht'
 have h12:=sT _ _ h1
 have h22:=sT _ _ h2
 have e2:Jf H (upd H' Tt (.tup [V.int (i:Int),.ref t])) v l:=fun a o ha na nb=>sT _ _ (e a o ha na nb)
 refine⟨Tt,_,rfl,A9.of A6,rfl,rfl,?_⟩
 generalize upd H' Tt (.tup [V.int (i:Int),.ref t])=H2 at ht2 h12 h22 e2 ⊢
 refine⟨t,_,1,_,rfl,rfl,A9.of ht2,rfl,v,_,_,_,rfl,rfl,A5.of h12,NG hW.2,t,_,2,_,rfl,rfl,A9.of ht2,rfl,?_⟩
 dsimp only[Aq]
 refine⟨t,_,0,_,rfl,rfl,A9.of ht2,rfl,v,_,_,_,rfl,rfl,A5.of h12,NG hW.1,_,rfl,?_⟩
 unfold II
 refine BJ (fun c=>?_) (fun c=>?_)
 .have c:=dT c
  rw[Aj (by lia)]
  refine⟨t,_,0,_,rfl,rfl,A9.of ht2,rfl,v,_,_,_,rfl,rfl,h12,KQ (by rw[Ki];exact hW.1),?_⟩
  rw[af]
  have tv:t≠v:=EZ ht2 h12 (by intro z;cases z)
  have tl:t≠l:=EZ ht2 h22 (by intro z;cases z)
  refine⟨t,_,0,_,rfl,rfl,A9.of (by rw[Af tv];exact ht2),rfl,l,_,_,_,rfl,rfl,(by rw[Af (Ne.symm nvl)];exact h22),KQ (by rw[Q0];exact hW.1),?_⟩
  rw[Rw]
  refine ixT (by rw[Af tl,Af tv];exact ht2) rfl ?_
  refine⟨fun a o ha na nb=>?_,⟨_,_,_,rfl⟩,?_,A6⟩
  .rw[Af nb,Af na];exact e2 a o ha na nb
  .rw[Af nvl];exact A6
 .have c:=dF c
  rw[Ab (by lia)]
  exact⟨e2,⟨_,_,_,rfl⟩,h12,h22⟩
theorem aY (T:Tx K mg a):AU P w K mg base Be 1 a.f_q a.d_q ["count","bonds","lowered_by","lowered"] Zn:=by
 refine T.F_q.ok GT (fun vs H Q E h=>?_) (fun cdv A outer s H vs Q E hr h=>?_)
 .obtain⟨_,_,_,_,_,_,_,rfl,_⟩:=h;rfl
 obtain⟨n,b,l,B,s,x0,m,rfl,⟨bs,hb,hbs⟩,hBl,hn,hl,hlow,hR,hw,q⟩:=h
 refine⟨_,(A7 (Ai (i:=4) GT.nd rfl (.inl rfl) (pw 3))
  (A7 (CD PassesOwn.never rfl (Hu (by rfl) T.z_range (A0 (pw 0) A4)) (AB (i:=5) GT.nd rfl (.inl rfl))
  (Ak (Ai (i:=4) GT.nd rfl (.inl rfl) (Ag Ay (Ag B4 (pw 1) (Ag B4 (pw 2) (pw 4) (fun _ _=>rfl)) (fun _ _=>rfl)) A3 (fun _ _=>rfl)))))
  (A7 (Ai (i:=6) GT.nd rfl (.inl rfl) (BA (A0 (Ag B4 (pw 2) (pw 4) (fun _ _=>rfl)) A4)))
  (A7 (Ai (i:=7) GT.nd rfl (.inl rfl) (Ag Ay (Ag B4 (pw 1) (Ag B4 (pw 2) (pw 4) (fun _ _=>rfl)) (fun _ _=>rfl)) A3 (fun _ _=>rfl)))
  (A7 (Gp PassesOwn.never (AX Mt (pw 7) (pw 4) (AM _))
  (A7 (Ck (Cu Cr DK DL Dh (pw 6) (A0 (Ag B4 (pw 2) (pw 7) (fun _ _=>rfl)) A4)))
  (Ak (Ai (i:=7) GT.nd rfl (.inl rfl) (Ag Ay (Ag B4 (pw 1) (Ag B4 (pw 2) (pw 7) (fun _ _=>rfl)) (fun _ _=>rfl)) A3 (fun _ _=>rfl))))))
  (Ak (AR (pw 6)))))))),?_⟩
 have hm:=hR.pos
 have hm2:=hR.le
 refine⟨(n:Int),rfl,by lia,by lia,?_⟩
 refine K4 (lo:=0) (n:=n) (fun i σ' H'=>H'=H/\∃o5 o6 o7,σ'=[some (.int (n:Int)),some (.ref b),some (.ref l),some (.int (x0:Int)),some (.int (it B s.p i x0:Int)),o5,o6,o7]) ⟨rfl,_,_,_,rfl⟩ (fun i σ' H' hi p=>?_) (fun σ' H' p=>?_)
 .obtain⟨rfl,o5,o6,o7,rfl⟩:=p
  refine An fun _ zA=>?_
  obtain⟨j,bb,g1,g2,g3⟩:=hR.walk i hi
  obtain⟨t,c0,c1⟩:=hbs.get g2
  refine zA ?_
  have hz:=hR.lt i (by lia)
  have ha:Bh (pl n s.p) (it B s.p i x0:Int)=some (.int (j:Int)):=(JS hz).trans (by rw[g1];rfl)
  refine⟨l,_,_,_,rfl,rfl,A5.of hl,ha,b,_,_,_,rfl,rfl,A5.of hb,c0,t,_,1,_,rfl,rfl,A9.of c1,rfl,rfl,_,_,_,congrArg (fun v:Nat=>[some (V.int (n:Int)),some (.ref b),some (.ref l),some (.int (x0:Int)),some (.int (v:Int)),some (.int (0+(i:Int))),o6,o7]) (show bb.y=it B s.p (i+1) x0 by rw[Fp,DP g1 g2])⟩
 refine An fun _ zB=>?_
 obtain⟨rfl,o5,o6,o7,rfl⟩:=p
 refine zB ?_
 have he:=hR.lt n (Ah _)
 have hal:=hR.alive
 have hlt:∀k,it B s.p k (it B s.p n x0)<n:=fun k=>by
  obtain⟨i,bb,g1,g2,g3⟩:=hal k
  rw[←g3]
  exact(hw _ (AO g2)).1
 have heq:=hR.eq hlow
 have hback:=hR.back
 have hleast:=hR.least
 rw[heq]at q
 generalize it B s.p n x0=e at *
 refine An fun _ zC=>?_
 obtain⟨j,bb,g1,g2,g3⟩:=hal 0
 refine zC ?_
 change s.p e=some j at g1
 refine An fun _ zD=>?_
 obtain⟨t,c0,c1⟩:=hbs.get g2
 refine zD ?_
 have ha:Bh (pl n s.p) (e:Int)=some (.int (j:Int)):=(JS he).trans (by rw[g1];rfl)
 refine ixL hl ha ⟨Ar rfl,fun r hr=>?_⟩
 have s1:=Ac hr (.lst [V.int (j:Int)])
 refine⟨l,_,_,_,rfl,rfl,A5.of (s1 _ _ hl),ha,b,_,_,_,rfl,rfl,A5.of (s1 _ _ hb),c0,t,_,1,_,rfl,rfl,A9.of (s1 _ _ c1),rfl,?_⟩
 dsimp only[Aq]
 refine Ca (fun σ' H''=>∃o5 o7,σ'=[some (.int (n:Int)),some (.ref b),some (.ref l),some (.int (x0:Int)),some (.int (e:Int)),o5,some (.ref r),o7]/\A8 H' H''/\H'' r=some (.lst (By (C3 B s.p e m)))) (fun σ' H'' pp=>?_) (fun _ nx=>?_)
 .obtain⟨o5,o7,rfl,e1,hr1⟩:=pp
  exact q r H'' e1 hr hr1
 refine Gy (m-1) (fun i σ' H''=>∃o5,σ'=[some (.int (n:Int)),some (.ref b),some (.ref l),some (.int (x0:Int)),some (.int (e:Int)),o5,some (.ref r),some (.int (it B s.p (i+1) e:Int))]/\A8 H' H''/\H'' r=some (.lst (By (C3 B s.p e (i+1))))) ⟨o5,?_,s1,?_⟩ (fun i σ' H'' hi pp=>?_) (fun σ H Q Q' hq h=>?_)
 .rw[Fp]
  show _=[_,_,_,_,_,_,_,some (V.int ((pb B s.p e).y:Int))]
  rw[DP g1 g2]
  rfl
 .rw[A6]
  show _=some (HO.lst [V.int (((s.p e).getD 0:Nat):Int)])
  rw[g1]
  rfl
 .obtain⟨o5,rfl,e1,hr1⟩:=pp
  refine⟨rfl,_,rfl,?_⟩
  by_cases c:it B s.p (i+1) e=e
  .have hi2:i+1=m:=by
    by_cases z:i+1<m
    .exact absurd c (hleast _ (by lia) z)
    .lia
   rw[c]
   refine BR (NA rfl) (BW ?_)
   rw[hi2]at hr1
   exact nx _ _ ⟨_,_,rfl,e1,hr1⟩
  .have hi2:i+1<m:=by
    by_cases z:i+1=m
    .rw[z]at c;exact absurd hback c
    .lia
   refine BR (SY (fun z=>c (by have:=V.int.inj z;lia))) (Ce ⟨by lia,?_⟩)
   refine An fun _ zE=>?_
   obtain⟨j2,b2,k1,k2,k3⟩:=hal (i+1)
   obtain⟨t2,d0,d1⟩:=hbs.get k2
   refine zE ?_
   have ha2:Bh (pl n s.p) (it B s.p (i+1) e:Int)=some (.int (j2:Int)):=(JS (hlt (i+1))).trans (by rw[k1];rfl)
   refine⟨.inl ⟨rfl,_,A5.of hr1⟩,ixL (e1 _ _ hl) ha2 ⟨r,_,_,rfl,rfl,hr1,(by rw[Ku];unfold C3;rw[Al,EH];exact CF (by lia)),?_⟩⟩
   have s2:A8 H' (upd H'' r (.lst (By (C3 B s.p e (i+1))++[V.int (j2:Int)]))):=fun a o ha=>by rw[Af (AI ha hr)];exact e1 _ _ ha
   have hr2:(upd H'' r (.lst (By (C3 B s.p e (i+1))++[V.int (j2:Int)]))) r=some (.lst (By (C3 B s.p e (i+1+1)))):=by
    rw[A6,RE]
    unfold C3
    rw[Im (n:=i+1),B3]
    show some (HO.lst (By (_++[j2])))=some (HO.lst (By (_++[(s.p (it B s.p (i+1) e)).getD 0])))
    rw[k1]
    rfl
   refine⟨l,_,_,_,rfl,rfl,A5.of (s2 _ _ hl),ha2,b,_,_,_,rfl,rfl,A5.of (s2 _ _ hb),d0,t2,_,1,_,rfl,rfl,A9.of (s2 _ _ d1),rfl,?_⟩
   refine⟨o5,?_,s2,hr2⟩
   rw[Fp B s.p (i+1),DP k1 k2]
   rfl
 .refine GD (fun _ z=>GD (fun _ zz=>?_) z) h
  obtain⟨h3,a3,h4,h5⟩:=zz
  exact⟨h3,a3,h4,hq _ _ h5⟩
theorem WZ (T:Tx K mg a):AU P w K mg base Be 2 a.f_h a.d_h ["count","bonds"] UM:=by
 have G_p :=@UF P w K mg base a T
 have G_q :=@aY P w K mg base a T
 refine T.F_h.ok IH (fun vs H Q E h=>?_) (fun cdv A outer s H vs Q E hr h=>?_)
 .obtain⟨_,_,_,rfl,_⟩:=h;rfl
 obtain⟨n,b,B,rfl,hB,hw,n0,n1,hBl,q⟩:=h
 refine⟨_,(A7 (Ai (i:=2) IH.nd rfl (.inr rfl) (Aa LV (BA (A0 A3 A4)) (pw 0)))
  (A7 (Ai (i:=3) IH.nd rfl (.inl rfl) (Aa LV (BA (A0 F3 A4)) (pw 0)))
  (A7 (Ai (i:=4) IH.nd rfl (.inl rfl) F3)
  (A7 (CD PassesOwn.never rfl (Hu (by rfl) T.z_range (A0 (pw 0) A4)) (AB (i:=5) IH.nd rfl (.inl rfl))
  (A7 (Ai (i:=4) IH.nd rfl (.inl rfl) (AJ G_p (hr.mono (by lia)) (by rfl) T.m_p T.F_p.kp T.b_p .nil AG (A0 (pw 1) (A0 (pw 2) (A0 (pw 3) A4)))))
  (Ak (Bi (AX LK (pw 4) F3 (AM _))
  (Ak (AR (Bq (A0 Cj (A0 (FT ["value","values"] [none,some 2] (by rfl) (Dp (pw 2)) Wb (fun _ _ _ _ _ _=>⟨(AB (i:=0) Xt rfl (.inl rfl)),EO,(Aa (Av CB) (pw 0) (Ag (show Dg _ (Jt K) from B4) (pw 1) A3 (fun _ _=>rfl)))⟩)) A4)))))
  BE))))
  (Ak (AR (Bq (A0 Cj (A0 (AJ G_q (hr.mono (by lia)) (by rfl) T.m_q T.F_q.kp T.b_q .nil AG (A0 (pw 0) (A0 (pw 1) (A0 (pw 3) (A0 (pw 4) A4))))) A4))))))))),?_⟩
 have p63:(2:Int) ^ 63=9223372036854775808:=by decide
 refine⟨Ar rfl,fun l1 hl1=>⟨l1,_,_,rfl,rfl,A6,by lia,by lia,BD (by show 1*n<=1000000;lia),fun v hv=>?_⟩⟩
 have s1:=(Ac hl1 (.lst [V.int 0])).trans (Ac hv (.lst (List.replicate ((n:Int)).toNat [V.int 0]).flatten))
 have hv1:(upd (upd H l1 (.lst [V.int 0])) v (.lst (List.replicate ((n:Int)).toNat [V.int 0]).flatten)) v=some (.lst (vl n Fd.v)):=by rw[A6];exact congrArg (fun z=>some (HO.lst z)) (ML n _)
 have hv0:H v=none:=(Ac hl1 (.lst [V.int 0])).free hv
 dsimp only[Aq]
 generalize upd (upd H l1 (.lst [V.int 0])) v (.lst (List.replicate ((n:Int)).toNat [V.int 0]).flatten)=H1 at s1 hv1
 refine⟨Ar rfl,fun l2 hl2=>⟨l2,_,_,rfl,rfl,A6,by lia,by lia,BD (by show 1*n<=1000000;lia),fun l hl=>?_⟩⟩
 have s2:=(Ac hl2 (.lst [V.non])).trans (Ac hl (.lst (List.replicate ((n:Int)).toNat [V.non]).flatten))
 have hl1':(upd (upd H1 l2 (.lst [V.non])) l (.lst (List.replicate ((n:Int)).toNat [V.non]).flatten)) l=some (.lst (pl n Fd.p)):=by rw[A6];exact congrArg (fun z=>some (HO.lst z)) (ML n _)
 have hlH1:H1 l=none:=(Ac hl2 (.lst [V.non])).free hl
 have hl0:H l=none:=s1.free hlH1
 have nvl:v≠l:=AI hv1 hlH1
 have hv2:=s2 _ _ hv1
 have s12:=s1.trans s2
 dsimp only[Aq]
 generalize upd (upd H1 l2 (.lst [V.non])) l (.lst (List.replicate ((n:Int)).toNat [V.non]).flatten)=H2 at s12 hv2 hl1'
 clear s1 s2 hv1 hl hv hl1 hl2 hlH1
 have nbv:b≠v:=by obtain⟨vs,g,_⟩:=hB;exact AI g hv0
 have nbl:b≠l:=by obtain⟨vs,g,_⟩:=hB;exact AI g hl0
 refine⟨(n:Int),rfl,by lia,by lia,?_⟩
 refine K4 (lo:=0) (n:=n) (fun i σ' H'=>A8 H H'/\∃(s:Sv) (o5:Option V),σ'=[some (.int (n:Int)),some (.ref b),some (.ref v),some (.ref l),some (KP s.low),o5]/\H' v=some (.lst (vl n s.v))/\H' l=some (.lst (pl n s.p))/\go B n Fd=go B (n-i) s) ⟨s12,Fd,_,rfl,hv2,hl1',rfl⟩ (fun i σ' H' hi pp=>?_) (fun σ' H' pp=>?_)
 .obtain⟨e,s,o5,rfl,h1,h2,hg⟩:=pp
  refine⟨b,v,l,B,n,s,rfl,nbv,nbl,nvl,hB.over e,hw,h1,h2,fun H3 fr h13 h23=>?_⟩
  have e3:A8 H H3:=fun a o ha=>fr _ _ (e _ _ ha) (AI ha hv0) (AI ha hl0)
  obtain⟨k,hk⟩:∃k,n-i=k+1:=⟨n-i-1,by lia⟩
  rw[hk]at hg
  dsimp only[Aq]
  refine⟨rfl,_,rfl,?_⟩
  cases hlow:(D5 B s).low with
  |
   none=>
   refine BR (v:=true) (Da rfl) (Ce ?_)
   have hg2:go B n Fd = .inl (D5 B s):=by rw[hg];unfold go;rw[hlow]
   have er:E4 n B=(.str "values",vl n fun i=>(D5 B s).v i-(D5 B s).v 0):=by unfold E4;rw[hg2]
   rw[er]at q
   refine⟨v,rfl,⟨_,A5.of h13⟩,?_⟩
   refine G1 (xs:=vl n (D5 B s).v) (fun i ys H'=>H'=H3/\ys=vl i fun i=>(D5 B s).v i-(D5 B s).v 0) ⟨rfl,rfl⟩ (by rw[Ki];exact BD (by lia)) (fun i ys H' hi p=>by obtain⟨rfl,rfl⟩:=p;exact⟨A5.of h13,by rw[Ki];exact Ah _⟩) (fun i x ys H' hx p=>?_) (fun ys H' p r hr'=>?_)
   .obtain⟨rfl,rfl⟩:=p
    have hi:i<n:=by have:=(As.mp hx).1;rwa [Ki]at this
    have ex:x = .int ((D5 B s).v i):=Cp (hx.symm.trans (M8 (n:=n) (f:=fun i=>V.int ((D5 B s).v i)) hi))
    subst ex
    exact⟨v,_,0,_,rfl,rfl,A5.of h13,NG n0,rfl,(US _ _).symm⟩
   .obtain⟨rfl,rfl⟩:=p
    rw[Ki]
    refine⟨Ar rfl,fun t ht=>?_⟩
    exact q t r _ ((e3.trans (Ac hr' _)).trans (Ac ht _)) (e3.free hr') A6 (Ac ht _ _ _ A6)
  |
   some x=>
   refine BR (v:=false) (D8 (by intro z;cases z)) (BW ?_)
   refine⟨e3,D5 B s,some (.int (0+(i:Int))),by rw[hlow];rfl,h13,h23,?_⟩
   rw[show n-(i+1)=k by lia,hg]
   show(match (D5 B s).low with|none=>_|some _=>_)=_
   rw[hlow]
 .obtain⟨e,s,o5,rfl,h1,h2,hg⟩:=pp
  rw[Cq]at hg
  change go B n Fd = .inr s at hg
  rcases QZ n0 hw with⟨s',e',_⟩|⟨s',x0,m,e',hl',hR⟩
  .rw[hg]at e';cases e'
  rw[hg]at e'
  cases e'
  have er:E4 n B=(.str "ring",By (Jn n B s)):=by unfold E4;rw[hg]
  rw[er]at q
  rw[hl']
  refine⟨n,b,l,B,s,x0,m,rfl,hB.over e,hBl,n1,h2,hl',hR,hw,fun r H3 e3 hr0 hr3=>?_⟩
  refine⟨Ar rfl,fun t ht=>?_⟩
  exact q t r _ ((e.trans e3).trans (Ac ht _)) (e.free hr0) A6 (Ac ht _ _ _ hr3)
theorem Wm (T:Tx K mg a):AU P w K mg base Be 1 a.f_t a.d_t ["bonds","lengths","reached_by"] Yh:=by
 refine T.F_t.ok IL (fun vs H Q E h=>?_) (fun cdv A outer s H vs Q E hr h=>?_)
 .obtain⟨_,_,_,_,_,_,rfl,_⟩:=h;rfl
 obtain⟨b,v,l,B,n,s,rfl,nv,nl,nvl,hB,hw,hv,hl,q⟩:=h
 refine⟨_,(A7 (Ai (i:=3) IL.nd rfl (.inl rfl) FF)
  (A7 (CD PassesOwn.never rfl (JW (by rfl) T.z_enumerate (A0 (pw 0) A4)) (De rfl (AH (AB (i:=4) IL.nd rfl (.inl rfl)) (AH (AB (i:=5) IL.nd rfl (.inl rfl)) Cy)))
  (Ak (Bi (AX Xw (Ag B4 (pw 1) (Ag Ay (pw 5) A3 (fun _ _=>rfl)) (fun _ _=>rfl)) F3 (AM _))
  (A7 (Ai (i:=6) IL.nd rfl (.inl rfl) (Aa (Av AL) (Ag B4 (pw 1) (Ag Ay (pw 5) A3 (fun _ _=>rfl)) (fun _ _=>rfl)) (Ag Ay (pw 5) A3 (fun _ _=>rfl))))
  (Ak (Bi ((KN (AX LK (Ag B4 (pw 1) (Ag Ay (pw 5) A3 (fun _ _=>rfl)) (fun _ _=>rfl)) F3 (AM _)) (Mg (AX (Av Gu) (pw 6) (Ag B4 (pw 1) (Ag Ay (pw 5) A3 (fun _ _=>rfl)) (fun _ _=>rfl)) (AM _))))).pt
  (A7 (Ee (pw 6) (K0 (pw 1) (Ag Ay (pw 5) A3 (fun _ _=>rfl)) KO))
  (A7 (Ee (pw 4) (K0 (pw 2) (Ag Ay (pw 5) A3 (fun _ _=>rfl)) KO))
  (Ak (Ai (i:=3) IL.nd rfl (.inl rfl) FF))))
  BE)))
  BE)))
  (Ak (AR (pw 3))))),?_⟩
 refine An fun _ zA=>?_
 obtain⟨vs,hb,hbs⟩:=hB
 refine zA ?_
 have hbl:=hbs.1
 refine⟨b,rfl,⟨_,A5.of hb⟩,?_⟩
 refine K8 (xs:=vs) (fun i σ' H'=>Jf H H' v l/\(∃o4 o5 o6,σ'=[some (.ref b),some (.ref v),some (.ref l),some (.bl (srnd B i {s with ch:=false}).ch),o4,o5,o6])/\H' v=some (.lst (ol n (srnd B i {s with ch:=false}).L))/\H' l=some (.lst (pl n (srnd B i {s with ch:=false}).q))) ⟨fun a o e _ _=>e,⟨_,_,_,rfl⟩,hv,hl⟩ (fun i σ' H' _ p=>A5.of (p.1 _ _ hb nv nl)) (fun i x Tt σ' H' hx p hT=>?_) (fun σ' H' p=>?_)
 case refine_2=>
  refine An fun _ zB=>?_
  obtain⟨e,⟨o4,o5,o6,rfl⟩,h1,h2⟩:=p
  refine zB ?_
  rw[hbl]at h1 h2 ⊢
  exact q H' e h1 h2
 refine An fun _ zC=>?_
 obtain⟨e,⟨o4,o5,o6,rfl⟩,h1,h2⟩:=p
 have hi:i<B.length:=by have:=(As.mp hx).1;lia
 have eB:B[i]?=some B[i]:=AC hi
 obtain⟨t,rfl,ht⟩:=hbs.2 i x _ hx eB
 refine zC ?_
 have hW:=hw _ (Nc hi)
 have ht':=e _ _ ht (EZ ht hv (by intro z;cases z)) (EZ ht hl (by intro z;cases z))
 have st:srnd B (i+1) {s with ch:=false}=Em i B[i] (srnd B i {s with ch:=false}):=by
  show(match B[i]? with|some b=>Em i b (srnd B i {s with ch:=false})|none=>srnd B i {s with ch:=false})=_
  rw[eB]
 rw[st]
 generalize srnd B i {s with ch:=false}=s0 at h1 h2 ⊢
 generalize B[i]=bb at ht' hW
 have sT:=Ac hT (.tup [V.int (i:Int),.ref t])
 have ht2:=sT _ _ ht'
 have h12:=sT _ _ h1
 have h22:=sT _ _ h2
 have e2:Jf H (upd H' Tt (.tup [V.int (i:Int),.ref t])) v l:=fun a o ha na nb=>sT _ _ (e a o ha na nb)
 refine⟨Tt,_,rfl,A9.of A6,rfl,rfl,?_⟩
 generalize upd H' Tt (.tup [V.int (i:Int),.ref t])=H2 at ht2 h12 h22 e2 ⊢
 refine⟨t,_,1,_,rfl,rfl,A9.of ht2,rfl,v,_,_,_,rfl,rfl,A5.of h12,My hW.2,rfl,_,rfl,?_⟩
 unfold Em
 cases hy:s0.L bb.y with
 |
  none=>
  refine BR (v:=false) rfl (BW ?_)
  exact⟨e2,⟨_,_,_,rfl⟩,h12,h22⟩
 |
  some ly=>
  have hay:Bh (ol n s0.L) (bb.y:Int)=some (.int ly):=(My hW.2).trans (by rw[hy];rfl)
  refine BR (v:=true) rfl (Ce ?_)
  refine⟨t,_,1,_,rfl,rfl,A9.of ht2,rfl,v,_,_,_,rfl,rfl,A5.of h12,hay,t,_,2,_,rfl,rfl,A9.of ht2,rfl,?_⟩
  dsimp only[Aq]
  have tv:t≠v:=EZ ht2 h12 (by intro z;cases z)
  have tl:t≠l:=EZ ht2 h22 (by intro z;cases z)
  dsimp only[FI]
  refine Ue (fun H''=>H''=H2/\Jj (s0.L bb.x) (ly+bb.c)=true) (fun H'' hh=>?_) (fun go=>?_)
  .obtain⟨rfl,hlow⟩:=hh
   rw[Aj hlow]
   refine⟨t,_,0,_,rfl,rfl,A9.of ht2,rfl,v,_,_,_,rfl,rfl,h12,KQ (by rw[PC];exact hW.1),?_⟩
   rw[QY]
   refine⟨t,_,0,_,rfl,rfl,A9.of (by rw[Af tv];exact ht2),rfl,l,_,_,_,rfl,rfl,(by rw[Af (Ne.symm nvl)];exact h22),KQ (by rw[Q0];exact hW.1),?_⟩
   rw[Rw]
   refine⟨fun a o ha na nb=>?_,⟨_,_,_,rfl⟩,?_,A6⟩
   .rw[Af nb,Af na];exact e2 a o ha na nb
   .rw[Af nvl];exact A6
  .have hcase:s0.L bb.x=none\/∃lx,s0.L bb.x=some lx:=by cases s0.L bb.x with|none=>exact .inl rfl|some lx=>exact .inr ⟨lx,rfl⟩
   rcases hcase with hx|⟨lx,hx⟩
   ·
    have hax:Bh (ol n s0.L) (bb.x:Int)=some .non:=(My hW.1).trans (by rw[hx];rfl)
    refine⟨t,_,0,_,rfl,rfl,A9.of ht2,rfl,v,_,_,_,rfl,rfl,A5.of h12,hax,rfl,_,rfl,?_⟩
    rw[Da rfl]
    exact Ce (Ce (go _ ⟨rfl,by rw[hx];rfl⟩))
   ·
    have hax:Bh (ol n s0.L) (bb.x:Int)=some (.int lx):=(My hW.1).trans (by rw[hx];rfl)
    refine⟨t,_,0,_,rfl,rfl,A9.of ht2,rfl,v,_,_,_,rfl,rfl,A5.of h12,hax,rfl,_,rfl,?_⟩
    rw[D8 (by intro z;cases z)]
    refine BW ⟨t,_,0,_,rfl,rfl,A9.of ht2,rfl,v,_,_,_,rfl,rfl,A5.of h12,hax,_,rfl,?_⟩
    refine BJ (fun c=>go _ ⟨rfl,by rw[hx];exact c⟩) (fun c=>?_)
    rw[Ab (by rw[hx];exact c)]
    exact⟨e2,⟨_,_,_,rfl⟩,h12,h22⟩
theorem WU (T:Tx K mg a):AU P w K mg base Be 2 a.f_s a.d_s ["count","bonds","y"] Zg:=by
 have G_t :=@Wm P w K mg base a T
 refine T.F_s.ok KL (fun vs H Q E h=>?_) (fun cdv A outer s H vs Q E hr h=>?_)
 .obtain⟨_,_,_,_,_,rfl,_⟩:=h;rfl
 obtain⟨n,b,B,y,f,rfl,hB,hw,n1,hy,hf,q⟩:=h
 refine⟨_,(A7 (Ai (i:=3) KL.nd rfl (.inl rfl) (Aa LV (BA (A0 F3 A4)) (pw 0)))
  (A7 (Ee A3 (K0 (pw 3) (pw 2) KO))
  (A7 (Ai (i:=4) KL.nd rfl (.inl rfl) (Aa LV (BA (A0 F3 A4)) (pw 0)))
  (A7 (Ai (i:=5) KL.nd rfl (.inl rfl) FF)
  (A7 (Gp PassesOwn.never (E9 (pw 5))
  (Ak (Ai (i:=5) KL.nd rfl (.inl rfl) (AJ G_t (hr.mono (by lia)) (by rfl) T.m_t T.F_t.kp T.b_t .nil AG (A0 (pw 1) (A0 (pw 3) (A0 (pw 4) A4)))))))
  (Ak (AR (pw 4)))))))),?_⟩
 have p63:(2:Int) ^ 63=9223372036854775808:=by decide
 obtain⟨hK1,hK2⟩:=LN hy hf hw
 refine⟨Ar rfl,fun l1 hl1=>⟨l1,_,_,rfl,rfl,A6,by lia,by lia,BD (by show 1*n<=1000000;lia),fun v hv=>?_⟩⟩
 have s1:=(Ac hl1 (.lst [V.non])).trans (Ac hv (.lst (List.replicate ((n:Int)).toNat [V.non]).flatten))
 have hv1:(upd (upd H l1 (.lst [V.non])) v (.lst (List.replicate ((n:Int)).toNat [V.non]).flatten)) v=some (.lst (ol n fun _=>none)):=by rw[A6];exact congrArg (fun z=>some (HO.lst z)) (ML n _)
 have hv0:H v=none:=(Ac hl1 (.lst [V.non])).free hv
 dsimp only[Aq]
 generalize upd (upd H l1 (.lst [V.non])) v (.lst (List.replicate ((n:Int)).toNat [V.non]).flatten)=H1 at s1 hv1
 refine⟨v,_,_,_,rfl,rfl,hv1,KQ (by rw[PC];exact hy),?_⟩
 rw[QY]
 have s1:A8 H (upd H1 v (.lst (ol n (B1 (fun _=>none) y (some 0))))):=fun a o ha=>by rw[Af (AI ha hv0)];exact s1 _ _ ha
 have hv1:(upd H1 v (.lst (ol n (B1 (fun _=>none) y (some 0))))) v=some (.lst (ol n (GY y).L)):=A6
 generalize upd H1 v (.lst (ol n (B1 (fun _=>none) y (some 0))))=H1 at s1 hv1
 refine⟨Ar rfl,fun l2 hl2=>⟨l2,_,_,rfl,rfl,A6,by lia,by lia,BD (by show 1*n<=1000000;lia),fun l hl=>?_⟩⟩
 have s2:=(Ac hl2 (.lst [V.non])).trans (Ac hl (.lst (List.replicate ((n:Int)).toNat [V.non]).flatten))
 have hl1':(upd (upd H1 l2 (.lst [V.non])) l (.lst (List.replicate ((n:Int)).toNat [V.non]).flatten)) l=some (.lst (pl n (GY y).q)):=by rw[A6];exact congrArg (fun z=>some (HO.lst z)) (ML n _)
 have hlH1:H1 l=none:=(Ac hl2 (.lst [V.non])).free hl
 have hl0:H l=none:=s1.free hlH1
 have nvl:v≠l:=AI hv1 hlH1
 have hv2:=s2 _ _ hv1
 have s12:=s1.trans s2
 dsimp only[Aq]
 generalize upd (upd H1 l2 (.lst [V.non])) l (.lst (List.replicate ((n:Int)).toNat [V.non]).flatten)=H2 at s12 hv2 hl1'
 clear s1 s2 hv1 hl hv hl1 hl2 hlH1
 have nbv:b≠v:=by obtain⟨vs,g,_⟩:=hB;exact AI g hv0
 have nbl:b≠l:=by obtain⟨vs,g,_⟩:=hB;exact AI g hl0
 show Jl (LB _ _) (O2 _) _ _ _
 refine Ca (fun σ' H'=>∃o,σ'=[some (.int (n:Int)),some (.ref b),some (.int (y:Int)),some (.ref v),some (.ref l),o]/\A8 H H'/\H' l=some (.lst (pl n (fin B y).q))) (fun σ' H' pp=>?_) (fun _ nx=>?_)
 .obtain⟨o,rfl,e1,hr1⟩:=pp
  exact q l H' e1 hr1
 refine Gy (FH B y) (fun i σ' H'=>σ'=[some (.int (n:Int)),some (.ref b),some (.int (y:Int)),some (.ref v),some (.ref l),some (.bl (Sx B y i).ch)]/\A8 H H'/\H' v=some (.lst (ol n (Sx B y i).L))/\H' l=some (.lst (pl n (Sx B y i).q))) ⟨rfl,s12,hv2,hl1'⟩ (fun i σ' H' hi pp=>?_) (fun σ H Q Q' hq h=>?_)
 .obtain⟨rfl,e,h1,h2⟩:=pp
  by_cases c:i<FH B y
  .rw[hK2 i c]
   refine⟨_,rfl,Ce ⟨c,?_⟩⟩
   refine⟨b,v,l,B,n,Sx B y i,rfl,nbv,nbl,nvl,hB.over e,hw,h1,h2,fun H3 fr h13 h23=>?_⟩
   exact⟨rfl,fun a o ha=>fr _ _ (e _ _ ha) (AI ha hv0) (AI ha hl0),h13,h23⟩
  .have ei:i=FH B y:=by lia
   subst ei
   rw[hK1]
   exact⟨_,rfl,BW (nx _ _ ⟨_,rfl,e,h2⟩)⟩
 .refine GD (fun _ zz=>?_) h
  obtain⟨a2,h2,h3⟩:=zz
  exact⟨a2,h2,hq _ _ h3⟩
theorem cW (T:Tx K mg a):AU P w K mg base Be 3 a.f_r a.d_r ["count","bonds","x","y"] UI:=by
 have G_s :=@WU P w K mg base a T
 refine T.F_r.ok JK (fun vs H Q E h=>?_) (fun cdv A outer s H vs Q E hr h=>?_)
 .obtain⟨_,_,_,_,_,_,rfl,_⟩:=h;rfl
 obtain⟨n,b,B,x,y,f,rfl,hB,hw,n1,hBl,hx,hy,hf,q⟩:=h
 refine⟨_,(A7 (Ai (i:=4) JK.nd rfl (.inl rfl) (AJ G_s (hr.mono (by lia)) (by rfl) T.m_s T.F_s.kp T.b_s .nil AG (A0 (pw 0) (A0 (pw 1) (A0 (pw 3) A4)))))
  (A7 (Bi (AX LK (Ag B4 (pw 4) (pw 2) (fun _ _=>rfl)) F3 (AM _))
  (Ak (AR F3))
  BE)
  (A7 (Ai (i:=5) JK.nd rfl (.inl rfl) (BA A4))
  (A7 (Ai (i:=6) JK.nd rfl (.inl rfl) (pw 2))
  (A7 (Gp PassesOwn.never (AX Mt (pw 6) (pw 3) (AM _))
  (A7 (Ck (Cu Cr DK DL Dh (pw 5) (A0 (Ag B4 (pw 4) (pw 6) (fun _ _=>rfl)) A4)))
  (Ak (Ai (i:=6) JK.nd rfl (.inl rfl) (Ag Ay (Ag B4 (pw 1) (Ag B4 (pw 4) (pw 6) (fun _ _=>rfl)) (fun _ _=>rfl)) A3 (fun _ _=>rfl))))))
  (Ak (AR (pw 5)))))))),?_⟩
 refine⟨n,b,B,y,f,rfl,hB,hw,n1,hy,hf,fun l H1 e1 hl=>?_⟩
 dsimp only[Aq]
 refine An fun _ zA=>?_
 obtain⟨bs,hb,hbs⟩:=hB
 refine zA ?_
 refine⟨l,_,_,_,rfl,rfl,A5.of hl,JS hx,rfl,_,rfl,?_⟩
 cases hq:(fin B y).q x with
 |
  none=>
  refine BR (v:=true) rfl (Ce ?_)
  exact q _ _ e1 (.inl ⟨hq,rfl⟩)
 |
  some l0=>
  refine BR (v:=false) rfl (BW ?_)
  obtain⟨m0,hC⟩:=PQ hy hf hw hq
  have hq2:∀(r:Addr) (H':Hp),A8 H H'->H' r=some (.lst (By (C3 B (fin B y).q x (HR n B y x))))->Q (.ref r) H':=fun r H' e hr'=>q _ H' e (.inr ⟨⟨_,hq⟩,r,rfl,hr'⟩)
  generalize HR n B y x=m at hC hq2 m0
  generalize fin B y=s at hC hq2 hl
  refine⟨Ar rfl,fun r hr'=>?_⟩
  have s1:=Ac hr' (.lst [])
  have hr0:H r=none:=e1.free hr'
  dsimp only[Aq]
  refine GV (fun _ h=>h) ?_
  refine Ca (fun σ' H''=>∃o6,σ'=[some (.int (n:Int)),some (.ref b),some (.int (x:Int)),some (.int (y:Int)),some (.ref l),some (.ref r),o6]/\A8 H1 H''/\H'' r=some (.lst (By (C3 B s.q x m)))) (fun σ' H'' pp=>?_) (fun _ nx=>?_)
  .obtain⟨o6,rfl,e2,hr2⟩:=pp
   exact hq2 r H'' (e1.trans e2) hr2
  refine Gy m (fun i σ' H''=>σ'=[some (.int (n:Int)),some (.ref b),some (.int (x:Int)),some (.int (y:Int)),some (.ref l),some (.ref r),some (.int (it B s.q i x:Int))]/\A8 H1 H''/\H'' r=some (.lst (By (C3 B s.q x i)))) ⟨rfl,s1,A6⟩ (fun i σ' H'' hi pp=>?_) (fun σ H Q Q' hq h=>?_)
  .obtain⟨rfl,e2,hr2⟩:=pp
   refine⟨rfl,_,rfl,?_⟩
   by_cases c:i=m
   .subst c
    rw[hC.at']
    refine BR (NA rfl) (BW ?_)
    exact nx _ _ ⟨_,rfl,e2,hr2⟩
   .obtain⟨hne,j,bb,k1,k2,k3⟩:=hC.alive i (by lia)
    refine BR (SY (fun z=>hne (by have:=V.int.inj z;lia))) (Ce ⟨by lia,?_⟩)
    refine An fun _ zB=>?_
    obtain⟨t,d0,d1⟩:=hbs.get k2
    refine zB ?_
    have hlt:=hC.lt i hi
    have ha:Bh (pl n s.q) (it B s.q i x:Int)=some (.int (j:Int)):=(JS hlt).trans (by rw[k1];rfl)
    have e12:=e1.trans e2
    have mn:=hC.le
    refine⟨.inl ⟨rfl,_,A5.of hr2⟩,ixL (e2 _ _ hl) ha ⟨r,_,_,rfl,rfl,hr2,(by rw[Ku];unfold C3;rw[Al,EH];exact CF (by lia)),?_⟩⟩
    have s2:A8 H1 (upd H'' r (.lst (By (C3 B s.q x i)++[V.int (j:Int)]))):=fun a o ha=>by rw[Af (AI ha hr')];exact e2 _ _ ha
    have hr3:(upd H'' r (.lst (By (C3 B s.q x i)++[V.int (j:Int)]))) r=some (.lst (By (C3 B s.q x (i+1)))):=by
     rw[A6,RE]
     unfold C3
     rw[Im (n:=i),B3]
     show some (HO.lst (By (_++[j])))=some (HO.lst (By (_++[(s.q (it B s.q i x)).getD 0])))
     rw[k1]
     rfl
    have e13:=e1.trans s2
    refine⟨l,_,_,_,rfl,rfl,A5.of (s2 _ _ hl),ha,b,_,_,_,rfl,rfl,A5.of (e13 _ _ hb),d0,t,_,1,_,rfl,rfl,A9.of (e13 _ _ d1),rfl,?_⟩
    refine⟨?_,s2,hr3⟩
    rw[Fp B s.q i,DP k1 k2]
    rfl
  .refine GD (fun _ z=>GD (fun _ zz=>?_) z) h
   obtain⟨h3,a3,h4,h5⟩:=zz
   exact⟨h3,a3,h4,hq _ _ h5⟩
theorem Ze (T:Tx K mg a):AU P w K mg base Be 1 a.f_J a.d_J ["self","ring"] (Xs a.c_NoValues):=by
 refine T.F_J.ok cP (fun vs H Q E h=>?_) (fun cdv A outer s H vs Q E hr h=>?_)
 .obtain⟨_,_,_,rfl,_⟩:=h;rfl
 obtain⟨x,rg,rs,rfl,hx,hrg,r60,rb,q⟩:=h
 refine⟨_,(A7 (Ck (Wt (by rfl) T.mc_FurrowError T.xb (A0 (pw 0) (A0 (bx Cj (Zw hr.gd (Hc hr) (pw 1))) A4))))
  (Ak (Yf (pw 0) (Dj OT (by rfl) T.z_list Jc (A0 (pw 1) A4)) rfl))),?_⟩
 refine An fun _ zA=>?_
 obtain⟨d,hd,sm⟩:=aG hrg rb r60
 refine zA ?_
 refine⟨_,rfl,Cz Qr (by rw[Gh];lia),rg,d,rfl,hd,sm,fun sl=>⟨_,rfl,Xg Qr sl (by lia),x,_,_,_,rfl,hx,T.xi_NoValues.xc,?_⟩⟩
 refine⟨rg,_,rfl,.inl (A5.of hrg),fun l hl=>⟨x,_,rfl,?_,T.xi_NoValues.xc,T.n_NoValues_ring,fun dx hd ne=>?_⟩⟩
 .rw[Af (AI hx hl)];exact hx
 .have nl:dx≠l:=fun z=>by rw[z,A6]at hd;cases hd
  rw[Af nl]at hd
  exact q l dx hl (Ne.symm nl) hd ne
theorem Xr (T:Tx K mg a):AU P w K mg base (Jo P w) 5 a.f_i a.d_i ["count","bonds","x","y"] (WA a.c_NoValues):=by
 have G_h :=@WZ P w K mg base a T
 have G_r :=@cW P w K mg base a T
 have G_J :=@Ze P w K mg base a T
 refine T.F_i.okX MG (fun vs H Q E h=>?_) (fun cdv A outer s H vs Q E hr h=>?_)
 .obtain⟨_,_,_,_,_,rfl,_⟩:=h;rfl
 obtain⟨n,b,B,x,y,rfl,hB,hw,n1,hBl,hx,hy,q,qr⟩:=h
 refine⟨_,(A7 (Ai (i:=4) MG.nd rfl (.inl rfl) (AJ G_h (hr.mono (by lia)) (by rfl) T.m_h T.F_h.kp T.b_h .nil AG (A0 (pw 0) (A0 (pw 1) A4))))
  (A7 (Bi (AX Cc (Ag Ay (pw 4) A3 (fun _ _=>rfl)) Cj (AM _))
  (Ak (ZX rfl XQ (c8 T.xm_NoValues G_J (hr.mono (by lia)) (by rfl) T.mc_NoValues T.b_J AG (A0 (Ag Ay (pw 4) A3 (fun _ _=>rfl)) A4))))
  BE)
  (A7 (Bi (AX Cc (pw 2) (pw 3) (AM _))
  (Ak (AR (DA (Au A3 (Au (BA A4) (Au (Ag Ay (pw 4) A3 (fun _ _=>rfl)) Co Fc) Wa) Bp))))
  BE)
  (A7 (Ai (i:=5) MG.nd rfl (.inl rfl) (AJ G_r (hr.mono (by lia)) (by rfl) T.m_r T.F_r.kp T.b_r .nil AG (A0 (pw 0) (A0 (pw 1) (A0 (pw 2) (A0 (pw 3) A4))))))
  (A7 (Bi (AX LK (pw 5) F3 (AM _))
  (Ak (AR F3))
  BE)
  (A7 (Ai (i:=6) MG.nd rfl (.inl rfl) (Bc (Um rfl) (by rfl) T.z_sum ZF (A0 (FT ["number","bonds"] [none,some 1] (by rfl) (Dp (pw 5)) aF (fun _ _ _ _ _ _=>⟨(AB (i:=0) ZO rfl (.inl rfl)),EO,(Ag (show Dg _ (Ea K) from Ay) (Ag (show Dg _ (Jt K) from B4) (pw 1) (pw 0) (fun _ _=>rfl)) A3 (fun _ _=>rfl))⟩)) A4)))
  (Ak (AR (DA (Au (pw 6) (Au (pw 5) (Au (Ag Ay (AJ G_h (hr.mono (by lia)) (by rfl) T.m_h T.F_h.kp T.b_h .nil AG (A0 (pw 0) (A0 (Aa K1 (pw 1) (BA (A0 (DA (Au (pw 3) (Au (pw 2) (Au (PZ Sq (pw 6)) Co Sd) Cm) Cm)) A4))) A4))) A3 (fun _ _=>rfl)) Co Fc) Cm) Cm)))))))))),?_⟩
 have n0:0<n:=by lia
 refine⟨n,b,B,rfl,hB,hw,n0,n1,by lia,fun t l H1 e1 hl0 ht hl=>?_⟩
 dsimp only[Aq]
 rcases Rg n0 hw with⟨f,ef,f0,hf⟩|⟨R,u,eR,hR⟩
 rotate_left
 .have ht':H1 t=some (.tup [.str "ring",.ref l]):=by rw[ht,eR]
  have hl':H1 l=some (.lst (By R)):=by rw[hl,eR]
  refine⟨t,_,0,_,rfl,rfl,A9.of ht',rfl,rfl,_,rfl,BR (v:=true) (Da rfl) (Ce ?_)⟩
  have rl:(R.map fun i=>((i:Nat):Int)).length<=60:=by rw[Al];have:=hR.le;lia
  have rb:∀z∈R.map fun i=>((i:Nat):Int),0<=z/\z<60:=fun z hz=>by
   obtain⟨i,hi,rfl⟩:=C9.mp hz
   obtain⟨k,hk⟩:=GQ.mp hi
   obtain⟨bb,e1,_⟩:=hR.bond k i hk
   have:=(As.mp e1).1
   lia
  refine ixT ht' rfl ⟨(by show 1<=1000;decide),fun xx hxx=>⟨xx,l,_,rfl,A6,Ac hxx _ _ _ hl',rl,rb,fun l3 dx hl3 nl hd ne=>⟨rfl,xx,_,some dx,rfl,A6,T.xi_NoValues.xc,?_⟩⟩⟩
  have nlx:l3≠xx:=fun z=>by rw[z,A6]at hl3;cases hl3
  rw[Af ne]at hd
  rw[Af nlx]at hl3
  rw[VA]
  have sm:=OE (o:=DD xx a.c_NoValues (some dx)) (OE (o:=.xd [("ring",.ref l3)]) (OE (o:=.lst (By R)) (Ac hxx (DQ xx a.c_NoValues none)) hl3) hd) hxx
  have hdx:(upd (upd (upd (upd H1 xx (DQ xx a.c_NoValues none)) l3 (.lst (By R))) dx (.xd [("ring",.ref l3)])) xx (DD xx a.c_NoValues (some dx))) dx=some (.xd [("ring",.ref l3)]):=by rw[Af ne,A6]
  have hll:(upd (upd (upd (upd H1 xx (DQ xx a.c_NoValues none)) l3 (.lst (By R))) dx (.xd [("ring",.ref l3)])) xx (DD xx a.c_NoValues (some dx))) l3=some (.lst (By R)):=by rw[Af nlx,Af nl,A6]
  exact qr R u eR hR xx dx l3 _ (e1.trans sm) A6 hdx hll
 refine An fun _ zA=>?_
 have q:=q f hf
 obtain⟨g,eg,g0,hg⟩:=ON n0 hw hf
 refine zA ?_
 have ht':H1 t=some (.tup [.str "values",.ref l]):=by rw[ht,eg]
 refine⟨t,_,0,_,rfl,rfl,A9.of ht',rfl,rfl,_,rfl,?_⟩
 refine BR (v:=false) (D8 (by intro z;exact absurd (V.str.inj z) (by decide +kernel))) (BW ?_)
 refine⟨rfl,_,rfl,?_⟩
 by_cases c:x=y
 .subst c
  refine BR (v:=true) (Da rfl) (Ce ?_)
  refine⟨Ar rfl,fun r hr'=>ixT (Ac hr' _ _ _ ht') rfl ⟨Ar rfl,fun t2 ht2=>?_⟩⟩
  have s2:=Ac hr' (.lst [])
  have s3:=Ac ht2 (.tup [V.int 0,V.ref r,V.ref l])
  refine q _ _ (e1.trans (s2.trans s3)) ?_
  unfold Jw GM
  rw[Aj rfl]
  exact⟨t2,r,l,rfl,A6,s3 _ _ A6,s3 _ _ (s2 _ _ hl)⟩
 .refine BR (v:=false) (D8 (fun z=>c (by have:=V.int.inj z;lia))) (BW ?_)
  refine⟨n,b,B,x,y,f,rfl,hB.over e1,hw,n1,by lia,hx,hy,hf,fun v H2 e2 hv=>?_⟩
  have e12:=e1.trans e2
  dsimp only[Aq]
  rcases hv with⟨hq,rfl⟩|⟨⟨l0,hq⟩,r,rfl,hr2⟩
  .refine⟨rfl,_,rfl,BR (v:=true) (Da rfl) (Ce ?_)⟩
   refine q _ _ e12 ?_
   unfold Jw GM
   rw[Ab c,Aj hq]
  .refine⟨rfl,_,rfl,BR (v:=false) (D8 (by intro z;cases z)) (BW ?_)⟩
   refine An fun _ zB=>?_
   obtain⟨u,hC,hcl,hL⟩:=Ru hy hf hw hq
   refine zB ?_
   have hq2:∀(v:V) (H':Hp),A8 H H'->(∃t l1 l2,v = .ref t/\H' t=some (.tup [.int (C4 B (Ey n B y x)),.ref l1,.ref l2])/\H' l1=some (.lst (By (Ey n B y x)))/\H' l2=some (.lst (E4 n (B++[⟨y,x,-(C4 B (Ey n B y x))⟩])).2))->Q v H':=fun v H' e h=>q v H' e (by
    unfold Jw GM
    rw[Ab c,Ab (by rw[hq];intro z;cases z)]
    exact h)
   generalize Ey n B y x=R at hC hcl hL hq2 hr2
   refine An fun _ zC=>?_
   obtain⟨bs,hb,hbs⟩:=hB
   refine zC ?_
   have hb2:=e12 _ _ hb
   have hbs2:=hbs.over e12
   refine⟨r,rfl,⟨_,A5.of hr2⟩,?_⟩
   refine G1 (xs:=By R) (fun i ys H'=>H'=H2/\ys=((R.take i).map fun i=>(B.getD i FY).c).map V.int) ⟨rfl,rfl⟩ (by rw[Ku];exact BD (by lia)) (fun i ys H' hi p=>by obtain⟨rfl,rfl⟩:=p;exact⟨A5.of hr2,by rw[Al,Al,AV];lia⟩) (fun i z ys H' hz p=>?_) (fun ys H' p r3 hr3=>?_)
   .obtain⟨rfl,rfl⟩:=p
    have hi:i<R.length:=by have:=(As.mp hz).1;rwa [Ku]at this
    have eR:R[i]?=some R[i]:=AC hi
    have ex:z = .int (R[i]:Int):=Cp (hz.symm.trans (Vj eR))
    subst ex
    refine An fun _ zD=>?_
    obtain⟨bb,k1,k2,k3⟩:=hC.bond i _ eR
    obtain⟨t4,d0,d1⟩:=hbs2.get k1
    refine zD ?_
    refine⟨b,_,_,_,rfl,rfl,A5.of hb2,d0,t4,_,2,_,rfl,rfl,A9.of d1,rfl,rfl,?_⟩
    rw[CJ eR,B3,B3]
    congr 1
    show[V.int bb.c]=[V.int (B.getD R[i] FY).c]
    rw[Cd,k1]
    rfl
   .obtain⟨rfl,rfl⟩:=p
    rw[Ku,Nh]
    have s3:=Ac hr3 (.lst ((R.map fun i=>(B.getD i FY).c).map V.int))
    refine⟨r3,_,rfl,A5.of A6,?_⟩
    rw[WB]
    generalize upd H' r3 (.lst ((R.map fun i=>(B.getD i FY).c).map V.int))=H3 at s3
    dsimp only[Aq]
    have hb3:=s3 _ _ hb2
    have hbs3:=hbs2.over s3
    refine⟨_,rfl,Ar rfl,fun t5 ht5=>⟨Ar rfl,fun l5 hl5=>?_⟩⟩
    have s4:=Ac ht5 (.tup [V.int (y:Int),V.int (x:Int),V.int (-(C4 B R))])
    have s5:=Ac hl5 (.lst [V.ref t5])
    have hbl:=hbs.1
    refine⟨b,l5,_,_,rfl,rfl,s5 _ _ (s4 _ _ hb3),A6,BD (by simp only[Bf];lia),fun r6 hr6=>?_⟩
    have s6:=Ac hr6 (.lst (bs++[V.ref t5]))
    have e36:=(e12.trans s3).trans ((s4.trans s5).trans s6)
    have hB6:EY _ r6 (B++[⟨y,x,-(C4 B R)⟩]):=⟨_,A6,(hbs3.over ((s4.trans s5).trans s6)).snoc ⟨t5,rfl,s6 _ _ (s5 _ _ A6)⟩⟩
    refine⟨n,r6,B++[⟨y,x,-(C4 B R)⟩],rfl,hB6,WF.app hw (WF.one hy hx),n0,n1,by rw[AF,Bf];lia,fun t7 l7 H7 e7 hl7 ht7 hl7'=>?_⟩
    refine ixT ht7 rfl ⟨Ar rfl,fun t8 ht8=>?_⟩
    have s8:=Ac ht8 (.tup [V.int (C4 B R),V.ref r,V.ref l7])
    refine hq2 _ _ (e36.trans (e7.trans s8)) ⟨t8,r,l7,rfl,A6,s8 _ _ (e7 _ _ (s6 _ _ (s5 _ _ (s4 _ _ (s3 _ _ hr2))))),s8 _ _ hl7'⟩
theorem UY (T:Tx K mg a):AU P w K mg base Be 1 a.f_j a.d_j ["spot","names","first"] Ug:=by
 refine T.F_j.ok aJ (fun vs H Q E h=>?_) (fun cdv A outer s H vs Q E hr h=>?_)
 .obtain⟨_,_,_,_,_,_,_,rfl,_⟩:=h;rfl
 obtain⟨t,nm,z,n,first,zs,u,rfl,ht,hn,hw,q⟩:=h
 refine⟨_,(A7 (Bi (AX Cc (Ag Ay (pw 0) A3 (fun _ _=>rfl)) Cj (AM _))
  (Ak (AR A3))
  BE)
  (Ak (AR (Aa (Av AL) (pw 2) (YQ PySem.F.slot_tuple_index PySem.F.type_tuple_index Zq (pw 1) (A0 (Ag Ay (pw 0) A3 (fun _ _=>rfl)) A4)))))),?_⟩
 refine⟨t,_,0,_,rfl,rfl,A9.of ht,rfl,rfl,_,rfl,?_⟩
 rcases hw with⟨rfl,rfl⟩|⟨hz,j,hj,hno,rfl⟩
 .exact BR (v:=true) (Da rfl) (Ce q)
 .refine BR (v:=false) (dS hz) (BW ?_)
  exact⟨⟨nm,_,rfl,hn⟩,ixT ht rfl ⟨nm,zs,z,j,rfl,rfl,A9.of hn,hj,hno,q⟩⟩
theorem ZN (T:Tx K mg a):AU P w K mg base Be 2 a.f_u a.d_u ["deed","first"] (YB a.c_Deed):=by
 have G_j :=@UY P w K mg base a T
 refine T.F_u.ok KF (fun vs H Q E h=>?_) (fun cdv A outer s H vs Q E hr h=>?_)
 .obtain⟨_,_,_,_,_,_,_,_,_,_,_,_,_,_,_,_,_,rfl,_⟩:=h;rfl
 obtain⟨d,dx,nm,lo,hh,v4,v5,v6,v7,f,zs,lz,hz,ln,hn,u,w2,rfl,hd,hnm,hlo,hhi,zl,hu,hw,q⟩:=h
 refine⟨_,(A7 (Ai (i:=2) KF.nd rfl (.inl rfl) (BA A4))
  (A7 (CD PassesOwn.never rfl (Hu (by rfl) T.z_range (A0 (Bc BM (by rfl) T.z_len BL (A0 (GX (pw 0) rfl) A4)) A4)) (AB (i:=3) KF.nd rfl (.inl rfl))
  (A7 (Ai (i:=4) KF.nd rfl (.inl rfl) (Ag Ay (GX (pw 0) rfl) (pw 3) (fun _ _=>rfl)))
  (A7 (Ai (i:=5) KF.nd rfl (.inl rfl) (Ag Ay (GX (pw 0) rfl) (pw 3) (fun _ _=>rfl)))
  (A7 (Ck (Cu Cr DK DL Dh (pw 2) (A0 (DA (Au (AJ G_j (hr.mono (by lia)) (by rfl) T.m_j T.F_j.kp T.b_j .nil AG (A0 (pw 4) (A0 (GX (pw 0) rfl) (A0 (pw 1) A4)))) (Au (Aa (Av AL) (pw 1) (pw 3)) (Au (PZ Sq (Ag Ay (pw 4) A3 (fun _ _=>rfl))) Co Sd) G4) Mz)) A4)))
  (Ak (Ck (Cu Cr DK DL Dh (pw 2) (A0 (DA (Au (Aa (Av AL) (pw 1) (pw 3)) (Au (AJ G_j (hr.mono (by lia)) (by rfl) T.m_j T.F_j.kp T.b_j .nil AG (A0 (pw 5) (A0 (GX (pw 0) rfl) (A0 (pw 1) A4)))) (Au (Ag Ay (pw 5) A3 (fun _ _=>rfl)) Co Fc) Mz) G4)) A4))))))))
  (Ak (AR (pw 2))))),?_⟩
 refine An fun _ zA=>?_
 obtain⟨xs,hx,xl,hxs⟩:=hlo
 obtain⟨os,ho,ol,hos⟩:=hhi
 refine zA ?_
 refine⟨Ar rfl,fun l hl=>?_⟩
 have e1:=Ac hl (.lst [])
 have hl1:(upd H l (.lst [])) l=some (.lst []):=A6
 dsimp only[Aq]
 generalize upd H l (.lst [])=H1 at e1 hl1
 refine⟨d,_,dx,_,_,rfl,e1 _ _ hd,T.cl_Deed,T.n_Deed_names,rfl,nm,_,rfl,.inr (A9.of (e1 _ _ hnm)),_,rfl,by rw[Al];lia,by rw[Al];lia,?_⟩
 rw[Al]
 refine K4 (lo:=0) (n:=zs.length) (fun i σ' H'=>A8 H H'/\(∃o3 o4 o5,σ'=[some (.ref d),some (.int f),some (.ref l),o3,o4,o5])/\∃ys:List V,H' l=some (.lst ys)/\E6 H' ys (Gz (Kt f u ln) (JT f w2 hn) i)) ⟨e1,⟨_,_,_,rfl⟩,[],hl1,.nil⟩ (fun i σ' H' hi pp=>?_) (fun σ' H' pp=>?_)
 .obtain⟨e,⟨o3,o4,o5,rfl⟩,ys,hy,tr⟩:=pp
  refine An fun _ zB=>?_
  have z0:(0+(i:Int))=(i:Int):=Nn _
  have x1:xs[i]?=some xs[i]:=AC (by lia)
  have x2:os[i]?=some os[i]:=AC (by lia)
  obtain⟨t1,et1,ht1⟩:=hxs i _ x1
  obtain⟨t2,et2,ht2⟩:=hos i _ x2
  refine zB ?_
  have at1:Bh xs (0+(i:Int))=some (.ref t1):=by rw[z0];exact(CQ x1).trans (congrArg some et1)
  have at2:Bh os (0+(i:Int))=some (.ref t2):=by rw[z0];exact(CQ x2).trans (congrArg some et2)
  have yl:ys.length=2*i:=by rw[tr.1,bf]
  have g1:=e _ _ ht1
  have g2:=e _ _ ht2
  refine⟨d,_,dx,_,_,rfl,e _ _ hd,T.cl_Deed,T.n_Deed_lows,rfl,ixT (e _ _ hx) at1 ?_⟩
  dsimp only[Aq]
  refine⟨d,_,dx,_,_,rfl,e _ _ hd,T.cl_Deed,T.n_Deed_highs,rfl,ixT (e _ _ ho) at2 ?_⟩
  dsimp only[Aq]
  refine⟨.inl ⟨rfl,_,A5.of hy⟩,d,_,dx,_,_,rfl,e _ _ hd,T.cl_Deed,T.n_Deed_names,rfl,t1,nm,lz i,ln i,f,zs,u i,rfl,g1,e _ _ hnm,hu i hi,t1,_,1,_,rfl,rfl,A9.of g1,rfl,_,rfl,Ar rfl,fun b1 hb1=>?_⟩
  rw[z0]
  have s3:=Ac hb1 (.tup [V.int (u i),V.int (f+(i:Int)),V.int (-(ln i))])
  have nb1:b1≠l:=fun z=>by rw[z,hy]at hb1;cases hb1
  refine⟨l,_,_,rfl,rfl,s3 _ _ hy,CF (by lia),?_⟩
  have tr3:=((tr.over s3).upd (xs:=ys++[V.ref b1]) (s3 _ _ hy)).snoc (t:=b1) (b:=Kt f u ln i) (by rw[Af nb1];exact A6)
  have hy3:(upd (upd H' b1 (.tup [V.int (u i),V.int (f+(i:Int)),V.int (-(ln i))])) l (.lst (ys++[V.ref b1]))) l=some (.lst (ys++[V.ref b1])):=A6
  have e3:A8 H (upd (upd H' b1 (.tup [V.int (u i),V.int (f+(i:Int)),V.int (-(ln i))])) l (.lst (ys++[V.ref b1]))):=fun a o ha=>by rw[Af (AI ha hl)];exact s3 _ _ (e _ _ ha)
  generalize upd (upd H' b1 (.tup [V.int (u i),V.int (f+(i:Int)),V.int (-(ln i))])) l (.lst (ys++[V.ref b1]))=H3 at tr3 hy3 e3
  have g2:=e3 _ _ ht2
  refine⟨.inl ⟨rfl,_,A5.of hy3⟩,d,_,dx,_,_,rfl,e3 _ _ hd,T.cl_Deed,T.n_Deed_names,rfl,t2,nm,hz i,hn i,f,zs,w2 i,rfl,g2,e3 _ _ hnm,hw i hi,ixT g2 rfl ⟨Ar rfl,fun b2 hb2=>?_⟩⟩
  have s4:=Ac hb2 (.tup [V.int (f+(i:Int)),V.int (w2 i),V.int (hn i)])
  have nb2:b2≠l:=fun z=>by rw[z,hy3]at hb2;cases hb2
  refine⟨l,_,_,rfl,rfl,s4 _ _ hy3,CF (by rw[AF,Bf];lia),?_⟩
  have tr4:=((tr3.over s4).upd (xs:=ys++[V.ref b1]++[V.ref b2]) (s4 _ _ hy3)).snoc (t:=b2) (b:=JT f w2 hn i) (by rw[Af nb2];exact A6)
  exact⟨fun a o ha=>by rw[Af (AI ha hl)];exact s4 _ _ (e3 _ _ ha),⟨_,_,_,rfl⟩,_,A6,tr4⟩
 .obtain⟨e,⟨o3,o4,o5,rfl⟩,ys,hy,tr⟩:=pp
  exact q l ys _ e hy tr
theorem UE (T:Tx K mg a):AU P w K mg base Be 11 a.f_v a.d_v ["plan"] Vc:=by
 have G_o :=@aQ P w K mg base a T
 refine T.F_v.ok ZR (fun vs H Q E h=>?_) (fun cdv A outer s H vs Q E hr h=>?_)
 .obtain⟨_,_,_,rfl,_⟩:=h;rfl
 obtain⟨p,B,f,rfl,⟨hf,hI,g⟩,q⟩:=h
 refine⟨_,(Ak (AR (FT ["path","cut","way"] [none,none,none] (by rfl) (Dp (AJ G_o (hr.mono (by lia)) (by rfl) T.m_o T.F_o.kp T.b_o .nil AG (A0 (pw 0) A4))) Vz (fun _ _ _ _ _ _=>⟨(show PG _ _ (Ra K 3 _) from(De rfl (AH (AB (i:=0) O3 rfl (.inl rfl)) (AH (AB (i:=1) O3 rfl (.inl rfl)) (AH (AB (i:=2) O3 rfl (.inl rfl)) Cy))))),(bc (E9 (pw 1))),(pw 0)⟩)))),?_⟩
 have dep7:D0 f<=7:=KI f B 0 6 hI fun b hb=>by have:=g.len b hb;lia
 have cnt:=Kx f B 0 6 hI fun b hb=>by have:=g.len b hb;lia
 have sl:=KG f [] 0
 have gl:=g.n6
 refine⟨p,f,rfl,hf,dep7,by lia,fun l ys H1 e1 hn hl ay=>?_⟩
 have yl:=ay.1
 refine⟨l,rfl,⟨_,A5.of hl⟩,?_⟩
 refine XY (xs:=ys) (fun i zs H'=>H'=H1/\AE (DN H1) zs ((((Fo.swF f [] 0).take i).filter (·.2.1)).map (·.1))) ⟨rfl,.nil⟩ (BD (by lia)) (fun i zs H' hi pp=>⟨by rw[pp.1];exact A5.of hl,by rw[pp.2.1,Al];exact Cz (List.length_filter_le _ _) (by rw[AV];lia)⟩) (fun i x zs H' hx pp=>?_) (fun zs H' pp r hr=>?_)
 .obtain⟨rfl,az⟩:=pp
  refine An fun _ zA=>?_
  obtain⟨sw,hsw,t,pt,rfl,ht,hpt⟩:=ay.get' hx
  refine zA ?_
  refine⟨t,_,rfl,A9.of ht,rfl,rfl,Vu (ρ:=[]) _ _ _,?_⟩
  refine⟨_,rfl,?_⟩
  rw[CJ hsw,List.filter_append,B3]
  cases c:sw.2.1 with
  |
   true=>
   refine Ce ⟨rfl,?_⟩
   rw[List.filter_cons_of_pos (p:=fun s:Fo.Sw Str=>s.2.1) c]
   exact az.snoc ⟨pt,rfl,hpt⟩
  |
   false=>
   refine BW ⟨rfl,?_⟩
   rw[List.filter_cons_of_neg (p:=fun s:Fo.Sw Str=>s.2.1) (by rw[c];decide),List.filter_nil,N9,FR]
   exact az
 obtain⟨rfl,az⟩:=pp
 rw[CU (by lia)]at az
 refine q r _ _ (e1.trans (Ac hr _)) A6 (az.mono fun _ _ zz=>?_)
 obtain⟨t,h1,h2⟩:=zz
 exact⟨t,h1,Ac hr _ _ _ h2⟩
theorem Y0 (T:Tx K mg a):AU P w K mg base Be 6 a.f_x a.d_x ["deed","pair"] (XZ a.c_Deed (GC a)):=by
 have G_u :=@ZN P w K mg base a T
 have G_i :=@Xr P w K mg base a T
 refine T.F_x.ok Kz (fun vs H Q E h=>?_) (fun cdv A outer s H vs Q E hr h=>?_)
 .obtain⟨_,_,_,_,_,_,_,rfl,_⟩:=h;rfl
 obtain⟨x,pp,D,u,w',e,d,rfl,hx,lw,hpp,he,q⟩:=h
 refine⟨_,(A7 (Ai (i:=2) Kz.nd rfl (.inl rfl) (AJ G_u (hr.mono (by lia)) (by rfl) T.m_u T.F_u.kp T.b_u .nil AG (A0 (pw 0) (A0 A3 A4))))
  (A7 (Ai (i:=3) Kz.nd rfl (.inl rfl) (Aa (Av AL) A3 (Bc BM (by rfl) T.z_len BL (A0 (GX (pw 0) rfl) A4))))
  (A7 (Vy (fun pn xe Ek hP hR=>(A7 (Ai (i:=4) Kz.nd rfl (.inl rfl) (RF G_i (hr.mono (by lia)) (by rfl) T.m_i T.F_i.kp T.b_i .nil hP (A0 (pw 3) (A0 (pw 2) (A0 A3 (A0 (Aa (Av AL) A3 (Ag (show Dg _ (Ea K) from Ay) (pw 1) A3 (fun _ _=>rfl))) A4))))))
  (Ak (Ai (i:=5) Kz.nd rfl (.inl rfl) (RF G_i (hr.mono (by lia)) (by rfl) T.m_i T.F_i.kp T.b_i .nil hP (A0 (pw 3) (A0 (pw 2) (A0 (Aa (Av AL) A3 (Ag (show Dg _ (Ea K) from Ay) (pw 1) A3 (fun _ _=>rfl))) (A0 A3 A4)))))))))
  (Uq (by rfl) T.mc_NoValues T.xi_NoValues.xc (fun ea=>(Ak (AR (BA A4))))
  Z7))
  (Ak (AR (BA (A0 (Aa (Av CB) (Ag Ay (pw 1) A3 (fun _ _=>rfl)) (Ag Ay (pw 4) A3 (fun _ _=>rfl))) (A0 (Aa (Av AL) (Ag Ay (pw 1) A3 (fun _ _=>rfl)) (Ag Ay (pw 5) A3 (fun _ _=>rfl))) A4)))))))),?_⟩
 refine An fun _ zA=>?_
 obtain⟨p0,dx,nm,lo,hi,ps,pt,ob,ls,hs,rfl,h0,h1,h2,h3,h4,h5,h6,h7,h8⟩:=hx
 refine zA ?_
 have l3:=lw.l3
 have hnm:H nm=some (.tup ((D.loops.map (·.nm)).map V.str)):=by rw[Il];exact h1
 have zl:(D.loops.map (·.nm)).length=D.loops.length:=Al _
 have sl:Mx H lo (D.loops.map (·.nm)).length (fun i=>(Fs D i).1) (fun i=>(Fs D i).2):=⟨ls,h2,by rw[zl];exact h3.1,fun i x hx=>by
  obtain⟨t,ht,r,rfl,hr⟩:=h3.get' hx
  exact⟨r,rfl,by show H r=some (.tup [.str (Fs D i).1,.int (Fs D i).2]);rw[(Hf ht).2.1];exact hr⟩⟩
 have sh:Mx H hi (D.loops.map (·.nm)).length (fun i=>(Fi D i).1) (fun i=>(Fi D i).2):=⟨hs,h4,by rw[zl];exact h5.1,fun i x hx=>by
  obtain⟨t,ht,r,rfl,hr⟩:=h5.get' hx
  exact⟨r,rfl,by show H r=some (.tup [.str (Fi D i).1,.int (Fi D i).2]);rw[(Hf ht).2.2];exact hr⟩⟩
 refine⟨p0,dx,nm,lo,hi,_,_,_,_,1,D.loops.map (·.nm),fun i=>(Fs D i).1,fun i=>(Fi D i).1,fun i=>(Fs D i).2,fun i=>(Fi D i).2,fun i=>(u i:Int),fun i=>(w' i:Int),rfl,h0,hnm,sl,sh,by lia,fun i hi=>lw.lo i (by lia),fun i hi=>lw.hi i (by lia),fun bl ys H1 e1 hbl tri=>?_⟩
 rw[zl]at tri
 have bs:=YX _ tri
 dsimp only[Aq]
 refine⟨p0,_,dx,_,_,rfl,e1 _ _ h0,T.cl_Deed,T.n_Deed_names,rfl,nm,_,rfl,.inr (A9.of (e1 _ _ hnm)),?_⟩
 dsimp only[Aq,FI]
 rw[show((1:Int)+((((D.loops.map (·.nm)).map V.str).length:Nat):Int))=((1+D.loops.length:Nat):Int) by rw[Al,zl];lia]
 have hB:EY H1 bl (DU D u w'):=⟨ys,hbl,bs⟩
 have wf:WF (1+D.loops.length) (DU D u w'):=Qa lw.lt
 have bl6:(DU D u w').length<=60:=by rw[Q6];lia
 have ey:(1:Int)+(e:Int)=((1+e:Nat):Int):=by lia
 refine Ca (fun σ' H'=>A8 H1 H'/\∃(t1 t2:Addr) (c1 c2:Int) (v1 v2 v3 v4:V),σ'=[some (.ref p0),some (.ref pp),some (.ref bl),some (.int ((1+D.loops.length:Nat):Int)),some (.ref t1),some (.ref t2)]/\H' t1=some (.tup [.int c1,v1,v2])/\H' t2=some (.tup [.int c2,v3,v4])/\(∀g,Holds g (DU D u w')->g 0-g (1+e)<=c1)/\(∃g,Holds g (DU D u w')/\g 0-g (1+e)=c1)/\(∀g,Holds g (DU D u w')->g (1+e)-g 0<=c2)/\(∃g,Holds g (DU D u w')/\g (1+e)-g 0=c2)) (fun σ' H' hh=>?_) (fun _ nx=>?_)
 .obtain⟨e2,t1,t2,c1,c2,v1,v2,v3,v4,rfl,ht1,ht2,m1,m2,m3,m4⟩:=hh
  have hp2:=(e1.trans e2) _ _ hpp
  refine⟨pp,_,1,_,rfl,rfl,A9.of hp2,rfl,t1,_,0,_,rfl,rfl,A9.of ht1,rfl,pp,_,1,_,rfl,rfl,A9.of hp2,rfl,t2,_,0,_,rfl,rfl,A9.of ht2,rfl,Ar rfl,fun r hr=>?_⟩
  refine q r _ [d-c1,d+c2] (e1.trans (e2.trans (Ac hr _))) A6 (.inr ⟨d-c1,d+c2,rfl,fun f hf=>?_,?_,?_⟩)
  .have:=m1 f hf;have:=m3 f hf;lia
  .obtain⟨g,h1,h2⟩:=m2;exact⟨g,h1,by lia⟩
  .obtain⟨g,h1,h2⟩:=m4;exact⟨g,h1,by lia⟩
 have exn:(∀f,¬Holds f (DU D u w'))->∀(r:Addr) (H':Hp),A8 H1 H'->H' r=none->Q (.ref r) (upd H' r (.lst [])):=fun no r H' e2 hr=>q r _ [] (e1.trans (e2.trans (Ac hr _))) A6 (.inl ⟨rfl,no⟩)
 by_cases hf:∃f,Holds f (DU D u w')
 .obtain⟨f,hf⟩:=hf
  refine An fun _ zB=>?_
  obtain⟨c1,R1,vs1,mr1,u1,a1⟩:=Re lw.lt (x:=0) (y:=1+e) (by lia) (by lia) (.inl rfl) hf
  obtain⟨c2,R2,vs2,mr2,u2,a2⟩:=Re lw.lt (x:=1+e) (y:=0) (by lia) (by lia) (.inr rfl) hf
  refine zB ?_
  refine⟨pp,_,0,_,rfl,rfl,A9.of (e1 _ _ hpp),rfl,1+D.loops.length,bl,_,0,1+e,by show[_,_,_,V.int (1+(e:Int))]=_;rw[ey];rfl,hB,wf,by lia,bl6,by lia,by lia,fun f2 hf2 v H2 e2 hm=>?_,fun R u0 eR hR=>(hR.none hf).elim⟩
  unfold Jw at hm
  rw[mr1]at hm
  refine An fun _ zC=>?_
  obtain⟨t1,l1,l2,rfl,ht1,_⟩:=hm
  refine zC ?_
  dsimp only[Aq]
  refine⟨pp,_,0,_,rfl,rfl,A9.of ((e1.trans e2) _ _ hpp),rfl,1+D.loops.length,bl,_,1+e,0,by show[_,_,V.int (1+(e:Int)),_]=_;rw[ey];rfl,⟨ys,e2 _ _ hbl,bs.over e2⟩,wf,by lia,bl6,by lia,by lia,fun f2 hf2 v H3 e3 hm=>?_,fun R u0 eR hR=>(hR.none hf).elim⟩
  unfold Jw at hm
  rw[mr2]at hm
  refine An fun _ zD=>?_
  obtain⟨t2,l3,l4,rfl,ht2,_⟩:=hm
  refine zD ?_
  exact nx _ _ ⟨e2.trans e3,t1,t2,c1,c2,_,_,_,_,rfl,e3 _ _ ht1,ht2,u1,a1,u2,a2⟩
 .have no:∀f,¬Holds f (DU D u w'):=fun f h=>hf ⟨f,h⟩
  refine⟨pp,_,0,_,rfl,rfl,A9.of (e1 _ _ hpp),rfl,1+D.loops.length,bl,_,0,1+e,by show[_,_,_,V.int (1+(e:Int))]=_;rw[ey];rfl,hB,wf,by lia,bl6,by lia,by lia,fun f2 hf2=>absurd hf2 (no f2),fun R u0 eR hR xx dx r H2 e2 hxx hdx hr2=>?_⟩
  obtain⟨N,ct⟩:=T.ct_NoValues
  refine⟨xx,_,some dx,rfl,hxx,N,_,true,ct,by rw[Ui];exact Da (.inl rfl),Ce ?_⟩
  exact⟨Ar rfl,fun r hr=>exn no r _ e2 hr⟩
theorem Xb (T:Tx K mg a):AU P w K mg base Be 10 a.f_w a.d_w ["program","plan","path"] (Zy a.c_Program a.c_Deed (GC a)):=by
 have G_e :=@SU P w K mg base a T 7
 have G_x :=@Y0 P w K mg base a T
 refine T.F_w.ok Hh (fun vs H Q E h=>?_) (fun cdv A outer s H vs Q E hr h=>?_)
 .obtain⟨_,_,_,_,_,_,_,_,_,_,rfl,_⟩:=h;rfl
 obtain⟨v,p,pa,n,Ds,B,f,u,w',sw,rfl,hP,hG,pd,hsw,hpa,q⟩:=h
 refine⟨_,(A7 (Ai (i:=3) Hh.nd rfl (.inl rfl) (Bc BM (by rfl) T.z_len BL (A0 (pw 2) A4)))
  (A7 (Ai (i:=4) Hh.nd rfl (.inl rfl) (BA A4))
  (A7 (CD PassesOwn.never rfl (Dp (AJ G_e (hr.mono (by lia)) (by rfl) T.m_e T.F_e.kp T.b_e .nil AG (A0 (pw 1) (A0 (Bq A4) (A0 (Bq A4) A4))))) (De rfl (AH (AB (i:=5) Hh.nd rfl (.inl rfl)) (AH (AB (i:=6) Hh.nd rfl (.inl rfl)) (AH (AB (i:=7) Hh.nd rfl (.inl rfl)) (AH (AB (i:=8) Hh.nd rfl (.inl rfl)) Cy)))))
  (Ak (Bi (AX (Mj (Hc hr)) (GK QU (pw 7) Hg (Ga (pw 3))) (pw 2) (AM _))
  (Ak (Ck (Cu Cr Tz TB OI (pw 4) (A0 (AJ G_x (hr.mono (by lia)) (by rfl) T.m_x T.F_x.kp T.b_x .nil AG (A0 (Ag B4 (GX (pw 0) rfl) (pw 5) (fun _ _=>rfl)) (A0 (Ag Ay (pw 6) (Aa (Av CB) (pw 3) A3) (fun _ _=>rfl)) A4))) A4))))
  BE)))
  (A7 (Bi (AX (Mj (Hc hr)) (pw 4) (BA A4) (AM _))
  (Ak (AR (Bq (A0 A3 (A0 A3 A4)))))
  BE)
  (Ak (AR (Bq (A0 (Bc (U1 rfl) (by rfl) T.z_min Mo (A0 (pw 4) A4)) (A0 (Bc (WQ rfl) (by rfl) T.z_max QO (A0 (pw 4) A4)) A4))))))))),?_⟩
 refine An fun _ zA=>?_
 obtain⟨hf,hI,g⟩:=id hG
 obtain⟨x,dx,dl,rfl,hx,dxs,hdl,adx⟩:=hP
 refine zA ?_
 have dep7:D0 f<=7:=KI f B 0 6 hI fun b hb=>by have:=g.len b hb;lia
 have dl6:(Fo.deedsF f [] 0).length<=6:=by rw[Fo.deeds_len [] 0 hI];exact g.n6
 refine⟨pa,_,rfl,.inr (A9.of hpa),?_⟩
 rw[Al]
 dsimp only[Aq]
 refine⟨Ar rfl,fun ti hti=>?_⟩
 have s1:=Ac hti (.lst [])
 have hti1:(upd H ti (.lst [])) ti=some (.lst []):=A6
 dsimp only[Aq]
 generalize upd H ti (.lst [])=H1 at s1 hti1
 refine⟨Ar rfl,fun t1 ht1=>⟨Ar rfl,fun t2 ht2=>?_⟩⟩
 have s2:=(Ac ht1 (.tup [])).trans (Ac ht2 (.tup []))
 have s12:=s1.trans s2
 refine⟨p,t1,t2,f,[],[],rfl,hf.over s12,Ac ht2 _ _ _ A6,A6,dep7,by decide,by decide,by lia,fun l ys H3 e3 hl ay=>?_⟩
 have e13:=s2.trans e3
 have e03:=s1.trans e13
 have yl:=ay.1
 have hti3:=e13 _ _ hti1
 have nlt:l≠ti:=fun z=>by
  rw[z,hti3]at hl
  cases hl
  rw[Ii]at yl
  have:=JF yl.symm
  have hb:=Fo.deeds_len [] 0 hI
  rw[this]at hb
  have:B=[]:=JF hb.symm
  rw[this]at hI
  cases f with
  |nil=>cases hsw
  |leaf _ _ _=>obtain⟨_,_,z,_⟩:=hI;cases z
  |node _ _ _ _=>obtain⟨_,_,_,z,_⟩:=hI;cases z
 refine⟨l,rfl,⟨_,A5.of hl⟩,?_⟩
 refine Hl (xs:=ys) (fun i σ' H'=>∃(L:List Int) (o5 o6 o7 o8:Option V),σ'=[some (.ref x),some (.ref p),some (.ref pa),some (.int (sw.1.length:Int)),some (.ref ti),o5,o6,o7,o8]/\(∀b o,b≠ti->H3 b=some o->H' b=some o)/\H' ti=some (.lst (L.map V.int))/\E7 Ds u w' sw.1 ((Fo.deedsF f [] 0).take i) L) ⟨[],_,_,_,_,rfl,fun _ _ _ h=>h,hti3,.nil⟩ (fun i σ' H' _ pp=>by obtain⟨_,_,_,_,_,_,k,_⟩:=pp;exact A5.of (k _ _ nlt hl)) (fun i y σ' H' hy pp=>?_) (fun σ' H' pp=>?_)
 rotate_left
 .obtain⟨L,o5,o6,o7,o8,rfl,k,hL,tms⟩:=pp
  rw[CU (by lia)]at tms
  have eH:A8 H H':=fun b o hb=>k _ _ (AI hb hti) (e03 _ _ hb)
  have Ll:=tms.len
  refine⟨Ar rfl,fun z hz=>?_⟩
  have s4:=Ac hz (.lst [])
  refine⟨.lst (L.map fun i=>Tr.v (.int i)),.lst [],.lst (A5.of (s4 _ _ hL)) (Kd L),.lst (A5.of A6) .nil,⟨_,rfl⟩,⟨_,rfl⟩,by rw[CG];cases L<;>rfl,by rw[Do,LH];decide,_,rfl,?_⟩
  cases L with
  |
   nil=>
   refine BR (v:=true) rfl (Ce ?_)
   exact⟨Ar rfl,fun r hr=>q (.ref r) _ (0,0) (eH.trans (s4.trans (Ac hr _))) ⟨r,rfl,A6⟩ ⟨[],tms,.inl ⟨rfl,rfl⟩⟩⟩
  |
   cons a0 L'=>
   refine BR (v:=false) rfl (BW ?_)
   have hL4:=s4 _ _ hL
   refine⟨ti,_,rfl,A5.of hL4,by rw[B9];lia,fun M hM hmin=>?_⟩
   refine⟨ti,_,rfl,A5.of hL4,by rw[B9];lia,fun N hN hmax=>⟨Ar rfl,fun r hr=>?_⟩⟩
   exact q (.ref r) _ (M,N) (eH.trans (s4.trans (Ac hr _))) ⟨r,rfl,A6⟩ ⟨_,tms,.inr ⟨hM,hmin,hN,hmax⟩⟩
 refine An fun _ zB=>?_
 obtain⟨L,o5,o6,o7,o8,rfl,k,hL,tms⟩:=pp
 have tk:TK H3 H':=fun b o hb=>k _ _ (EZ hb hti3 (by intro z;cases z)) hb
 obtain⟨en,hen,t,pl,pt,cu,rfl,ht,hpl,hpt⟩:=(ay.mono fun _ _ z=>z.tk tk).get' hy
 refine zB ?_
 have il:i<(Fo.deedsF f [] 0).length:=(As.mp hen).1
 have eH:A8 H H':=fun b o hb=>k _ _ (AI hb hti) (e03 _ _ hb)
 have Ll:=tms.len
 rw[AV]at Ll
 refine⟨t,_,rfl,A9.of ht,rfl,rfl,?_⟩
 refine⟨_,rfl,pt,_,rfl,hpt,fun sl H4 e4 hsl=>?_⟩
 have cy:Cv (en.path.map V.int) none (some (sw.1.length:Int))=(en.path.take sw.1.length).map V.int:=by rw[Ly,List.map_take]
 rw[cy]at hsl
 have hpa4:=(eH.trans e4) _ _ hpa
 refine⟨.tup ((en.path.take sw.1.length).map fun i=>Tr.v (.int i)),.tup (sw.1.map fun i=>Tr.v (.int i)),.tup (A9.of hsl) (Kd _),.tup (A9.of hpa4) (Kd _),⟨_,rfl⟩,⟨_,rfl⟩,by rw[CG];exact RZ _ _,by rw[Do,LH];decide,_,rfl,?_⟩
 have hL4:=e4 _ _ hL
 by_cases c:en.path.take sw.1.length=sw.1
 rotate_left
 .refine BR (v:=false) (by rw[BZ];exact c6 c) (BW ?_)
  refine⟨L,_,_,_,_,rfl,fun b o hb h=>e4 _ _ (k b o hb h),hL4,?_⟩
  rw[CJ hen]
  exact .skip tms c
 refine BR (v:=true) (by rw[c,BZ];exact RD _) (Ce ?_)
 refine An fun _ zC=>?_
 have long:=Fo.sw_longer f [] 0 en sw (AO hen) hsw c
 obtain⟨r0,rs0,swp,_⟩:=Fo.sw_pre f [] 0 sw hsw
 refine zC ?_
 have sp:0<sw.1.length:=by rw[swp];simp
 have hb:B[i]?=some (B[i]'(by rw[←Fo.deeds_len [] 0 hI];exact il)):=AC _
 generalize B[i]'(by rw[←Fo.deeds_len [] 0 hI];exact il)=b at hb
 refine An fun _ zD=>?_
 obtain⟨en2,hen2,ek,epl⟩:=MC hI hb
 refine zD ?_
 rw[hen]at hen2
 cases hen2
 refine An fun _ zE=>?_
 obtain⟨r1,rs1,e1p,dwn⟩:=Fo.deeds_down f B 0 [] 0 i en b hI (fun _ _ _=>Bk _) g.ok (fun _ _=>Bk _) hen hb
 refine zE ?_
 have dlen:=MX dwn
 rw[La]at dlen
 refine An fun _ zF=>?_
 have plen:en.path.length=b.ways.length+1:=by rw[e1p,Ih,B9,Al,←dlen];rfl
 have bm:=AO hb
 have pll:=g.pll b bm
 obtain⟨kd,D,ekd,hD,hpr⟩:=pd.dd b bm
 obtain⟨xd,hxd,dat⟩:=adx.get hD
 obtain⟨pxs,hpxs,apx⟩:=hpl
 refine zF ?_
 rw[epl]at apx
 have pxl:=apx.1
 have hpe:b.pl[sw.1.length-1]?=some (b.pl[sw.1.length-1]'(by lia)):=AC (by lia)
 generalize b.pl[sw.1.length-1]'(by lia)=pe at hpe
 refine An fun _ zG=>?_
 obtain⟨px,hpx,tp,rfl,htp⟩:=apx.get hpe
 obtain⟨pe0,pe1⟩:=hpr pe (AO hpe)
 obtain⟨pe1',pe2⟩:=pe
 obtain⟨e,rfl⟩:∃e:Nat,pe1'=(e:Int):=⟨pe1'.toNat,by have:0<=pe1':=pe0;lia⟩
 refine zG ?_
 have elt:e<D.loops.length:=by have:(e:Int)<(D.loops.length:Int):=pe1;lia
 have eH4:=eH.trans e4
 have at1:Bh pxs ((sw.1.length:Int)-1)=some (.ref tp):=by
  rw[show(sw.1.length:Int)-1=((sw.1.length-1:Nat):Int) by lia]
  exact CQ hpx
 have at0:Bh dxs en.k=some xd:=by rw[ek,ekd];exact CQ hxd
 refine⟨.inl ⟨rfl,_,A5.of hL4⟩,x,_,dx,_,_,rfl,eH4 _ _ hx,T.cl_Program,T.n_Program_deeds,rfl,dl,_,_,_,rfl,rfl,A5.of (eH4 _ _ hdl),at0,pl,_,_,_,rfl,rfl,A9.of (e4 _ _ hpxs),at1,?_⟩
 refine⟨xd,tp,D,u kd,w' kd,e,pe2,rfl,Du.over eH4 dat,pd.lw kd D hD,e4 _ _ htp,elt,fun r5 H5 M e5 hr5 ent=>?_⟩
 have hL5:=e5 _ _ hL4
 have Ml:=ent.len
 refine⟨ti,r5,_,_,rfl,rfl,hL5,hr5,BD (by rw[Al,Al];lia),?_⟩
 refine⟨L++M,_,_,_,_,rfl,fun b o hb h=>by rw[Af hb];exact e5 _ _ (e4 _ _ (k b o hb h)),by rw[A6,B3],?_⟩
 rw[CJ hen]
 exact .add tms c (by rw[ek,ekd]) hD (by rw[epl];exact hpe) ent
theorem XW (T:Tx K mg a):AU P w K mg base Be 12 a.f_c a.d_c ["program","plan"] (WS a.c_Program a.c_Deed (GC a)):=by
 have G_v :=@UE P w K mg base a T
 have G_w :=@Xb P w K mg base a T
 refine T.F_c.ok cO (fun vs H Q E h=>?_) (fun cdv A outer s H vs Q E hr h=>?_)
 .obtain⟨_,_,_,_,_,_,_,_,rfl,_⟩:=h;rfl
 obtain⟨v,p,n,Ds,B,f,u,w',rfl,hP,hG,pd,q⟩:=h
 refine⟨_,(Ak (AR (FT ["path","plan","program"] [none,some 1,some 0] (by rfl) (Dp (AJ G_v (hr.mono (by lia)) (by rfl) T.m_v T.F_v.kp T.b_v .nil AG (A0 (pw 1) A4))) bT (fun _ _ _ _ _ _=>⟨(AB (i:=0) aI rfl (.inl rfl)),EO,(AJ G_w (hr.mono (by lia)) (by rfl) T.m_w T.F_w.kp T.b_w .nil AG (A0 (pw 2) (A0 (pw 1) (A0 (pw 0) A4))))⟩)))),?_⟩
 refine⟨p,B,f,rfl,hG,fun l ys H1 e1 hl ay=>?_⟩
 have yl:=ay.1
 have c36:(Fe f).length<=1000:=by
  unfold Fe
  rw[Al]
  have h1:=List.length_filter_le (fun s:Fo.Sw Str=>s.2.1) (Fo.swF f [] 0)
  have h2:=KG f [] 0
  have h3:=Kx f B 0 6 hG.2.1 fun b hb=>by have:=hG.2.2.len b hb;lia
  have h4:=hG.2.2.n6
  lia
 have wkP:∀{HX:Hp},A8 H HX->Kj a.c_Program a.c_Deed (GC a) HX v n Ds:=fun{HX} e=>by
  obtain⟨x,dx,dl,rfl,hx,dxs,hdl,adx⟩:=hP
  exact⟨x,dx,dl,rfl,e _ _ hx,dxs,e _ _ hdl,adx.mono fun _ _ z=>Du.over e z⟩
 refine⟨l,rfl,⟨_,A5.of hl⟩,?_⟩
 refine G1 (xs:=ys) (fun i zs H'=>A8 H1 H'/\∃E:List (Int×Int),AE (Fb H') zs E/\E.length=i/\∀(j:Nat) (P:List Int) (pr:Int×Int),(Fe f)[j]?=some P->E[j]?=some pr->MN Ds u w' f P pr) ⟨A8.refl _,[],.nil,rfl,fun j P pr _ h=>by cases h⟩ (BD (by lia)) (fun i zs H' hi pp=>⟨A5.of (pp.1 _ _ hl),by obtain⟨_,E,az,El,_⟩:=pp;rw[az.1,El];exact Ah _⟩) (fun i x zs H' hx pp=>?_) (fun zs H' pp r hr=>?_)
 .obtain⟨e2,E,az,El,hE⟩:=pp
  refine An fun _ zA=>?_
  obtain⟨Pp,hPp,t,rfl,ht⟩:=ay.get' hx
  obtain⟨sw,hsw,rfl⟩:=C9.mp (AO hPp)
  refine zA ?_
  have hsw:=(Ta.mp hsw).1
  have e12:=e1.trans e2
  refine⟨v,p,t,n,Ds,B,f,u,w',sw,rfl,wkP e12,hG.over e12,pd,hsw,e2 _ _ ht,fun y H3 pr e3 hy hpr=>?_⟩
  refine⟨e2.trans e3,E++[pr],(az.mono fun _ _ z=>z.over e3).snoc hy,by rw[AF,El];rfl,fun j P pr2 hj hp=>?_⟩
  rcases DJ j E.length with z|z
  .rw[C8 z]at hp
   exact hE j P pr2 hj hp
  .have l:=(As.mp hp).1
   rw[AF,Bf]at l
   have:j=E.length:=by lia
   subst this
   rw[BH (Ah _),Cq]at hp
   cases hp
   rw[El,hPp]at hj
   cases hj
   exact hpr
 refine An fun _ zB=>?_
 obtain⟨e2,E,az,El,hE⟩:=pp
 refine zB ?_
 have s3:=Ac hr (.lst zs)
 exact q r zs _ E (e1.trans (e2.trans s3)) ((e1.trans e2).free hr) A6 (az.mono fun _ _ z=>z.over s3) (by lia) (by lia) hE
theorem IU (T:Tx K mg a):AU P w K mg base Be 1 a.f_a a.d_a ["_law_script","_law_k"] (Wc K):=by
 refine T.F_a.ok KY (fun vs H Q E h=>?_) (fun cdv A outer s H vs Q E hr h=>?_)
 .obtain⟨_,_,_,rfl,_⟩:=h;rfl
 obtain⟨p,ns,k,rfl,hS,h0,h1,q⟩:=h
 refine⟨_,(A7 (Ai (i:=2) KY.nd rfl (.inl rfl) (Aa (Av AL) (Aa (oJ CK) A3 (pw 1)) A3))
  (A7 (Bi (AX (Av Gu) (pw 1) (Bc BM (by rfl) T.z_len BL (A0 (pw 0) A4)) (AM _))
  (Ak (Ai (i:=2) KY.nd rfl (.inl rfl) (Aa (Av AL) (pw 2) (Ag B4 (pw 0) (pw 1) (fun _ _=>rfl)))))
  (Ak (Bi (AX (Av FL) (Bc BM (by rfl) T.z_len BL (A0 (pw 0) A4)) A3 (AM _))
  (Ak (Ai (i:=2) KY.nd rfl (.inl rfl) (Aa (Av AL) (Aa (oJ CK) A3 (pw 2)) (Ag B4 (pw 0) (Aa (oJ Cg) (Aa (oJ CK) (pw 1) A3) (Bc BM (by rfl) T.z_len BL (A0 (pw 0) A4))) (fun _ _=>rfl)))))
  BE)))
  (A7 (Ai (i:=2) KY.nd rfl (.inl rfl) (Aa (oJ Cg) (Aa (oJ CK) (pw 2) A3) A3))
  (Ak (AR (Aa (oJ Cg) (Aa (oJ CK) (pw 2) (pw 2)) A3)))))),?_⟩
 have hl:(ns.map V.int).length=ns.length:=Al _
 have p64:(2:Int) ^ 64=18446744073709551616:=by decide
 refine⟨.inl ⟨by decide,by decide⟩,?_⟩
 dsimp only[Aq,Za,FI]
 refine Ca (fun σ' H'=>H'=H/\∃n:Int,σ'=[some (.ref p),some (.int k),some (.int n)]) (fun σ' H' m=>?_) (fun _ nx=>?_)
 .obtain⟨rfl,n,rfl⟩:=m
  have b0:=Ei (n*48271) (show(2147483647:Int)≠0 by decide)
  have b1:=Ej (n*48271) (show(0:Int)<2147483647 by decide)
  refine⟨.inr ⟨by decide,by decide⟩,(by show(0:Int)<2147483647;decide),?_⟩
  exact⟨.inl ⟨by lia,by lia⟩,(by show(0:Int)<2147483629;decide),q _ (Ei _ (by decide)) (Ej _ (by decide))⟩
 refine⟨p,_,rfl,.inl hS,_,rfl,?_⟩
 refine BJ (fun c=>?_) (fun c=>?_)
 .have c':=dT c
  rw[hl]at c'
  exact⟨p,_,_,_,rfl,rfl,hS,QV h0 c',nx _ _ ⟨rfl,_,rfl⟩⟩
 refine⟨p,_,rfl,.inl hS,_,rfl,?_⟩
 refine BJ (fun c2=>?_) (fun c2=>nx _ _ ⟨rfl,_,rfl⟩)
 have c2:=dT c2
 have m0:=Ei (k*7) (show((ns.map V.int).length:Int)≠0 by lia)
 have m1:=Ej (k*7) c2
 exact⟨.inl ⟨by decide,by decide⟩,.inr ⟨by decide,by decide⟩,p,_,rfl,.inl hS,c2,p,_,_,_,rfl,rfl,hS,QV m0 (by rw[hl]at m1 ⊢;exact m1),nx _ _ ⟨rfl,_,rfl⟩⟩
theorem JO (T:Tx K mg a):AU P w K mg base Be 1 a.f_b a.d_b ["_law_cell","_law_sizes"] bR:=by
 refine T.F_b.ok LG (fun vs H Q E h=>?_) (fun cdv A outer s H vs Q E hr h=>?_)
 .obtain⟨_,_,_,rfl,_⟩:=h;rfl
 obtain⟨c,l,ms,rfl,hl,c0,ml,mb,q⟩:=h
 refine⟨_,(A7 (Ai (i:=2) LG.nd rfl (.inl rfl) (BA A4))
  (A7 (CD PassesOwn.never rfl (Dp (pw 1)) (AB (i:=3) LG.nd rfl (.inl rfl))
  (A7 (Ck (Cu Cr DK DL Dh (pw 2) (A0 (Aa (oJ Cg) (pw 0) (pw 3)) A4)))
  (Ak (Ai (i:=0) LG.nd rfl (.inl rfl) (Aa (oJ He) (pw 0) (pw 3))))))
  (Ak (AR (pw 2))))),?_⟩
 refine⟨Ar rfl,fun r hr'=>?_⟩
 have s1:=Ac hr' (.lst [])
 refine⟨l,rfl,⟨_,A5.of (s1 _ _ hl)⟩,?_⟩
 refine Hl (xs:=ms.map V.int) (fun i σ' H'=>A8 H H'/\∃(x:Int) (ds:List Int) (o3:Option V),σ'=[some (.int x),some (.ref l),some (.ref r),o3]/\0<=x/\H' r=some (.lst (ds.map V.int))/\ds.length=i/\∀(j:Nat) (d m:Int),ds[j]?=some d->ms[j]?=some m->0<=d/\d<m) ⟨s1,c,[],_,rfl,c0,A6,rfl,fun j d m hd=>by simp at hd⟩ (fun i σ' H' _ p=>A5.of (p.1 _ _ hl)) (fun i x σ' H' hx p=>?_) (fun σ' H' p=>?_)
 .obtain⟨e,x0,ds,o3,rfl,x0n,hr2,dl,db⟩:=p
  rw[AQ]at hx
  cases hm:ms[i]? with
  |none=>rw[hm]at hx;cases hx
  |
   some m=>
   rw[hm]at hx
   cases hx
   obtain⟨m0,m1⟩:=mb m (AO hm)
   have hi:=(As.mp hm).1
   refine⟨.inl ⟨rfl,_,A5.of hr2⟩,m0,r,_,_,rfl,rfl,hr2,CF (by rw[Al];lia),?_⟩
   refine⟨⟨m0,m1⟩,?_⟩
   refine⟨fun b o eb=>by rw[Af (AI eb hr')];exact e _ _ eb,x0/m,ds++[x0%m],_,rfl,Int.ediv_nonneg x0n (Pg m0),by rw[A6,B3];rfl,by rw[AF,dl];rfl,fun j d m' hd hm'=>?_⟩
   by_cases cj:j<ds.length
   .rw[C8 cj]at hd
    exact db j d m' hd hm'
   .have ej:j=ds.length:=by
     have:=(As.mp hd).1
     rw[AF,Bf]at this
     lia
    subst ej
    rw[BH (Ah _),Cq]at hd
    cases hd
    rw[dl,hm]at hm'
    cases hm'
    exact⟨Ei _ (by lia),Ej _ m0⟩
 .obtain⟨e,x0,ds,o3,rfl,x0n,hr2,dl,db⟩:=p
  rw[Al]at dl
  exact q r _ ds e hr2 dl db
theorem Yr (T:Tx K mg a):AU P w K mg base Be 1 a.f_y a.d_y ["_law_cell"] Xk:=by
 refine T.F_y.ok cI (fun vs H Q E h=>?_) (fun cdv A outer s H vs Q E hr h=>?_)
 .obtain⟨_,rfl,_⟩:=h;rfl
 obtain⟨m,rfl,m0,q⟩:=h
 refine⟨_,(@Ak _ _ _ (@AR _ _ _ _ (@Ag _ _ _ _ _ _ _ B4 (@Gk _ _ _ _ (@Au _ _ _ _ _ A3 (@Au _ _ _ _ _ A3 (@Au _ _ _ _ _ A3 (@Au _ _ _ _ _ A3 (@Au _ _ _ _ _ A3 (@Au _ _ _ _ _ A3 (@Au _ _ _ _ _ A3 (@Au _ _ _ _ _ (@Aa _ _ _ _ _ _ _ _ (Av AL) A3 (@Aa _ _ _ _ _ _ _ _ (oJ Cg) (@Aa _ _ _ _ _ _ _ _ (oJ He) (pw 0) A3) A3)) Co G4) Bp) Bp) Bp) Bp) Bp) Bp) Bp)) (@Aa _ _ _ _ _ _ _ _ (oJ Cg) (pw 0) A3) (fun _ _=>rfl)))),?_⟩
 refine⟨⟨by decide,by decide⟩,(by show(0:Int)<3;decide),Ar rfl,fun l hl=>?_⟩
 refine An fun _ zA=>?_
 have k0:=Ei (m/8) (show(3:Int)≠0 by decide)
 have k1:=Ej (m/8) (show(0:Int)<3 by decide)
 obtain⟨z,hz,ez⟩:=RS (L:=[1,2,3,2,3,1,2,4+m/8%3]) (i:=m%8) 8 rfl (Ei _ (by decide)) (Ej _ (by decide))
 refine zA ?_
 simp only[AS,DI,or_false]at hz
 obtain⟨n,rfl⟩:∃n:Nat,z=(n:Int):=⟨z.toNat,by lia⟩
 refine⟨(by show(0:Int)<8;decide),ixL A6 ez (q n _ (Ac hl _) (by lia) (by lia))⟩
theorem Wo (T:Tx K mg a):AU P w K mg base Be 2 a.f_z a.d_z ["_law_cell","_law_loops"] X2:=by
 have G_b :=@JO P w K mg base a T
 refine T.F_z.ok CC (fun vs H Q E h=>?_) (fun cdv A outer s H vs Q E hr h=>?_)
 .obtain⟨_,_,_,rfl,_⟩:=h;rfl
 obtain⟨cell,ll,L,rfl,c0,hL,okL,l2,q⟩:=h
 refine⟨_,(A7 (Ee (AJ G_b (hr.mono (by lia)) (by rfl) T.m_b T.F_b.kp T.b_b .nil AG (A0 (pw 0) (A0 (Gk (Au A3 (Au A3 (Au A3 (Au A3 (Au A3 (Au A3 (Au A3 Co Bp) Bp) Bp) Bp) Bp) Bp) Bp)) A4))) (IV rfl (AH (AB (i:=2) CC.nd rfl (.inl rfl)) (AH (AB (i:=3) CC.nd rfl (.inl rfl)) (AH (AB (i:=4) CC.nd rfl (.inl rfl)) (AH (AB (i:=5) CC.nd rfl (.inl rfl)) (AH (AB (i:=6) CC.nd rfl (.inl rfl)) (AH (AB (i:=7) CC.nd rfl (.inl rfl)) (AH (AB (i:=8) CC.nd rfl (.inl rfl)) Cy)))))))))
  (A7 (Ai (i:=9) CC.nd rfl (.inl rfl) Cj)
  (A7 (Ai (i:=10) CC.nd rfl (.inl rfl) (Aa R5 (Ag Rv (pw 9) (pw 7) (fun _ _=>rfl)) (Aa bV (Ag Rv (pw 9) (Aa (oJ Cg) (pw 8) A3) (fun _ _=>rfl)) (Aa (oJ He) (pw 8) A3))))
  (A7 (Gp PassesOwn.never (AX cB (pw 10) (FT ["_law_loop_here"] [none] (by rfl) (Dp (pw 1)) aL (fun _ _ _ _ _ _=>⟨(AB (i:=0) UQ rfl (.inl rfl)),EO,(Ag (show Dg _ (Ea K) from Ay) (pw 0) A3 (fun _ _=>rfl))⟩)) (by with_unfolding_all rfl))
  (Ak (Ai (i:=10) CC.nd rfl (.inl rfl) (Aa R5 (pw 10) Cj))))
  (A7 (Ai (i:=11) CC.nd rfl (.inl rfl) (Aa (Av CB) (pw 3) A3))
  (A7 (Bi (AX (Mj (Hc hr)) (pw 1) (BA A4) (AM _))
  (A7 (Ai (i:=12) CC.nd rfl (.inl rfl) (Aa (Av CB) (Aa (Av AL) (pw 11) (Ag B4 (Gk (Au A3 (Au A3 (Au A3 Co Bp) Bp) Bp)) (pw 4) (fun _ _=>rfl))) (Aa (oJ CK) A3 (Dj Fv (by rfl) T.z_int Fg (A0 (Ef Cc (pw 5) A3 (AM _)) A4)))))
  (Ak (AR (DA (Au (pw 10) (Au (Bq (A0 Cj (A0 (pw 11) A4))) (Au (Bq (A0 Cj (A0 (pw 12) A4))) (Au (pw 11) (Au (pw 12) Co Cm) Cm) ES) ES) Cm)))))
  BE)
  (A7 (Ee (Ag B4 (pw 1) (Aa (oJ Cg) (pw 6) (Bc BM (by rfl) T.z_len BL (A0 (pw 1) A4))) (fun _ _=>rfl)) (De rfl (AH (AB (i:=13) CC.nd rfl (.inl rfl)) (AH (AB (i:=14) CC.nd rfl (.inl rfl)) (AH (AB (i:=12) CC.nd rfl (.inl rfl)) (AH (AB (i:=15) CC.nd rfl (.inl rfl)) (AH (AB (i:=16) CC.nd rfl (.inl rfl)) Cy)))))))
  (A7 (Bi (AX Cc (pw 2) A3 (AM _))
  (A7 (Ai (i:=12) CC.nd rfl (.inl rfl) (Aa (Av CB) (Aa (Av AL) (pw 11) (Aa (oJ Cg) (pw 4) A3)) (Aa (oJ CK) A3 (Dj Fv (by rfl) T.z_int Fg (A0 (Ef Cc (pw 5) A3 (AM _)) A4)))))
  (Ak (AR (DA (Au (pw 10) (Au (Bq (A0 Cj (A0 (pw 11) A4))) (Au (Bq (A0 Cj (A0 (pw 12) A4))) (Au (pw 11) (Au (pw 12) Co Cm) Cm) ES) ES) Cm)))))
  BE)
  (A7 (Bi (AX Cc (pw 2) A3 (AM _))
  (A7 (Ai (i:=8) CC.nd rfl (.inl rfl) (Aa (Av CB) (Dj Fv (by rfl) T.z_int Fg (A0 (Mm (Ef (Av FL) (pw 4) A3 (AM _)) (Jv (Ef (Av Gu) (Aa (Av CB) (pw 16) (pw 15)) A3 (AM _)))) A4)) (Aa (oJ CK) A3 (Dj Fv (by rfl) T.z_int Fg (A0 (Ef Cc (pw 5) A3 (AM _)) A4)))))
  (Ak (AR (DA (Au (pw 10) (Au (Bq (A0 (pw 13) (A0 (pw 11) A4))) (Au (Bq (A0 (pw 13) (A0 (Aa (Av AL) (pw 11) (pw 8)) A4))) (Au (Aa (Av AL) (pw 15) (pw 11)) (Au (Aa (Av AL) (Aa (Av AL) (pw 16) (pw 11)) (pw 8)) Co G4) G4) ES) ES) Cm)))))
  BE)
  (A7 (Bi (AX Cc (pw 2) A3 (AM _))
  (A7 (Ai (i:=12) CC.nd rfl (.inl rfl) (Aa (Av CB) (Aa (Av AL) (pw 16) (pw 11)) (Dj Fv (by rfl) T.z_int Fg (A0 (Ef Cc (Aa (oJ Cg) (pw 5) A3) A3 (AM _)) A4))))
  (Ak (AR (DA (Au (pw 10) (Au (Bq (A0 (pw 13) (A0 (pw 11) A4))) (Au (Bq (A0 Cj (A0 (pw 12) A4))) (Au (Aa (Av AL) (pw 15) (pw 11)) (Au (pw 12) Co Cm) G4) ES) ES) Cm)))))
  BE)
  (A7 (Bi (AX Cc (pw 2) A3 (AM _))
  (Ak (AR (DA (Au (pw 10) (Au (Bq (A0 Cj (A0 (Aa (Av AL) (pw 15) (pw 11)) A4))) (Au (Bq (A0 (pw 13) (A0 (pw 11) A4))) (Au (Aa (Av AL) (pw 15) (pw 11)) (Au (Aa (Av AL) (pw 16) (pw 11)) Co G4) G4) ES) ES) Cm))))
  BE)
  (A7 (Ai (i:=17) CC.nd rfl (.inl rfl) (Ag B4 (pw 1) (Aa (oJ Cg) (Aa (Av AL) (pw 6) A3) (Bc BM (by rfl) T.z_len BL (A0 (pw 1) A4))) (fun _ _=>rfl)))
  (A7 (Ai (i:=12) CC.nd rfl (.inl rfl) (Aa (Av AL) (Aa (Av AL) (Aa (Av AL) (pw 15) (pw 11)) A3) (pw 4)))
  (Ak (AR (DA (Au (pw 10) (Au (Bq (A0 (pw 13) (A0 (pw 11) A4))) (Au (Bq (A0 (Ag Ay (pw 17) A3 (fun _ _=>rfl)) (A0 (Aa (Av CB) (pw 12) (Ag Ay (pw 17) A3 (fun _ _=>rfl))) A4))) (Au (Aa (Av AL) (pw 15) (pw 11)) (Au (pw 12) Co Cm) G4) ES) ES) Cm))))))))))))))))),?_⟩
 refine⟨Ar rfl,fun d1 hd1=>?_⟩
 have s1:=Ac hd1 (.lst [V.int 5,V.int 5,V.int 3,V.int 12,V.int 3,V.int 26,V.int 40])
 refine⟨cell,d1,[5,5,3,12,3,26,40],rfl,A6,c0,by decide,by decide,fun r1 H1 ds e1 hr1 dl db=>?_⟩
 refine An fun _ zA=>?_
 obtain⟨x0,x1,x2,x3,x4,x5,x6,rfl⟩:=VJ dl
 refine zA ?_
 have b0:=db 0 x0 5 rfl rfl
 have b1:=db 1 x1 5 rfl rfl
 have b2:=db 2 x2 3 rfl rfl
 have b3:=db 3 x3 12 rfl rfl
 have b4:=db 4 x4 3 rfl rfl
 have b5:=db 5 x5 26 rfl rfl
 have b6:=db 6 x6 40 rfl rfl
 clear db dl
 refine⟨r1,_,rfl,hr1,rfl,rfl,?_⟩
 dsimp only[Aq]
 have eH1:=s1.trans e1
 clear s1 e1 hr1 hd1
 have at5:Bh (Fx G3) x5=some (GJ x5):=by
  have:=T2 x5
  rwa [show x5%26=x5 by lia]at this
 refine⟨G3,_,_,rfl,rfl,SS,at5,(by show(0:Int)<26;decide),G3,_,_,rfl,rfl,SS,T2 x6,⟨by decide,by decide⟩,_,_,rfl,rfl,by lia,by lia,by rw[Oo];decide,_,_,rfl,rfl,BD (by rw[Oo,Rr];lia),?_⟩
 have z0l:((⟨#[GJ x5]⟩:Str)++Txt.mul ⟨#[GJ x6]⟩ (x6/26)).length<=2/\1<=((⟨#[GJ x5]⟩:Str)++Txt.mul ⟨#[GJ x6]⟩ (x6/26)).length:=by rw[O9,Oo,Rr];lia
 generalize (⟨#[GJ x5]⟩:Str)++Txt.mul ⟨#[GJ x6]⟩ (x6/26)=z0 at z0l
 refine An fun _ zB=>?_
 obtain⟨xs,hll0,ax0⟩:=hL
 refine zB ?_
 have xl:=ax0.1
 have eq1:("q":Str).length=1:=by decide +kernel
 dsimp only[Aq]
 refine Ca (fun σ' H'=>A8 H H'/\∃nm:Str,σ'=[some (.int cell),some (.ref ll),some (.int x0),some (.int x1),some (.int x2),some (.int x3),some (.int x4),some (.int x5),some (.int x6),some (.str G3),some (.str nm),none,none,none,none,none,none,none]/\nm.length<=10/\nm∉L.map (·.nm)/\nm≠"") (fun σ' H2 pp=>?_) (fun _ nx=>?_)
 rotate_left
 .refine Gy L.length (fun i σ' H'=>A8 H H'/\σ'=[some (.int cell),some (.ref ll),some (.int x0),some (.int x1),some (.int x2),some (.int x3),some (.int x4),some (.int x5),some (.int x6),some (.str G3),some (.str (FG z0 i)),none,none,none,none,none,none,none]/\∀j<i,FG z0 j∈L.map (·.nm)) ⟨eH1,rfl,fun j hj=>absurd hj (JE _)⟩ (fun i σ' H' hi pp=>?_) (MT.test (ME.op (MR.isIn _ _) (ME.vr _) (ME.comp fun σ H R R' h z=>GD (fun v ⟨a,r,s,k⟩=>⟨a,r,s,h _ _ k⟩) z)))
  refine An fun _ zC=>?_
  obtain⟨e,rfl,hj⟩:=pp
  refine zC ?_
  have gl:=Mv z0 i
  refine⟨ll,rfl,⟨_,A5.of (e _ _ hll0)⟩,?_⟩
  refine G1 (xs:=xs) (fun k ys H2=>H2=H'/\ys=((L.take k).map (·.nm)).map V.str) ⟨rfl,rfl⟩ (BD (by lia)) (fun k ys H2 hk pp=>⟨by rw[pp.1];exact A5.of (e _ _ hll0),by rw[pp.2,Al,Al,AV];lia⟩) (fun k x ys H2 hx pp=>?_) (fun ys H2 pp p hp=>?_)
  .obtain⟨rfl,rfl⟩:=pp
   refine An fun _ zD=>?_
   obtain⟨qq,hq,t,ta,tb,rfl,ht,_,_⟩:=ax0.get' hx
   refine zD ?_
   refine⟨t,_,0,_,rfl,rfl,A9.of (e _ _ ht),rfl,rfl,?_⟩
   rw[CJ hq,B3,B3]
   rfl
  obtain⟨rfl,rfl⟩:=pp
  rw[CU (by lia)]
  have s2:=Ac hp (.lst ((L.map (·.nm)).map V.str))
  refine⟨p,_,rfl,.inl (A5.of A6),rfl,?_,_,rfl,?_⟩
  .rw[Tn]
   intro y hy
   refine An fun _ zE=>?_
   obtain⟨n,_,rfl⟩:=C9.mp hy
   refine zE ?_
   rfl
  refine BJ (fun c=>?_) (fun c=>?_)
  .have c:FG z0 i∈L.map (·.nm):=(S8 _ _).mp c
   have hj':∀j<i+1,FG z0 j∈L.map (·.nm):=fun j hj2=>by
    rcases DJ j i with z|z
    .exact hj j z
    .rw[show j=i by lia];exact c
   have few:=Ye hj'
   rw[Al]at few
   exact⟨by lia,_,_,rfl,rfl,BD (by rw[gl,eq1];lia),e.trans s2,rfl,hj'⟩
  .exact nx _ _ ⟨e.trans s2,FG z0 i,rfl,by lia,fun z=>c ((S8 _ _).mpr z),fun z=>by rw[z]at gl;have:("":Str).length=0:=(by decide +kernel);lia⟩
 refine An fun _ zF=>?_
 obtain⟨e,nm,rfl,nl,nmN⟩:=pp
 refine zF ?_
 refine GV (fun _ h=>h) ?_
 have e0l:("":Str).length<=10:=by decide +kernel
 have i01:∀b:Bool,(if b then(1:Int) else 0)=0\/(if b then(1:Int) else 0)=1:=fun b=>by cases b<;>decide
 refine⟨Ar rfl,fun z hz=>?_⟩
 have s3:=Ac hz (.lst [])
 have e3:=e.trans s3
 have hll3:=e3 _ _ hll0
 have ax3:=ax0.mono fun _ _ y=>y.over e3
 have dq:=PK L
 refine⟨.lst (L.map qT),.lst [],O5 hll3 ax3,.lst (A5.of A6) .nil,⟨_,rfl⟩,⟨_,rfl⟩,by rw[CG];exact Oq L [],by rw[Do];lia,_,rfl,?_⟩
 generalize upd H2 z (.lst [])=H3 at s3 e3 hll3 ax3
 cases L with
 |
  nil=>
  refine BR (v:=true) rfl (Ce ?_)
  refine An fun _ zG=>?_
  obtain⟨y,hy,ey⟩:=RS (L:=[1,2,0]) (i:=x2) 3 rfl b2.1 b2.2
  refine zG ?_
  have hy:y=1\/y=2\/y=0:=by simpa using hy
  refine⟨Ar rfl,fun l hl=>⟨l,_,_,_,rfl,rfl,A5.of A6,ey,rfl,.inr ⟨_,rfl,.inl ⟨by decide,by decide⟩,?_⟩⟩⟩
  have s4:=Ac hl (.lst [V.int 1,V.int 2,V.int 0])
  have e4:=e3.trans s4
  dsimp only[Aq]
  have k1:=i01 (decide (V.int x3=V.int 5))
  generalize (if decide (V.int x3=V.int 5)=true then(1:Int) else 0)=u at k1
  refine⟨Ar rfl,fun ta hta=>⟨Ar rfl,fun tb htb=>⟨Ar rfl,fun r hr=>?_⟩⟩⟩
  have m:=Df.made (nm:=nm) (f:=x1-2) (l:=x1-2+y-3*u) hta htb hr
  exact q r _ _ (e4.trans m.1) m.2 ⟨IZ (Qx (u:=3*u) b1 (by rcases hy with rfl|rfl|rfl<;>decide) (by rcases k1 with rfl|rfl<;>decide)) nl e0l e0l,.inl rfl,.inl rfl,by show -(5+20*(0:Int))<=x1-2/\x1-2<=5+20*(0:Int);lia,by show -(5+20*(0:Int))<=x1-2+y-3*u/\x1-2+y-3*u<=5+20*(0:Int);lia⟩ nmN
 |
  cons q0 L'=>
  refine BR (v:=false) rfl (BW ?_)
  generalize hLL:q0::L'=L at *
  have Lp:0<L.length:=by rw[←hLL];exact Nat.succ_pos _
  clear hLL
  refine An fun _ zH=>?_
  have pick:∀x:Int,∃(io:Nat) (qo:Lq) (t ta tb:Addr),L[io]?=some qo/\Bh xs (x%(xs.length:Int))=some (.ref t)/\H3 t=some (.tup [.str qo.nm,.ref ta,.ref tb,.int qo.fi,.int qo.la])/\io<L.length:=fun x=>by
   have m0:=Ei x (show(xs.length:Int)≠0 by lia)
   have m1:=Ej x (show(0:Int)<(xs.length:Int) by lia)
   obtain⟨io,hio⟩:∃io:Nat,x%(xs.length:Int)=(io:Int):=⟨(x%(xs.length:Int)).toNat,by lia⟩
   have hil:io<L.length:=by lia
   have hq:L[io]?=some L[io]:=AC hil
   obtain⟨y,hy,t,ta,tb,rfl,ht,_,_⟩:=ax3.get hq
   exact⟨io,L[io],t,ta,tb,hq,by rw[hio];exact CQ hy,ht,hil⟩
  obtain⟨io,qo,t,ta,tb,hqo,ato,ht,hio⟩:=pick x4
  refine zH ?_
  have ok:=okL io qo hqo
  have mqo:=AO hqo
  have okf:=ok.f
  have oka:=ok.a
  have okn:=ok.n
  have pos:(0:Int)<(xs.length:Int):=by lia
  refine⟨ll,_,rfl,.inl (A5.of hll3),pos,ixL hll3 ato ⟨t,_,rfl,A9.of ht,rfl,rfl,?_⟩⟩
  dsimp only[Aq]
  have k1:=i01 (decide (V.int x3=V.int 5))
  refine⟨rfl,_,rfl,BJ (fun _=>?_) (fun _=>?_)⟩
  .refine⟨(by show(0:Int)<2;decide),rfl,.inr ⟨_,rfl,.inl ⟨by decide,by decide⟩,?_⟩⟩
   dsimp only[Aq]
   generalize (if decide (V.int x3=V.int 5)=true then(1:Int) else 0)=u at k1
   have m2:0<=x2%2/\x2%2<2:=⟨by lia,by lia⟩
   generalize x2%2=y at m2
   refine⟨Ar rfl,fun ta hta=>⟨Ar rfl,fun tb htb=>⟨Ar rfl,fun r hr=>?_⟩⟩⟩
   have m:=Df.made (nm:=nm) (f:=x1-2) (l:=x1-2+y-2*u) hta htb hr
   exact q r _ _ (e3.trans m.1) m.2 ⟨IZ (Qx (u:=2*u) b1 ⟨m2.1,Pg m2.2⟩ (by rcases k1 with rfl|rfl<;>decide)) nl e0l e0l,.inl rfl,.inl rfl,by show -(5+20*(L.length:Int))<=x1-2/\x1-2<=5+20*(L.length:Int);lia,by show -(5+20*(L.length:Int))<=x1-2+y-2*u/\x1-2+y-2*u<=5+20*(L.length:Int);lia⟩ nmN
  refine⟨rfl,_,rfl,BJ (fun _=>?_) (fun _=>?_)⟩
  .refine Ca (fun σ' H'=>H'=H3/\∃u:Int,(-2<=u/\u<=1)/\σ'=[some (.int cell),some (.ref ll),some (.int x0),some (.int x1),some (.int x2),some (.int x3),some (.int x4),some (.int x5),some (.int u),some (.str G3),some (.str nm),some (.int (x1-2)),some (.ref tb),some (.str qo.nm),some (.ref ta),some (.int qo.fi),some (.int qo.la),none]) (fun σ' H' pp=>?_) (fun _ nx2=>?_)
   rotate_left
   .generalize hu:(if decide (V.int x3=V.int 5)=true then(1:Int) else 0)=u at k1
    refine⟨_,rfl,BJ (fun _=>?_) (fun c=>?_)⟩
    .have k2:=i01 (decide (qo.la-qo.fi<3))
     refine .inr ⟨_,rfl,rfl,.inr ⟨_,rfl,.inl ⟨by decide,by decide⟩,nx2 _ _ ⟨rfl,_,⟨?_,?_⟩,rfl⟩⟩⟩
     .show -2<=(if decide (qo.la-qo.fi<3)=true then(1:Int) else 0)-2*(if decide (V.int x3=V.int 5)=true then(1:Int) else 0)
      rw[hu]
      lia
     .show(if decide (qo.la-qo.fi<3)=true then(1:Int) else 0)-2*(if decide (V.int x3=V.int 5)=true then(1:Int) else 0)<=1
      rw[hu]
      lia
    .have k2:((if false=true then(1:Int) else 0))=0:=rfl
     refine .inr ⟨_,rfl,rfl,.inr ⟨_,rfl,.inl ⟨by decide,by decide⟩,nx2 _ _ ⟨rfl,_,⟨?_,?_⟩,rfl⟩⟩⟩
     .show -2<=(if false=true then(1:Int) else 0)-2*(if decide (V.int x3=V.int 5)=true then(1:Int) else 0)
      rw[hu]
      lia
     .show(if false=true then(1:Int) else 0)-2*(if decide (V.int x3=V.int 5)=true then(1:Int) else 0)<=1
      rw[hu]
      lia
   refine An fun _ zI=>?_
   obtain⟨rfl,u,hu,rfl⟩:=pp
   refine zI ?_
   refine⟨Ar rfl,fun a1 ha1=>⟨Ar rfl,fun a2 ha2=>⟨Ar rfl,fun r hr=>?_⟩⟩⟩
   have m:=Df.made (nm:=nm) (f:=qo.fi+(x1-2)) (l:=qo.la+(x1-2)+u) ha1 ha2 hr
   exact q r _ _ (e3.trans m.1) m.2 ⟨IZ (NO b1 hu hio l2 okf oka) nl okn okn,.inr ⟨qo,mqo,rfl⟩,.inr ⟨qo,mqo,rfl⟩,by show -(5+20*(L.length:Int))<=x1-2/\x1-2<=5+20*(L.length:Int);lia,by show -(5+20*(L.length:Int))<=x1-2+u/\x1-2+u<=5+20*(L.length:Int);lia⟩ nmN
  refine⟨rfl,_,rfl,BJ (fun _=>?_) (fun _=>?_)⟩
  .have k2:=i01 (decide (V.int (x3%3)=V.int 1))
   refine⟨(by show(0:Int)<3;decide),rfl,.inr ⟨_,rfl,?_⟩⟩
   dsimp only[Aq]
   generalize (if decide (V.int (x3%3)=V.int 1)=true then(1:Int) else 0)=u at k2
   refine⟨Ar rfl,fun a1 ha1=>⟨Ar rfl,fun a2 ha2=>⟨Ar rfl,fun r hr=>?_⟩⟩⟩
   have m:=Df.made (nm:=nm) (f:=qo.fi+(x1-2)) (l:=qo.la+(x1-2)-u) ha1 ha2 hr
   exact q r _ _ (e3.trans m.1) m.2 ⟨IZ (NK b1 k2 hio l2 okf oka) nl okn e0l,.inr ⟨qo,mqo,rfl⟩,.inl rfl,by show -(5+20*(L.length:Int))<=x1-2/\x1-2<=5+20*(L.length:Int);lia,by show -(5+20*(L.length:Int))<=qo.la+(x1-2)-u/\qo.la+(x1-2)-u<=5+20*(L.length:Int);lia⟩ nmN
  refine⟨rfl,_,rfl,BJ (fun _=>?_) (fun _=>?_)⟩
  .refine⟨Ar rfl,fun a1 ha1=>⟨Ar rfl,fun a2 ha2=>⟨Ar rfl,fun r hr=>?_⟩⟩⟩
   have m:=Df.made (nm:=nm) (f:=qo.fi+(x1-2)) (l:=qo.la+(x1-2)) ha1 ha2 hr
   exact q r _ _ (e3.trans m.1) m.2 ⟨IZ (bu b1 hio l2 okf oka) nl e0l okn,.inl rfl,.inr ⟨qo,mqo,rfl⟩,by show -(5+20*(L.length:Int))<=qo.fi+(x1-2)/\qo.fi+(x1-2)<=5+20*(L.length:Int);lia,by show -(5+20*(L.length:Int))<=x1-2/\x1-2<=5+20*(L.length:Int);lia⟩ nmN
  refine An fun _ zJ=>?_
  obtain⟨i2,q2,t2,ta2,tb2,hq2,at2,ht2,hi2⟩:=pick (x4+1)
  refine zJ ?_
  have ok2:=okL i2 q2 hq2
  have mq2:=AO hq2
  have oka2:=ok2.a
  refine⟨ll,_,rfl,.inl (A5.of hll3),pos,ixL hll3 at2 ?_⟩
  dsimp only[Aq]
  refine GV (fun _ h=>h) ?_
  refine⟨Ar rfl,fun a1 ha1=>?_⟩
  have n1:=Ac ha1 (.tup [V.str qo.nm,V.int (x1-2)])
  refine⟨t2,_,0,_,rfl,rfl,A9.of (n1 _ _ ht2),rfl,t2,_,4,_,rfl,rfl,A9.of (n1 _ _ ht2),rfl,Ar rfl,fun a2 ha2=>⟨Ar rfl,fun r hr=>?_⟩⟩
  have m:=Df.made (nm:=nm) (f:=qo.fi+(x1-2)) (l:=qo.fi+(x1-2)+1+x2) ha1 ha2 hr
  exact q r _ _ (e3.trans m.1) m.2 ⟨IZ (VM b1 b2 hio hi2 l2 okf oka2) nl okn ok2.n,.inr ⟨qo,mqo,rfl⟩,.inr ⟨q2,mq2,rfl⟩,by show -(5+20*(L.length:Int))<=x1-2/\x1-2<=5+20*(L.length:Int);lia,by show -(5+20*(L.length:Int))<=qo.fi+(x1-2)+1+x2-q2.la/\qo.fi+(x1-2)+1+x2-q2.la<=5+20*(L.length:Int);lia⟩ nmN
theorem bI (T:Tx K mg a):AU P w K mg base Be 3 a.f_A a.d_A ["_law_script","_law_first","_law_count_here"] (U4 K):=by
 have G_a :=@IU P w K mg base a T
 have G_b :=@JO P w K mg base a T
 have G_z :=@Wo P w K mg base a T
 refine T.F_A.ok Dl (fun vs H Q E h=>?_) (fun cdv A outer s H vs Q E hr h=>?_)
 .obtain⟨_,_,_,_,rfl,_⟩:=h;rfl
 obtain⟨p,ns,fi,n,rfl,hp,f0,f1,n6,q⟩:=h
 refine⟨_,(A7 (Ai (i:=3) Dl.nd rfl (.inl rfl) (BA A4))
  (A7 (CD PassesOwn.never rfl (Hu (by rfl) T.z_range (A0 (pw 2) A4)) (AB (i:=4) Dl.nd rfl (.inl rfl))
  (A7 (Ee (AJ G_b (hr.mono (by lia)) (by rfl) T.m_b T.F_b.kp T.b_b .nil AG (A0 (AJ G_a (hr.mono (by lia)) (by rfl) T.m_a T.F_a.kp T.b_a .nil AG (A0 (pw 0) (A0 (Aa (Av AL) (pw 1) (Aa (oJ CK) A3 (pw 4))) A4))) (A0 (BA (A0 A3 (A0 A3 A4))) A4))) (IV rfl (AH (AB (i:=5) Dl.nd rfl (.inl rfl)) (AH (AB (i:=6) Dl.nd rfl (.inl rfl)) Cy))))
  (A7 (Ai (i:=5) Dl.nd rfl (.inl rfl) (Bc (aK rfl) (by rfl) T.z_min Mo (A0 (Ag B4 (Gk (Au A3 (Au A3 (Au A3 (Au A3 (Au A3 (Au A3 (Au A3 Co Bp) Bp) Bp) Bp) Bp) Bp) Bp)) (pw 5) (fun _ _=>rfl)) (A0 (Aa (Av CB) A3 (Dj Fv (by rfl) T.z_int Fg (A0 (Ef (Av FL) (pw 2) A3 (AM _)) A4))) A4))))
  (A7 (Ai (i:=7) Dl.nd rfl (.inl rfl) (BA A4))
  (A7 (Ai (i:=8) Dl.nd rfl (.inl rfl) (Bq (A0 A3 A4)))
  (A7 (Ai (i:=9) Dl.nd rfl (.inl rfl) (BA A4))
  (A7 (Bi (AX Cc (pw 4) A3 (AM _))
  (Ak (Ai (i:=6) Dl.nd rfl (.inl rfl) A3))
  (A7 (Ai (i:=9) Dl.nd rfl (.inl rfl) (Ag Ay (Ag B4 (pw 3) (Aa (Av CB) (pw 4) A3) (fun _ _=>rfl)) A3 (fun _ _=>rfl)))
  (A7 (Ai (i:=6) Dl.nd rfl (.inl rfl) (Bc (Vf rfl) (by rfl) T.z_min Mo (A0 (pw 6) (A0 (Bc BM (by rfl) T.z_len BL (A0 (pw 9) A4)) (A0 (pw 5) A4)))))
  (A7 (Ai (i:=7) Dl.nd rfl (.inl rfl) (GK Jd (pw 9) Hg (Ga (pw 6))))
  (Ak (Ai (i:=8) Dl.nd rfl (.inl rfl) (Aa Ja (GK QU (Ag Ay (Ag B4 (pw 3) (Aa (Av CB) (pw 4) A3) (fun _ _=>rfl)) A3 (fun _ _=>rfl)) Hg (Ga (pw 6))) (Bq (A0 (Aa (Av AL) (Ag Ay (Ag Ay (Ag B4 (pw 3) (Aa (Av CB) (pw 4) A3) (fun _ _=>rfl)) A3 (fun _ _=>rfl)) (pw 6) (fun _ _=>rfl)) A3) A4)))))))))
  (A7 (Gp PassesOwn.never (AX (Av Gu) (Bc BM (by rfl) T.z_len BL (A0 (pw 7) A4)) (pw 5) (AM _))
  (A7 (Ai (i:=10) Dl.nd rfl (.inl rfl) (AJ G_a (hr.mono (by lia)) (by rfl) T.m_a T.F_a.kp T.b_a .nil AG (A0 (pw 0) (A0 (Aa (Av AL) (Aa (Av AL) (Aa (Av AL) (pw 1) (Aa (oJ CK) A3 (pw 4))) A3) (Bc BM (by rfl) T.z_len BL (A0 (pw 7) A4))) A4))))
  (A7 (Bi ((Ht (AX (Mj (Hc hr)) (GK Jd (pw 9) Hg (Ga (Bc BM (by rfl) T.z_len BL (A0 (pw 7) A4)))) (pw 7) (AM _)) (Ht (AX (Av FL) (Bc BM (by rfl) T.z_len BL (A0 (pw 9) A4)) (Bc BM (by rfl) T.z_len BL (A0 (pw 7) A4)) (AM _)) (Ju (AX Cc (Aa (oJ Cg) (Aa (oJ He) (pw 10) A3) A3) A3 (AM _)))))).pt
  (Ak (Ai (i:=7) Dl.nd rfl (.inl rfl) (Aa K1 (pw 7) (BA (A0 (Ag B4 (pw 9) (Bc BM (by rfl) T.z_len BL (A0 (pw 7) A4)) (fun _ _=>rfl)) A4)))))
  (Ak (Ai (i:=7) Dl.nd rfl (.inl rfl) (Aa K1 (pw 7) (BA (A0 (AJ G_z (hr.mono (by lia)) (by rfl) T.m_z T.F_z.kp T.b_z .nil AG (A0 (pw 10) (A0 (pw 7) A4))) A4))))))
  (Ak (Ai (i:=8) Dl.nd rfl (.inl rfl) (Aa Ja (pw 8) (Bq (A0 A3 A4))))))))
  (Ak (Ck (Cu Cr DK DL Dh (pw 3) (A0 (DA (Au (pw 7) (Au (pw 8) (Au (pw 6) Co Cm) Cm) Cm)) A4))))))))))))
  (Ak (AR (pw 3))))),?_⟩
 have ne_of_none':∀{HH:Hp} {x y:Addr} {o:HO},HH x=none->HH y=some o->x≠y:=fun h1 h2 z=>by rw[z,h2]at h1;cases h1
 refine⟨Ar rfl,fun fo hfo=>?_⟩
 have e1:=Ac hfo (.lst [])
 have hfo1:(upd H fo (.lst [])) fo=some (.lst []):=A6
 dsimp only[Aq]
 generalize upd H fo (.lst [])=H1 at e1 hfo1
 refine⟨(n:Int),rfl,by lia,by lia,?_⟩
 rw[show((n:Nat):Int).toNat=n by lia]
 refine K4 (lo:=0) (n:=n) (fun i σ' H'=>∃(xs:List V) (Ds:List Dq) (o4 o5 o6 o7 o8 o9 o10:Option V),σ'=[some (.ref p),some (.int fi),some (.int (n:Int)),some (.ref fo),o4,o5,o6,o7,o8,o9,o10]/\A8 H H'/\H' fo=some (.lst xs)/\AE (Hs (av H' [fo])) xs Ds/\Ds.length=i/\∀D∈Ds,D.Ok/\CN D.L) ⟨[],[],_,_,_,_,_,_,_,rfl,e1,hfo1,.nil,rfl,fun D hD=>by cases hD⟩ (fun i σ' H' hi pp=>?_) (fun σ' H' pp=>?_)
 rotate_left
 .obtain⟨xs,Ds,o4,o5,o6,o7,o8,o9,o10,rfl,e,hx,ax,dl,r9⟩:=pp
  exact q fo xs _ Ds e hx (ax.mono fun _ _ z=>z.over Ho) dl ⟨fun D hD=>(r9 D hD).1,fun D hD=>(r9 D hD).2.ok7,fun D hD=>(r9 D hD).2.nd⟩
 refine An fun _ zA=>?_
 obtain⟨xs,Ds,o4,o5,o6,o7,o8,o9,o10,rfl,e,hx,ax,dl,r9⟩:=pp
 refine zA ?_
 have xsl:=ax.1
 rw[Nn]
 dsimp only[Aq]
 refine⟨.inl ⟨by decide,by decide⟩,p,ns,_,rfl,e.seq hp,by lia,by lia,fun m m0 _=>⟨Ar rfl,fun d1 hd1=>?_⟩⟩
 have s2:=Ac hd1 (.lst [V.int 7,V.int 4])
 refine⟨m,d1,[7,4],rfl,A6,m0,by decide,by decide,fun r1 H2 ds e2 hr1 dsl db=>?_⟩
 refine An fun _ zB=>?_
 have e2:=s2.trans e2
 obtain⟨x0,x1,rfl⟩:=NX dsl
 refine zB ?_
 have b0:=db 0 x0 7 rfl rfl
 have b1:=db 1 x1 4 rfl rfl
 clear db dsl
 refine⟨r1,_,rfl,hr1,rfl,rfl,?_⟩
 dsimp only[Aq]
 refine An fun _ zC=>?_
 obtain⟨v7,at7,v70,v71⟩:=Va b0.1 b0.2
 refine zC ?_
 have i01:∀b:Bool,(if b then(1:Int) else 0)=0\/(if b then(1:Int) else 0)=1:=fun b=>by cases b<;>decide
 refine⟨Ar rfl,fun l7 hl7=>⟨l7,_,_,_,rfl,rfl,A5.of A6,at7,.inr ⟨_,rfl,_,_,rfl,?_⟩⟩⟩
 have s3:=Ac hl7 (.lst [V.int 2,V.int 1,V.int 3,V.int 2,V.int 0,V.int 1,V.int 2])
 have e3:=e2.trans s3
 generalize upd H2 l7 (.lst [V.int 2,V.int 1,V.int 3,V.int 2,V.int 0,V.int 1,V.int 2])=H3 at s3 e3
 refine An fun _ zD=>?_
 have k2:=i01 (decide ((n:Int)>3))
 obtain⟨dp,edp,dp3⟩:∃dp:Nat,(if 3-(if decide ((n:Int)>3)=true then(1:Int) else 0)<v7 then 3-(if decide ((n:Int)>3)=true then(1:Int) else 0) else v7)=(dp:Int)/\dp<=3:=by
  generalize (if decide ((n:Int)>3)=true then(1:Int) else 0)=u at k2
  split
  .exact⟨(3-u).toNat,by lia,by lia⟩
  .exact⟨v7.toNat,by lia,by lia⟩
 refine zD ?_
 rw[edp]
 dsimp only[Aq]
 refine⟨Ar rfl,fun lo0 hlo0=>?_⟩
 have s4:=Ac hlo0 (.lst [])
 have hlo4:(upd H3 lo0 (.lst [])) lo0=some (.lst []):=A6
 have nlo0:=ne_of_none' hlo0 (e3 _ _ hx)
 dsimp only[Aq]
 generalize upd H3 lo0 (.lst [])=H4 at s4 hlo4
 refine⟨Ar rfl,fun pt0 hpt0=>?_⟩
 have s5:=Ac hpt0 (.tup [V.int 0])
 have hpt5:(upd H4 pt0 (.tup [V.int 0])) pt0=some (.tup [V.int 0]):=A6
 have hlo5:=s5 _ _ hlo4
 dsimp only[Aq]
 generalize upd H4 pt0 (.tup [V.int 0])=H5 at s5 hpt5 hlo5
 refine⟨Ar rfl,fun ol0 hol0=>?_⟩
 have s6:=Ac hol0 (.lst [])
 have hol6:(upd H5 ol0 (.lst [])) ol0=some (.lst []):=A6
 have hpt6:=s6 _ _ hpt5
 have hlo6:=s6 _ _ hlo5
 have e6:=e3.trans (s4.trans (s5.trans s6))
 dsimp only[Aq]
 generalize upd H5 ol0 (.lst [])=H6 at s6 hol6 hpt6 hlo6 e6
 have hx6:=e6 _ _ hx
 have ax6:=ax.mono fun y v z=>z.over (F9 (S:=[fo]) e6)
 have eH6:=e.trans e6
 clear ax s2 s3 s4 s5 s6 hlo5 hlo4 hpt5 e3 e2 at7 k2
 refine Ca (fun σ' H'=>∃(lo pt ol:Addr) (L old:List Lq) (pa:List Int) (sh:Nat),σ'=[some (.ref p),some (.int fi),some (.int (n:Int)),some (.ref fo),some (.int (i:Int)),some (.int (dp:Int)),some (.int (sh:Int)),some (.ref lo),some (.ref pt),some (.ref ol),o10]/\A8 H6 H'/\Eb H' lo L/\Eb H' ol old/\H' pt=some (.tup (pa.map V.int))/\CN L/\CN old/\old.length<=3/\L.length=sh/\sh<=dp/\pa.length=sh+1/\lo≠fo) (fun σ' HB pp=>?_) (fun _ nx=>?_)
 rotate_left
 .refine⟨rfl,_,rfl,BJ (fun c=>?_) (fun c=>?_)⟩
  .have c:i=0:=by
    have:=IA c
    injection this with z
    lia
   refine nx _ _ ⟨lo0,pt0,ol0,[],[],[0],0,rfl,A8.refl _,⟨[],hlo6,.nil⟩,⟨[],hol6,.nil⟩,hpt6,CN.nil,CN.nil,Bk _,rfl,Bk _,rfl,nlo0⟩
  .have c:i≠0:=fun z=>dF c (congrArg V.int (by rw[z];rfl))
   refine An fun _ zE=>?_
   obtain⟨i',rfl⟩:∃j,i=j+1:=⟨i-1,by lia⟩
   have hDi:Ds[i']?=some Ds[i']:=AC (by lia)
   obtain⟨okc,okc7⟩:=r9 _ (AO hDi)
   refine zE ?_
   generalize Ds[i']=cc at hDi okc okc7
   refine An fun _ zF=>?_
   obtain⟨xp,hxp,dq⟩:=ax6.get hDi
   obtain⟨t,ol,pt,rfl,ht,⟨lx,hol,alx⟩,hpt⟩:=dq.over Ho
   refine zF ?_
   have aj:Bh xs (((i'+1:Nat):Int)-1)=some (.ref t):=by
    rw[show(((i'+1:Nat):Int)-1)=(i':Int) by lia]
    exact CQ hxp
   have lxl:=alx.1
   have ccl:=okc.ll
   refine⟨fo,_,_,_,rfl,rfl,A5.of hx6,aj,t,_,0,_,rfl,rfl,A9.of ht,rfl,?_⟩
   dsimp only[Aq]
   refine⟨ol,_,rfl,.inl (A5.of hol),_,_,_,rfl,?_⟩
   refine An fun _ zG=>?_
   obtain⟨sh,esh,sh1,sh2⟩:∃sh:Nat,(if(lx.length:Int)<x1 then(if(dp:Int)<(lx.length:Int) then(dp:Int) else(lx.length:Int)) else(if(dp:Int)<x1 then(dp:Int) else x1))=(sh:Int)/\sh<=lx.length/\sh<=dp:=by
    split
    .split
     .exact⟨dp,rfl,by lia,by lia⟩
     .exact⟨lx.length,rfl,by lia,by lia⟩
    .split
     .exact⟨dp,rfl,by lia,by lia⟩
     .exact⟨x1.toNat,by lia,by lia,by lia⟩
   refine zG ?_
   rw[esh]
   dsimp only[Aq]
   refine⟨_,rfl,ol,_,rfl,A5.of hol,fun sl hsl=>?_⟩
   have cy:Cv lx none (some (sh:Int))=lx.take sh:=Ly _ _
   rw[cy]
   have s7:=Ac hsl (.lst (lx.take sh))
   have hsl7:(upd H6 sl (.lst (lx.take sh))) sl=some (.lst (lx.take sh)):=A6
   have nsl:=ne_of_none' hsl hx6
   dsimp only[Aq]
   generalize upd H6 sl (.lst (lx.take sh))=H7 at s7 hsl7
   have hlt:sh<cc.path.length:=by have:=okc.pl;lia
   have hcv:cc.path[sh]?=some cc.path[sh]:=AC hlt
   generalize cc.path[sh]=cv at hcv
   refine⟨fo,_,_,_,rfl,rfl,A5.of (s7 _ _ hx6),aj,t,_,1,_,rfl,rfl,A9.of (s7 _ _ ht),rfl,_,rfl,pt,_,rfl,s7 _ _ hpt,fun p2 H8 e8 hp2=>?_⟩
   have e78:=s7.trans e8
   have cp:Cv (cc.path.map V.int) none (some (sh:Int))=(cc.path.take sh).map V.int:=by rw[Ly,List.map_take]
   rw[cp]at hp2
   refine⟨fo,_,_,_,rfl,rfl,A5.of (e78 _ _ hx6),aj,t,_,1,_,rfl,rfl,A9.of (e78 _ _ ht),rfl,pt,_,(sh:Int),.int cv,rfl,rfl,A9.of (e78 _ _ hpt),CQ (by rw[AQ,hcv];rfl),Ar rfl,fun u hu=>?_⟩
   have s9:=Ac hu (.tup [V.int (cv+1)])
   have tl:(cc.path.take sh).length<=3:=by rw[AV];lia
   refine⟨p2,u,_,_,rfl,rfl,s9 _ _ hp2,A6,BD (by rw[Al,Bf];lia),fun p3 H10 e10 hp3=>?_⟩
   have e7A:=e8.trans (s9.trans e10)
   have e6A:=s7.trans e7A
   have tlen:(cc.L.take sh).length=sh:=by rw[AV];lia
   refine nx _ _ ⟨sl,p3,ol,cc.L.take sh,cc.L,cc.path.take sh++[cv+1],sh,rfl,e6A,⟨_,e7A _ _ hsl7,(alx.take sh).mono fun _ _ z=>z.over e6A⟩,⟨_,e6A _ _ hol,alx.mono fun _ _ z=>z.over e6A⟩,by rw[B3];exact hp3,okc7.take sh,okc7,ccl,tlen,sh2,by rw[AF,Bf,AV];lia,nsl⟩
 refine An fun _ zH=>?_
 obtain⟨lo1,pt1,ol,L1,old,pa1,sh,rfl,eB,hL1,hold,hpt1,okL1,oko,old3,L1l,shd,pa1l,nlo1⟩:=pp
 have hfoB:=eB _ _ hx6
 have axB:=ax6.mono fun y v z=>z.over (F9 (S:=[fo]) eB)
 have eHB:=eH6.trans eB
 obtain⟨ox,hox,aox⟩:=hold
 refine zH ?_
 have oxl:=aox.1
 refine Ca (fun σ' H'=>∃(lo pt:Addr) (L:List Lq) (pa:List Int) (o10:Option V),σ'=[some (.ref p),some (.int fi),some (.int (n:Int)),some (.ref fo),some (.int (i:Int)),some (.int (dp:Int)),some (.int (sh:Int)),some (.ref lo),some (.ref pt),some (.ref ol),o10]/\A8 HB H'/\Eb H' lo L/\H' pt=some (.tup (pa.map V.int))/\CN L/\L.length=dp/\pa.length=dp+1/\lo≠fo) (fun σ' HC pp=>?_) (fun _ nx=>?_)
 rotate_left
 .refine Gy (dp-sh) (fun j σ' H'=>∃(lo pt:Addr) (L:List Lq) (pa:List Int) (o10:Option V),σ'=[some (.ref p),some (.int fi),some (.int (n:Int)),some (.ref fo),some (.int (i:Int)),some (.int (dp:Int)),some (.int (sh:Int)),some (.ref lo),some (.ref pt),some (.ref ol),o10]/\A8 HB H'/\Eb H' lo L/\H' pt=some (.tup (pa.map V.int))/\CN L/\L.length=sh+j/\pa.length=L.length+1/\lo≠fo) ⟨lo1,pt1,L1,pa1,_,rfl,A8.refl _,hL1,hpt1,okL1,L1l,by lia,nlo1⟩ (fun j σ' HG hj pp=>?_) (MT.test (ME.op (MR.j0 _) (ME.cb MB.len (MA.cons (ME.vr _) MA.nil)) (ME.vr _)))
  refine An fun _ zI=>?_
  obtain⟨lo,pt,L,pa,o10,rfl,eG,⟨lx,hlo0,alx⟩,hpt,okL,Ll,pal,nlo⟩:=pp
  refine zI ?_
  have loL:=alx.1
  have hoxG:=eG _ _ hox
  have aoxG:=aox.mono fun _ _ z=>z.over eG
  refine⟨lo,_,rfl,.inl (A5.of hlo0),_,rfl,BJ (fun c=>?_) (fun c=>?_)⟩
  rotate_left
  .have c:=dF c
   exact nx _ _ ⟨lo,pt,L,pa,_,rfl,eG,⟨lx,hlo0,alx⟩,hpt,okL,by lia,by lia,nlo⟩
  have c:=dT c
  refine⟨by lia,?_⟩
  refine⟨.inl ⟨by decide,by decide⟩,lo,_,rfl,.inl (A5.of hlo0),p,ns,_,rfl,(eHB.trans eG).seq hp,by lia,by lia,fun m2 m20 _=>?_⟩
  dsimp only[Aq]
  refine Ca (fun σ' H'=>∃(kl:Addr) (qn:Lq),σ'=[some (.ref p),some (.int fi),some (.int (n:Int)),some (.ref fo),some (.int (i:Int)),some (.int (dp:Int)),some (.int (sh:Int)),some (.ref kl),some (.ref pt),some (.ref ol),some (.int m2)]/\A8 HG H'/\Eb H' kl (L++[qn])/\qn.Ok9 L/\kl≠fo) (fun σ' HX pp=>?_) (fun _ nx2=>?_)
  .obtain⟨kl,qn,rfl,eX,hkl,okq,nkl⟩:=pp
   refine⟨Ar rfl,fun u hu=>?_⟩
   have sU:=Ac hu (.tup [V.int 0])
   refine⟨pt,u,_,_,rfl,rfl,(eX.trans sU) _ _ hpt,A6,BD (by rw[Al,Bf];lia),fun p3 HY eY hp3=>?_⟩
   have eXY:=sU.trans eY
   exact⟨kl,p3,L++[qn],pa++[0],_,rfl,eG.trans (eX.trans eXY),hkl.over eXY,by rw[B3];exact hp3,okL.snoc okq,by rw[AF,Bf];lia,by rw[AF,AF,Bf,Bf];lia,nkl⟩
  refine Zp (fun H''=>A8 HG H'') (fun H'' eS=>?_) (fun go=>?_)
  .refine⟨m2,lo,L,rfl,m20,⟨lx,eS _ _ hlo0,alx.mono fun _ _ z=>z.over eS⟩,okL.ok,by lia,fun r HX qn eX hqn okq nmN=>⟨Ar rfl,fun u hu=>?_⟩⟩
   have sU:=Ac hu (.lst [V.ref r])
   have eE:=(eS).trans (eX.trans sU)
   have huU:(upd HX u (.lst [V.ref r])) u=some (.lst [V.ref r]):=A6
   have hqU:=hqn.over sU
   generalize upd HX u (.lst [V.ref r])=HY at eE huU hqU
   refine⟨lo,u,_,_,rfl,rfl,eE _ _ hlo0,huU,BD (by rw[loL,Bf];lia),fun kl hkl=>?_⟩
   have sK:=Ac hkl (.lst (lx++[V.ref r]))
   refine nx2 _ _ ⟨kl,qn,rfl,eE.trans sK,⟨_,A6,((alx.mono fun _ _ z=>z.over (eE.trans sK))).snoc (hqU.over sK)⟩,⟨okq,nmN⟩,ne_of_none' hkl ((eG.trans eE) _ _ hfoB)⟩
  refine⟨lo,_,rfl,.inl (A5.of hlo0),_,rfl,ol,_,rfl,A5.of hoxG,fun sl hsl=>?_⟩
  have cy:Cv ox none (some (lx.length:Int))=ox.take L.length:=by rw[Ly,loL]
  rw[cy]
  have sS:=Ac hsl (.lst (ox.take L.length))
  have hslS:(upd HG sl (.lst (ox.take L.length))) sl=some (.lst (ox.take L.length)):=A6
  generalize upd HG sl (.lst (ox.take L.length))=HS at sS hslS
  have dq1:=PK (old.take L.length)
  refine⟨_,_,O5 hslS ((aoxG.take L.length).mono fun _ _ z=>z.over sS),O5 (sS _ _ hlo0) (alx.mono fun _ _ z=>z.over sS),⟨_,rfl⟩,⟨_,rfl⟩,by rw[CG];exact Oq _ _,by rw[Do];lia,_,rfl,BJ (fun cT=>?_) (fun _=>?_)⟩
  rotate_left
  .exact go _ sS
  refine⟨ol,_,rfl,.inl (A5.of (sS _ _ hoxG)),lo,_,rfl,.inl (A5.of (sS _ _ hlo0)),_,rfl,BJ (fun c2=>?_) (fun _=>?_)⟩
  rotate_left
  .exact go _ sS
  have c2:=dT c2
  refine⟨⟨by decide,by decide⟩,(by show(0:Int)<3;decide),rfl,_,rfl,BJ (fun _=>?_) (fun _=>?_)⟩
  rotate_left
  .exact go _ sS
  have hoq:old[L.length]?=some old[L.length]:=AC (by lia)
  have okq:=oko _ _ hoq
  have eoL:old.take L.length=L:=RT cT
  rw[eoL]at okq
  generalize old[L.length]=qo at hoq okq
  refine An fun _ zJ=>?_
  obtain⟨xo,hxo,hqo⟩:=aoxG.get hoq
  refine zJ ?_
  refine⟨lo,_,rfl,.inl (A5.of (sS _ _ hlo0)),ixL (sS _ _ hoxG) (by rw[loL];exact CQ hxo) ⟨Ar rfl,fun u hu=>?_⟩⟩
  have sU:=Ac hu (.lst [xo])
  have eE:=sS.trans sU
  have huU:(upd HS u (.lst [xo])) u=some (.lst [xo]):=A6
  generalize upd HS u (.lst [xo])=HY at eE huU
  refine⟨lo,u,_,_,rfl,rfl,eE _ _ hlo0,huU,BD (by rw[loL,Bf];lia),fun kl hkl=>?_⟩
  have sK:=Ac hkl (.lst (lx++[xo]))
  exact nx2 _ _ ⟨kl,qo,rfl,eE.trans sK,⟨_,A6,((alx.mono fun _ _ z=>z.over (eE.trans sK))).snoc (hqo.over (eE.trans sK))⟩,okq,ne_of_none' hkl ((eG.trans eE) _ _ hfoB)⟩
 refine An fun _ zK=>?_
 obtain⟨lo,pt,L,pa,o10',rfl,eC,hL,hpt,okL,Ll,pal,nlo⟩:=pp
 refine zK ?_
 have hfoC:=eC _ _ hfoB
 refine⟨.inl ⟨rfl,_,A5.of hfoC⟩,Ar rfl,fun t ht=>?_⟩
 have sT:=Ac ht (.tup [V.ref lo,V.ref pt,V.int (sh:Int)])
 have htT:(upd HC t (.tup [V.ref lo,V.ref pt,V.int (sh:Int)])) t=some (.tup [V.ref lo,V.ref pt,V.int (sh:Int)]):=A6
 have hfoT:=sT _ _ hfoC
 generalize upd HC t (.tup [V.ref lo,V.ref pt,V.int (sh:Int)])=HT at sT htT hfoT
 refine⟨fo,_,_,rfl,rfl,hfoT,CF (by lia),?_⟩
 have eT:=eC.trans sT
 refine⟨xs++[.ref t],Ds++[⟨L,pa,sh⟩],_,_,_,_,_,_,_,rfl,fun a o ha=>by rw[Af (AI ha hfo)];exact eT _ _ (eHB _ _ ha),A6,?_,by rw[AF,dl];rfl,fun D hD=>?_⟩
 .rw[Ox (by simp)]
  exact(axB.mono fun y v z=>z.over (F9 (S:=[fo]) eT)).snoc ⟨t,lo,pt,rfl,Je hfoT _ _ htT,(hL.over sT).av hfoT nlo,Je hfoT _ _ (sT _ _ hpt)⟩
 .rcases BO.mp hD with z|z
  .exact r9 D z
  .rw[Bz.mp z];exact⟨⟨okL.ok,by show L.length<=3;lia,by show pa.length=L.length+1;lia,by show sh<=L.length;lia⟩,okL⟩
theorem W4 (T:Tx K mg a):AU P w K mg base Be 1 a.f_k a.d_k ["_law_spot","_law_scale","_law_base"] ah:=by
 refine T.F_k.ok WV (fun vs H Q E h=>?_) (fun cdv A outer s H vs Q E hr h=>?_)
 .obtain⟨_,_,_,_,rfl,_⟩:=h;rfl
 obtain⟨x,sc,b,⟨z,n⟩,rfl,⟨c0,c1⟩,⟨t,rfl,ht⟩,q⟩:=h
 refine⟨_,(A7 (Bi (AX Cc (Ag Ay (pw 0) A3 (fun _ _=>rfl)) Cj (AM _))
  (Ak (AR (Bq (A0 Cj (A0 (Aa (Av AL) (Aa (oJ CK) (pw 1) (Ag Ay (pw 0) A3 (fun _ _=>rfl))) (pw 2)) A4)))))
  BE)
  (Ak (AR (Bq (A0 (Ag Ay (pw 0) A3 (fun _ _=>rfl)) (A0 (Aa (oJ CK) (pw 1) (Ag Ay (pw 0) A3 (fun _ _=>rfl))) A4)))))),?_⟩
 refine⟨t,_,0,_,rfl,rfl,A9.of ht,rfl,rfl,_,rfl,BJ (fun c=>?_) (fun c=>?_)⟩
 .have c:z="":=by have:=IA c;injection this
  refine⟨t,_,1,_,rfl,rfl,A9.of ht,rfl,.inl ⟨by lia,by lia⟩,Ar rfl,fun r hr=>?_⟩
  refine q _ _ (Ac hr _) ⟨r,rfl,?_⟩
  unfold Dr
  rw[Aj c,A6]
 .have c:¬z="":=fun e=>dF c (congrArg V.str e)
  refine⟨t,_,0,_,rfl,rfl,A9.of ht,rfl,t,_,1,_,rfl,rfl,A9.of ht,rfl,.inl ⟨by lia,by lia⟩,Ar rfl,fun r hr=>?_⟩
  refine q _ _ (Ac hr _) ⟨r,rfl,?_⟩
  unfold Dr
  rw[Ab c,A6]
theorem Yj (T:Tx K mg a):AU P w K mg base Be 3 a.f_l a.d_l ["_law_deeds_here","_law_scale","_law_base"] (VV a.c_Deed (GC a)):=by
 have G_L :=@cE P w K mg base a T
 have G_K :=@Zo P w K mg base a T
 have G_k :=@W4 P w K mg base a T
 refine T.F_l.ok Gm (fun vs H Q E h=>?_) (fun cdv A outer s H vs Q E hr h=>?_)
 .obtain⟨_,_,_,_,_,rfl,_⟩:=h;rfl
 obtain⟨l,sc,b,xs0,Ds,rfl,hsc,hl,aD,n6,D3,q⟩:=h
 refine⟨_,(A7 (Ai (i:=3) Gm.nd rfl (.inl rfl) (BA A4))
  (A7 (CD PassesOwn.never rfl (Dp (pw 0)) (De rfl (AH (AB (i:=4) Gm.nd rfl (.inl rfl)) (AH (AB (i:=5) Gm.nd rfl (.inl rfl)) (AH (AB (i:=6) Gm.nd rfl (.inl rfl)) Cy))))
  (A7 (Ai (i:=7) Gm.nd rfl (.inl rfl) (Dj Kb (by rfl) T.z_tuple IK (A0 (FT ["_law_loop_here"] [none] (by rfl) (Dp (pw 4)) X4 (fun _ _ _ _ _ _=>⟨(AB (i:=0) UW rfl (.inl rfl)),EO,(Ag (show Dg _ (Ea K) from Ay) (pw 0) A3 (fun _ _=>rfl))⟩)) A4)))
  (A7 (Ai (i:=8) Gm.nd rfl (.inl rfl) (Dj Kb (by rfl) T.z_tuple IK (A0 (FT ["_law_loop_here","_law_base","_law_scale"] [none,some 2,some 1] (by rfl) (Dp (pw 4)) Zu (fun _ _ _ _ _ _=>⟨(AB (i:=0) YK rfl (.inl rfl)),EO,(AJ G_k (hr.mono (by lia)) (by rfl) T.m_k T.F_k.kp T.b_k .nil AG (A0 (Ag (show Dg _ (Ea K) from Ay) (pw 0) A3 (fun _ _=>rfl)) (A0 (pw 2) (A0 (pw 1) A4))))⟩)) A4)))
  (A7 (Ai (i:=9) Gm.nd rfl (.inl rfl) (Dj Kb (by rfl) T.z_tuple IK (A0 (FT ["_law_loop_here","_law_base","_law_scale"] [none,some 2,some 1] (by rfl) (Dp (pw 4)) Vh (fun _ _ _ _ _ _=>⟨(AB (i:=0) VP rfl (.inl rfl)),EO,(AJ G_k (hr.mono (by lia)) (by rfl) T.m_k T.F_k.kp T.b_k .nil AG (A0 (Ag (show Dg _ (Ea K) from Ay) (pw 0) A3 (fun _ _=>rfl)) (A0 (pw 2) (A0 (pw 1) A4))))⟩)) A4)))
  (Ak (Ck (Cu Cr DK DL Dh (pw 3) (A0 (Lv T.mk_Deed G_L (hr.mono (by lia)) (by rfl) T.mc_Deed T.b_L .nil AG (A0 (pw 7) (A0 (pw 8) (A0 (pw 9) (A0 Cj (A0 (Bq (A0 (Bq (A0 Cj (A0 A3 A4))) A4)) (A0 (Lv T.mk_Number G_K (hr.mono (by lia)) (by rfl) T.mc_Number T.b_K .nil AG (A0 A3 A4)) (A0 (pw 5) A4)))))))) A4))))))))
  (Ak (AR (pw 3))))),?_⟩
 have xl0:=aD.1
 refine⟨Ar rfl,fun fo hfo=>?_⟩
 have e1:=Ac hfo (.lst [])
 have hfo1:(upd H fo (.lst [])) fo=some (.lst []):=A6
 dsimp only[Aq]
 generalize upd H fo (.lst [])=H1 at e1 hfo1
 refine⟨l,rfl,⟨_,A5.of (e1 _ _ hl)⟩,?_⟩
 refine Hl (xs:=xs0) (fun i σ' H'=>∃(ys:List V) (o4 o5 o6 o7 o8 o9:Option V),σ'=[some (.ref l),some (.int sc),some (.int b),some (.ref fo),o4,o5,o6,o7,o8,o9]/\A8 H H'/\H' fo=some (.lst ys)/\AE (Du a.c_Deed (GC a) H') ys ((Ds.take i).map (BG sc b))) ⟨[],_,_,_,_,_,_,rfl,e1,hfo1,.nil⟩ (fun i σ' H' _ pp=>by obtain⟨_,_,_,_,_,_,_,_,e,_⟩:=pp;exact A5.of (e _ _ hl)) (fun i x σ' H' hx pp=>?_) (fun σ' H' pp=>?_)
 rotate_left
 .obtain⟨ys,o4,o5,o6,o7,o8,o9,rfl,e,hy,ay⟩:=pp
  rw[CU (by lia)]at ay
  exact q fo ys _ e hy ay
 refine An fun _ zA=>?_
 obtain⟨ys,o4,o5,o6,o7,o8,o9,rfl,e,hy,ay⟩:=pp
 obtain⟨D,hD,t,o,pt,rfl,ht,⟨vs,hvs,av0⟩,hpt⟩:=aD.get' hx
 refine zA ?_
 have d3:=D3 D (AO hD)
 have vl:=av0.1
 have yl:=ay.1
 rw[Al,AV]at yl
 refine⟨t,_,rfl,A9.of (e _ _ ht),rfl,rfl,?_⟩
 dsimp only[Aq]
 have av1:=av0.mono fun _ _ z=>z.over e
 have hvs1:=e _ _ hvs
 have hpt1:=e _ _ hpt
 refine⟨o,rfl,⟨_,A5.of hvs1⟩,?_⟩
 refine G1 (xs:=vs) (fun i ys H2=>H2=H'/\ys=(D.L.take i).map fun t=>V.str t.nm) ⟨rfl,rfl⟩ (BD (by lia)) (fun i ys H2 hi pp=>⟨by rw[pp.1];exact A5.of hvs1,by rw[pp.2,Al,AV];lia⟩) (fun i x ys H2 hc pp=>?_) (fun ys1 H2 pp r1 hr1=>?_)
 .obtain⟨rfl,rfl⟩:=pp
  refine An fun _ zB=>?_
  obtain⟨t,ht,q0,xa,xb,rfl,hq0,_,_⟩:=av1.get' hc
  refine zB ?_
  refine⟨q0,_,0,_,rfl,rfl,A9.of hq0,rfl,rfl,?_⟩
  rw[CJ ht,B3]
  rfl
 obtain⟨rfl,rfl⟩:=pp
 rw[CU (by lia)]
 refine⟨r1,_,rfl,.inl ⟨A5.of A6,fun t1 ht1=>?_⟩⟩
 have s1:=(Ac hr1 (.lst (D.L.map fun t=>V.str t.nm))).trans (Ac ht1 (.tup (D.L.map fun t=>V.str t.nm)))
 have f1:(upd (upd H2 r1 (HO.lst (D.L.map fun t=>V.str t.nm))) t1 (HO.tup (D.L.map fun t=>V.str t.nm))) t1=some (.tup (D.L.map fun t=>V.str t.nm)):=A6
 dsimp only[Aq]
 generalize upd (upd H2 r1 (HO.lst (D.L.map fun t=>V.str t.nm))) t1 (HO.tup (D.L.map fun t=>V.str t.nm))=H3 at s1 f1
 refine⟨o,rfl,⟨_,A5.of (s1 _ _ hvs1)⟩,?_⟩
 refine G1 (xs:=vs) (fun i ys H4=>A8 H3 H4/\AE (fun v t=>DE H4 v (Hm.lo t)) ys ((D.L.take i).map (Hi sc b))) ⟨A8.refl _,.nil⟩ (BD (by lia)) (fun i ys H4 hi pp=>⟨A5.of (pp.1 _ _ (s1 _ _ hvs1)),by rw[pp.2.1,Al,AV];lia⟩) (fun i x ys H4 hc pp=>?_) (fun ys2 H4 pp r2 hr2=>?_)
 .obtain⟨e4,ay4⟩:=pp
  refine An fun _ zC=>?_
  obtain⟨t,ht,q0,xa,xb,rfl,hq0,ha,hb⟩:=av1.get' hc
  refine zC ?_
  have e24:=s1.trans e4
  refine⟨q0,_,1,_,rfl,rfl,A9.of (e24 _ _ hq0),rfl,.ref xa,sc,b,t.lo,rfl,hsc,⟨xa,rfl,e24 _ _ ha⟩,fun r H5 e5 hr5=>⟨e4.trans e5,?_⟩⟩
  rw[CJ ht,B3]
  exact(ay4.mono fun _ _ z=>DE.tk (A8.tk e5) z).snoc hr5
 obtain⟨e4,ay2⟩:=pp
 rw[CU (by lia)]at ay2
 refine⟨r2,_,rfl,.inl ⟨A5.of A6,fun t2 ht2=>?_⟩⟩
 have s2:=(Ac hr2 (.lst ys2)).trans (Ac ht2 (.tup ys2))
 have f2:(upd (upd H4 r2 (HO.lst ys2)) t2 (HO.tup ys2)) t2=some (.tup ys2):=A6
 have ay2:=ay2.mono fun _ _ z=>DE.tk (A8.tk s2) z
 have e25:=s1.trans (e4.trans s2)
 have f1:=(e4.trans s2) _ _ f1
 dsimp only[Aq]
 generalize upd (upd H4 r2 (HO.lst ys2)) t2 (HO.tup ys2)=H5 at s2 f2 ay2 e25 f1
 refine⟨o,rfl,⟨_,A5.of (e25 _ _ hvs1)⟩,?_⟩
 refine G1 (xs:=vs) (fun i ys H6=>A8 H5 H6/\AE (fun v t=>DE H6 v (Hm.hi t)) ys ((D.L.take i).map (Hi sc b))) ⟨A8.refl _,.nil⟩ (BD (by lia)) (fun i ys H6 hi pp=>⟨A5.of (pp.1 _ _ (e25 _ _ hvs1)),by rw[pp.2.1,Al,AV];lia⟩) (fun i x ys H6 hc pp=>?_) (fun ys3 H6 pp r3 hr3=>?_)
 .obtain⟨e6,ay6⟩:=pp
  refine An fun _ zD=>?_
  obtain⟨t,ht,q0,xa,xb,rfl,hq0,ha,hb⟩:=av1.get' hc
  refine zD ?_
  have e26:=e25.trans e6
  refine⟨q0,_,2,_,rfl,rfl,A9.of (e26 _ _ hq0),rfl,.ref xb,sc,b,t.hi,rfl,hsc,⟨xb,rfl,e26 _ _ hb⟩,fun r H7 e7 hr7=>⟨e6.trans e7,?_⟩⟩
  rw[CJ ht,B3]
  exact(ay6.mono fun _ _ z=>DE.tk (A8.tk e7) z).snoc hr7
 obtain⟨e6,ay3⟩:=pp
 rw[CU (by lia)]at ay3
 refine⟨r3,_,rfl,.inl ⟨A5.of A6,fun t3 ht3=>?_⟩⟩
 have s3:=(Ac hr3 (.lst ys3)).trans (Ac ht3 (.tup ys3))
 have f3:(upd (upd H6 r3 (HO.lst ys3)) t3 (HO.tup ys3)) t3=some (.tup ys3):=A6
 have e57:=e6.trans s3
 have ay2:=ay2.mono fun _ _ z=>DE.tk (A8.tk e57) z
 have ay3:=ay3.mono fun _ _ z=>DE.tk (A8.tk s3) z
 have e27:=e25.trans e57
 have f1:=e57 _ _ f1
 have f2:=e57 _ _ f2
 dsimp only[Aq]
 generalize upd (upd H6 r3 (HO.lst ys3)) t3 (HO.tup ys3)=H7 at s3 f3 ay2 ay3 e27 f1 f2
 have hy7:=e27 _ _ hy
 refine⟨.inl ⟨rfl,_,A5.of hy7⟩,Ar rfl,fun u1 hu1=>⟨Ar rfl,fun u2 hu2=>?_⟩⟩
 have v1:=Ac hu1 (.tup [V.str "",V.int 0])
 have v2:=Ac hu2 (.tup [V.ref u1])
 have g1:(upd (upd H7 u1 (.tup [V.str "",V.int 0])) u2 (.tup [V.ref u1])) u1=some (.tup [V.str "",V.int 0]):=v2 _ _ A6
 have g2:(upd (upd H7 u1 (.tup [V.str "",V.int 0])) u2 (.tup [V.ref u1])) u2=some (.tup [V.ref u1]):=A6
 have e79:=v1.trans v2
 generalize upd (upd H7 u1 (.tup [V.str "",V.int 0])) u2 (.tup [V.ref u1])=H9 at e79 g1 g2
 intro n dn hn hdn hne
 refine⟨n,dn,_,rfl,A6,fun HA kA hnA=>⟨rfl,?_⟩⟩
 obtain⟨dxA,hnA⟩:=hnA
 have e9A:=M0 hn hdn kA
 have e7A:=e79.trans e9A
 intro d dd hd hdd hne2
 refine⟨d,dd,_,_,_,_,_,_,_,rfl,A6,fun HB kB hdB=>⟨rfl,?_⟩⟩
 obtain⟨dxB,hdB⟩:=hdB
 have eAB:=M0 hd hdd kB
 have e7B:=e7A.trans eAB
 have e2B:=e27.trans e7B
 have hyB:=e7B _ _ hy7
 refine⟨fo,_,_,rfl,rfl,hyB,CF (by lia),?_⟩
 have nlB:NL HB (upd HB fo (.lst (ys++[V.ref d]))):=NL.upd hyB
 refine⟨ys++[.ref d],_,_,_,_,_,_,rfl,fun a o ha=>by rw[Af (AI ha hfo)];exact e2B _ _ (e _ _ ha),A6,?_⟩
 rw[CJ hD,B3]
 refine((ay.mono fun _ _ z=>Du.over e2B z).snoc (a:=BG sc b D) ?_).mono fun _ _ z=>Du.nl nlB z
 have e9B:=e9A.trans eAB
 refine⟨d,dxB,t1,t2,t3,u2,pt,_,ys2,ys3,rfl,hdB,?_,e7B _ _ f2,ay2.mono fun _ _ z=>DE.tk (A8.tk e7B) z,e7B _ _ f3,ay3.mono fun _ _ z=>DE.tk (A8.tk e7B) z,?_,⟨n,dxA,rfl,eAB _ _ hnA⟩,e2B _ _ hpt1⟩
 .have:=e7B _ _ f1
  rw[this]
  show _=some (HO.tup ((D.L.map (Hi sc b)).map _))
  rw[Il]
  rfl
 .exact⟨_,e9B _ _ g2,AE.one ⟨u1,rfl,e9B _ _ g1⟩⟩
theorem Wj (T:Tx K mg a):AU P w K mg base Be 1 a.f_B a.d_B ["_law_loops"] W2:=by
 refine T.F_B.ok EW (fun vs H Q E h=>?_) (fun cdv A outer s H vs Q E hr h=>?_)
 .obtain⟨_,_,_,_,rfl,_⟩:=h;rfl
 obtain⟨ll,L,uu,ww,rfl,⟨xs,hll,ax⟩,okL,nd,lw,L3,q⟩:=h
 refine⟨_,(A7 (Ai (i:=1) EW.nd rfl (.inl rfl) (BA (A0 (Bq A4) A4)))
  (A7 (CD PassesOwn.never rfl (Dp (pw 0)) (AB (i:=2) EW.nd rfl (.inl rfl))
  (A7 (Ai (i:=3) EW.nd rfl (.inl rfl) (BA A4))
  (A7 (CD PassesOwn.never rfl (Dp (pw 1)) (AB (i:=4) EW.nd rfl (.inl rfl))
  (A7 (Ai (i:=5) EW.nd rfl (.inl rfl) (ar Cj A3))
  (A7 (CD PassesOwn.never rfl (Z0 (by rfl) T.z_zip (A0 (pw 0) (A0 (pw 4) A4))) (De rfl (AH (AB (i:=6) EW.nd rfl (.inl rfl)) (AH (AB (i:=7) EW.nd rfl (.inl rfl)) Cy)))
  (Ak (NW (J9 hr) (pw 5) (Ag Ay (pw 6) A3 (fun _ _=>rfl)) (pw 7) rfl)))
  (A7 (Ai (i:=8) EW.nd rfl (.inl rfl) (Aa (Av AL) (S6 (J9 hr) (pw 5) (Ag Ay (Ag Ay (pw 2) A3 (fun _ _=>rfl)) A3 (fun _ _=>rfl)) (fun _ _=>rfl)) (Ag Ay (Ag Ay (pw 2) A3 (fun _ _=>rfl)) A3 (fun _ _=>rfl))))
  (A7 (Ai (i:=9) EW.nd rfl (.inl rfl) (Aa (Av AL) (S6 (J9 hr) (pw 5) (Ag Ay (Ag Ay (pw 2) A3 (fun _ _=>rfl)) A3 (fun _ _=>rfl)) (fun _ _=>rfl)) (Ag Ay (Ag Ay (pw 2) A3 (fun _ _=>rfl)) A3 (fun _ _=>rfl))))
  (Ak (CD PassesOwn.never rfl (aE (by rfl) T.z_range (A0 (pw 8) (A0 (Aa (Av AL) (pw 9) A3) A4))) (AB (i:=7) EW.nd rfl (.inl rfl))
  (Ak (Ck (Cu Cr DK DL Dh (pw 3) (A0 (Aa Ja (pw 4) (Bq (A0 (pw 7) A4))) A4)))))))))))
  (Ak (Ai (i:=1) EW.nd rfl (.inl rfl) (pw 3))))))
  (Ak (AR (pw 1))))),?_⟩
 have xl:=ax.1
 refine⟨Ar rfl,fun t0 ht0=>⟨Ar rfl,fun r0 hr0=>?_⟩⟩
 have e0:=(Ac ht0 (.tup [])).trans (Ac hr0 (.lst [V.ref t0]))
 have hr00:(upd (upd H t0 (.tup [])) r0 (.lst [V.ref t0])) r0=some (.lst [V.ref t0]):=A6
 have ht00:(upd (upd H t0 (.tup [])) r0 (.lst [V.ref t0])) t0=some (.tup []):=Ac hr0 _ _ _ A6
 have hr0n:H r0=none:=(Ac ht0 (.tup [])).free hr0
 dsimp only[Aq]
 generalize upd (upd H t0 (.tup [])) r0 (.lst [V.ref t0])=H0 at e0 hr00 ht00
 refine⟨ll,rfl,⟨_,A5.of (e0 _ _ hll)⟩,?_⟩
 refine Hl (xs:=xs) (fun i σ' H'=>∃(r:Addr) (ys:List V) (R:List (List Int)) (o2 o3 o4 o5 o6 o7 o8 o9:Option V),σ'=[some (.ref ll),some (.ref r),o2,o3,o4,o5,o6,o7,o8,o9]/\A8 H H'/\H r=none/\H' r=some (.lst ys)/\AE (DN H') ys R/\(∀v∈R,v.length=i/\FZ (vb i) v)/\R.length<=cn i/\Et uu ww (Eo L) (Ew L) i R) ⟨r0,[.ref t0],[[]],_,_,_,_,_,_,_,_,rfl,e0,hr0n,hr00,AE.one ⟨t0,rfl,ht00⟩,fun v hv=>?_,Ah _,Et.zero _ _ _ _⟩ (fun i σ' H' _ pp=>by obtain⟨_,_,_,_,_,_,_,_,_,_,_,_,e,_⟩:=pp;exact A5.of (e _ _ hll)) (fun i x σ' H' hx pp=>?_) (fun σ' H' pp=>?_)
 .rw[Bz.mp hv]
  exact⟨rfl,fun n hn=>nomatch hn⟩
 rotate_left
 .obtain⟨r,ys,R,_,_,_,_,_,_,_,_,rfl,e,hrn,hr1,ay,hR,cR,aR⟩:=pp
  rw[xl]at hR cR aR
  exact q r ys _ R e hrn hr1 ay aR (Cz cR (RK L3))
 refine An fun _ zA=>?_
 obtain⟨r,ys,R,o2,o3,o4,o5,o6,o7,o8,o9,rfl,e,hrn,hr1,ay,hR,cR,aR⟩:=pp
 obtain⟨qq,hq,t,ta,tb,rfl,ht,hta,htb⟩:=ax.get' hx
 refine zA ?_
 have ok7:=okL i qq hq
 have il:i<L.length:=(As.mp hq).1
 have tl:(L.take i).length=i:=by rw[AV];lia
 have yl:=ay.1
 have lb:=ok7.lb
 have hb:=ok7.hb
 rw[tl]at lb hb
 have vbs:vb (i+1)=vb i+(5+20*(i:Int)):=rfl
 have vbp:=Qd i
 have cns:cn (i+1)=cn i*(2*(vb (i+1)).toNat+1):=rfl
 have cnl:=RK (j:=i+1) (by lia)
 obtain⟨m1,hm1⟩:∃m1:Nat,vb (i+1)=(m1:Int):=⟨(vb (i+1)).toNat,by lia⟩
 have wd:(2*(vb (i+1)).toNat+1)=2*m1+1:=by rw[hm1];rfl
 rw[wd]at cns
 have rw1:R.length*(2*m1+1)<=cn (i+1):=by rw[cns];exact Lg _ cR
 refine⟨Ar rfl,fun g hg=>?_⟩
 have s1:=Ac hg (.lst [])
 have hg1:(upd H' g (.lst [])) g=some (.lst []):=A6
 dsimp only[Aq]
 generalize upd H' g (.lst [])=H1 at s1 hg1
 refine⟨r,rfl,⟨_,A5.of (s1 _ _ hr1)⟩,?_⟩
 refine Hl (xs:=ys) (fun j σ' H2=>∃(zs:List V) (G:List (List Int)) (o4 o5 o6 o7 o8 o9:Option V),σ'=[some (.ref ll),some (.ref r),some (.ref t),some (.ref g),o4,o5,o6,o7,o8,o9]/\A8 H' H2/\H2 g=some (.lst zs)/\AE (DN H2) zs G/\(∀v∈G,v.length=i+1/\FZ (vb (i+1)) v)/\G.length<=j*(2*m1+1)/\∀x,x∈G↔∃v∈R.take j,∃n,x=v++[n]/\BC v (uu i)+Eo L i<=n/\n<=BC v (ww i)+Ew L i) ⟨[],[],_,_,_,_,_,_,rfl,s1,hg1,.nil,(fun v hv=>by cases hv),Bk _,fun x=>⟨fun h=>(by cases h),fun⟨_,h,_⟩=>(by cases h)⟩⟩ (fun j σ' H2 _ pp=>by obtain⟨_,_,_,_,_,_,_,_,_,e2,_⟩:=pp;exact A5.of (e2 _ _ hr1)) (fun j x σ' H2 hx2 pp=>?_) (fun σ' H2 pp=>?_)
 rotate_left
 .obtain⟨zs,G,o4,o5,o6,o7,o8,o9,rfl,e2,hg2,az,hG,cG,gG⟩:=pp
  rw[yl]at cG
  rw[yl,CU (Ah _)]at gG
  exact⟨g,zs,G,_,_,_,_,_,_,_,_,rfl,e.trans e2,e.free hg,hg2,az,hG,Cz cG rw1,aR.step (fun j hj=>lw.lt j (by lia)) gG⟩
 refine An fun _ zB=>?_
 obtain⟨zs,G,o4,o5,o6,o7,o8,o9,rfl,e2,hg2,az,hG,cG,gG⟩:=pp
 obtain⟨v,hv,tv,rfl,htv⟩:=(ay.mono fun _ _ z=>(let ⟨t,a,b⟩:=z;⟨t,a,e2 _ _ b⟩:DN H2 _ _)).get' hx2
 obtain⟨vl,vB⟩:=hR v (AO hv)
 refine zB ?_
 have jl:j<R.length:=(As.mp hv).1
 have jw:j*(2*m1+1)+(2*m1+1)<=cn (i+1):=by
  refine Cz ?_ rw1
  rw[←Jz]
  exact Lg _ jl
 refine fun d hd=>⟨.inr "",rfl,A6,?_⟩
 dsimp only[Aq]
 have s3:A8 H2 (upd (upd H2 d (.dK [])) d (.dK [(.inr "",.int 0)])):=fun b o hb'=>by rw[Af (AI hb' hd),Af (AI hb' hd)];exact hb'
 have hd3:(upd (upd H2 d (.dK [])) d (.dK [(.inr "",.int 0)])) d=some (.dK [(.inr "",.int 0)]):=A6
 generalize upd (upd H2 d (.dK [])) d (.dK [(.inr "",.int 0)])=H3 at s3 hd3
 have eH2:=e.trans e2
 refine⟨ll,tv,rfl,⟨_,A5.of (s3 _ _ (eH2 _ _ hll))⟩,⟨_,A9.of (s3 _ _ htv)⟩,?_⟩
 refine Wi (xs:=xs) (ys:=v.map V.int) (by rw[Al];lia) (fun m σ' H4=>∃(kvs:List (Ap×V)) (o6 o7:Option V),σ'=[some (.ref ll),some (.ref r),some (.ref t),some (.ref g),some (.ref tv),some (.ref d),o6,o7,o8,o9]/\A8 H2 H4/\H4 d=some (.dK kvs)/\Mp (vb i) ((L.take m).map (·.nm)) kvs/\IQ L v m kvs) ⟨_,_,_,rfl,s3,hd3,⟨fun z hz=>?_,Ah _⟩,rfl,fun j _ _ hj=>absurd hj (JE _)⟩ (fun m σ' H4 _ pp=>by obtain⟨_,_,_,_,e4,_⟩:=pp;exact⟨A5.of (e4 _ _ (eH2 _ _ hll)),A9.of (e4 _ _ htv)⟩) (fun m x y Tt σ' H4 hx4 hy4 pp hT=>?_) (fun σ' H4 pp=>?_)
 .rcases hz with rfl|hz
  .exact⟨0,rfl,by lia,by lia⟩
  .simp at hz
 .obtain⟨kvs,o6,o7,rfl,e4,hd4,wo,we⟩:=pp
  refine An fun _ zC=>?_
  obtain⟨qm,hqm,tm,tma,tmb,rfl,htm,_,_⟩:=ax.get' hx4
  have hv4:∃n,v[m]?=some n/\y=V.int n:=by
   rw[AQ]at hy4
   cases c:v[m]? with
   |none=>rw[c]at hy4;cases hy4
   |some n=>rw[c]at hy4;cases hy4;exact⟨n,rfl,rfl⟩
  obtain⟨n,hn,rfl⟩:=hv4
  refine zC ?_
  have nb:=vB n (AO hn)
  have sT:=Ac hT (.tup [V.ref tm,V.int n])
  have ml:m<L.length:=(As.mp hqm).1
  have w2:=wo.2
  rw[Al,AV]at w2
  refine⟨Tt,_,rfl,A9.of A6,rfl,rfl,?_⟩
  refine⟨tm,_,0,_,rfl,rfl,A9.of ((eH2.trans (e4.trans sT)) _ _ htm),rfl,d,_,rfl,Fz.k (k:=.inr qm.nm) (sT _ _ hd4) (CF (by lia)),?_⟩
  refine⟨_,_,_,rfl,fun b o hb'=>?_,A6,?_,we.put nd hqm hn⟩
  .rw[Af (AI hb' hd)]
   exact sT _ _ (e4 _ _ hb')
  .rw[CJ hqm,B3]
   exact wo.put nb.1 nb.2
 refine An fun _ zD=>?_
 obtain⟨kvs,o6,o7,rfl,e4,hd4,wo,we⟩:=pp
 refine zD ?_
 rw[Al,vl]at wo we
 refine An fun _ zE=>?_
 have eH4:=eH2.trans e4
 have look:∀(z:Str) (k:Nat),(z=""\/∃y∈L.take i,z=y.nm)->D4 (L.map (·.nm)) z 1 (k:Int)->k<=i->∃n,n=BC v k/\G9 H4 d (.str z) (some (.int n))/\-(vb i)<=n/\n<=vb i:=fun z k hz hw hk=>by
  obtain⟨n,h1,h2⟩:=wo.1 z (by
   rcases hz with hz|⟨y,hy,hz⟩
   .exact .inl hz
   .exact .inr (by rw[hz];exact C9.mpr ⟨y,hy,rfl⟩))
  have ex:=we.look vl hw hk
  rw[h1]at ex
  exact⟨n,V.int.inj (Cp ex),.inl ⟨kvs,.inr z,.inl hd4,rfl,h1.symm⟩,h2⟩
 have lwi:=lw.lt i il
 obtain⟨NO,NK⟩:=aP hq
 obtain⟨n1,ex1,g1,b1⟩:=look _ _ ok7.l1 (lw.lo i qq hq) lwi.1
 obtain⟨n2,ex2,g2,b2⟩:=look _ _ ok7.h1 (lw.hi i qq hq) lwi.2
 refine zE ?_
 have ht4:=eH4 _ _ ht
 have hta4:=eH4 _ _ hta
 have htb4:=eH4 _ _ htb
 refine⟨t,_,1,_,rfl,rfl,A9.of ht4,rfl,ta,_,0,_,rfl,rfl,A9.of hta4,rfl,d,_,rfl,g1,t,_,1,_,rfl,rfl,A9.of ht4,rfl,ta,_,1,_,rfl,rfl,A9.of hta4,rfl,?_⟩
 dsimp only[Aq,FI]
 refine⟨t,_,2,_,rfl,rfl,A9.of ht4,rfl,tb,_,0,_,rfl,rfl,A9.of htb4,rfl,d,_,rfl,g2,t,_,2,_,rfl,rfl,A9.of ht4,rfl,tb,_,1,_,rfl,rfl,A9.of htb4,rfl,?_⟩
 dsimp only[Aq,FI]
 have lo1 : -(m1:Int)<=n1+qq.lo.2/\n1+qq.lo.2<=m1:=by lia
 have hi1 : -(m1:Int)<=n2+qq.hi.2/\n2+qq.hi.2<=m1:=by lia
 rw[←NO]at lo1 ⊢
 rw[←NK]at hi1 ⊢
 rw[ex1]at lo1 ⊢
 rw[ex2]at hi1 ⊢
 generalize hlow:BC v (uu i)+Eo L i=low at lo1
 generalize hhigh:BC v (ww i)+Ew L i=high at hi1
 have m1l:m1<=75:=by
  have:vb (i+1)<=75:=by
   rcases(by lia:i=0\/i=1\/i=2) with h|h|h<;>rw[h]<;>decide
  lia
 refine⟨_,_,rfl,⟨by lia,by lia,by lia,by lia⟩,?_⟩
 have az4:=az.mono fun _ _ z=>(let ⟨t,a,b⟩:=z;⟨t,a,e4 _ _ b⟩:DN H4 _ _)
 have zl:=az.1
 refine K4 (lo:=low) (n:=(high+1-low).toNat) (fun m σ' H5=>∃(zs2:List V) (G2:List (List Int)) (o6 o7:Option V),σ'=[some (.ref ll),some (.ref r),some (.ref t),some (.ref g),some (.ref tv),some (.ref d),o6,o7,some (.int low),some (.int high)]/\(∀a o,a≠g->H4 a=some o->H5 a=some o)/\H5 g=some (.lst zs2)/\AE (DN H5) zs2 G2/\(∀v∈G2,v.length=i+1/\FZ (vb (i+1)) v)/\G2.length=G.length+m/\∀x,x∈G2↔x∈G\/∃k<m,x=v++[low+(k:Int)]) ⟨zs,G,_,_,rfl,fun _ _ _ h=>h,e4 _ _ hg2,az4,hG,rfl,fun x=>⟨.inl,fun h=>h.elim id fun⟨k,hk,_⟩=>absurd hk (JE _)⟩⟩ (fun m σ' H5 hm pp=>?_) (fun σ' H5 pp=>?_)
 .obtain⟨zs2,G2,o6,o7,rfl,k5,hg5,az5,hG5,c5,g5⟩:=pp
  have ngv:tv≠g:=fun z=>by rw[z,hg2]at htv;cases htv
  have zl2:=az5.1
  refine⟨.inl ⟨rfl,_,A5.of hg5⟩,Ar rfl,fun u hu=>?_⟩
  have sU:=Ac hu (.tup [V.int (low+(m:Int))])
  refine⟨tv,u,_,_,rfl,rfl,sU _ _ (k5 _ _ ngv (e4 _ _ htv)),A6,BD (by rw[Al,Bf];lia),fun w HW eW hw=>?_⟩
  have sW:=sU.trans eW
  have hgW:=sW _ _ hg5
  refine⟨g,_,_,rfl,rfl,hgW,CF (by lia),?_⟩
  have tkW:TK HW (upd HW g (.lst (zs2++[V.ref w]))):=TK.upd hgW
  refine⟨zs2++[.ref w],G2++[v++[low+(m:Int)]],_,_,rfl,fun a o ha h=>by rw[Af ha];exact sW _ _ (k5 a o ha h),A6,?_,fun x hx=>?_,by rw[AF,Bf];lia,fun x=>?_⟩
  .refine(az5.mono fun _ _ z=>(let ⟨t,a,b⟩:=z;⟨t,a,tkW _ _ (sW _ _ b)⟩:DN _ _ _)).snoc ⟨w,rfl,?_⟩
   rw[B3]
   exact tkW _ _ hw
  .rcases BO.mp hx with z|z
   .exact hG5 x z
   .rw[Bz.mp z]
    refine⟨by rw[AF,Bf,vl],(vB.mono (by lia)).snoc (by lia) (by lia)⟩
  .rw[BO,Bz,g5]
   refine⟨fun h=>?_,fun h=>?_⟩
   .rcases h with(h|⟨k,hk,h⟩)|h
    .exact .inl h
    .exact .inr ⟨k,by lia,h⟩
    .exact .inr ⟨m,by lia,h⟩
   .rcases h with h|⟨k,hk,h⟩
    .exact .inl (.inl h)
    .rcases DJ k m with z|z
     .exact .inl (.inr ⟨k,z,h⟩)
     .rw[show k=m by lia]at h;exact .inr h
 .obtain⟨zs2,G2,o6,o7,rfl,k5,hg5,az5,hG5,c5,g5⟩:=pp
  refine⟨zs2,G2,_,_,_,_,_,_,rfl,fun a o ha=>k5 _ _ (AI ha hg) (e4 _ _ (e2 _ _ ha)),hg5,az5,hG5,?_,fun x=>?_⟩
  .rw[c5,Jz]
   lia
  .rw[g5,gG,CJ hv]
   refine⟨fun h=>?_,fun⟨y,hy,n,e,h1,h2⟩=>?_⟩
   .rcases h with⟨y,hy,r⟩|⟨k,hk,h⟩
    .exact⟨y,CA _ hy,r⟩
    .exact⟨v,C7 _ BN,low+(k:Int),h,by lia,by lia⟩
   .rcases BO.mp hy with hy|hy
    .exact .inl ⟨y,hy,n,e,h1,h2⟩
    .rw[Bz.mp hy]at e h1 h2
     exact .inr ⟨(n-low).toNat,by lia,by rw[e,show low+(((n-low).toNat:Nat):Int)=n by lia]⟩
theorem U3 (T:Tx K mg a):AU P w K mg base Be 2 a.f_C a.d_C ["_law_script","_law_first","_law_depth","_law_old","_law_ways"] (ZP K):=by
 have G_a :=@IU P w K mg base a T
 have G_b :=@JO P w K mg base a T
 refine T.F_C.ok DY (fun vs H Q E h=>?_) (fun cdv A outer s H vs Q E hr h=>?_)
 .obtain⟨_,_,_,_,_,_,_,rfl,_⟩:=h;rfl
 obtain⟨sc,old,wl,ns,first,n,ws0,rfl,hsc,f0,f1,n3,⟨xs0,hold,hws0⟩,cut0,hwl,q⟩:=h
 refine⟨_,(A7 (Ai (i:=5) DY.nd rfl (.inl rfl) (BA A4))
  (A7 (Ai (i:=6) DY.nd rfl (.inl rfl) (pw 2))
  (A7 (Ai (i:=7) DY.nd rfl (.inl rfl) A3)
  (A7 (CD PassesOwn.never rfl (Dp (pw 3)) (AB (i:=8) DY.nd rfl (.inl rfl))
  (A7 (Bi ((Ht (AX Cc (pw 6) A3 (AM _)) (Ju (Gq (E9 (Ag Ay (pw 8) A3 (fun _ _=>rfl))))))).pt
  (Ak V7)
  BE)
  (A7 (Ck (Cu Cr DK DL Dh (pw 5) (A0 (pw 8) A4)))
  (A7 (Ai (i:=6) DY.nd rfl (.inl rfl) (Aa (Av CB) (pw 6) (Dj Fv (by rfl) T.z_int Fg (A0 (NZ (Ag Ay (pw 8) A3 (fun _ _=>rfl))) A4))))
  (Ak (Ai (i:=7) DY.nd rfl (.inl rfl) (Aa (Av AL) (pw 7) (Dj Fv (by rfl) T.z_int Fg (A0 (Ag Ay (pw 8) A3 (fun _ _=>rfl)) A4)))))))))
  (A7 (Ai (i:=9) DY.nd rfl (.inl rfl) (Bc BM (by rfl) T.z_len BL (A0 (pw 5) A4)))
  (A7 (Ai (i:=10) DY.nd rfl (.inl rfl) (Ef (Av FL) (pw 6) A3 (AM _)))
  (A7 (Gp PassesOwn.never (E9 (pw 10))
  (A7 (Ee (AJ G_b (hr.mono (by lia)) (by rfl) T.m_b T.F_b.kp T.b_b .nil AG (A0 (AJ G_a (hr.mono (by lia)) (by rfl) T.m_a T.F_a.kp T.b_a .nil AG (A0 (pw 0) (A0 (Aa (Av AL) (pw 1) (Bc BM (by rfl) T.z_len BL (A0 (pw 5) A4))) A4))) (A0 (BA (A0 A3 (A0 A3 A4))) A4))) (IV rfl (AH (AB (i:=11) DY.nd rfl (.inl rfl)) (AH (AB (i:=12) DY.nd rfl (.inl rfl)) Cy))))
  (A7 (Ai (i:=12) DY.nd rfl (.inl rfl) (Mm (Ef (Av Gu) (pw 7) A3 (AM _)) (Jv (Qp (Ef Cc (pw 6) A3 (AM _)) (Jv (Ef Cc (pw 12) A3 (AM _)))))))
  (A7 (Ck (Cu Cr DK DL Dh (pw 5) (A0 (Bq (A0 (pw 12) (A0 (Ag B4 (pw 4) (Aa (oJ Cg) (pw 11) (Bc BM (by rfl) T.z_len BL (A0 (pw 4) A4))) (fun _ _=>rfl)) A4))) A4)))
  (A7 (Ai (i:=6) DY.nd rfl (.inl rfl) (Aa (Av CB) (pw 6) (Dj Fv (by rfl) T.z_int Fg (A0 (NZ (pw 12)) A4))))
  (A7 (Ai (i:=7) DY.nd rfl (.inl rfl) (Aa (Av AL) (pw 7) (Dj Fv (by rfl) T.z_int Fg (A0 (pw 12) A4))))
  (Ak (Ai (i:=10) DY.nd rfl (.inl rfl) (Qp (Ef (Av FL) (pw 6) A3 (AM _)) (Jv (Mm (Ef (Av Gu) (pw 7) A3 (AM _)) (Jv (Ef Cc (Aa (oJ Cg) (Aa (oJ He) (AJ G_a (hr.mono (by lia)) (by rfl) T.m_a T.F_a.kp T.b_a .nil AG (A0 (pw 0) (A0 (Aa (Av AL) (pw 1) (Bc BM (by rfl) T.z_len BL (A0 (pw 5) A4))) A4))) A3) A3) A3 (AM _))))))))))))))
  (Ak (AR (Bq (A0 (pw 9) (A0 (pw 5) A4)))))))))))),?_⟩
 have xl:=hws0.1
 have hw3:(Jg.length:Int)=3:=rfl
 refine⟨Ar rfl,fun sw hsw=>?_⟩
 have e1:=Ac hsw (.lst [])
 have hsw1:(upd H sw (.lst [])) sw=some (.lst []):=A6
 dsimp only[Aq]
 generalize upd H sw (.lst [])=H1 at e1 hsw1
 refine GV (fun _ h=>h) ?_
 refine T7 ?_
 refine Ca (fun σ' H'=>∃(i:Nat) (o8:Option V),i<=ws0.length/\σ'=[some (.ref sc),some (.int first),some (.int (n:Int)),some (.ref old),some (.ref wl),some (.ref sw),some (.int ((n:Int)-(Bg (ws0.take i):Int))),some (.int (BI (ws0.take i):Int)),o8,none,none,none,none]/\A8 H H'/\H' sw=some (.lst (xs0.take i))/\AE (EV H') (xs0.take i) (ws0.take i)/\Bg (ws0.take i)<=n) (fun σ' H' pp=>?_) (fun _ nx=>?_)
 rotate_left
 .refine⟨old,rfl,⟨_,A5.of (e1 _ _ hold)⟩,?_⟩
  refine Hl (xs:=xs0) (fun i σ' H'=>∃(o8:Option V),σ'=[some (.ref sc),some (.int first),some (.int (n:Int)),some (.ref old),some (.ref wl),some (.ref sw),some (.int ((n:Int)-(Bg (ws0.take i):Int))),some (.int (BI (ws0.take i):Int)),o8,none,none,none,none]/\A8 H H'/\H' sw=some (.lst (xs0.take i))/\AE (EV H') (xs0.take i) (ws0.take i)/\Bg (ws0.take i)<=n) ⟨_,by rw[show((n:Int)-(Bg (ws0.take 0):Int))=(n:Int) by show((n:Int)-((0:Nat):Int))=_;lia];rfl,e1,hsw1,.nil,Bk _⟩ (fun i σ' H' _ pp=>by obtain⟨_,_,e,_⟩:=pp;exact A5.of (e _ _ hold)) (fun i x σ' H' hx pp=>?_) (fun σ' H' pp=>by
   refine An fun _ zA=>?_
   obtain⟨o8,rfl,e,h1,h2,h3⟩:=pp
   refine zA ?_
   exact nx _ _ ⟨xs0.length,o8,by lia,rfl,e,h1,h2,h3⟩)
  refine An fun _ zB=>?_
  obtain⟨o8,rfl,e,hs,hay,hle⟩:=pp
  have hix:=(As.mp hx).1
  obtain⟨w0,hw0,t,rfl,ht⟩:=hws0.get' hx
  refine zB ?_
  have hiw:=(As.mp hw0).1
  have tl:(xs0.take i).length=i:=by rw[AV];lia
  dsimp only[Aq]
  refine Ca (fun σ2 H2=>σ2=[some (.ref sc),some (.int first),some (.int (n:Int)),some (.ref old),some (.ref wl),some (.ref sw),some (.int ((n:Int)-(Bg (ws0.take i):Int))),some (.int (BI (ws0.take i):Int)),some (.ref t),none,none,none,none]/\H2=H'/\(w0.1=false->Bg (ws0.take i)<n)) (fun σ2 H2 pp=>?_) (fun _ nx2=>?_)
  rotate_left
  .refine⟨rfl,_,rfl,?_⟩
   refine BJ (fun c=>?_) (fun c=>nx2 _ _ ⟨rfl,rfl,fun _=>?_⟩)
   .refine⟨t,_,0,_,rfl,rfl,A9.of (e _ _ ht),rfl,_,rfl,?_⟩
    cases hb:w0.1 with
    |true=>exact BW (nx2 _ _ ⟨rfl,rfl,fun z=>by rw[hb]at z;cases z⟩)
    |false=>exact Ce (nx _ _ ⟨i,_,by lia,rfl,e,hs,hay,hle⟩)
   .have:¬((n:Int)-(Bg (ws0.take i):Int)=0):=fun z=>c (Da (congrArg V.int z))
    lia
  refine An fun _ zC=>?_
  obtain⟨rfl,rfl,hlt⟩:=pp
  refine zC ?_
  refine⟨.inl ⟨rfl,_,A5.of hs⟩,sw,_,_,rfl,rfl,hs,CF (by rw[tl];have:=NC (ws0.take i);have:=OG ws0 i;rw[AV]at *;lia),?_⟩
  have ex:xs0.take (i+1)=xs0.take i++[V.ref t]:=CJ hx
  have ew:ws0.take (i+1)=ws0.take i++[w0]:=CJ hw0
  have tk:=TK.upd (o:=.lst (xs0.take i++[V.ref t])) hs
  have htu:(upd H2 sw (.lst (xs0.take i++[V.ref t]))) t=some (.tup [.bl w0.1,.str w0.2]):=tk _ _ (e _ _ ht)
  refine⟨t,_,0,_,rfl,rfl,A9.of htu,rfl,_,rfl,.inr ⟨_,rfl,?_⟩⟩
  dsimp only[Aq]
  refine ixT htu rfl (.inr ⟨_,rfl,?_⟩)
  have c1:=Ry (ws0.take i) w0
  have c2:=Qs (ws0.take i) w0
  rw[←ew]at c1 c2
  refine⟨some (.ref t),?_,fun a o ha=>by rw[Af (AI ha hsw)];exact e _ _ ha,by rw[ex];exact A6,?_,?_⟩
  .have i1:(n:Int)-(Bg (ws0.take i):Int)-(if(!w0.1)=true then 1 else 0)=(n:Int)-(Bg (ws0.take (i+1)):Int):=by
    rw[c2];cases w0.1<;>simp<;>lia
   have i2:(BI (ws0.take i):Int)+(if w0.1=true then 1 else 0)=(BI (ws0.take (i+1)):Int):=by
    rw[c1];cases w0.1<;>simp
   rw[←i1,←i2]
   rfl
  .rw[ex,ew]
   exact(hay.mono fun y v z=>z.tk tk).snoc ⟨t,rfl,htu⟩
  .cases hb:w0.1 with
   |true=>rw[hb]at c2;have:Bg (ws0.take (i+1))=Bg (ws0.take i):=c2;lia
   |false=>rw[hb]at c2;have:Bg (ws0.take (i+1))=Bg (ws0.take i)+1:=c2;have:=hlt hb;lia
 refine An fun _ zD=>?_
 obtain⟨sh,o8,hsh,rfl,e,hs,hay,hle⟩:=pp
 refine zD ?_
 have tl:(xs0.take sh).length=sh:=by rw[AV];lia
 have twl:(ws0.take sh).length=sh:=by rw[AV];lia
 have c3:=OG ws0 sh
 refine⟨sw,_,rfl,.inl (A5.of hs),?_⟩
 dsimp only[Aq]
 refine GV (fun _ h=>h) ?_
 rw[tl]
 refine Ca (fun σ' H'=>∃(xs:List V) (ws:List Bb) (o6 o7 o8 o10 o11 o12:Option V),σ'=[some (.ref sc),some (.int first),some (.int (n:Int)),some (.ref old),some (.ref wl),some (.ref sw),o6,o7,o8,some (.int (sh:Int)),o10,o11,o12]/\A8 H H'/\H' sw=some (.lst xs)/\AE (EV H') xs ws/\Bg ws=n/\BI ws<=3/\sh<=ws.length/\ws.take sh=ws0.take sh/\(n=0->ws0=[]->ws=[])) (fun σ' H2 pp=>?_) (fun _ nx=>?_)
 .obtain⟨xs,ws,o6,o7,o8,o10,o11,o12,rfl,e2,hs2,ay,h1,h2,h3,h4,h5⟩:=pp
  refine⟨Ar rfl,fun r hr'=>?_⟩
  have s3:=Ac hr' (.tup [V.int (sh:Int),V.ref sw])
  exact q r sw _ sh ws (e2.trans s3) hsw A6 ⟨xs,s3 _ _ hs2,ay.mono fun y v z=>z.over s3⟩ hsh h3 h4 h2 h1 h5
 refine Gy 7 (fun j σ' H'=>∃(xs:List V) (ws:List Bb) (mb:Bool) (o8 o11 o12:Option V),σ'=[some (.ref sc),some (.int first),some (.int (n:Int)),some (.ref old),some (.ref wl),some (.ref sw),some (.int ((n:Int)-(Bg ws:Int))),some (.int (BI ws:Int)),o8,some (.int (sh:Int)),some (.bl mb),o11,o12]/\A8 H H'/\H' sw=some (.lst xs)/\AE (EV H') xs ws/\Bg ws<=n/\BI ws<=3/\sh<=ws.length/\ws.take sh=ws0.take sh/\(mb=true->Bg ws<n\/BI ws<3)/\(mb=false->Bg ws=n)/\j<=ws.length/\(n=0->ws0=[]->ws=[]/\mb=false)) ⟨_,ws0.take sh,_,_,_,_,rfl,e,hs,hay,hle,by lia,by lia,by rw[Pc,Nat.min_self],fun z=>.inl (by have:=dT z;lia),fun z=>by have:=of_decide_eq_false z;lia,Bk _,fun z1 z2=>⟨by rw[z2];exact List.take_nil,D8 (by lia)⟩⟩ (fun j σ' H' hj pp=>?_) (MT.b (ME.vr _))
 refine An fun _ zE=>?_
 obtain⟨xs,ws,mb,o8,o11,o12,rfl,e,hs,hay,hwn,hc3,hsl,htk,m1,m2,hj2,hz0⟩:=pp
 refine zE ?_
 refine⟨_,rfl,?_⟩
 have wlen:=NC ws
 have xl:=hay.1
 cases mb with
 |false=>exact BW (nx _ _ ⟨xs,ws,_,_,_,_,_,_,rfl,e,hs,hay,m2 rfl,hc3,hsl,htk,fun z1 z2=>(hz0 z1 z2).1⟩)
 |
  true=>
  have m1:=m1 rfl
  have hz0:n=0->ws0=[]->False:=fun z1 z2=>by have:=(hz0 z1 z2).2;cases this
  refine Ce ⟨by lia,?_⟩
  refine⟨sw,_,rfl,.inl (A5.of hs),sc,ns,first+(xs.length:Int),rfl,e.seq hsc,by lia,by lia,fun m m0 _=>?_⟩
  refine⟨Ar rfl,fun dl hdl=>?_⟩
  have s3:=Ac hdl (.lst [V.int 3,V.int 2])
  refine⟨m,dl,[3,2],rfl,A6,m0,by decide,by decide,fun r H3 ds e3 hr3 dsl db=>?_⟩
  refine An fun _ zF=>?_
  have e23:=s3.trans e3
  have eH3:=e.trans e23
  have hs3:=e23 _ _ hs
  have ay3:=hay.mono fun y v z=>z.over e23
  obtain⟨d0,d1,rfl⟩:=NX dsl
  refine zF ?_
  have b0:=db 0 d0 3 rfl rfl
  refine⟨r,_,rfl,hr3,rfl,rfl,?_⟩
  dsimp only[Aq]
  refine Ca (fun σ' H'=>H'=H3/\∃kb:Bool,σ'=[some (.ref sc),some (.int first),some (.int (n:Int)),some (.ref old),some (.ref wl),some (.ref sw),some (.int ((n:Int)-(Bg ws:Int))),some (.int (BI ws:Int)),o8,some (.int (sh:Int)),some (.bl true),some (.int d0),some (.bl kb)]/\(kb=false->Bg ws<n)/\(kb=true->BI ws<3)) (fun σ' H' pp=>?_) (fun _ nx2=>?_)
  rotate_left
  .refine⟨_,rfl,?_⟩
   refine BJ (fun c=>?_) (fun c=>nx2 _ _ ⟨rfl,false,rfl,fun _=>?_,fun z=>by cases z⟩)
   .have c:=dT c
    have c:BI ws<3:=by lia
    refine⟨rfl,_,rfl,?_⟩
    refine BJ (fun c2=>nx2 _ _ ⟨rfl,true,rfl,(fun z=>by cases z),fun _=>c⟩) (fun c2=>?_)
    have c2:¬((n:Int)-(Bg ws:Int)=0):=fun z=>c2 (Da (congrArg V.int z))
    exact⟨rfl,nx2 _ _ ⟨rfl,_,rfl,fun _=>by lia,fun _=>c⟩⟩
   .have c:=dF c
    lia
  refine An fun _ zG=>?_
  obtain⟨rfl,kb,rfl,k1,k2⟩:=pp
  obtain⟨wyS,hat⟩:=cx (i:=d0%(Jg.length:Int)) (by rw[hw3];lia) (by rw[hw3];lia)
  refine zG ?_
  refine⟨.inl ⟨rfl,_,A5.of hs3⟩,wl,_,rfl,.inl (A5.of (eH3 _ _ hwl)),(by show(0:Int)<(Jg.length:Int);decide),ixL (eH3 _ _ hwl) hat ⟨Ar rfl,fun t ht=>?_⟩⟩
  have s4:=Ac ht (.tup [V.bl kb,V.str wyS])
  have hs4:=s4 _ _ hs3
  have nt:t≠sw:=fun z=>by rw[z,hs3]at ht;cases ht
  refine⟨sw,_,_,rfl,rfl,hs4,CF (by lia),?_⟩
  have tk:=TK.upd (o:=.lst (xs++[V.ref t])) hs4
  have ht5:(upd (upd H' t (.tup [V.bl kb,V.str wyS])) sw (.lst (xs++[V.ref t]))) t=some (.tup [V.bl kb,V.str wyS]):=by rw[Af nt];exact A6
  have hs5:(upd (upd H' t (.tup [V.bl kb,V.str wyS])) sw (.lst (xs++[V.ref t]))) sw=some (.lst (xs++[V.ref t])):=A6
  have e5:A8 H (upd (upd H' t (.tup [V.bl kb,V.str wyS])) sw (.lst (xs++[V.ref t]))):=fun a o ha=>by rw[Af (AI ha hsw)];exact s4 _ _ (eH3 _ _ ha)
  have ay5:AE (EV (upd (upd H' t (.tup [V.bl kb,V.str wyS])) sw (.lst (xs++[V.ref t])))) (xs++[V.ref t]) (ws++[(kb,wyS)]):=(ay3.mono fun y v z=>(z.over s4).tk tk).snoc ⟨t,rfl,ht5⟩
  generalize upd (upd H' t (.tup [V.bl kb,V.str wyS])) sw (.lst (xs++[V.ref t]))=H5 at ht5 hs5 e5 ay5
  have c1:=Ry ws (kb,wyS)
  have c2:=Qs ws (kb,wyS)
  have i1:(n:Int)-(Bg ws:Int)-(if(!kb)=true then 1 else 0)=(n:Int)-(Bg (ws++[(kb,wyS)]):Int):=by
   rw[c2];cases kb<;>simp<;>lia
  have i2:(BI ws:Int)+(if kb=true then 1 else 0)=(BI (ws++[(kb,wyS)]):Int):=by
   rw[c1];cases kb<;>simp
  have hwn':Bg (ws++[(kb,wyS)])<=n:=by
   cases kb with
   |true=>have:Bg (ws++[(true,wyS)])=Bg ws:=c2;lia
   |false=>have:Bg (ws++[(false,wyS)])=Bg ws+1:=c2;have:=k1 rfl;lia
  have hcn':BI (ws++[(kb,wyS)])<=3:=by
   cases kb with
   |false=>have:BI (ws++[(false,wyS)])=BI ws:=c1;lia
   |true=>have:BI (ws++[(true,wyS)])=BI ws+1:=c1;have:=k2 rfl;lia
  refine⟨_,rfl,.inr ⟨_,rfl,?_⟩⟩
  dsimp only[Aq]
  refine .inr ⟨_,rfl,?_⟩
  dsimp only[Aq,FI]
  rw[i1,i2]
  have l1:(ws++[(kb,wyS)]).length=ws.length+1:=by rw[AF,Bf]
  have tk':(ws++[(kb,wyS)]).take sh=ws0.take sh:=by rw[da hsl,htk]
  generalize ws++[(kb,wyS)]=ws2 at i1 i2 ay5 hwn' hcn' l1 tk' c1 c2
  refine⟨_,rfl,?_⟩
  refine BJ (fun c=>?_) (fun c=>?_)
  .have c:=dT c
   exact⟨_,ws2,true,_,_,_,rfl,e5,hs5,ay5,hwn',hcn',by lia,tk',fun _=>.inl (by lia),(fun z=>by cases z),by lia,fun z1 z2=>(hz0 z1 z2).elim⟩
  have c:=dF c
  refine⟨_,rfl,?_⟩
  refine BJ (fun c3=>?_) (fun c3=>⟨_,ws2,false,_,_,_,rfl,e5,hs5,ay5,hwn',hcn',by lia,tk',(fun z=>by cases z),fun _=>by lia,by lia,fun z1 z2=>(hz0 z1 z2).elim⟩)
  have c3:=dT c3
  refine⟨sw,_,rfl,.inl (A5.of hs5),sc,ns,first+((xs++[V.ref t]).length:Int),rfl,e5.seq hsc,by lia,by rw[AF,Bf];lia,fun m' _ _=>?_⟩
  exact⟨⟨by decide,by decide⟩,(by show(0:Int)<5;decide),rfl,_,ws2,_,_,_,_,rfl,e5,hs5,ay5,hwn',hcn',by lia,tk',fun _=>.inr (by lia),fun _=>by lia,by lia,fun z1 z2=>(hz0 z1 z2).elim⟩
theorem ba (T:Tx K mg a):AU P w K mg base Be 2 a.f_D a.d_D ["_law_script","_law_first","_law_sweeps_here","_law_loops","_law_far"] (UV K):=by
 have G_a :=@IU P w K mg base a T
 have G_b :=@JO P w K mg base a T
 refine T.F_D.ok Eg (fun vs H Q E h=>?_) (fun cdv A outer s H vs Q E hr h=>?_)
 .obtain⟨_,_,_,_,_,_,_,_,rfl,_⟩:=h;rfl
 obtain⟨sc,sw,lo,ns,L,first,ws,M,rfl,hsc,f0,f1,⟨xs,hsw,hws⟩,wl,hlo,L3,who,hne,hLM,q⟩:=h
 refine⟨_,(A7 (Ai (i:=5) Eg.nd rfl (.inl rfl) (BA A4))
  (A7 (Ai (i:=6) Eg.nd rfl (.inl rfl) (Dj OT (by rfl) T.z_list Jc (A0 (pw 3) A4)))
  (A7 (CD PassesOwn.never rfl (JW (by rfl) T.z_enumerate (A0 (pw 2) A4)) (De rfl (AH (AB (i:=7) Eg.nd rfl (.inl rfl)) (AH (AB (i:=8) Eg.nd rfl (.inl rfl)) Cy)))
  (A7 (Ai (i:=9) Eg.nd rfl (.inl rfl) (AJ G_a (hr.mono (by lia)) (by rfl) T.m_a T.F_a.kp T.b_a .nil AG (A0 (pw 0) (A0 (Aa (Av AL) (pw 1) (pw 7)) A4))))
  (A7 (Ee (AJ G_b (hr.mono (by lia)) (by rfl) T.m_b T.F_b.kp T.b_b .nil AG (A0 (Aa (oJ He) (pw 9) A3) (A0 (Gk (Au A3 (Au A3 (Au A3 Co Bp) Bp) Bp)) A4))) (IV rfl (AH (AB (i:=10) Eg.nd rfl (.inl rfl)) (AH (AB (i:=11) Eg.nd rfl (.inl rfl)) (AH (AB (i:=12) Eg.nd rfl (.inl rfl)) Cy)))))
  (A7 (Ai (i:=13) Eg.nd rfl (.inl rfl) (Aa (Av CB) (pw 11) A3))
  (A7 (Bi ((Ht (E9 (pw 4)) (Ju (AX Cc (pw 12) A3 (AM _))))).pt
  (Ak (Ai (i:=13) Eg.nd rfl (.inl rfl) (Aa (Av CB) (Aa (oJ Cg) (Aa (oJ CK) (pw 9) A3) (Aa (Av AL) (Aa (oJ CK) A3 (Aa (oJ J3) A3 A3)) A3)) (Aa (oJ J3) A3 A3))))
  BE)
  (A7 (Bi ((Ht (E9 (pw 4)) (Ju (AX Cc (pw 12) A3 (AM _))))).pt
  (Ak (Ai (i:=13) Eg.nd rfl (.inl rfl) (Aa (oJ CK) (Aa (oJ J3) A3 A3) (Aa (Av CB) A3 (Aa (oJ CK) (Aa (oJ Cg) (pw 11) A3) A3)))))
  BE)
  (A7 (Ai (i:=14) Eg.nd rfl (.inl rfl) (Ag B4 (pw 3) (Aa (oJ Cg) (pw 10) (Bc BM (by rfl) T.z_len BL (A0 (pw 3) A4))) (fun _ _=>rfl)))
  (A7 (Bi (Gq (E9 (Ag Ay (pw 8) A3 (fun _ _=>rfl))))
  (Ak (Ai (i:=14) Eg.nd rfl (.inl rfl) (Cu Cr PySem.F.slot_list_pop PySem.F.type_list_pop Rh (pw 6) (A0 A3 A4))))
  BE)
  (Ak (Ck (Cu Cr DK DL Dh (pw 5) (A0 (Bq (A0 (pw 14) (A0 (pw 13) A4))) A4))))))))))))
  (Ak (AR (Dj Kb (by rfl) T.z_tuple IK (A0 (pw 5) A4))))))),?_⟩
 have xl:=hws.1
 refine⟨Ar rfl,fun pl hpl=>?_⟩
 have e1:=Ac hpl (.lst [])
 have hpl1:(upd H pl (.lst [])) pl=some (.lst []):=A6
 dsimp only[Aq]
 generalize upd H pl (.lst [])=H1 at e1 hpl1
 refine⟨lo,_,rfl,.inl (A5.of (e1 _ _ hlo)),fun le hle=>?_⟩
 have s2:=Ac hle (.lst (L.map V.int))
 have hle2:(upd H1 le (.lst (L.map V.int))) le=some (.lst (L.map V.int)):=A6
 have hpl2:=s2 _ _ hpl1
 have e2:=e1.trans s2
 have nlp:le≠pl:=fun z=>by rw[z,hpl1]at hle;cases hle
 have hle0:=e1.free hle
 dsimp only[Aq]
 generalize upd H1 le (.lst (L.map V.int))=H2 at e2 hpl2 hle2
 refine⟨sw,rfl,⟨_,A5.of (e2 _ _ hsw)⟩,?_⟩
 refine K8 (xs:=xs) (fun i σ' H'=>∃(L':List Int) (ys:List V) (ps:List (Int×Int)) (o7 o8 o9 o10 o11 o12 o13 o14:Option V),σ'=[some (.ref sc),some (.int first),some (.ref sw),some (.ref lo),some (.bl true),some (.ref pl),some (.ref le),o7,o8,o9,o10,o11,o12,o13,o14]/\A8 H H'/\H' pl=some (.lst ys)/\H' le=some (.lst (L'.map V.int))/\AE (FV H') ys ps/\ps.length=i/\Bg (ws.drop i)<=L'.length/\(∀p∈ps,NU M p)/\Dy ps ((ws.take i).map (·.1))++L'=L) ⟨L,[],[],_,_,_,_,_,_,_,_,rfl,e2,hpl2,hle2,.nil,rfl,by rw[La];exact P2 who,(fun p hp=>by cases hp),rfl⟩ (fun i σ' H' _ pp=>by obtain⟨_,_,_,_,_,_,_,_,_,_,_,_,e,_⟩:=pp;exact A5.of (e _ _ hsw)) (fun i x Tt σ' H' hx pp hT=>?_) (fun σ' H' pp=>?_)
 rotate_left
 .obtain⟨L',ys,ps,o7,o8,o9,o10,o11,o12,o13,o14,rfl,e,hy,hl,ay,pl',_,hPr,hws'⟩:=pp
  have sz:=ay.1
  have hxl:=hws.1
  rw[CU (by lia)]at hws'
  have cw:=QS ps ws (by lia)
  have hL0:L'=[]:=by
   have:=congrArg List.length hws'
   rw[AF,cw,who]at this
   exact JF (by lia)
  rw[hL0,FR]at hws'
  refine⟨pl,_,rfl,.inl ⟨A5.of hy,fun r hr'=>?_⟩⟩
  have s3:=Ac hr' (.tup ys)
  exact q r _ ps (e.trans s3) (e.free hr') ⟨ys,A6,ay.mono fun y v z=>z.over s3⟩ (by lia) hPr hws'
 refine An fun _ zA=>?_
 obtain⟨L',ys,ps,o7,o8,o9,o10,o11,o12,o13,o14,rfl,e,hy,hl,ay,pl',hwho,hPr,hws'⟩:=pp
 obtain⟨wy,hwy,t,rfl,ht⟩:=hws.get' hx
 refine zA ?_
 have hi:=(As.mp hwy).1
 have hLne:L≠[]:=hne fun z=>by rw[z]at hi;cases hi
 have Lpos:0<L.length:=List.length_pos_iff.mpr hLne
 have yl:=ay.1
 have sT:=Ac hT (.tup [V.int (i:Int),V.ref t])
 have e2:=e.trans sT
 have hy2:=sT _ _ hy
 have hl2:=sT _ _ hl
 have ay2:=ay.mono fun y v z=>z.over sT
 refine⟨Tt,_,rfl,A9.of A6,rfl,rfl,?_⟩
 generalize upd H' Tt (.tup [V.int (i:Int),V.ref t])=H2 at e2 hy2 ay2 hl2
 dsimp only[Aq]
 refine⟨sc,ns,first+(i:Int),rfl,e2.seq hsc,by lia,by lia,fun m m0 m1=>?_⟩
 dsimp only[Aq]
 refine⟨⟨by decide,by decide⟩,Ar rfl,fun dl hdl=>?_⟩
 have s3:=Ac hdl (.lst [V.int 3,V.int 5,V.int 6])
 refine⟨m/30,dl,[3,5,6],rfl,A6,Int.ediv_nonneg m0 (by decide),by decide,by decide,fun r H3 ds e3 hr3 dsl db=>?_⟩
 refine An fun _ zB=>?_
 have e23:=s3.trans e3
 have eH3:=e2.trans e23
 have hy3:=e23 _ _ hy2
 have hl3:=e23 _ _ hl2
 have ay3:=ay2.mono fun y v z=>z.over e23
 obtain⟨d0,d1,d2,rfl⟩:=LY dsl
 refine zB ?_
 have b0:=db 0 d0 3 rfl rfl
 have b1:=db 1 d1 5 rfl rfl
 refine⟨r,_,rfl,hr3,rfl,rfl,?_⟩
 dsimp only[Aq]
 refine GV (fun _ h=>h) ?_
 have p64:(2:Int) ^ 64=18446744073709551616:=by decide
 have p18:(10:Int) ^ (18:Int).toNat=1000000000000000000:=by decide
 refine Ca (fun σ' H'=>H'=H3/\∃sh:Int,σ'=[some (.ref sc),some (.int first),some (.ref sw),some (.ref lo),some (.bl true),some (.ref pl),some (.ref le),some (.int (i:Int)),some (.ref t),some (.int m),some (.int d0),some (.int d1),some (.int d2),some (.int sh),o14]/\-1000000000000000000<=sh/\sh<=1000000000000000000) (fun σ' H' pp=>?_) (fun _ nx=>?_)
 rotate_left
 .refine⟨_,rfl,Ce ⟨rfl,_,rfl,?_⟩⟩
  refine BJ (fun c=>?_) (fun c=>nx _ _ ⟨rfl,_,rfl,by lia,by lia⟩)
  have g1:=Ei (m*2000000011) (show(2*10 ^ Int.toNat 18+1:Int)≠0 by decide)
  have g2:=Ej (m*2000000011) (show(0:Int)<2*10 ^ Int.toNat 18+1 by decide)
  exact⟨.inr ⟨by decide,by decide⟩,⟨by decide,by decide,by decide⟩,.inl ⟨by decide,by decide⟩,(by show(0:Int)<2*10 ^ Int.toNat 18+1;decide),⟨by decide,by decide,by decide⟩,nx _ _ ⟨rfl,m*2000000011%(2*10 ^ Int.toNat 18+1)-10 ^ Int.toNat 18,rfl,by lia,by lia⟩⟩
 refine An fun _ zC=>?_
 obtain⟨rfl,sh0,rfl,sh1,sh2⟩:=pp
 refine zC ?_
 refine Ca (fun σ' H4=>H4=H'/\∃sh:Int,σ'=[some (.ref sc),some (.int first),some (.ref sw),some (.ref lo),some (.bl true),some (.ref pl),some (.ref le),some (.int (i:Int)),some (.ref t),some (.int m),some (.int d0),some (.int d1),some (.int d2),some (.int sh),o14]/\-1000000000000000000<=sh/\sh<=1000000000000000000) (fun σ' H4 pp=>?_) (fun _ nx=>?_)
 rotate_left
 .refine⟨_,rfl,Ce ⟨rfl,_,rfl,?_⟩⟩
  refine BJ (fun c=>?_) (fun c=>nx _ _ ⟨rfl,sh0,rfl,sh1,sh2⟩)
  have k1:=Ei d1 (show(2:Int)≠0 by decide)
  have k2:=Ej d1 (show(0:Int)<2 by decide)
  exact⟨⟨by decide,by decide,by decide⟩,(by show(0:Int)<2;decide),.inr ⟨by decide,by decide⟩,.inl ⟨by decide,by decide⟩,nx _ _ ⟨rfl,10 ^ Int.toNat 18*(1-d1%2*2),rfl,by rw[p18];lia,by rw[p18];lia⟩⟩
 refine An fun _ zD=>?_
 obtain⟨rfl,sh,rfl,sh3,sh4⟩:=pp
 have hml:((L.map V.int).length:Int)=(L.length:Int):=by rw[Al]
 obtain⟨z,hzL,hz⟩:=QI (L:=L) (i:=d0%((L.map V.int).length:Int)) (Ei _ (by lia)) (by rw[←hml];exact Ej _ (by lia))
 refine zD ?_
 refine⟨lo,_,rfl,.inl (A5.of (eH3 _ _ hlo)),(by show(0:Int)<((L.map V.int).length:Int);lia),ixL (eH3 _ _ hlo) hz ?_⟩
 dsimp only[Aq]
 have hdr:ws.drop i=wy::ws.drop (i+1):=by rw[JD hi,(As.mp hwy).2]
 have hcnt:Bg (ws.drop i)=Bg (ws.drop (i+1))+(if(!wy.1)=true then 1 else 0):=by
  show List.countP _ (ws.drop i)=_
  rw[hdr,Pf]
 refine Ca (fun σ' H5=>∃(num:Int) (L'':List Int),σ'=[some (.ref sc),some (.int first),some (.ref sw),some (.ref lo),some (.bl true),some (.ref pl),some (.ref le),some (.int (i:Int)),some (.ref t),some (.int m),some (.int d0),some (.int d1),some (.int d2),some (.int sh),some (.int num)]/\A8 H H5/\H5 pl=some (.lst ys)/\H5 le=some (.lst (L''.map V.int))/\AE (FV H5) ys ps/\Bg (ws.drop (i+1))<=L''.length/\(0<=num/\num<(M:Int))/\L'=(if wy.1 then[] else[num])++L'') (fun σ' H5 pp=>?_) (fun _ nx=>?_)
 rotate_left
 .refine⟨t,_,0,_,rfl,rfl,A9.of (eH3 _ _ ht),rfl,_,rfl,?_⟩
  cases hb:wy.1 with
  |true=>exact BW (nx _ _ ⟨z,L',rfl,eH3,hy3,hl3,ay3,by lia,hLM z hzL,by rw[hb];rfl⟩)
  |
   false=>
   rw[hb]at hcnt
   have hcnt:Bg (ws.drop i)=Bg (ws.drop (i+1))+1:=hcnt
   cases L' with
   |nil=>rw[Ii]at hwho;lia
   |
    cons z0 L0=>
    rw[B9]at hwho
    refine Ce ⟨.inl ⟨rfl,_,A5.of hl3⟩,le,_,0,0,.int z0,rfl,rfl,hl3,by decide,by decide,RC (j:=0) (Nat.succ_pos _),rfl,?_⟩
    have tk:=TK.upd (o:=.lst (((z0::L0).map V.int).eraseIdx 0)) hl3
    refine nx _ _ ⟨z0,L0,rfl,fun a o ha=>by rw[Af (AI ha hle0)];exact eH3 _ _ ha,by rw[Af nlp.symm];exact hy3,A6,ay3.mono fun y v z=>z.tk tk,by lia,hLM z0 (by rw[←hws'];exact C7 _ BN),by rw[hb];rfl⟩
 refine An fun _ zE=>?_
 obtain⟨num,L'',rfl,e5,hy5,hl5,ay5,hw5,hnum,hL5⟩:=pp
 refine zE ?_
 refine⟨.inl ⟨rfl,_,A5.of hy5⟩,Ar rfl,fun r hr'=>?_⟩
 have s6:=Ac hr' (.tup [V.int num,V.int sh])
 have hy6:=s6 _ _ hy5
 have nr:r≠pl:=fun z=>by rw[z,hy5]at hr';cases hr'
 refine⟨pl,_,_,rfl,rfl,hy6,CF (by lia),?_⟩
 have tk:=TK.upd (o:=.lst (ys++[V.ref r])) hy6
 refine⟨L'',_,ps++[(num,sh)],_,_,_,_,_,_,_,_,rfl,fun a o ha=>by rw[Af (AI ha hpl)];exact s6 _ _ (e5 _ _ ha),A6,by rw[Af nlp];exact s6 _ _ hl5,(ay5.mono fun y v z=>(z.over s6).tk tk).snoc ⟨r,rfl,by rw[Af nr];exact A6⟩,by rw[AF,pl'];rfl,hw5,fun p hp=>?_,?_⟩
 .rcases BO.mp hp with z|z
  .exact hPr p z
  .rw[Bz.mp z]
   exact⟨hnum.1,hnum.2,sh3,sh4⟩
 .rw[CJ hwy,B3,BY,N9,Qj _ _ _ _ (by rw[Al,AV];lia),DH,←hL5]
  exact hws'
theorem Ul (T:Tx K mg a):AU P w K mg base Be 3 a.f_E a.d_E ["_law_script","_law_first","_law_depths","_law_ways","_law_far"] (ZG K):=by
 have G_a :=@IU P w K mg base a T
 have G_b :=@JO P w K mg base a T
 have G_C :=@U3 P w K mg base a T
 have G_D :=@ba P w K mg base a T
 refine T.F_E.ok DB (fun vs H Q E h=>?_) (fun cdv A outer s H vs Q E hr h=>?_)
 .obtain⟨_,_,_,_,_,_,rfl,_⟩:=h;rfl
 obtain⟨sc,dl,wl,ns,D,first,rfl,hsc,f0,f1,hdl,hwl,hD,Dpos,D6,q⟩:=h
 refine⟨_,(A7 (Ee (AJ G_b (hr.mono (by lia)) (by rfl) T.m_b T.F_b.kp T.b_b .nil AG (A0 (AJ G_a (hr.mono (by lia)) (by rfl) T.m_a T.F_a.kp T.b_a .nil AG (A0 (pw 0) (A0 (pw 1) A4))) (A0 (Gk (Au A3 (Au A3 (Au A3 Co Bp) Bp) Bp)) A4))) (IV rfl (AH (AB (i:=5) DB.nd rfl (.inr rfl)) (AH (AB (i:=6) DB.nd rfl (.inl rfl)) (AH (AB (i:=7) DB.nd rfl (.inl rfl)) Cy)))))
  (A7 (Me (i:=8) ["_law_n","_law_depths","_law_start"] [none,some 2,some 5] DB.nd rfl (.inl rfl) (by rfl) (Hu (by rfl) T.z_range (A0 (Bc BM (by rfl) T.z_len BL (A0 (pw 2) A4)) A4)) WK (fun _ _ _ _ _ _=>⟨(AB (i:=0) VF rfl (.inl rfl)),EO,(Aa (oJ Cg) (Aa (Av AL) (pw 0) (pw 2)) (Bc (show E8 _ _ (R3 K) from BM) (by rfl) T.z_len BL (A0 (pw 1) A4)))⟩))
  (A7 (Bi (AX Cc (pw 6) A3 (AM _))
  (Ak (Ck (T8 Cr PySem.F.slot_list_reverse PySem.F.type_list_reverse S0 (pw 8))))
  BE)
  (A7 (Ck (Cu Cr PySem.F.slot_list_insert PySem.F.type_list_insert Wl (pw 8) (A0 A3 (A0 (Cu Cr PySem.F.slot_list_pop PySem.F.type_list_pop Rh (pw 8) (A0 (Aa (oJ Cg) (pw 7) (Bc BM (by rfl) T.z_len BL (A0 (pw 8) A4))) A4)) A4))))
  (A7 (Ai (i:=9) DB.nd rfl (.inl rfl) (BA A4))
  (A7 (CD PassesOwn.never rfl (JW (by rfl) T.z_enumerate (A0 (pw 8) A4)) (De rfl (AH (AB (i:=10) DB.nd rfl (.inl rfl)) (AH (AB (i:=11) DB.nd rfl (.inr rfl)) Cy)))
  (A7 (Ai (i:=12) DB.nd rfl (.inl rfl) (Aa (Av AL) (Aa (Av AL) (pw 1) A3) (Aa (oJ CK) A3 (pw 10))))
  (A7 (Ee (AJ G_b (hr.mono (by lia)) (by rfl) T.m_b T.F_b.kp T.b_b .nil AG (A0 (AJ G_a (hr.mono (by lia)) (by rfl) T.m_a T.F_a.kp T.b_a .nil AG (A0 (pw 0) (A0 (Aa (Av CB) (pw 12) A3) A4))) (A0 (Gk (Au A3 (Au A3 (Au A3 Co Bp) Bp) Bp)) A4))) (IV rfl (AH (AB (i:=13) DB.nd rfl (.inl rfl)) (AH (AB (i:=14) DB.nd rfl (.inr rfl)) (AH (AB (i:=15) DB.nd rfl (.inl rfl)) Cy)))))
  (A7 (Me (i:=16) ["_law_e","_law_depths","_law_k","_law_turn"] [none,some 2,some 11,some 14] DB.nd rfl (.inl rfl) (by rfl) (Hu (by rfl) T.z_range (A0 (Ag B4 (pw 2) (pw 11) (fun _ _=>rfl)) A4)) X5 (fun _ _ _ _ _ _=>⟨(AB (i:=0) Z8 rfl (.inl rfl)),EO,(Aa (oJ Cg) (Aa (Av AL) (pw 0) (pw 3)) (Ag (show Dg _ (Jt K) from B4) (pw 1) (pw 2) (fun _ _=>rfl)))⟩))
  (A7 (Bi (AX Cc (pw 15) A3 (AM _))
  (Ak (Ck (T8 Cr PySem.F.slot_list_reverse PySem.F.type_list_reverse S0 (pw 16))))
  BE)
  (A7 (Ai (i:=17) DB.nd rfl (.inl rfl) (BA A4))
  (A7 (Bi ((Ht (AX (Av FL) (pw 10) A3 (AM _)) (Ju (AX (RM (Hc hr)) (pw 16) (BA A4) (AM _))))).pt
  (Ak (Ai (i:=17) DB.nd rfl (.inl rfl) (GK Jd (Ag Ay (Ag B4 (pw 9) (Aa (Av CB) (pw 10) A3) (fun _ _=>rfl)) A3 (fun _ _=>rfl)) Hg (Ga (pw 13)))))
  BE)
  (A7 (Ee (AJ G_C (hr.mono (by lia)) (by rfl) T.m_C T.F_C.kp T.b_C .nil AG (A0 (pw 0) (A0 (pw 12) (A0 (Bc BM (by rfl) T.z_len BL (A0 (pw 16) A4)) (A0 (pw 17) (A0 (pw 3) A4)))))) (De rfl (AH (AB (i:=18) DB.nd rfl (.inl rfl)) (AH (AB (i:=19) DB.nd rfl (.inl rfl)) Cy))))
  (Ak (Ck (Cu Cr DK DL Dh (pw 9) (A0 (DA (Au (pw 11) (Au (pw 18) (Au (pw 19) (Au (AJ G_D (hr.mono (by lia)) (by rfl) T.m_D T.F_D.kp T.b_D .nil AG (A0 (pw 0) (A0 (pw 12) (A0 (pw 19) (A0 (pw 16) (A0 (pw 4) A4)))))) Co Mz) Cm) Cm) Cm)) A4))))))))))))
  (Ak (AR (pw 9))))))))),?_⟩
 have Dml:((D.map V.int).length:Int)=(D.length:Int):=by rw[Al]
 refine⟨sc,ns,first,rfl,hsc,f0,by lia,fun m m0 _=>⟨Ar rfl,fun d1 hd1=>?_⟩⟩
 have s1:=Ac hd1 (.lst [V.int 6,V.int 2,V.int 6])
 refine⟨m,d1,[6,2,6],rfl,A6,m0,by decide,by decide,fun r1 H1 ds e1 hr1 dsl db=>?_⟩
 refine An fun _ zA=>?_
 have e1:=s1.trans e1
 obtain⟨x0,x1,x2,rfl⟩:=LY dsl
 refine zA ?_
 have b0:=db 0 x0 6 rfl rfl
 have b2:=db 2 x2 6 rfl rfl
 refine⟨r1,_,rfl,hr1,rfl,rfl,?_⟩
 dsimp only[Aq]
 refine⟨dl,_,rfl,.inl (A5.of (e1 _ _ hdl)),_,rfl,by lia,by lia,?_⟩
 rw[show((D.map V.int).length:Int).toNat=D.length by lia]
 refine NR (lo:=0) (n:=D.length) (fun i ys H'=>H'=H1/\ys=(Dx x0 D.length i).map V.int) ⟨rfl,rfl⟩ (BD (by lia)) (fun i ys H' hi p=>by rw[p.2,Al,LJ];exact Ah _) (fun i ys H' hi pp=>?_) (fun ys H2 pp row hrow=>?_)
 .obtain⟨rfl,rfl⟩:=pp
  refine⟨dl,_,rfl,.inl (A5.of (e1 _ _ hdl)),(by show(0:Int)<((D.map V.int).length:Int);lia),rfl,?_⟩
  rw[RU,B3,Dml,Nn]
  rfl
 obtain⟨rfl,rfl⟩:=pp
 have s2:=Ac hrow (.lst ((Dx x0 D.length D.length).map V.int))
 have hrow2:(upd H2 row (.lst ((Dx x0 D.length D.length).map V.int))) row=some (.lst ((Dx x0 D.length D.length).map V.int)):=A6
 have hrow0:=e1.free hrow
 have e2:=e1.trans s2
 dsimp only[Aq]
 generalize upd H2 row (.lst ((Dx x0 D.length D.length).map V.int))=H3 at s2 hrow2 e2
 refine Ca (fun σ' H'=>σ'=[some (.ref sc),some (.int first),some (.ref dl),some (.ref wl),some (.bl true),some (.int x0),some (.int x1),some (.int x2),some (.ref row),none,none,none,none,none,none,none,none,none,none,none]/\A8 H H'/\∃R:List Int,H' row=some (.lst (R.map V.int))/\R.Nodup/\R.length=D.length/\∀k∈R,0<=k/\k<(D.length:Int)) (fun σ' H4 pp=>?_) (fun _ nx=>?_)
 rotate_left
 .have nd:=Q8 (m:=D.length) b0.1 b0.2 D6
  have rl:=LJ x0 D.length D.length
  have rm:=Sf (s:=x0) (i:=D.length) Dpos
  refine⟨rfl,_,rfl,?_⟩
  refine BJ (fun c=>?_) (fun c=>nx _ _ ⟨rfl,e2,_,hrow2,nd,rl,rm⟩)
  refine⟨.inl ⟨rfl,_,A5.of hrow2⟩,row,_,rfl,rfl,hrow2,?_⟩
  exact nx _ _ ⟨rfl,fun a o ha=>by rw[Af (AI ha hrow0)];exact e2 _ _ ha,(Dx x0 D.length D.length).reverse,by rw[List.map_reverse];exact A6,(List.reverse_perm _).nodup_iff.mpr nd,by rw[Th];exact rl,fun k hk=>rm k (List.mem_reverse.mp hk)⟩
 refine An fun _ zB=>?_
 obtain⟨rfl,e4,R0,hrow4,nd0,R0l,R0m⟩:=pp
 have R0ml:((R0.map V.int).length:Int)=(D.length:Int):=by rw[Al,R0l]
 have j0:=Ei x2 (show((R0.map V.int).length:Int)≠0 by lia)
 have j1:=Ej x2 (show(0:Int)<((R0.map V.int).length:Int) by lia)
 obtain⟨j,ej⟩:∃j:Nat,x2%((R0.map V.int).length:Int)=(j:Int):=⟨(x2%((R0.map V.int).length:Int)).toNat,by lia⟩
 refine zB ?_
 have jl:j<R0.length:=by lia
 have Rj:R0[j]?=some R0[j]:=AC jl
 have p63:(2:Int) ^ 63=9223372036854775808:=by decide
 refine⟨.inl ⟨rfl,_,A5.of hrow4⟩,.inl ⟨rfl,_,A5.of hrow4⟩,row,_,rfl,.inl (A5.of hrow4),(by show(0:Int)<((R0.map V.int).length:Int);lia),row,_,(j:Int),j,.int R0[j],rfl,by rw[←ej],hrow4,by lia,by lia,RC (by rw[Al];exact jl),by rw[AQ,Rj];rfl,?_⟩
 have erm:(R0.map V.int).eraseIdx j=(R0.eraseIdx j).map V.int:=Uh R0 j
 have erl:(R0.eraseIdx j).length=R0.length-1:=List.length_eraseIdx_of_lt jl
 rw[erm]
 refine⟨row,_,_,rfl,rfl,A6,CF (by rw[Al,erl];lia),?_⟩
 have pm:(R0[j]::R0.eraseIdx j).Perm R0:=QE R0 j jl
 have hrow5:(upd (upd H4 row (.lst ((R0.eraseIdx j).map V.int))) row (.lst (V.int R0[j]::(R0.eraseIdx j).map V.int))) row=some (.lst ((R0[j]::R0.eraseIdx j).map V.int)):=A6
 have e5:A8 H (upd (upd H4 row (.lst ((R0.eraseIdx j).map V.int))) row (.lst (V.int R0[j]::(R0.eraseIdx j).map V.int))):=fun a o ha=>by rw[Af (AI ha hrow0),Af (AI ha hrow0)];exact e4 _ _ ha
 generalize upd (upd H4 row (.lst ((R0.eraseIdx j).map V.int))) row (.lst (V.int R0[j]::(R0.eraseIdx j).map V.int))=H5 at hrow5 e5
 have nd:=pm.nodup_iff.mpr nd0
 have Rl:(R0[j]::R0.eraseIdx j).length=D.length:=by rw[pm.length_eq];exact R0l
 have Rm:∀k∈R0[j]::R0.eraseIdx j,0<=k/\k<(D.length:Int):=fun k hk=>R0m k (pm.subset hk)
 generalize R0[j]::R0.eraseIdx j=R at hrow5 nd Rl Rm
 refine⟨Ar rfl,fun lv hlv=>?_⟩
 have s6:=Ac hlv (.lst [])
 have hlv6:(upd H5 lv (.lst [])) lv=some (.lst []):=A6
 dsimp only[Aq]
 generalize upd H5 lv (.lst [])=H6 at s6 hlv6
 have hlv0:=e5.free hlv
 refine⟨row,rfl,⟨_,A5.of (s6 _ _ hrow5)⟩,?_⟩
 refine K8 (xs:=R.map V.int) (fun i σ' H'=>∃(xs:List V) (B:List Am) (o10 o11 o12 o13 o14 o15 o16 o17 o18 o19:Option V),σ'=[some (.ref sc),some (.int first),some (.ref dl),some (.ref wl),some (.bl true),some (.int x0),some (.int x1),some (.int x2),some (.ref row),some (.ref lv),o10,o11,o12,o13,o14,o15,o16,o17,o18,o19]/\A8 H5 H'/\H' lv=some (.lst xs)/\AE (KZ (av H' [lv])) xs B/\LD B D R i) ⟨[],[],_,_,_,_,_,_,_,_,_,_,rfl,s6,hlv6,.nil,Fk.nil R,fun b hb=>by cases hb⟩ (fun i σ' H' _ pp=>by obtain⟨_,_,_,_,_,_,_,_,_,_,_,_,_,e,_⟩:=pp;exact A5.of (e _ _ hrow5)) (fun i x Tt σ' H' hx pp hT=>?_) (fun σ' H' pp=>?_)
 rotate_left
 .obtain⟨xs,B,o10,o11,o12,o13,o14,o15,o16,o17,o18,o19,rfl,e,hl,ay,st⟩:=pp
  rw[Al]at st
  refine An fun _ zC=>?_
  obtain⟨g1,g2,g3⟩:=st.st.fin (by lia) nd
  refine zC ?_
  have kse:=st.st.ks
  rw[Nh]at kse
  exact q lv _ B (e5.trans e) ⟨xs,hl,ay.mono fun y v z=>z.over Ho⟩ ⟨g1,by rw[kse];exact PV nd Rl Rm,st.lf⟩ (by lia)
 refine An fun _ zD=>?_
 obtain⟨xs,B,o10,o11,o12,o13,o14,o15,o16,o17,o18,o19,rfl,e,hl,ay,st⟩:=pp
 refine zD ?_
 have hiR:i<R.length:=by have:=(As.mp hx).1;rwa [Al]at this
 have Ri:R[i]?=some R[i]:=AC hiR
 rw[AQ,Ri]at hx
 cases hx
 have hk:=Rm _ (AO Ri)
 generalize R[i]=k at Ri hk
 obtain⟨kk,rfl⟩:∃n:Nat,k=(n:Int):=⟨k.toNat,by lia⟩
 have hkl:kk<D.length:=by lia
 have Dk:D[kk]?=some D[kk]:=AC hkl
 have Db:=hD _ (AO Dk)
 have atD:Bh (D.map V.int) (kk:Int)=some (.int D[kk]):=CQ (by rw[AQ,Dk];rfl)
 generalize D[kk]=dk at Dk Db atD
 obtain⟨dn,rfl⟩:∃n:Nat,dk=(n:Int):=⟨dk.toNat,by lia⟩
 have Bl:=st.st.len (FP hiR)
 have xsl:=ay.1
 have sT:=Ac hT (.tup [V.int (i:Int),V.int (kk:Int)])
 have eT:=e.trans sT
 have hlT:=sT _ _ hl
 have ayT:=ay.mono fun y v z=>z.over (F9 (S:=[lv]) sT)
 refine⟨Tt,_,rfl,A9.of A6,rfl,rfl,?_⟩
 generalize upd H' Tt (.tup [V.int (i:Int),V.int (kk:Int)])=H7 at eT hlT ayT
 dsimp only[Aq]
 refine⟨.inl ⟨by decide,by decide⟩,?_⟩
 dsimp only[Aq,FI]
 obtain⟨cell,hcell⟩:∃c:Int,c=first+2+7*(i:Int):=⟨_,rfl⟩
 rw[←hcell]
 refine⟨sc,ns,cell-1,rfl,(e5.trans eT).seq hsc,by lia,by lia,fun m' m0' _=>⟨Ar rfl,fun d2 hd2=>?_⟩⟩
 have s8:=Ac hd2 (.lst [V.int 7,V.int 3,V.int 2])
 refine⟨m',d2,[7,3,2],rfl,A6,m0',by decide,by decide,fun r2 H8 ds e8 hr2 dsl db=>?_⟩
 refine An fun _ zE=>?_
 have s78:=s8.trans e8
 have e8:=eT.trans s78
 have hl8:=s78 _ _ hlT
 have ay8:=ayT.mono fun y v z=>z.over (F9 (S:=[lv]) s78)
 obtain⟨y0,y1,y2,rfl⟩:=LY dsl
 refine zE ?_
 have c0':=db 0 y0 7 rfl rfl
 refine⟨r2,_,rfl,hr2,rfl,rfl,?_⟩
 dsimp only[Aq]
 have hdl8:=(e5.trans e8) _ _ hdl
 refine ixL hdl8 atD ⟨_,rfl,by lia,by lia,?_⟩
 rw[show((dn:Int)).toNat=dn by lia]
 refine NR (lo:=0) (n:=dn) (fun i ys H'=>H'=H8/\ys=(Dx y1 dn i).map V.int) ⟨rfl,rfl⟩ (BD (by lia)) (fun i ys H' hi p=>by rw[p.2,Al,LJ];exact Ah _) (fun i2 ys H' hi pp=>?_) (fun ys H9 pp lo hlo=>?_)
 .obtain⟨rfl,rfl⟩:=pp
  refine⟨dl,_,_,_,rfl,rfl,A5.of hdl8,atD,(by show(0:Int)<(dn:Int);lia),rfl,?_⟩
  rw[RU,B3,Nn]
  rfl
 obtain⟨rfl,rfl⟩:=pp
 have c1':=db 1 y1 3 rfl rfl
 have L0l:=LJ y1 dn dn
 have L0p:(Dx y1 dn dn).Perm (EU dn):=by
  rcases Nl dn with z|z
  .rw[z];exact .refl _
  .exact PV (Q8 c1'.1 (by lia) (by lia)) L0l (Sf z)
 generalize Dx y1 dn dn=L0 at L0l L0p hlo
 have s9:=Ac hlo (.lst (L0.map V.int))
 have hlo9:(upd H9 lo (.lst (L0.map V.int))) lo=some (.lst (L0.map V.int)):=A6
 dsimp only[Aq]
 generalize upd H9 lo (.lst (L0.map V.int))=HA at s9 hlo9
 refine Ca (fun σ' H'=>σ'=[some (.ref sc),some (.int first),some (.ref dl),some (.ref wl),some (.bl true),some (.int x0),some (.int x1),some (.int x2),some (.ref row),some (.ref lv),some (.int (i:Int)),some (.int (kk:Int)),some (.int cell),some (.int y0),some (.int y1),some (.int y2),some (.ref lo),o17,o18,o19]/\A8 H9 H'/\∃L:List Int,H' lo=some (.lst (L.map V.int))/\L.length=dn/\L.Perm (EU dn)) (fun σ' HB pp=>?_) (fun _ nx=>?_)
 rotate_left
 .refine⟨rfl,_,rfl,?_⟩
  refine BJ (fun c=>?_) (fun c=>nx _ _ ⟨rfl,s9,L0,hlo9,L0l,L0p⟩)
  refine⟨.inl ⟨rfl,_,A5.of hlo9⟩,lo,_,rfl,rfl,hlo9,?_⟩
  exact nx _ _ ⟨rfl,fun a o ha=>by rw[Af (AI ha hlo)];exact s9 _ _ ha,L0.reverse,by rw[List.map_reverse];exact A6,by rw[Th];exact L0l,(List.reverse_perm _).trans L0p⟩
 refine An fun _ zF=>?_
 obtain⟨rfl,eB,L,hloB,Ll,Lp⟩:=pp
 refine zF ?_
 have e9:=e8.trans eB
 have hl9:=eB _ _ hl8
 have ay9:=ay8.mono fun y v z=>z.over (F9 (S:=[lv]) eB)
 clear ay8 ayT ay
 refine⟨Ar rfl,fun ol hol=>?_⟩
 have sC:=Ac hol (.lst [])
 have holC:(upd HB ol (.lst [])) ol=some (.lst []):=A6
 dsimp only[Aq]
 generalize upd HB ol (.lst [])=HC at sC holC
 refine Ca (fun σ' H'=>∃(o:Addr) (ws0:List Bb),σ'=[some (.ref sc),some (.int first),some (.ref dl),some (.ref wl),some (.bl true),some (.int x0),some (.int x1),some (.int x2),some (.ref row),some (.ref lv),some (.int (i:Int)),some (.int (kk:Int)),some (.int cell),some (.int y0),some (.int y1),some (.int y2),some (.ref lo),some (.ref o),o18,o19]/\A8 HC H'/\ET H' o ws0/\BI ws0<=3/\(B=[]->ws0=[])/\(dn=0->ws0=[])/\(∀c,B.getLast?=some c->∃j,ws0=c.ways.take j)) (fun σ' HD pp=>?_) (fun _ nx=>?_)
 rotate_left
 .have none0:∀HX,A8 HC HX->ET HX ol []:=fun HX e=>⟨[],e _ _ holC,.nil⟩
  refine⟨_,rfl,?_⟩
  refine BJ (fun c=>?_) (fun c=>nx _ _ ⟨ol,[],rfl,A8.refl _,none0 _ (A8.refl _),by decide,fun _=>rfl,fun _=>rfl,fun c _=>⟨0,rfl⟩⟩)
  have c:=dT c
  refine⟨Ar rfl,fun z hz=>Xc ((Ac hz (.lst [])) _ _ (sC _ _ hloB)) A6 ⟨_,rfl,?_⟩⟩
  have sz:=Ac hz (.lst [])
  generalize upd HC z (.lst [])=HZ at sz
  cases hL:L with
  |nil=>exact BW (nx _ _ ⟨ol,[],rfl,sz,none0 _ sz,by decide,fun _=>rfl,fun _=>rfl,fun c _=>⟨0,rfl⟩⟩)
  |
   cons l0 L1=>
   refine Ce ?_
   obtain⟨p,rfl⟩:∃p,i=p+1:=⟨i-1,by lia⟩
   have hBp:B[p]?=some B[p]:=AC (by lia)
   have hlast:B.getLast?=some B[p]:=by rw[List.getLast?_eq_getElem?,show B.length-1=p by lia];exact hBp
   generalize B[p]=c0 at hBp hlast
   refine An fun _ zG=>?_
   obtain⟨xp,hxp,lf⟩:=ay9.get hBp
   obtain⟨t,w0,p0,rfl,ht,⟨wx,hw,haw⟩,_⟩:=(lf.over Ho).over (sC.trans sz)
   refine zG ?_
   have aj:Bh xs (((p+1:Nat):Int)-1)=some (.ref t):=by
    rw[show(((p+1:Nat):Int)-1)=(p:Int) by lia]
    exact CQ hxp
   refine⟨lv,_,_,_,rfl,rfl,A5.of ((sC.trans sz) _ _ hl9),aj,t,_,2,_,rfl,rfl,A9.of ht,rfl,_,rfl,w0,_,rfl,A5.of hw,fun sl hsl=>?_⟩
   have s1:=Ac hsl (.lst (Cv wx none (some y0)))
   have cy:Cv wx none (some y0)=wx.take y0.toNat:=OQ _ c0'.1
   refine nx _ _ ⟨sl,c0.ways.take y0.toNat,rfl,sz.trans s1,⟨_,A6,?_⟩,?_,fun z=>?_,fun z=>by rw[hL,B9]at Ll;lia,fun c hc=>?_⟩
   .have hh:=(haw.mono fun y v z=>z.over s1).take y0.toNat
    rw[←cy]at hh
    exact hh
   .have:=OG c0.ways y0.toNat
    have:=(st.st.way c0 (AO hBp)).1
    lia
   .rw[z]at hBp;simp at hBp
   .rw[hlast]at hc
    cases hc
    exact⟨_,rfl⟩
 refine An fun _ zH=>?_
 obtain⟨o,ws0,rfl,eD,hws0,cut0,nil0,dn0,last0⟩:=pp
 refine zH ?_
 have eBD:=sC.trans eD
 have eD':=e9.trans eBD
 have hlD:=eBD _ _ hl9
 have hloD:=eBD _ _ hloB
 have ayD:=ay9.mono fun y v z=>z.over (F9 (S:=[lv]) eBD)
 have eH:=e5.trans eD'
 refine⟨lo,_,rfl,.inl (A5.of hloD),sc,o,wl,ns,cell,dn,ws0,by rw[Al,Ll];rfl,eH.seq hsc,by lia,by lia,by lia,hws0,cut0,eH _ _ hwl,fun r w HE sh ws eE hwn hrE hwE h1 h2 h3 h4 h5 h6=>?_⟩
 refine⟨r,_,rfl,A9.of hrE,rfl,rfl,?_⟩
 dsimp only[Aq]
 have nw:w≠lv:=fun z=>by rw[z,hlD]at hwn;cases hwn
 have hlE:=eE _ _ hlD
 have wlen:=NC ws
 have eHE:=eH.trans eE
 have hLm:∀z∈L,0<=z/\z<(dn:Int):=fun z hz=>by
  obtain⟨k,e,l⟩:=X1 Lp hz
  lia
 have neL:ws≠[]->L≠[]:=fun z zz=>by
  have d0:dn=0:=by rw[zz]at Ll;exact Ll.symm
  exact z (h6 d0 (dn0 d0))
 refine⟨.inl ⟨rfl,_,A5.of hlE⟩,sc,w,lo,ns,L,cell,ws,dn,rfl,eHE.seq hsc,by lia,by lia,hwE,by lia,eE _ _ hloD,by lia,by lia,neL,hLm,fun pr HF ps eF hpn hps psl hPr hwh=>⟨Ar rfl,fun t ht=>?_⟩⟩
 have sG:=Ac ht (.tup [V.int (kk:Int),V.int (sh:Int),V.ref w,V.ref pr])
 have htG:(upd HF t (.tup [V.int (kk:Int),V.int (sh:Int),V.ref w,V.ref pr])) t=some (.tup [V.int (kk:Int),V.int (sh:Int),V.ref w,V.ref pr]):=A6
 have hlG:=sG _ _ (eF _ _ hlE)
 have ntl:t≠lv:=fun z=>by rw[z,eF _ _ hlE]at ht;cases ht
 have eFG:=eF.trans sG
 generalize upd HF t (.tup [V.int (kk:Int),V.int (sh:Int),V.ref w,V.ref pr])=HG at sG htG hlG eFG
 refine⟨lv,_,_,rfl,rfl,hlG,CF (by lia),?_⟩
 refine⟨xs++[.ref t],B++[⟨(kk:Int),sh,ws,ps⟩],_,_,_,_,_,_,_,_,_,_,rfl,fun a o ha=>by rw[Af (AI ha hlv)];exact(eE.trans eFG) _ _ (eD' _ _ ha),A6,?_,?_⟩
 .rw[Ox (by simp)]
  refine(ayD.mono fun y v z=>z.over (F9 (S:=[lv]) (eE.trans eFG))).snoc ⟨t,w,pr,rfl,by rw[Ka (by rw[Bz];exact ntl)];exact htG,(hwE.over eFG).av hlG nw,(hps.over sG).tk (Je hlG)⟩
 .refine st.snoc Ri h2 (fun z=>?_) (fun c hc=>?_) ⟨h4,by show ws.length<=6;lia⟩ psl ⟨kk,dn,rfl,Dk,⟨by unfold Js;rw[Al];exact psl,by show ps.length<=6;lia,hPr,by show(Dy ps (ws.map (·.1))).Perm _;rw[hwh];exact Lp⟩,fun z=>h6 z (dn0 z)⟩
  .have:=nil0 z
   rw[this]at h1
   exact Nat.le_zero.mp h1
  .obtain⟨j,rfl⟩:=last0 c hc
   rw[AV]at h1
   refine⟨by show sh<=_;lia,?_⟩
   show ws.take sh=c.ways.take sh
   rw[h3,Pc,show min sh j=sh by lia]
theorem QB (T:Tx K mg a):∀n:Nat,AU P w K mg base Be (n+2) a.f_g a.d_g ["_law_leaves_here","_law_level"] (Qn n)
 |
  0=>by
  have no:∀vs H Q E,¬Qn 0 vs H Q E:=fun vs H Q E h=>by
   obtain⟨l,d,m,B,_,_,_,hm,_⟩:=h
   lia
  exact⟨fun vs H Q E h=>absurd h (no vs H Q E),fun A outer s H args us vs Q E _ _ _ _ h=>absurd h (no vs H Q E)⟩
 |
  n+1=>by
  have G_g:=QB T n
  refine T.F_g.ok HQ (fun vs H Q E h=>?_) (fun cdv A outer s H vs Q E hr h=>?_)
  .obtain⟨_,_,_,_,rfl,_⟩:=h;rfl
  obtain⟨l,d,mm,B,rfl,⟨xs0,hl,hB⟩,hF,hmn,hd,q⟩:=h
  refine⟨_,(A7 (Ai (i:=2) HQ.nd rfl (.inl rfl) (BA A4))
  (A7 (Ai (i:=3) HQ.nd rfl (.inl rfl) A3)
  (A7 (Gp PassesOwn.never (AX (Av Gu) (pw 3) (Bc BM (by rfl) T.z_len BL (A0 (pw 0) A4)) (AM _))
  (A7 (Ai (i:=4) HQ.nd rfl (.inl rfl) (Aa (Av AL) (pw 3) A3))
  (A7 (Bi (AX Cc (Bc BM (by rfl) T.z_len BL (A0 (Ag Ay (Ag B4 (pw 0) (pw 3) (fun _ _=>rfl)) A3 (fun _ _=>rfl)) A4)) (pw 1) (AM _))
  (Ak (Ck (Cu Cr DK DL Dh (pw 2) (A0 (DA (Au Cj (Au (Ag Ay (Ag B4 (pw 0) (pw 3) (fun _ _=>rfl)) A3 (fun _ _=>rfl)) (Au (Ag Ay (Ag B4 (pw 0) (pw 3) (fun _ _=>rfl)) A3 (fun _ _=>rfl)) Co Fc) Fc) Bp)) A4))))
  (A7 (Gp PassesOwn.never ((Ht (AX (Av Gu) (pw 4) (Bc BM (by rfl) T.z_len BL (A0 (pw 0) A4)) (AM _)) (Ju (AX (Av FL) (Ag Ay (Ag B4 (pw 0) (pw 4) (fun _ _=>rfl)) A3 (fun _ _=>rfl)) (pw 1) (AM _))))).pt
  (Ak (Ai (i:=4) HQ.nd rfl (.inl rfl) (Aa (Av AL) (pw 4) A3))))
  (A7 (Ai (i:=5) HQ.nd rfl (.inl rfl) (Ag B4 (Ag Ay (Ag B4 (pw 0) (pw 3) (fun _ _=>rfl)) A3 (fun _ _=>rfl)) (pw 1) (fun _ _=>rfl)))
  (Ak (Ck (Cu Cr DK DL Dh (pw 2) (A0 (DA (Au Cj (Au (Ag Ay (pw 5) A3 (fun _ _=>rfl)) (Au (Ag Ay (pw 5) A3 (fun _ _=>rfl)) (Au (AJ G_g (hr.mono (by lia)) (by rfl) T.m_g T.F_g.kp T.b_g .nil AG (A0 (GK Jd (pw 0) (Ga (pw 3)) (Ga (pw 4))) (A0 (Aa (Av AL) (pw 1) A3) A4))) Co Mz) Fc) Fc) Bp)) A4)))))))
  (Ak (Ai (i:=3) HQ.nd rfl (.inl rfl) (pw 4))))))
  (Ak (AR (Dj Kb (by rfl) T.z_tuple IK (A0 (pw 2) A4))))))),?_⟩
  have xl:=hB.1
  have Bl:=hF.len
  refine⟨Ar rfl,fun it hit=>?_⟩
  have e1:=Ac hit (.lst [])
  have hit1:(upd H it (.lst [])) it=some (.lst []):=A6
  dsimp only[Aq]
  generalize upd H it (.lst [])=H1 at e1 hit1
  show Jl (LB _ _) (O2 _) _ _ _
  refine Ca (fun σ' H'=>∃(xs:List V) (f:Bj) (o3 o4 o5:Option V),σ'=[some (.ref l),some (.int (d:Int)),some (.ref it),o3,o4,o5]/\A8 H H'/\H' it=some (.lst xs)/\Bw H' xs f/\Fo.Is f B d/\xs.length<=1000) (fun σ' H' pp=>?_) (fun _ nx=>?_)
  .obtain⟨xs,f,o3,o4,o5,rfl,e,hx,hf,hI,xl⟩:=pp
   refine⟨it,_,rfl,.inl ⟨A5.of hx,fun t ht=>?_⟩⟩
   have s1:=Ac ht (.tup xs)
   exact q t _ f (e.trans s1) ⟨xs,A6,Bw.over s1 hf⟩ hI
  refine Gy (B.length+1) (fun j σ' H'=>∃(at':Nat) (xs:List V) (f:Bj) (o4 o5:Option V),σ'=[some (.ref l),some (.int (d:Int)),some (.ref it),some (.int (at':Int)),o4,o5]/\A8 H H'/\H' it=some (.lst xs)/\Bw H' xs f/\Fo.Is f (B.take at') d/\at'<=B.length/\j<=at'/\xs.length<=at'/\(0<at'->∀c,B[at']?=some c->c.sh=d)) ⟨0,[],.nil,none,none,rfl,e1,hit1,rfl,rfl,Bk _,Ah _,Ah _,fun z=>absurd z (D7 _)⟩ (fun j σ' H' hj pp=>?_) (MT.test (ME.op (MR.j0 _) (ME.vr _) (ME.cb MB.len (MA.cons (ME.vr _) MA.nil))))
  refine An fun _ zA=>?_
  obtain⟨at',xs,f,o4,o5,rfl,e,hx,hf,hI,hat,hja,xsl,hhd⟩:=pp
  refine zA ?_
  have hl':=e _ _ hl
  refine⟨l,_,rfl,.inl (A5.of hl'),_,rfl,?_⟩
  refine BJ (fun c=>?_) (fun c=>?_)
  rotate_left
  .have c:=dF c
   have:at'=B.length:=by lia
   subst this
   rw[Nh]at hI
   exact nx _ _ ⟨xs,f,_,_,_,rfl,e,hx,hf,hI,by lia⟩
  have c:=dT c
  have hlt:at'<B.length:=by rw[xl]at c;exact Int.ofNat_lt.mp c
  refine⟨by lia,?_⟩
  have Ba:B[at']?=some B[at']:=AC hlt
  generalize hb:B[at']=b at Ba
  refine An fun _ zB=>?_
  obtain⟨x0,hx0,hbo⟩:=hB.get Ba
  obtain⟨t,w0,p0,rfl,ht,⟨wx,hw,haw⟩,⟨px,hp,hap⟩⟩:=hbo.over e
  refine zB ?_
  have at0:Bh xs0 (at':Int)=some (.ref t):=CQ hx0
  have wxl:=haw.1
  have memb:b∈B:=AO Ba
  refine GV (fun _ h=>h) ?_
  refine Ca (fun σ' H'=>∃(m:Nat) (xs:List V) (f:Bj) (o5:Option V),σ'=[some (.ref l),some (.int (d:Int)),some (.ref it),some (.int (at':Int)),some (.int (m:Int)),o5]/\A8 H H'/\H' it=some (.lst xs)/\Bw H' xs f/\Fo.Is f (B.take m) d/\at'<m/\m<=B.length/\xs.length<=m/\(∀c,B[m]?=some c->c.sh=d)) (fun σ' H2 pp=>?_) (fun _ nx2=>?_)
  .obtain⟨m,xs2,f2,o5',rfl,e2,hx2,hf2,hI2,hm1,hm2,xl2,hh2⟩:=pp
   exact⟨m,xs2,f2,_,_,rfl,e2,hx2,hf2,hI2,hm2,by lia,xl2,fun _=>hh2⟩
  refine⟨l,_,_,_,rfl,rfl,A5.of hl',at0,t,_,2,_,rfl,rfl,A9.of ht,rfl,w0,_,rfl,.inl (A5.of hw),rfl,_,rfl,?_⟩
  rw[wxl]
  by_cases cd:b.ways.length=d
  .refine BR (v:=true) (Da (congrArg (fun n:Nat=>V.int (n:Int)) cd)) (Ce ?_)
   refine⟨.inl ⟨rfl,_,A5.of hx⟩,l,_,_,_,rfl,rfl,A5.of hl',at0,t,_,0,_,rfl,rfl,A9.of ht,rfl,l,_,_,_,rfl,rfl,A5.of hl',at0,t,_,3,_,rfl,rfl,A9.of ht,rfl,Ar rfl,fun r hr=>?_⟩
   have s1:=Ac hr (.tup [V.str "deed",V.int b.k,V.ref p0])
   have hr1:(upd H' r (.tup [V.str "deed",V.int b.k,V.ref p0])) r=some (.tup [V.str "deed",V.int b.k,V.ref p0]):=A6
   have hpt1:=s1 _ _ hp
   generalize upd H' r (.tup [V.str "deed",V.int b.k,V.ref p0])=H2 at s1 hr1 hpt1
   have hx2:=s1 _ _ hx
   refine⟨it,_,_,rfl,rfl,hx2,CF (by lia),?_⟩
   have tk:TK H2 (upd H2 it (.lst (xs++[V.ref r]))):=TK.upd hx2
   refine nx2 _ _ ⟨at'+1,xs++[.ref r],Fo.app f (.leaf b.k b.pl .nil),_,rfl,fun a o ha=>by rw[Af (AI ha hit)];exact s1 _ _ (e _ _ ha),A6,?_,?_,Ie _,hlt,by rw[AF,Bf];lia,fun c hc=>?_⟩
   .exact Bw.tk tk (Bw.app (Bw.over s1 hf) ⟨r,p0,[],rfl,hr1,⟨px,hpt1,hap.mono fun x v z=>z.over s1⟩,rfl⟩)
   .rw[CJ Ba]
    refine SJ hI (Fo.Is.leaf1 cd) (fun z c hc=>?_)
    cases hc
    exact hhd (by rcases Nl at' with z0|z0;exact absurd (by rw[z0];rfl) z;exact z0) b Ba
   .have h1:=(hF.ok.ln at' b c Ba hc).1
    have h2:=hF.sh at' c hc
    lia
  .refine BR (v:=false) (D8 fun z=>cd (ZM z)) (BW ?_)
   have hlo:=hF.lo b memb
   have hhi:=hF.hi b memb
   obtain⟨mn,rfl⟩:∃k,mm=k+1:=⟨mm-1,by lia⟩
   refine Ca (fun σ' H2=>H2=H'/\∃(m:Nat),σ'=[some (.ref l),some (.int (d:Int)),some (.ref it),some (.int (at':Int)),some (.int (m:Int)),o5]/\at'<m/\m<=B.length/\(∀i c,at'<i->i<m->B[i]?=some c->d<c.sh)/\(∀c,B[m]?=some c->c.sh<=d)) (fun σ' H2 pp=>?_) (fun _ nx3=>?_)
   rotate_left
   .refine Gy B.length (fun j σ' H2=>H2=H'/\∃(m:Nat),σ'=[some (.ref l),some (.int (d:Int)),some (.ref it),some (.int (at':Int)),some (.int (m:Int)),o5]/\m=at'+1+j/\m<=B.length/\(∀i c,at'<i->i<m->B[i]?=some c->d<c.sh)) ⟨rfl,at'+1,rfl,rfl,hlt,fun i c h1 h2=>absurd h2 (Nk.mpr h1)⟩ (fun j σ' H2 hj pp=>?_) (MT.and (MT.test (ME.op (MR.j0 _) (ME.vr _) (ME.cb MB.len (MA.cons (ME.vr _) MA.nil)))) (MT.test (ME.op (MR.j0 _) (ME.op (MR.ixT _) (ME.op (MR.ixL _) (ME.vr _) (ME.vr _)) (ME.c _)) (ME.vr _))))
    refine An fun _ zC=>?_
    obtain⟨rfl,m,rfl,hm,hmB,hG⟩:=pp
    refine zC ?_
    refine⟨l,_,rfl,.inl (A5.of hl'),_,rfl,?_⟩
    refine BJ (fun c=>?_) (fun c=>nx3 _ _ ⟨rfl,m,rfl,by lia,hmB,hG,fun c' hc'=>?_⟩)
    .have c:=dT c
     refine An fun _ zD=>?_
     have hmlt:m<B.length:=by rw[xl]at c;exact Int.ofNat_lt.mp c
     have Bm:B[m]?=some B[m]:=AC hmlt
     obtain⟨x1,hx1,hbo1⟩:=hB.get Bm
     obtain⟨t1,w1,p1,rfl,ht1,_,_⟩:=hbo1.over e
     refine zD ?_
     refine⟨l,_,_,_,rfl,rfl,A5.of hl',CQ hx1,t1,_,1,_,rfl,rfl,A9.of ht1,rfl,_,rfl,?_⟩
     refine BJ (fun c=>?_) (fun c=>nx3 _ _ ⟨rfl,m,rfl,by lia,hmB,hG,fun c' hc'=>?_⟩)
     .have c:=dT c
      refine⟨by lia,rfl,m+1,rfl,by lia,hmlt,fun i c' h1 h2 h3=>?_⟩
      by_cases z:i=m
      .subst z
       rw[Bm]at h3
       cases h3
       lia
      .exact hG i c' h1 (by lia) h3
     .have c:=dF c
      rw[Bm]at hc'
      cases hc'
      lia
    .have c:=dF c
     have:=(As.mp hc').1
     lia
   refine An fun _ zE=>?_
   obtain⟨rfl,m,rfl,hm1,hm2,hG,hend⟩:=pp
   have hwd:d<b.ways.length:=Nat.lt_of_le_of_ne hlo (Ne.symm cd)
   have Wd:b.ways[d]?=some b.ways[d]:=AC hwd
   obtain⟨xw,hxw,tw,rfl,htw⟩:=haw.get Wd
   refine zE ?_
   refine⟨l,_,_,_,rfl,rfl,A5.of hl',at0,t,_,2,_,rfl,rfl,A9.of ht,rfl,w0,_,_,_,rfl,rfl,A5.of hw,CQ hxw,?_⟩
   refine⟨.inl ⟨rfl,_,A5.of hx⟩,tw,_,0,_,rfl,rfl,A9.of htw,rfl,tw,_,1,_,rfl,rfl,A9.of htw,rfl,?_⟩
   have cy:Cv xs0 (some (at':Int)) (some (m:Int))=(xs0.drop at').take (m-at'):=by
    have:Cv xs0 (some (at':Int)) (some (m:Int))=(xs0.drop (at':Int).toNat).take ((m:Int).toNat-(at':Int).toNat):=Vq xs0 (Pl _) (Pl _) (by rw[xl];exact Int.ofNat_le.mpr hm2) (Int.ofNat_le.mpr (FP hm1))
    rw[this,EG,EG]
   refine⟨_,rfl,_,rfl,l,_,rfl,A5.of hl',fun sl hsl=>?_⟩
   have s1:=Ac hsl (.lst (Cv xs0 (some (at':Int)) (some (m:Int))))
   have hsl1:(upd H2 sl (.lst (Cv xs0 (some (at':Int)) (some (m:Int))))) sl=some (.lst ((xs0.drop at').take (m-at'))):=by rw[←cy];exact A6
   generalize upd H2 sl (.lst (Cv xs0 (some (at':Int)) (some (m:Int))))=H3 at s1 hsl1
   refine⟨sl,d+1,mn,(B.drop at').take (m-at'),rfl,⟨_,hsl1,((hB.mono fun x v z=>z.over (e.trans s1)).drop at').take (m-at')⟩,hF.group Ba cd hm1 hG,by lia,by lia,fun r H4 f' e4 hf' hI'=>⟨Ar rfl,fun r2 hr2=>?_⟩⟩
   have s5:=Ac hr2 (.tup [V.str "sweep",V.bl (b.ways[d]).1,V.str (b.ways[d]).2,V.ref r])
   have hr5:(upd H4 r2 (.tup [V.str "sweep",V.bl (b.ways[d]).1,V.str (b.ways[d]).2,V.ref r])) r2=some (.tup [V.str "sweep",V.bl (b.ways[d]).1,V.str (b.ways[d]).2,V.ref r]):=A6
   have e5:=(s1.trans e4).trans s5
   have hf5:=hf'.over s5
   generalize upd H4 r2 (.tup [V.str "sweep",V.bl (b.ways[d]).1,V.str (b.ways[d]).2,V.ref r])=H5 at e5 hr5 hf5
   have hx5:=e5 _ _ hx
   refine⟨it,_,_,rfl,rfl,hx5,CF (by lia),?_⟩
   refine An fun _ zF=>?_
   have tk:TK H5 (upd H5 it (.lst (xs++[V.ref r2]))):=TK.upd hx5
   obtain⟨zs,hz1,hz2⟩:=hf5
   refine zF ?_
   refine nx2 _ _ ⟨m,xs++[.ref r2],Fo.app f (.node (b.ways[d]).1 (b.ways[d]).2 f' .nil),_,rfl,fun a o ha=>by rw[Af (AI ha hit)];exact e5 _ _ (e _ _ ha),A6,?_,?_,hm1,hm2,by rw[AF,Bf];lia,fun c hc=>?_⟩
   .exact Bw.tk tk (Bw.app (Bw.over e5 hf) ⟨r2,r,zs,[],rfl,hr5,hz1,hz2,rfl⟩)
   .rw[←cm B (FP hm1)]
    have sl1:(B.drop at').take (m-at')=b::(B.drop (at'+1)).take (m-at'-1):=by
     rw[JD hlt,hb]
     obtain⟨k,hk⟩:∃k,m-at'=k+1:=⟨m-at'-1,by lia⟩
     rw[hk]
     rfl
    rw[sl1]at hI' ⊢
    refine SJ hI (Fo.Is.node1 Wd (fun c hc=>?_) hI') (fun z c hc=>?_)
    .obtain⟨i,hi⟩:=GQ.mp hc
     have l2:=(As.mp hi).1
     rw[AV]at l2
     rw[CS (by lia),Io]at hi
     exact hG (at'+1+i) c (by lia) (by lia) hi
    .cases hc
     exact hhd (by rcases Nl at' with z0|z0;exact absurd (by rw[z0];rfl) z;exact z0) b Ba
   .have h1:=hend c hc
    have h2:=hF.sh (m-1) c (by rw[show m-1+1=m by lia];exact hc)
    lia
theorem Y1 (T:Tx K mg a):AU P w K mg base Be 1 a.f_F a.d_F ["_law_leaves_here"] Z4:=by
 refine T.F_F.ok J8 (fun vs H Q E h=>?_) (fun cdv A outer s H vs Q E hr h=>?_)
 .obtain⟨_,_,rfl,_⟩:=h;rfl
 obtain⟨l,B,rfl,⟨xs,hl,ax⟩,ok,q⟩:=h
 refine⟨_,(A7 (Ai (i:=1) J8.nd rfl (.inl rfl) (BA A4))
  (A7 (CD PassesOwn.never rfl (JW (by rfl) T.z_enumerate (A0 (pw 0) A4)) (De rfl (AH (AB (i:=2) J8.nd rfl (.inr rfl)) (AH (AB (i:=3) J8.nd rfl (.inl rfl)) Cy)))
  (A7 (Me (i:=4) ["_law_e","_law_n"] [none,some 2] J8.nd rfl (.inl rfl) (by rfl) (Hu (by rfl) T.z_range (A0 (Bc BM (by rfl) T.z_len BL (A0 (Ag Ay (pw 3) A3 (fun _ _=>rfl)) A4)) A4)) aA (fun _ _ _ _ _ _=>⟨(AB (i:=0) WR rfl (.inl rfl)),EO,(Bq (A0 (pw 1) (A0 (pw 0) A4)))⟩))
  (A7 (Bi (AX (Av FL) (Ag Ay (pw 3) A3 (fun _ _=>rfl)) A3 (AM _))
  (Ak (Ai (i:=4) J8.nd rfl (.inl rfl) (Aa K1 (GK Jd (Ag B4 (pw 1) (Aa (Av CB) (pw 2) A3) (fun _ _=>rfl)) Hg (Ga (Ag Ay (pw 3) A3 (fun _ _=>rfl)))) (GK Jd (pw 4) (Ga (Ag Ay (pw 3) A3 (fun _ _=>rfl))) Hg))))
  BE)
  (Ak (Ck (Cu Cr DK DL Dh (pw 1) (A0 (pw 4) A4)))))))
  (Ak (AR (pw 1))))),?_⟩
 have xl:=ax.1
 have B6:=ok.len
 refine⟨Ar rfl,fun fo hfo=>?_⟩
 have e1:=Ac hfo (.lst [])
 have hfo1:(upd H fo (.lst [])) fo=some (.lst []):=A6
 dsimp only[Aq]
 generalize upd H fo (.lst [])=H1 at e1 hfo1
 refine⟨l,rfl,⟨_,A5.of (e1 _ _ hl)⟩,?_⟩
 refine K8 (xs:=xs) (fun i σ' H'=>∃(ys:List V) (R:List (List (Nat×Nat))) (o2 o3 o4:Option V),σ'=[some (.ref l),some (.ref fo),o2,o3,o4]/\A8 H H'/\H' fo=some (.lst ys)/\AE (Gb (av H' [fo])) ys R/\EF B i R) ⟨[],[],_,_,_,rfl,e1,hfo1,.nil,.nil⟩ (fun i σ' H' _ pp=>by obtain⟨_,_,_,_,_,_,e,_⟩:=pp;exact A5.of (e _ _ hl)) (fun i x Tt σ' H' hx pp hT=>?_) (fun σ' H' pp=>?_)
 rotate_left
 .obtain⟨ys,R,o2,o3,o4,rfl,e,hy,ay,ks⟩:=pp
  rw[xl]at ks
  exact q fo _ R e ⟨ys,hy,ay.mono fun _ _ z=>z.over Ho⟩ ks
 refine An fun _ zA=>?_
 obtain⟨ys,R,o2,o3,o4,rfl,e,hy,ay,ks⟩:=pp
 obtain⟨b,hb,t,w0,p0,rfl,ht,⟨wx,hw,aw⟩,_⟩:=ax.get' hx
 refine zA ?_
 have bm:=AO hb
 have b6:=ok.way b bm
 have bs:=ok.ok.sh b bm
 have wl:=aw.1
 have il:=(As.mp hb).1
 have Rl:=ks.len
 have yl:=ay.1
 have sT:=Ac hT (.tup [V.int (i:Int),V.ref t])
 have e2:=e.trans sT
 have hy2:=sT _ _ hy
 have ay2:=ay.mono fun y v z=>z.over (F9 (S:=[fo]) sT)
 refine⟨Tt,_,rfl,A9.of A6,rfl,rfl,?_⟩
 generalize upd H' Tt (.tup [V.int (i:Int),V.ref t])=H2 at e2 hy2 ay2
 dsimp only[Aq]
 have ht2:=e2 _ _ ht
 have hw2:=e2 _ _ hw
 refine ixT ht2 rfl ⟨w0,_,rfl,.inl (A5.of hw2),_,rfl,by lia,by lia,?_⟩
 rw[show((wx.length:Int)).toNat=b.ways.length by lia]
 refine NR (lo:=0) (n:=b.ways.length) (fun j zs H3=>A8 H2 H3/\AE (G7 H3) zs ((List.range j).map fun e=>(i,e))) ⟨A8.refl _,.nil⟩ (BD (by lia)) (fun j zs H3 hj pp=>by rw[pp.2.1,Al,EH];exact Ah _) (fun j zs H3 hj pp=>?_) (fun zs H3 pp kr hkr=>?_)
 .obtain⟨e3,az⟩:=pp
  refine⟨Ar rfl,fun r hr'=>?_⟩
  have s4:=Ac hr' (.tup [V.int (i:Int),V.int (0+(j:Int))])
  refine⟨e3.trans s4,?_⟩
  rw[Im,B3]
  refine(az.mono fun _ _ z=>z.over s4).snoc ⟨r,rfl,?_⟩
  rw[A6,Nn]
 obtain⟨e3,az⟩:=pp
 have s4:=Ac hkr (.lst zs)
 have hk4:(upd H3 kr (.lst zs)) kr=some (.lst zs):=A6
 have e24:=e3.trans s4
 have az4:=az.mono fun _ _ z=>z.over s4
 have nk:kr≠fo:=fun z=>by rw[z,e3 _ _ hy2]at hkr;cases hkr
 have hy4:=e24 _ _ hy2
 have ay4:=ay2.mono fun y v z=>z.over (F9 (S:=[fo]) e24)
 dsimp only[Aq]
 generalize upd H3 kr (.lst zs)=H4 at hk4 e24 az4 hy4 ay4
 have zl:=az4.1
 rw[Al,EH]at zl
 refine Ca (fun σ' H'=>∃(r:Addr) (zs:List V),σ'=[some (.ref l),some (.ref fo),some (.int (i:Int)),some (.ref t),some (.ref r)]/\A8 H4 H'/\r≠fo/\H' r=some (.lst zs)/\AE (G7 H') zs (if b.sh=0 then(List.range b.ways.length).map fun e=>(i,e) else G0 i (R.getD (i-1) []) b)) (fun σ' H5 pp=>?_) (fun _ nx=>?_)
 .obtain⟨r,zs,rfl,e5,nr,hr5,az5⟩:=pp
  have hy5:=e5 _ _ hy4
  refine⟨.inl ⟨rfl,_,A5.of hy5⟩,fo,_,_,rfl,rfl,hy5,CF (by lia),?_⟩
  refine⟨ys++[.ref r],_,_,_,_,rfl,fun a o ha=>by rw[Af (AI ha hfo)];exact e5 _ _ (e24 _ _ (e2 _ _ ha)),A6,?_,ks.next ok.ok ok.fst hb⟩
  rw[Ox (by simp)]
  refine(ay4.mono fun y v z=>z.over (F9 (S:=[fo]) e5)).snoc (Gb.av (H:=H5) ⟨r,zs,rfl,hr5,az5⟩ hy5 ?_)
  intro z
  injection z with z
  exact nr z
 .have ht4:=e24 _ _ ht2
  refine⟨t,_,1,_,rfl,rfl,A9.of ht4,rfl,_,rfl,BJ (fun c=>?_) (fun c=>?_)⟩
  rotate_left
  .have c:=dF c
   have c0:b.sh=0:=by lia
   exact nx _ _ ⟨kr,zs,rfl,A8.refl _,nk,hk4,by rw[Aj c0];exact az4⟩
  have c:=dT c
  have c0:¬b.sh=0:=by lia
  obtain⟨p,rfl⟩:∃p,i=p+1:=by
   cases i with
   |zero=>exact absurd (ok.fst b (by rw[Nj];exact hb)) c0
   |succ p=>exact⟨p,rfl⟩
  have hRp:R[p]?=some (R[p]'(by lia)):=AC (by lia)
  have hRd:R.getD (p+1-1) []=R[p]'(by lia):=YA hRp
  generalize R[p]'(by lia)=row at hRp hRd
  refine An fun _ zB=>?_
  obtain⟨xp,hxp,ra,rx,rfl,hra,arx⟩:=ay4.get hRp
  refine zB ?_
  have hra:=Ho _ _ hra
  have arx:=arx.mono fun _ _ z=>z.over Ho
  have rl:=arx.1
  have aj:Bh ys (((p+1:Nat):Int)-1)=some (.ref ra):=by
   rw[show(((p+1:Nat):Int)-1)=(p:Int) by lia]
   exact CQ hxp
  have rowl:row.length<=6:=by
   obtain⟨row',g1,g2,_⟩:=ks.at (Ie p) (AC (show p<B.length by lia))
   rw[hRp]at g1
   cases g1
   rw[g2]
   exact ok.way _ (Nc _)
  refine⟨fo,_,_,_,rfl,rfl,A5.of hy4,aj,t,_,1,_,rfl,rfl,A9.of ht4,rfl,_,rfl,ra,_,rfl,A5.of hra,fun s1 hs1=>?_⟩
  have cy:Cv rx none (some (b.sh:Int))=rx.take b.sh:=OQ _ (Pl _)
  rw[cy]
  have q1:=Ac hs1 (.lst (rx.take b.sh))
  refine⟨t,_,1,_,rfl,rfl,A9.of (q1 _ _ ht4),rfl,_,rfl,kr,_,rfl,A5.of (q1 _ _ hk4),fun s2 hs2=>?_⟩
  have cy2:Cv zs (some (b.sh:Int)) none=zs.drop b.sh:=TU _ (Pl _)
  rw[cy2]
  have q2:=Ac hs2 (.lst (zs.drop b.sh))
  refine⟨s1,s2,_,_,rfl,rfl,q2 _ _ A6,A6,BD (by rw[AV,GN];lia),fun r2 hr2=>?_⟩
  have q3:=Ac hr2 (.lst (rx.take b.sh++zs.drop b.sh))
  have q13:=(q1.trans q2).trans q3
  refine nx _ _ ⟨r2,_,rfl,q13,fun z=>?_,A6,?_⟩
  .rw[z,(q1.trans q2) _ _ hy4]at hr2;cases hr2
  .rw[Ab c0,hRd]
   unfold G0
   exact((arx.take b.sh).mono fun _ _ z=>z.over q13).app (AE.drop (az4.mono fun _ _ z=>z.over q13) b.sh)
theorem We (T:Tx K mg a):AU P w K mg base Be 2 a.f_G a.d_G ["_law_script","_law_first"] (Us K):=by
 have G_a :=@IU P w K mg base a T
 refine T.F_G.ok KA (fun vs H Q E h=>?_) (fun cdv A outer s H vs Q E hr h=>?_)
 .obtain⟨_,_,_,rfl,_⟩:=h;rfl
 obtain⟨p,ns,f,rfl,hp,f0,f1,q⟩:=h
 refine⟨_,(A7 (Ai (i:=2) KA.nd rfl (.inl rfl) (Aa (Av AL) A3 (Aa (oJ Cg) (AJ G_a (hr.mono (by lia)) (by rfl) T.m_a T.F_a.kp T.b_a .nil AG (A0 (pw 0) (A0 (pw 1) A4))) A3)))
  (A7 (Bi (AX Cc (Aa (oJ Cg) (Aa (oJ He) (AJ G_a (hr.mono (by lia)) (by rfl) T.m_a T.F_a.kp T.b_a .nil AG (A0 (pw 0) (A0 (pw 1) A4))) A3) A3) A3 (AM _))
  (Ak (Ai (i:=2) KA.nd rfl (.inl rfl) (Aa (Av AL) A3 (Aa (oJ Cg) (Aa (oJ CK) (AJ G_a (hr.mono (by lia)) (by rfl) T.m_a T.F_a.kp T.b_a .nil AG (A0 (pw 0) (A0 (pw 1) A4))) A3) (Aa (oJ J3) A3 A3)))))
  BE)
  (A7 (Ai (i:=3) KA.nd rfl (.inl rfl) A3)
  (A7 (Bi (AX Cc (Aa (oJ Cg) (AJ G_a (hr.mono (by lia)) (by rfl) T.m_a T.F_a.kp T.b_a .nil AG (A0 (pw 0) (A0 (Aa (Av AL) (pw 1) A3) A4))) A3) A3 (AM _))
  (Ak (Ai (i:=3) KA.nd rfl (.inl rfl) (Aa (Av CB) (Aa (oJ Cg) (Aa (oJ CK) (AJ G_a (hr.mono (by lia)) (by rfl) T.m_a T.F_a.kp T.b_a .nil AG (A0 (pw 0) (A0 (Aa (Av AL) (pw 1) A3) A4))) A3) (Aa (Av AL) (Aa (oJ CK) A3 (Aa (oJ J3) A3 A3)) A3)) (Aa (oJ J3) A3 A3))))
  BE)
  (Ak (AR (Bq (A0 (pw 2) (A0 (pw 3) A4))))))))),?_⟩
 have e16:(10 ^ (16:Int).toNat:Int)=10000000000000000:=by decide
 have e17:(10 ^ (17:Int).toNat:Int)=100000000000000000:=by decide
 refine⟨p,ns,f,rfl,hp,f0,by lia,fun m m0 _=>⟨(by show(0:Int)<3;decide),?_⟩⟩
 have a0:=Ei m (show(3:Int)≠0 by decide)
 have a1:=Ej m (show(0:Int)<3 by decide)
 dsimp only[Aq,FI]
 refine Ca (fun σ' H'=>∃c:Int,H'=H/\σ'=[some (.ref p),some (.int f),some (.int c),none]/\Sc c) (fun σ' H' pp=>?_) (fun _ nx=>?_)
 rotate_left
 .refine⟨p,ns,f,rfl,hp,f0,by lia,fun m2 m20 _=>⟨⟨by decide,by decide⟩,(by show(0:Int)<3;decide),rfl,_,rfl,BJ (fun _=>?_) (fun _=>nx _ _ ⟨_,rfl,rfl,by unfold Sc;lia⟩)⟩⟩
  refine⟨p,ns,f,rfl,hp,f0,by lia,fun m3 m30 _=>⟨.inr ⟨by decide,by decide⟩,⟨by decide,by decide,by decide⟩,(by show(0:Int)<10 ^ (16:Int).toNat;decide),?_⟩⟩
  have b0:=Ei (m3*998244353) (show(10 ^ (16:Int).toNat:Int)≠0 by decide)
  have b1:=Ej (m3*998244353) (show(0:Int)<10 ^ (16:Int).toNat by decide)
  exact nx _ _ ⟨1+m3*998244353%10 ^ (16:Int).toNat,rfl,rfl,by unfold Sc;lia⟩
 refine An fun _ zA=>?_
 obtain⟨c,rfl,rfl,hc⟩:=pp
 refine zA ?_
 refine T7 ?_
 refine Ca (fun σ' H2=>∃b:Int,H2=H'/\σ'=[some (.ref p),some (.int f),some (.int c),some (.int b)]) (fun σ' H2 pp=>?_) (fun _ nx=>?_)
 rotate_left
 .refine⟨p,ns,f+1,rfl,hp,by lia,by lia,fun m2 m20 _=>⟨(by show(0:Int)<2;decide),rfl,_,rfl,BJ (fun _=>?_) (fun _=>nx _ _ ⟨0,rfl,rfl⟩)⟩⟩
  refine⟨p,ns,f+1,rfl,hp,by lia,by lia,fun m3 m30 _=>⟨.inr ⟨by decide,by decide⟩,⟨by decide,by decide,by decide⟩,.inl ⟨by decide,by decide⟩,(by show(0:Int)<2*10 ^ (17:Int).toNat+1;decide),⟨by decide,by decide,by decide⟩,nx _ _ ⟨_,rfl,rfl⟩⟩⟩
 refine An fun _ zB=>?_
 obtain⟨b,rfl,rfl⟩:=pp
 refine zB ?_
 refine⟨Ar rfl,fun r hr'=>?_⟩
 exact q r _ c b (Ac hr' _) A6 hc
theorem V6 (T:Tx K mg a):AU P w K mg base Be 1 a.f_n a.d_n ["_law_found"] YO:=by
 refine T.F_n.ok Zl (fun vs H Q E h=>?_) (fun cdv A outer s H vs Q E hr h=>?_)
 .obtain⟨_,rfl,_⟩:=h;rfl
 obtain⟨x,rfl,hx,q⟩:=h
 refine⟨_,(Ak (AR (Mm (Bc LZ (by rfl) T.z_isinstance Lu (A0 (pw 0) (A0 (LU (v:=.ty "int") (by rfl) T.z_int Fg rfl) A4))) (Jv (NZ (Bc LZ (by rfl) T.z_isinstance Lu (A0 (pw 0) (A0 (LU (v:=.ty "bool") (by rfl) T.z_bool ZY rfl) A4)))))))),?_⟩
 cases x with
 |int i=>exact⟨_,_,_,_,_,rfl,rfl,.int i,rfl,_,rfl,_,_,_,_,_,rfl,rfl,.int i,rfl,_,rfl,q⟩
 |bl b=>exact⟨_,_,_,_,_,rfl,rfl,.bl b,rfl,_,rfl,_,_,_,_,_,rfl,rfl,.bl b,rfl,_,rfl,q⟩
 |non=>exact⟨_,_,_,_,_,rfl,rfl,.non,rfl,_,rfl,q⟩
 |str z=>exact⟨_,_,_,_,_,rfl,rfl,.str z,rfl,_,rfl,q⟩
 |_=>cases hx
theorem UL (T:Tx K mg a):AU P w K mg base Be 2 a.f_m a.d_m ["_law_deeds_here","_law_leaves_here","_law_keys_here","_law_scale","_law_base"] WH:=by
 have G_B :=@Wj P w K mg base a T
 refine T.F_m.ok Fm (fun vs H Q E h=>?_) (fun cdv A outer s H vs Q E hr h=>?_)
 .obtain⟨_,_,_,_,_,_,_,_,_,_,_,rfl,_⟩:=h;rfl
 obtain⟨dl,ll,kl,xs,Ds,B,R,u,w',sc,bs,rfl,hdl,axd,rq,lws,⟨lx,hll,alx⟩,l1,⟨rs,hkl,ars⟩,ks,hsc,q⟩:=h
 refine⟨_,(A7 (Ai (i:=5) Fm.nd rfl (.inl rfl) Zd)
  (A7 (CD PassesOwn.never rfl (QQ (by rfl) T.z_zip (A0 (pw 1) (A0 (pw 2) A4))) (De rfl (AH (AB (i:=6) Fm.nd rfl (.inl rfl)) (AH (AB (i:=7) Fm.nd rfl (.inl rfl)) Cy)))
  (A7 (Ai (i:=8) Fm.nd rfl (.inl rfl) (AJ G_B (hr.mono (by lia)) (by rfl) T.m_B T.F_B.kp T.b_B .nil AG (A0 (Ag Ay (Ag B4 (pw 0) (Ag Ay (pw 6) A3 (fun _ _=>rfl)) (fun _ _=>rfl)) A3 (fun _ _=>rfl)) A4)))
  (Ak (CD PassesOwn.never rfl (Zk (by rfl) T.z_zip (A0 (Ag Ay (pw 6) A3 (fun _ _=>rfl)) (A0 (Ag Ay (pw 6) A3 (fun _ _=>rfl)) (A0 (pw 7) A4)))) (De rfl (AH (AB (i:=9) Fm.nd rfl (.inl rfl)) (AH (AB (i:=10) Fm.nd rfl (.inr rfl)) (AH (AB (i:=11) Fm.nd rfl (.inl rfl)) Cy))))
  (Ak (Bi (E9 (Ag Ay (pw 9) A3 (fun _ _=>rfl)))
  (A7 (Me (i:=12) ["_law_value","_law_base","_law_pair","_law_scale"] [none,some 4,some 10,some 3] Fm.nd rfl (.inl rfl) (by rfl) (Dp (pw 8)) ZW (fun _ _ _ _ _ _=>⟨(AB (i:=0) Yv rfl (.inl rfl)),EO,(Aa (Av AL) (Aa (Av AL) (Aa (oJ CK) (pw 3) (Ag (show Dg _ (Ea K) from Ay) (pw 0) (Ag (show Dg _ (Ea K) from Ay) (pw 2) A3 (fun _ _=>rfl)) (fun _ _=>rfl))) (pw 1)) (Ag (show Dg _ (Ea K) from Ay) (pw 2) A3 (fun _ _=>rfl)))⟩))
  (Ak (NW (J9 hr) (pw 5) (pw 11) (Aa K1 (ZS (J9 hr) (pw 5) (pw 11) (BA A4) ⟨rfl,rfl,rfl,rfl⟩) (pw 12)) rfl)))
  BE))))))
  (A7 (CD PassesOwn.never rfl (Dp (aV rfl (by rfl) T.z_list (pw 5))) (De rfl (AH (AB (i:=11) Fm.nd rfl (.inl rfl)) (AH (AB (i:=12) Fm.nd rfl (.inl rfl)) Cy)))
  (Ak (NW (J9 hr) (pw 5) (pw 11) (Bq (A0 (WM rfl (by rfl) T.z_min (A0 (pw 12) A4) A3) (A0 (U9 rfl (by rfl) T.z_max (A0 (pw 12) A4) A3) A4))) rfl)))
  (Ak (AR (pw 5)))))),?_⟩
 have ll1:=alx.1
 have rl1:=ars.1
 have Rl:=ks.len
 have B6:=l1.lv.len
 intro fo hfo
 have e1:=Ac hfo (.dT [])
 have hfo1:(upd H fo (.dT [])) fo=some (.dT []):=A6
 dsimp only[Aq]
 generalize upd H fo (.dT [])=H1 at e1 hfo1
 refine Ca (fun σ' H'=>∃(kvs:List (List Ap×V)) (dm:Dm) (o6 o7 o8 o9 o10 o11 o12:Option V),σ'=[some (.ref dl),some (.ref ll),some (.ref kl),some (.int sc),some (.int bs),some (.ref fo),o6,o7,o8,o9,o10,o11,o12]/\A8 H H'/\H' fo=some (.dT kvs)/\C2 (Ct H') kvs dm/\HM B Ds u w' sc bs B.length dm/\(∀x∈dm,x.2.length<=607926)/\dm.length<=60) (fun σ' H' pp=>?_) (fun _ nx=>?_)
 rotate_left
 .refine⟨ll,kl,rfl,⟨_,A5.of (e1 _ _ hll)⟩,⟨_,A5.of (e1 _ _ hkl)⟩,?_⟩
  refine Q3 (xs:=lx) (ys:=rs) (by lia) (fun i σ' H'=>∃(kvs:List (List Ap×V)) (dm:Dm) (o6 o7 o8 o9 o10 o11 o12:Option V),σ'=[some (.ref dl),some (.ref ll),some (.ref kl),some (.int sc),some (.int bs),some (.ref fo),o6,o7,o8,o9,o10,o11,o12]/\A8 H H'/\H' fo=some (.dT kvs)/\C2 (Ct H') kvs dm/\HM B Ds u w' sc bs i dm/\(∀x∈dm,x.2.length<=i*101321)/\dm.length<=i*6) ⟨[],[],_,_,_,_,_,_,_,rfl,e1,hfo1,C2.nil,⟨rfl,fun x hx=>by cases hx⟩,(fun x hx=>by cases hx),Bk _⟩ (fun i σ' H' _ pp=>by obtain⟨_,_,_,_,_,_,_,_,_,_,e,_⟩:=pp;exact⟨A5.of (e _ _ hll),A5.of (e _ _ hkl)⟩) (fun i x y Tt σ' H' hx hy pp hT=>?_) (fun σ' H' pp=>?_)
  rotate_left
  .obtain⟨kvs,dm,o6,o7,o8,o9,o10,o11,o12,rfl,e,h1,h2,h3,h4,h5⟩:=pp
   rw[ll1]at h3 h4 h5
   exact nx _ _ ⟨kvs,dm,_,_,_,_,_,_,_,rfl,e,h1,h2,h3,fun x hx=>Cz (h4 x hx) (by lia),by lia⟩
  refine An fun _ zA=>?_
  obtain⟨kvs,dm,o6,o7,o8,o9,o10,o11,o12,rfl,e,hfo2,ev,dmo,cT,cD⟩:=pp
  have il:i<lx.length:=(As.mp hx).1
  obtain⟨b,hb,t,wl,pt,rfl,ht,⟨ws,hwl,aws⟩,ps,hpt,aps⟩:=alx.get' hx
  obtain⟨row,hrow,rr,ry,rfl,hrr,ary⟩:=ars.get' hy
  have bm:=AO hb
  obtain⟨k,m,bk,hk,wp,_⟩:=l1.lf b bm
  obtain⟨Dd,hDd,eD⟩:∃Dd,Ds[k]?=some Dd/\Dd.L.length=m:=by
   rw[AQ]at hk
   cases c:Ds[k]? with
   |none=>rw[c]at hk;cases hk
   |
    some Dd=>
    rw[c]at hk
    have hk:(Dd.L.length:Int)=(m:Int):=Cp hk
    exact⟨Dd,rfl,by lia⟩
  have okd:=rq.ok Dd (AO hDd)
  have ok7:=rq.in7 Dd (AO hDd)
  obtain⟨xk,hxk,tk,o,ptd,rfl,htk,⟨vx,hvx,avx⟩,_⟩:=axd.get hDd
  refine zA ?_
  have sT:=Ac hT (.tup [V.ref t,V.ref rr])
  have e2:=e.trans sT
  refine⟨Tt,_,rfl,A9.of A6,rfl,rfl,?_⟩
  have hfoT:=sT _ _ hfo2
  have evT:=ev.mono fun _ _ z=>Ct.over z sT
  generalize upd H' Tt (.tup [V.ref t,V.ref rr])=H2 at sT e2 hfoT evT
  dsimp only[Aq]
  have ht':=ht
  rw[bk]at ht'
  refine⟨t,_,0,_,rfl,rfl,A9.of (e2 _ _ ht'),rfl,dl,_,_,_,rfl,rfl,A5.of (e2 _ _ hdl),CQ hxk,tk,_,0,_,rfl,rfl,A9.of (e2 _ _ htk),rfl,o,Dd.L,u k,w' k,rfl,⟨vx,e2 _ _ hvx,avx.mono fun _ _ z=>z.over e2⟩,ok7,rq.nd Dd (AO hDd),lws k Dd hDd,okd.ll,fun rl ys H3 VR e3 hrn hrl ay aR cR=>?_⟩
  have yl:=ay.1
  have e23:=e2.trans e3
  dsimp only[Aq]
  refine An fun _ zB=>?_
  obtain⟨row',r1,r2,r3⟩:=ks.at (show i<B.length by lia) hb
  refine zB ?_
  rw[hrow]at r1
  cases r1
  have wsl:=aws.1
  have psl:=aps.1
  have ryl:=ary.1
  have plw:=wp.1
  have cbl:(Js b).length=b.ways.length:=by unfold Js;rw[Al]
  have w6:=l1.lv.way b bm
  refine⟨t,_,2,_,rfl,rfl,A9.of (e23 _ _ ht),rfl,t,_,3,_,rfl,rfl,A9.of (e23 _ _ ht),rfl,wl,pt,rr,rfl,⟨_,A5.of (e23 _ _ hwl)⟩,⟨_,A9.of (e23 _ _ hpt)⟩,⟨_,A5.of (e23 _ _ hrr)⟩,?_⟩
  refine Wz (xs:=ws) (ys:=ps) (zs:=ry) (by lia) (by lia) (fun e' σ' H4=>∃(kvs:List (List Ap×V)) (dm:Dm) (o9 o10 o11 o12:Option V),σ'=[some (.ref dl),some (.ref ll),some (.ref kl),some (.int sc),some (.int bs),some (.ref fo),some (.ref t),some (.ref rr),some (.ref rl),o9,o10,o11,o12]/\H4 rl=some (.lst ys)/\AE (DN H4) ys VR/\A8 H H4/\H4 fo=some (.dT kvs)/\C2 (Ct H4) kvs dm/\CZ B Ds u w' sc bs i e' b dm/\(∀x∈dm,x.2.length<=(if x.1.2<e' then i+1 else i)*101321)/\dm.length<=i*6+e') ⟨kvs,dm,_,_,_,_,rfl,hrl,ay,e23,e3 _ _ hfoT,evT.mono fun _ _ z=>Ct.over z e3,dmo.start,fun x hx=>by rw[Ab (JE _)];exact cT x hx,cD⟩ (fun e' σ' H4 _ pp=>by obtain⟨_,_,_,_,_,_,_,_,_,e,_⟩:=pp;exact⟨A5.of (e _ _ hwl),A9.of (e _ _ hpt),A5.of (e _ _ hrr)⟩) (fun e' x y v Tt2 σ' H4 hx2 hy2 hv2 pp hT2=>?_) (fun σ' H4 pp=>?_)
  rotate_left
  .obtain⟨kvs,dm,o9,o10,o11,o12,rfl,_,_,e4,h1,h2,h3,h4,h5⟩:=pp
   rw[wsl]at h3 h4 h5
   refine⟨kvs,dm,_,_,_,_,_,_,_,rfl,e4,h1,h2,h3.fin hb,fun x hx=>Cz (h4 x hx) (Lg _ (by split<;>lia)),by lia⟩
  refine An fun _ zC=>?_
  obtain⟨kvs,dm,o9,o10,o11,o12,rfl,hrl4,ay4,e4,hfo4,ev4,dmi,cT4,cD4⟩:=pp
  obtain⟨wy,hwy,tw,rfl,htw⟩:=aws.get' hx2
  obtain⟨pr,hpr,tp,rfl,htp⟩:=aps.get' hy2
  obtain⟨ky,hky,ty,rfl,hty⟩:=ary.get' hv2
  have el:e'<b.ways.length:=(As.mp hwy).1
  obtain⟨km,hkm,kat⟩:=r3 e' el
  refine zC ?_
  rw[hky]at hkm
  cases hkm
  have sU:=Ac hT2 (.tup [V.ref tw,V.ref tp,V.ref ty])
  refine⟨Tt2,_,rfl,A9.of A6,rfl,rfl,?_⟩
  have e5:=e4.trans sU
  have hrl5:=sU _ _ hrl4
  have ay5:=ay4.mono fun _ _ z=>z.over sU
  have hfo5:=sU _ _ hfo4
  have ev5:=ev4.mono fun _ _ z=>Ct.over z sU
  generalize upd H4 Tt2 (.tup [V.ref tw,V.ref tp,V.ref ty])=H5 at sU e5 hrl5 ay5 hfo5 ev5
  dsimp only[Aq]
  refine⟨tw,_,0,_,rfl,rfl,A9.of (e5 _ _ htw),rfl,?_⟩
  have mono:∀x∈dm,(if x.1.2<e' then i+1 else i)*101321<=(if x.1.2<e'+1 then i+1 else i)*101321:=fun x _=>Lg _ (by split<;>split<;>lia)
  refine⟨wy.1,rfl,BJ (fun c=>?_) (fun c=>?_)⟩
  rotate_left
  .exact⟨kvs,dm,_,_,_,_,rfl,hrl5,ay5,e5,hfo5,ev5,dmi.no l1.lv.ok hb hwy (by simpa using c),fun x hx=>Cz (cT4 x hx) (mono x hx),by lia⟩
  have pin:=wp.2.2.1 pr (AO hpr)
  refine⟨rl,rfl,⟨_,A5.of hrl5⟩,?_⟩
  refine G1 (xs:=ys) (fun j zs H6=>H6=H5/\zs=((VR.take j).map fun v=>sc*v.getD pr.1.toNat 0+bs+pr.2).map V.int) ⟨rfl,rfl⟩ (BD (by lia)) (fun j zs H6 hj pp=>⟨by rw[pp.1];exact A5.of hrl5,by rw[pp.2,Al,Al,AV];lia⟩) (fun j y zs H6 hy3 pp=>?_) (fun zs H6 pp tl htl=>?_)
  .obtain⟨rfl,rfl⟩:=pp
   refine An fun _ zD=>?_
   obtain⟨v,hv,tv,rfl,htv⟩:=ay5.get' hy3
   refine zD ?_
   have vl:=((aR v).mp (AO hv)).1
   refine⟨tp,_,0,_,rfl,rfl,A9.of (e5 _ _ htp),rfl,tv,_,_,_,rfl,rfl,A9.of htv,ZZ vl pin.1 (by rw[eD];exact pin.2.1),.inl ⟨by have:=hsc.1;lia,by have:=hsc.2;lia⟩,tp,_,1,_,rfl,rfl,A9.of (e5 _ _ htp),rfl,rfl,?_⟩
   rw[CJ hv,B3,B3]
   rfl
  obtain⟨rfl,rfl⟩:=pp
  rw[CU (show VR.length<=ys.length by lia)]at *
  have s6:=Ac htl (.lst ((VR.map fun v=>sc*v.getD pr.1.toNat 0+bs+pr.2).map V.int))
  have htl6:(upd H6 tl (.lst ((VR.map fun v=>sc*v.getD pr.1.toNat 0+bs+pr.2).map V.int))) tl=some (.lst ((VR.map fun v=>sc*v.getD pr.1.toNat 0+bs+pr.2).map V.int)):=A6
  dsimp only[Aq]
  generalize upd H6 tl (.lst ((VR.map fun v=>sc*v.getD pr.1.toNat 0+bs+pr.2).map V.int))=H7 at s6 htl6
  refine An fun _ zE=>?_
  obtain⟨Tm,dm',gv,dmi',pv',tml,cT',cD'⟩:=Z5 l1.lv.ok dmi ev5 hb hwy c kat bk hDd hpr aR cR cT4
  refine zE ?_
  have evl:=ev5.len
  have e7:=e5.trans s6
  have hfo7:=s6 _ _ hfo5
  refine⟨fo,rfl,.inr ⟨_,.inl hfo7⟩,Ar rfl,fun nl hnl=>?_⟩
  have s8:=Ac hnl (.lst [])
  have hnl8:(upd H7 nl (.lst [])) nl=some (.lst (([]:List Int).map V.int)):=A6
  generalize upd H7 nl (.lst [])=H8 at s8 hnl8
  refine An fun _ zF=>?_
  have e8:=e7.trans s8
  have hfo8:=s8 _ _ hfo7
  have gl:∃gl,(C0 kvs (pK (C5 (km,e')))).getD (.ref nl) = .ref gl/\H8 gl=some (.lst (Tm.map V.int)):=by
   rcases gv with⟨g1,rfl⟩|⟨l,g1,g2⟩
   .exact⟨nl,by rw[g1];rfl,hnl8⟩
   .exact⟨l,by rw[g1];rfl,s8 _ _ (s6 _ _ g2)⟩
  obtain⟨gl,eg,hgl⟩:=gl
  refine zF ?_
  have hty8:H8 ty=some (.tup ((pK (C5 (km,e'))).map kV)):=e8 _ _ hty
  refine⟨_,G9.t hfo8 hty8,?_⟩
  rw[eg]
  have i6:i*101321<=607926:=Lg 101321 (show i<=6 by lia)
  refine⟨gl,tl,_,_,rfl,rfl,hgl,s8 _ _ htl6,BD (by rw[Al,Al,Al];lia),fun cl hcl=>?_⟩
  rw[←B3]
  have s9:=Ac hcl (.lst ((Tm++VR.map fun v=>sc*v.getD pr.1.toNat 0+bs+pr.2).map V.int))
  have hcl9:(upd H8 cl (.lst ((Tm++VR.map fun v=>sc*v.getD pr.1.toNat 0+bs+pr.2).map V.int))) cl=some (.lst ((Tm++VR.map fun v=>sc*v.getD pr.1.toNat 0+bs+pr.2).map V.int)):=A6
  generalize upd H8 cl (.lst ((Tm++VR.map fun v=>sc*v.getD pr.1.toNat 0+bs+pr.2).map V.int))=H9 at s9 hcl9
  have e9:=e8.trans s9
  have s59:=s6.trans (s8.trans s9)
  have hfo9:=s9 _ _ hfo8
  have nfo:∀{x:Addr} {ys:List V},H9 x=some (.lst ys)->x≠fo:=fun h z=>by rw[z,hfo9]at h;cases h
  have tk9:∀ob,TK H9 (upd H9 fo ob):=fun ob=>fun x l h=>by rw[Af (fun z=>by rw[z,hfo9]at h;cases h)];exact h
  refine⟨fo,_,rfl,Fz.t hfo9 (s9 _ _ hty8) (CF (by lia)),?_⟩
  refine⟨_,dm',_,_,_,_,rfl,?_,(ay5.mono fun _ _ z=>(z.over s59).tk (tk9 _)),fun x ob hx=>?_,A6,pv' _ cl (fun q x z=>Ct.put (z.over s59) hfo9) ?_,dmi',cT',by lia⟩
  .rw[Af (nfo (s59 _ _ hrl5))]
   exact s59 _ _ hrl5
  .rw[Af (AI hx hfo)]
   exact e9 _ _ hx
  .rw[Af (nfo hcl9)]
   exact hcl9
 refine An fun _ zG=>?_
 obtain⟨kvs,dm,o6,o7,o8,o9,o10,o11,o12,rfl,e,hfo2,ev,dmo,cT,cD⟩:=pp
 refine zG ?_
 refine⟨fo,kvs,rfl,hfo2,fun l ys H2 e2 hl0 hl ay=>⟨l,rfl,⟨_,A5.of hl⟩,?_⟩⟩
 refine Hl (xs:=ys) (fun n σ' H4=>∃(kvs4:List (List Ap×V)) (o11 o12:Option V),σ'=[some (.ref dl),some (.ref ll),some (.ref kl),some (.int sc),some (.int bs),some (.ref fo),o6,o7,o8,o9,o10,o11,o12]/\A8 H H4/\H4 l=some (.lst ys)/\AE (Ms H4) ys kvs/\H4 fo=some (.dT kvs4)/\C2 (Ct H4) kvs dm/\DT H4 n kvs4 dm) ⟨kvs,_,_,rfl,e.trans e2,hl,ay,e2 _ _ hfo2,ev.mono fun _ _ z=>Ct.over z e2,DT.start (ev.mono fun _ _ z=>Ct.over z e2)⟩ (fun n σ' H4 _ pp=>by obtain⟨_,_,_,_,_,h,_⟩:=pp;exact A5.of h) (fun n y σ' H4 hy pp=>?_) (fun σ' H4 pp=>?_)
 rotate_left
 .obtain⟨kvs4,o11,o12,rfl,e4,_,_,h1,_,h2⟩:=pp
  exact q fo kvs4 dm _ e4 hfo h1 (h2.fin (by have:=ay.1;have:=ev.len;lia)) dmo
 refine An fun _ zH=>?_
 obtain⟨kvs4,o11,o12,rfl,e4,hl4,ay4,hfo4,ev4,en4⟩:=pp
 obtain⟨⟨q1,q2⟩,hq,tt,tb,rfl,htt,htb⟩:=ay4.get' hy
 obtain⟨x,hx,e1',lt,e2',hlt⟩:=ev4.get hq
 refine zH ?_
 have e1':q1=pK (C5 x.1):=e1'
 have e2':q2 = .ref lt:=e2'
 subst e1' e2'
 have k4:=en4.keys
 have nd4:(kvs4.map (·.1)).Nodup:=by
  rw[k4]
  have:=dmo.ks
  exact QX (by rw[this];exact OK _ _)
 have l4:=en4.1
 obtain⟨v4,hq4⟩:∃v4,kvs4[n]?=some (pK (C5 x.1),v4):=by
  have nl:n<kvs4.length:=by rw[l4];exact(As.mp hx).1
  have h1:kvs4[n]?=some kvs4[n]:=AC nl
  have h2:(kvs4.map (·.1))[n]?=some kvs4[n].1:=by rw[AQ,h1];rfl
  rw[k4,AQ,hx]at h2
  have h2:pK (C5 x.1)=kvs4[n].1:=Cp h2
  exact⟨kvs4[n].2,by rw[h1,h2]⟩
 refine⟨tt,_,rfl,A9.of htt,rfl,rfl,?_⟩
 dsimp only[Aq]
 refine⟨lt,x.2,rfl,hlt,fun h0=>⟨lt,x.2,rfl,hlt,fun _=>?_,fun N hN _=>by rw[h0]at hN;cases hN⟩,fun M hM lM=>⟨lt,x.2,rfl,hlt,fun h0=>(by rw[h0]at hM;cases hM),fun N hN lN=>?_⟩⟩
 .have mm:FX x.2 (0,0):=.inl ⟨h0,rfl⟩
  refine⟨Ar rfl,fun t5 ht5=>?_⟩
  have hl5:=(Ac ht5 (.tup [V.int 0,V.int 0])) _ _ hl4
  have s5:=Ac ht5 (.tup [V.int 0,V.int 0])
  have ht55:(upd H4 t5 (.tup [V.int 0,V.int 0])) t5=some (.tup [V.int 0,V.int 0]):=A6
  generalize upd H4 t5 (.tup [V.int 0,V.int 0])=H5 at s5 ht55 hl5
  have hfo5:=s5 _ _ hfo4
  refine⟨fo,_,rfl,Fz.t (k:=pK (C5 x.1)) hfo5 (s5 _ _ htb) (CF (by lia)),?_⟩
  have tk5:∀ob,TK H5 (upd H5 fo ob):=fun ob=>fun x l h=>by rw[Af (fun z=>by rw[z,hfo5]at h;cases h)];exact h
  refine⟨kvs4.set n (pK (C5 x.1),.ref t5),_,_,rfl,fun z ob hz=>?_,?_,(ay4.mono fun _ _ z=>(let ⟨t,b,z1,z2,z3⟩:=z;⟨t,b,z1,tk5 _ _ _ (s5 _ _ z2),tk5 _ _ _ (s5 _ _ z3)⟩:Ms _ _ _)),?_,ev4.mono fun _ _ z=>Ct.put (z.over s5) hfo5,DT.step (en4.over s5) hfo5 hx ⟨t5,rfl,ht55⟩ mm⟩
  .rw[Af (AI hz hfo)]
   exact s5 _ _ (e4 _ _ hz)
  .rw[Af (fun z=>by rw[z,hfo5]at hl5;cases hl5)]
   exact hl5
  .rw[O1 nd4 hq4]
   exact A6
 .have mm:FX x.2 (M,N):=.inr ⟨hM,lM,hN,lN⟩
  refine⟨Ar rfl,fun t5 ht5=>?_⟩
  have hl5:=(Ac ht5 (.tup [V.int M,V.int N])) _ _ hl4
  have s5:=Ac ht5 (.tup [V.int M,V.int N])
  have ht55:(upd H4 t5 (.tup [V.int M,V.int N])) t5=some (.tup [V.int M,V.int N]):=A6
  generalize upd H4 t5 (.tup [V.int M,V.int N])=H5 at s5 ht55 hl5
  have hfo5:=s5 _ _ hfo4
  refine⟨fo,_,rfl,Fz.t (k:=pK (C5 x.1)) hfo5 (s5 _ _ htb) (CF (by lia)),?_⟩
  have tk5:∀ob,TK H5 (upd H5 fo ob):=fun ob=>fun x l h=>by rw[Af (fun z=>by rw[z,hfo5]at h;cases h)];exact h
  refine⟨kvs4.set n (pK (C5 x.1),.ref t5),_,_,rfl,fun z ob hz=>?_,?_,(ay4.mono fun _ _ z=>(let ⟨t,b,z1,z2,z3⟩:=z;⟨t,b,z1,tk5 _ _ _ (s5 _ _ z2),tk5 _ _ _ (s5 _ _ z3)⟩:Ms _ _ _)),?_,ev4.mono fun _ _ z=>Ct.put (z.over s5) hfo5,DT.step (en4.over s5) hfo5 hx ⟨t5,rfl,ht55⟩ mm⟩
  .rw[Af (AI hz hfo)]
   exact s5 _ _ (e4 _ _ hz)
  .rw[Af (fun z=>by rw[z,hfo5]at hl5;cases hl5)]
   exact hl5
  .rw[O1 nd4 hq4]
   exact A6
theorem Xv (T:Tx K mg a):AU P w K mg base Be 2 a.f_d a.d_d ["_law_found","_law_limits_here"] (Zt True):=by
 have G_n :=@V6 P w K mg base a T
 refine T.F_d.ok Lo (fun vs H Q E h=>?_) (fun cdv A outer s H vs Q E hr h=>?_)
 .obtain⟨_,_,_,_,_,_,rfl,_⟩:=h;rfl
 obtain⟨fo,r,ys,E,kvs,LE,rfl,hfo,ay,hr1,av,rfl,El,q⟩:=h
 refine⟨_,(A7 (Ai (i:=2) Lo.nd rfl (.inl rfl) (VE rfl (by rfl) T.z_list (pw 1)))
  (A7 (Bi ((KN (Gq (E9 (Bc LZ (by rfl) T.z_isinstance Lu (A0 (pw 0) (A0 (LU (v:=.ty "list") (by rfl) T.z_list Jc rfl) A4))))) (Mg (AX Mt (Bc BM (by rfl) T.z_len BL (A0 (pw 0) A4)) (Bc BM (by rfl) T.z_len BL (A0 (pw 2) A4)) (AM _))))).pt
  (Ak (AR FF))
  BE)
  (A7 (CD PassesOwn.never rfl (QQ (by rfl) T.z_zip (A0 (pw 0) (A0 (pw 2) A4))) (De rfl (AH (AB (i:=3) Lo.nd rfl (.inl rfl)) (AH (AB (i:=4) Lo.nd rfl (.inl rfl)) Cy)))
  (A7 (Bi ((KN (Gq (E9 (Bc LZ (by rfl) T.z_isinstance Lu (A0 (pw 3) (A0 (LU (v:=.ty "tuple") (by rfl) T.z_tuple IK rfl) A4))))) (KN (AX Mt (Bc BM (by rfl) T.z_len BL (A0 (pw 3) A4)) A3 (AM _)) (Mg (AX (RM (Hc hr)) (pw 3) (pw 4) (AM _)))))).pt
  (Ak (AR FF))
  BE)
  (Ak (Bi ((KN (Gq (E9 (AJ G_n (hr.mono (by lia)) (by rfl) T.m_n T.F_n.kp T.b_n .nil AG (A0 (Ag Ay (pw 3) A3 (fun _ _=>rfl)) A4)))) (Mg (Gq (E9 (AJ G_n (hr.mono (by lia)) (by rfl) T.m_n T.F_n.kp T.b_n .nil AG (A0 (Ag Ay (pw 3) A3 (fun _ _=>rfl)) A4))))))).pt
  (Ak (AR FF))
  BE))))
  (Ak (AR FF))))),?_⟩
 refine⟨r,kvs,rfl,hr1,fun l hl=>?_⟩
 have s1:=Ac hl (.lst (kvs.map (·.2)))
 have hl1:(upd H l (.lst (kvs.map (·.2)))) l=some (.lst (kvs.map (·.2))):=A6
 dsimp only[Aq]
 generalize upd H l (.lst (kvs.map (·.2)))=H1 at s1 hl1
 have yl:=ay.1
 have kl:=av.len
 refine NQ (fun _=>False) (fun _ z=>z.elim) (fun _=>?_)
 refine⟨_,_,_,_,_,rfl,rfl,.lst (s1 _ _ hfo),rfl,_,rfl,BW ?_⟩
 refine⟨fo,_,rfl,.inl (A5.of (s1 _ _ hfo)),l,_,rfl,.inl (A5.of hl1),rfl,_,rfl,BR (NA (by rw[Al,yl,kl])) (BW ?_)⟩
 refine⟨fo,l,rfl,⟨_,A5.of (s1 _ _ hfo)⟩,⟨_,A5.of hl1⟩,?_⟩
 refine Q3 (xs:=ys) (ys:=kvs.map (·.2)) (by rw[Al];lia) (fun i σ' H'=>∃o3 o4:Option V,σ'=[some (.ref fo),some (.ref r),some (.ref l),o3,o4]/\A8 H1 H') ⟨_,_,rfl,A8.refl _⟩ (fun i σ' H' _ pp=>by obtain⟨_,_,_,e⟩:=pp;exact⟨A5.of (e _ _ (s1 _ _ hfo)),A5.of (e _ _ hl1)⟩) (fun i x y Tt σ' H' hx hy pp hT=>?_) (fun σ' H' pp=>?_)
 rotate_left
 .obtain⟨_,_,rfl,e⟩:=pp
  exact q _ (s1.trans e)
 refine An fun _ zA=>?_
 obtain⟨o3,o4,rfl,e⟩:=pp
 obtain⟨pr,hpr,t1,rfl,ht1⟩:=ay.get' hx
 obtain⟨qq,hqq,eqq⟩:∃qq,kvs[i]?=some qq/\y=qq.2:=by
  rw[AQ]at hy
  cases c:kvs[i]? with
  |none=>rw[c]at hy;cases hy
  |some qq=>rw[c]at hy;exact⟨qq,rfl,(Cp hy).symm⟩
 obtain⟨t2,e2,ht2⟩:=av.at_ i qq pr hqq hpr
 refine zA ?_
 rw[←eqq]at e2
 subst e2
 have sT:=Ac hT (.tup [V.ref t1,V.ref t2])
 refine⟨Tt,_,rfl,A9.of A6,rfl,rfl,?_⟩
 dsimp only[Aq]
 have e2:=s1.trans (e.trans sT)
 have eT:=e.trans sT
 generalize upd H' Tt (.tup [V.ref t1,V.ref t2])=H2 at sT e2 eT
 have ht1:=e2 _ _ ht1
 have ht2:=e2 _ _ ht2
 refine NQ (fun _=>False) (fun _ z=>z.elim) (fun _=>?_)
 refine⟨_,_,_,_,_,rfl,rfl,.tup ht1,rfl,_,rfl,BW ?_⟩
 refine⟨t1,_,rfl,.inr (A9.of ht1),rfl,_,rfl,BW ?_⟩
 refine⟨.tup [.v (.int pr.1),.v (.int pr.2)],.tup [.v (.int pr.1),.v (.int pr.2)],.tup (A9.of ht1) (.cons (.flat rfl) (.cons (.flat rfl) .nil)),.tup (A9.of ht2) (.cons (.flat rfl) (.cons (.flat rfl) .nil)),⟨_,rfl⟩,⟨_,rfl⟩,rfl,by simp[Do,Eh],_,rfl,BR (v:=false) (by simp[BZ,BK,DX]) (BW ?_)⟩
 dsimp only[Lm]
 refine NQ (fun _=>False) (fun _ z=>z.elim) (fun _=>?_)
 refine ixT ht1 rfl ⟨.int pr.1,rfl,rfl,?_⟩
 refine⟨_,rfl,BW ?_⟩
 refine ixT ht1 rfl ⟨.int pr.2,rfl,rfl,?_⟩
 refine⟨_,rfl,BW ?_⟩
 exact⟨_,_,rfl,eT⟩
theorem ok_law (T:Tx K mg a):AU P w K mg base Be 15 a.f_H a.d_H ["_law_script"] (OJ K):=by
 have G_a :=@IU P w K mg base a T
 have G_y :=@Yr P w K mg base a T
 have G_A :=@bI P w K mg base a T
 have G_E :=@Ul P w K mg base a T
 have G_g :=@QB P w K mg base a T 7
 have G_F :=@Y1 P w K mg base a T
 have G_G :=@We P w K mg base a T
 have G_l :=@Yj P w K mg base a T
 have G_I :=@Vn P w K mg base a T
 have G_m :=@UL P w K mg base a T
 have G_c :=@XW P w K mg base a T
 have G_d :=@Xv P w K mg base a T
 refine T.F_H.ok EL (fun vs H Q E h=>?_) (fun cdv A outer s H vs Q E hr h=>?_)
 .obtain⟨_,_,rfl,_⟩:=h;rfl
 obtain⟨p,ns,rfl,hp,h63,_,q⟩:=h
 refine⟨_,(A7 (Ai (i:=1) EL.nd rfl (.inl rfl) (AJ G_A (hr.mono (by lia)) (by rfl) T.m_A T.F_A.kp T.b_A .nil AG (A0 (pw 0) (A0 A3 (A0 (AJ G_y (hr.mono (by lia)) (by rfl) T.m_y T.F_y.kp T.b_y .nil AG (A0 (AJ G_a (hr.mono (by lia)) (by rfl) T.m_a T.F_a.kp T.b_a .nil AG (A0 (pw 0) (A0 A3 A4))) A4)) A4)))))
  (A7 (Ai (i:=2) EL.nd rfl (.inl rfl) (Aa (Av AL) A3 (Aa (oJ CK) A3 (Bc BM (by rfl) T.z_len BL (A0 (pw 1) A4)))))
  (A7 (Ai (i:=3) EL.nd rfl (.inl rfl) (AJ G_E (hr.mono (by lia)) (by rfl) T.m_E T.F_E.kp T.b_E .nil AG (A0 (pw 0) (A0 (pw 2) (A0 (FT ["_law_deed"] [none] (by rfl) (Dp (pw 1)) VO (fun _ _ _ _ _ _=>⟨(AB (i:=0) cU rfl (.inl rfl)),EO,(Bc (show E8 _ _ (R3 K) from BM) (by rfl) T.z_len BL (A0 (Ag (show Dg _ (Ea K) from Ay) (pw 0) A3 (fun _ _=>rfl)) A4))⟩)) (A0 (Gk (Au Cj (Au Cj (Au Cj Co Bp) Bp) Bp)) (A0 FF A4)))))))
  (A7 (Ai (i:=4) EL.nd rfl (.inl rfl) (AJ G_g (hr.mono (by lia)) (by rfl) T.m_g T.F_g.kp T.b_g .nil AG (A0 (pw 3) (A0 A3 A4))))
  (A7 (Ai (i:=5) EL.nd rfl (.inl rfl) (AJ G_F (hr.mono (by lia)) (by rfl) T.m_F T.F_F.kp T.b_F .nil AG (A0 (pw 3) A4)))
  (A7 (Ee (AJ G_G (hr.mono (by lia)) (by rfl) T.m_G T.F_G.kp T.b_G .nil AG (A0 (pw 0) (A0 A3 A4))) (De rfl (AH (AB (i:=6) EL.nd rfl (.inl rfl)) (AH (AB (i:=7) EL.nd rfl (.inl rfl)) Cy))))
  (A7 (Ai (i:=8) EL.nd rfl (.inl rfl) (Lv T.mk_Program G_I (hr.mono (by lia)) (by rfl) T.mc_Program T.b_I .nil AG (A0 A3 (A0 (AJ G_l (hr.mono (by lia)) (by rfl) T.m_l T.F_l.kp T.b_l .nil AG (A0 (pw 1) (A0 (pw 6) (A0 (pw 7) A4)))) A4))))
  (A7 (Ai (i:=9) EL.nd rfl (.inl rfl) (AJ G_m (hr.mono (by lia)) (by rfl) T.m_m T.F_m.kp T.b_m .nil AG (A0 (pw 1) (A0 (pw 3) (A0 (pw 5) (A0 (pw 6) (A0 (pw 7) A4)))))))
  (A7 (Ai (i:=10) EL.nd rfl (.inl rfl) (AJ G_c (hr.mono (by lia)) (by rfl) T.m_c T.F_c.kp T.b_c .nil AG (A0 (pw 8) (A0 (pw 4) A4))))
  (A7 (Bi (Gq (E9 (AJ G_d (hr.mono (by lia)) (by rfl) T.m_d T.F_d.kp T.b_d .nil AG (A0 (pw 10) (A0 (pw 9) A4)))))
  (Ak (AR FF))
  BE)
  (A7 (Ck (Cu Cr DK DL Dh (pw 10) (A0 (Bq (A0 A3 (A0 A3 A4))) A4)))
  (A7 (Ai (i:=11) EL.nd rfl (.inl rfl) (Lv T.mk_Program G_I (hr.mono (by lia)) (by rfl) T.mc_Program T.b_I .nil AG (A0 A3 (A0 (AJ G_l (hr.mono (by lia)) (by rfl) T.m_l T.F_l.kp T.b_l .nil AG (A0 (pw 1) (A0 (pw 6) (A0 (Aa (Av AL) (pw 7) A3) A4)))) A4))))
  (A7 (Bi (Gq (E9 (AJ G_d (hr.mono (by lia)) (by rfl) T.m_d T.F_d.kp T.b_d .nil AG (A0 (AJ G_c (hr.mono (by lia)) (by rfl) T.m_c T.F_c.kp T.b_c .nil AG (A0 (pw 11) (A0 (pw 4) A4))) (A0 (AJ G_m (hr.mono (by lia)) (by rfl) T.m_m T.F_m.kp T.b_m .nil AG (A0 (pw 1) (A0 (pw 3) (A0 (pw 5) (A0 (pw 6) (A0 (Aa (Av AL) (pw 7) A3) A4)))))) A4)))))
  (Ak (AR FF))
  BE)
  (Ak (AR (AJ G_d (hr.mono (by lia)) (by rfl) T.m_d T.F_d.kp T.b_d .nil AG (A0 (AJ G_c (hr.mono (by lia)) (by rfl) T.m_c T.F_c.kp T.b_c .nil AG (A0 (pw 8) (A0 (pw 4) A4))) (A0 (pw 9) A4)))))))))))))))))),?_⟩
 refine⟨p,ns,0,rfl,hp,by decide,by decide,fun m m0 _=>⟨m,rfl,m0,fun n H0 eH0 n1 n6=>?_⟩⟩
 refine⟨p,ns,3,n,rfl,eH0.seq hp,by decide,by decide,n6,fun dl xs H1 Ds e1 hdl axd Dsl rq=>?_⟩
 have e1:=eH0.trans e1
 have xl:=axd.1
 dsimp only[Aq]
 refine⟨dl,_,rfl,.inl (A5.of hdl),.inl ⟨by decide,by decide⟩,?_⟩
 dsimp only[Aq]
 refine⟨dl,rfl,⟨_,A5.of hdl⟩,?_⟩
 refine G1 (xs:=xs) (fun i ys H2=>H2=H1/\ys=((Ds.take i).map fun D=>(D.L.length:Int)).map V.int) ⟨rfl,rfl⟩ (BD (by lia)) (fun i ys H2 hi pp=>⟨by rw[pp.1];exact A5.of hdl,by rw[pp.2,Al,Al,AV];lia⟩) (fun i x ys H2 hc pp=>?_) (fun ys H2 pp de hde=>?_)
 .obtain⟨rfl,rfl⟩:=pp
  refine An fun _ zA=>?_
  obtain⟨D,hD,t,o,pt,rfl,ht,⟨vs,hvs,av0⟩,hpt⟩:=axd.get' hc
  refine zA ?_
  refine ixT ht rfl ⟨o,_,rfl,.inl (A5.of hvs),rfl,?_⟩
  rw[CJ hD,B3,B3,av0.1]
  rfl
 obtain⟨rfl,rfl⟩:=pp
 rw[CU (show Ds.length<=xs.length by lia)]at *
 have s2:=Ac hde (.lst ((Ds.map fun D=>(D.L.length:Int)).map V.int))
 have hde2:(upd H2 de (.lst ((Ds.map fun D=>(D.L.length:Int)).map V.int))) de=some (.lst ((Ds.map fun D=>(D.L.length:Int)).map V.int)):=A6
 generalize upd H2 de (.lst ((Ds.map fun D=>(D.L.length:Int)).map V.int))=H2' at s2 hde2
 refine⟨Ar rfl,fun wy hwy=>?_⟩
 have s3:=Ac hwy (.lst [V.str "up",V.str "down",V.str "any"])
 refine⟨p,de,wy,ns,Ds.map fun D=>(D.L.length:Int),_,rfl,((e1.trans s2).trans s3).seq hp,by lia,by lia,s3 _ _ hde2,A6,fun d hd=>?_,by rw[Al];lia,by rw[Al];lia,fun lv H3 B e3 hB l1 Bl=>?_⟩
 .obtain⟨D,hD,rfl⟩:=C9.mp hd
  have:=(rq.ok D hD).ll
  lia
 rw[Al]at Bl
 dsimp only[Aq]
 have e13:=s2.trans (s3.trans e3)
 have e03:=e1.trans e13
 refine⟨lv,0,6,B,rfl,hB,l1.lv.from,by decide,by decide,fun pt H4 f e4 hf hI=>?_⟩
 dsimp only[Aq]
 refine⟨lv,B,rfl,hB.over e4,l1.lv,fun kl H5 R e5 hR ks=>?_⟩
 dsimp only[Aq]
 have e35:=e4.trans e5
 refine⟨p,ns,1,rfl,(e03.trans e35).seq hp,by decide,by decide,fun fr H6 scl bs e6 hfr hsc=>?_⟩
 refine⟨fr,_,rfl,A9.of hfr,rfl,rfl,?_⟩
 dsimp only[Aq]
 refine An fun _ zB=>?_
 have e36:=e35.trans e6
 have e16:=e13.trans e36
 have Bpos:0<B.length:=by lia
 obtain⟨u,w',hlw⟩:=SQ (sc:=scl) (b:=bs) rq
 obtain⟨u2,w2,hlw2⟩:=SQ (sc:=scl) (b:=bs+1) rq
 refine zB ?_
 have lwq:∀(k:Nat) (D:Dq),Ds[k]?=some D->JL D.L (u k) (w' k):=fun k D hD=>SH (hlw k _ (by rw[AQ,hD];rfl))
 have lwq2:∀(k:Nat) (D:Dq),Ds[k]?=some D->JL D.L (u2 k) (w2 k):=fun k D hD=>SH (hlw2 k _ (by rw[AQ,hD];rfl))
 have hsp:=hsc.1
 have gb:=UH l1
 have plan:∀{HX:Hp},A8 H6 HX->Hb HX pt B f:=fun{HX} e=>⟨hf.over ((e5.trans e6).trans e),hI,gb⟩
 have hdl6:=e16 _ _ hdl
 have axd6:=axd.mono fun _ _ z=>z.over e16
 have hB6:=hB.over e36
 have hR6:=hR.over e6
 refine⟨dl,scl,bs,xs,Ds,rfl,hsc,hdl6,axd6,by lia,fun D hD=>(rq.ok D hD).ll,fun tl ws H7 e7 htl aw=>?_⟩
 intro x dx hx hdx hxd
 have ntx:tl≠x:=AI htl hx
 have ntd:tl≠dx:=AI htl hdx
 refine⟨x,dx,_,tl,ws,rfl,A6,A5.of (by rw[Af ntx,Af ntd];exact htl),fun d5 H8 hd5 k8 hd8 hx8=>⟨rfl,?_⟩⟩
 obtain⟨dx8,hx8⟩:=hx8
 have e8:=M0 hx hdx k8
 have aw8:=aw.mono fun y R z=>Du.over e8 z
 dsimp only[Aq]
 have hP:∀HX,A8 H8 HX->Kj a.c_Program a.c_Deed (GC a) HX (.ref x) 97 (Ds.map (BG scl bs)):=fun HX e=>⟨x,dx8,d5,rfl,e _ _ hx8,ws,e _ _ hd8,aw8.mono fun _ _ z=>Du.over e z⟩
 have e68:=e7.trans e8
 refine⟨dl,lv,kl,xs,Ds,B,R,u,w',scl,bs,rfl,e68 _ _ hdl6,axd6.mono fun _ _ z=>z.over e68,rq,lwq,hB6.over e68,l1,hR6.over e68,ks,hsc,fun r1 kvs1 dm1 H9 e9 hr1n hr1 ev1 dmo1=>?_⟩
 dsimp only[Aq]
 have e69:=e68.trans e9
 refine⟨.ref x,pt,97,_,B,f,u,w',rfl,hP _ e9,plan e69,Ov l1 hlw,fun fo ys HA E1 eA hfon hfo ay E1c E1l hE1=>?_⟩
 have m1:=Ot hsp hI l1 Bpos hlw E1l hE1 dmo1
 dsimp only[Aq]
 refine⟨fo,r1,ys,E1,kvs1,E1,rfl,hfo,ay,eA _ _ hr1,Oj (ev1.mono fun _ _ z=>Ez.over z eA) m1,rfl,E1c,fun HB eB=>?_⟩
 refine⟨_,rfl,BW ?_⟩
 dsimp only[Lm]
 refine⟨.inl ⟨rfl,_,A5.of (eB _ _ hfo)⟩,Ar rfl,fun t0 ht0=>?_⟩
 have s0:=Ac ht0 (.tup [V.int 0,V.int 1])
 have e9B:=eA.trans (eB.trans s0)
 have hfo0:=(eB.trans s0) _ _ hfo
 generalize upd HB t0 (.tup [V.int 0,V.int 1])=HC at s0 e9B hfo0
 have yl:=ay.1
 refine⟨fo,_,_,rfl,rfl,hfo0,CF (by lia),?_⟩
 have e9D:A8 H9 (upd HC fo (.lst (ys++[.ref t0]))):=fun z ob hz=>by
  rw[Af (AI hz hfon)]
  exact e9B _ _ hz
 generalize upd HC fo (.lst (ys++[.ref t0]))=HD at e9D
 have e6D:=e69.trans e9D
 refine⟨dl,scl,bs+1,xs,Ds,rfl,hsc,e6D _ _ hdl6,axd6.mono fun _ _ z=>z.over e6D,by lia,fun D hD=>(rq.ok D hD).ll,fun tl2 ws2 HE eE htl2 aw2=>?_⟩
 intro y dy hy hdy hyd
 have nty:tl2≠y:=AI htl2 hy
 have ntz:tl2≠dy:=AI htl2 hdy
 refine⟨y,dy,_,tl2,ws2,rfl,A6,A5.of (by rw[Af nty,Af ntz];exact htl2),fun d6 HF hd6 kF hdF hyF=>⟨rfl,?_⟩⟩
 obtain⟨dyF,hyF⟩:=hyF
 have eF:=M0 hy hdy kF
 have awF:=aw2.mono fun y R z=>Du.over eF z
 dsimp only[Aq]
 have hP2:Kj a.c_Program a.c_Deed (GC a) HF (.ref y) 11 (Ds.map (BG scl (bs+1))):=⟨y,dyF,d6,rfl,hyF,ws2,hdF,awF⟩
 have eDF:=eE.trans eF
 have e6F:=e6D.trans eDF
 refine⟨.ref y,pt,11,_,B,f,u2,w2,rfl,hP2,plan e6F,Ov l1 hlw2,fun fo2 ys2 HG E2 eG hfo2n hfo2 ay2 E2c E2l hE2=>?_⟩
 have e6G:=e6F.trans eG
 refine⟨dl,lv,kl,xs,Ds,B,R,u2,w2,scl,bs+1,rfl,e6G _ _ hdl6,axd6.mono fun _ _ z=>z.over e6G,rq,lwq2,hB6.over e6G,l1,hR6.over e6G,ks,hsc,fun r2 kvs2 dm2 HI eI hr2n hr2 ev2 dmo2=>?_⟩
 have m2:=Ot hsp hI l1 Bpos hlw2 E2l hE2 dmo2
 refine⟨fo2,r2,ys2,E2,kvs2,E2,rfl,eI _ _ hfo2,ay2.mono fun _ _ z=>z.over eI,hr2,Oj ev2 m2,rfl,E2c,fun HJ eJ=>⟨_,rfl,BW ?_⟩⟩
 dsimp only[Lm]
 have eDJ:=eDF.trans (eG.trans (eI.trans eJ))
 have e9J:=e9D.trans eDJ
 refine⟨.ref x,pt,97,_,B,f,u,w',rfl,hP _ (e9.trans e9J),plan (e69.trans e9J),Ov l1 hlw,fun fo3 ys3 HK E3 eK hfo3n hfo3 ay3 E3c E3l hE3=>?_⟩
 have m3:=Ot hsp hI l1 Bpos hlw E3l hE3 dmo1
 exact⟨fo3,r1,ys3,E3,kvs1,E3,rfl,hfo3,ay3,(e9J.trans eK) _ _ hr1,Oj (ev1.mono fun _ _ z=>Ez.over z (e9J.trans eK)) m3,rfl,E3c,fun HL eL=>q _⟩
end
theorem HN {us:List Value}(h:us.length=1):∃x0,us=[x0]:=by
 rcases us with _|⟨x0,us⟩
 .cases h
 rcases us with _|⟨y,us⟩
 .exact⟨x0,rfl⟩
 .simp only[B9]at h;lia
theorem Es {us:List Value}(h:us.length=2):∃x0 x1,us=[x0,x1]:=by
 rcases us with _|⟨x0,us⟩
 .cases h
 rcases us with _|⟨x1,us⟩
 .cases h
 rcases us with _|⟨y,us⟩
 .exact⟨x0,x1,rfl⟩
 .simp only[B9]at h;lia
theorem FM {us:List Value}(h:us.length=3):∃x0 x1 x2,us=[x0,x1,x2]:=by
 rcases us with _|⟨x0,us⟩
 .cases h
 rcases us with _|⟨x1,us⟩
 .cases h
 rcases us with _|⟨x2,us⟩
 .cases h
 rcases us with _|⟨y,us⟩
 .exact⟨x0,x1,x2,rfl⟩
 .simp only[B9]at h;lia
theorem OP {us:List Value}(h:us.length=4):∃x0 x1 x2 x3,us=[x0,x1,x2,x3]:=by
 rcases us with _|⟨x0,us⟩
 .cases h
 rcases us with _|⟨x1,us⟩
 .cases h
 rcases us with _|⟨x2,us⟩
 .cases h
 rcases us with _|⟨x3,us⟩
 .cases h
 rcases us with _|⟨y,us⟩
 .exact⟨x0,x1,x2,x3,rfl⟩
 .simp only[B9]at h;lia
theorem Mf {us:List Value}(h:us.length=5):∃x0 x1 x2 x3 x4,us=[x0,x1,x2,x3,x4]:=by
 rcases us with _|⟨x0,us⟩
 .cases h
 rcases us with _|⟨x1,us⟩
 .cases h
 rcases us with _|⟨x2,us⟩
 .cases h
 rcases us with _|⟨x3,us⟩
 .cases h
 rcases us with _|⟨x4,us⟩
 .cases h
 rcases us with _|⟨y,us⟩
 .exact⟨x0,x1,x2,x3,x4,rfl⟩
 .simp only[B9]at h;lia
theorem Uk {us:List Value}(h:us.length=8):∃x0 x1 x2 x3 x4 x5 x6 x7,us=[x0,x1,x2,x3,x4,x5,x6,x7]:=by
 rcases us with _|⟨x0,us⟩
 .cases h
 rcases us with _|⟨x1,us⟩
 .cases h
 rcases us with _|⟨x2,us⟩
 .cases h
 rcases us with _|⟨x3,us⟩
 .cases h
 rcases us with _|⟨x4,us⟩
 .cases h
 rcases us with _|⟨x5,us⟩
 .cases h
 rcases us with _|⟨x6,us⟩
 .cases h
 rcases us with _|⟨x7,us⟩
 .cases h
 rcases us with _|⟨y,us⟩
 .exact⟨x0,x1,x2,x3,x4,x5,x6,x7,rfl⟩
 .simp only[B9]at h;lia
theorem Z9:Bs "__init__" "NoValues.__init__" LP ["self","ring"]:=fun _ _ _ _ _ _ _ h=>by obtain⟨_,_,rfl⟩:=Es h;rfl
theorem Vk:Bs "__init__" "Number.__init__" Ln ["self","n"]:=fun _ _ _ _ _ _ _ h=>by obtain⟨_,_,rfl⟩:=Es h;rfl
theorem VY:Bs "__init__" "Deed.__init__" M3 ["self","names","lows","highs","table","spots","term","path"]:=fun _ _ _ _ _ _ _ h=>by obtain⟨_,_,_,_,_,_,_,_,rfl⟩:=Uk h;rfl
theorem cF:Bs "__init__" "Program.__init__" Lz ["self","size","deeds"]:=fun _ _ _ _ _ _ _ h=>by obtain⟨_,_,_,rfl⟩:=FM h;rfl
theorem UB:Bs "deeds_within" "deeds_within" M9 ["items","path","cuts"]:=fun _ _ _ _ _ _ _ h=>by obtain⟨_,_,_,rfl⟩:=FM h;rfl
theorem bS:Bs "sweeps_of" "sweeps_of" LX ["plan"]:=fun _ _ _ _ _ _ _ h=>by obtain⟨_,rfl⟩:=HN h;rfl
theorem Uu:Bs "sweeps_within" "sweeps_within" Mw ["items","path"]:=fun _ _ _ _ _ _ _ h=>by obtain⟨_,_,rfl⟩:=Es h;rfl
theorem bQ:Bs "settled" "settled" Ko ["count","bonds"]:=fun _ _ _ _ _ _ _ h=>by obtain⟨_,_,rfl⟩:=Es h;rfl
theorem WX:Bs "lowered_in_a_round" "lowered_in_a_round" MU ["bonds","values","lowered_by"]:=fun _ _ _ _ _ _ _ h=>by obtain⟨_,_,_,rfl⟩:=FM h;rfl
theorem Vp:Bs "ring_behind" "ring_behind" LQ ["count","bonds","lowered_by","lowered"]:=fun _ _ _ _ _ _ _ h=>by obtain⟨_,_,_,_,rfl⟩:=OP h;rfl
theorem VT:Bs "most" "most" Ke ["count","bonds","x","y"]:=fun _ _ _ _ _ _ _ h=>by obtain⟨_,_,_,_,rfl⟩:=OP h;rfl
theorem cL:Bs "shortest_chain" "shortest_chain" Mq ["count","bonds","x","y"]:=fun _ _ _ _ _ _ _ h=>by obtain⟨_,_,_,_,rfl⟩:=OP h;rfl
theorem VN:Bs "chains_to" "chains_to" Mc ["count","bonds","y"]:=fun _ _ _ _ _ _ _ h=>by obtain⟨_,_,_,rfl⟩:=FM h;rfl
theorem cJ:Bs "shortened_in_a_round" "shortened_in_a_round" MF ["bonds","lengths","reached_by"]:=fun _ _ _ _ _ _ _ h=>by obtain⟨_,_,_,rfl⟩:=FM h;rfl
theorem Xo:Bs "loop_bonds" "loop_bonds" MO ["deed","first"]:=fun _ _ _ _ _ _ _ h=>by obtain⟨_,_,rfl⟩:=Es h;rfl
theorem Yd:Bs "unknown_of" "unknown_of" Mn ["spot","names","first"]:=fun _ _ _ _ _ _ _ h=>by obtain⟨_,_,_,rfl⟩:=FM h;rfl
theorem XN:Bs "ends" "ends" Kv ["program","plan"]:=fun _ _ _ _ _ _ _ h=>by obtain⟨_,_,rfl⟩:=Es h;rfl
theorem Zm:Bs "cut_paths" "cut_paths" KR ["plan"]:=fun _ _ _ _ _ _ _ h=>by obtain⟨_,rfl⟩:=HN h;rfl
theorem Yk:Bs "ends_at" "ends_at" LI ["program","plan","path"]:=fun _ _ _ _ _ _ _ h=>by obtain⟨_,_,_,rfl⟩:=FM h;rfl
theorem bP:Bs "end_times" "end_times" Mb ["deed","pair"]:=fun _ _ _ _ _ _ _ h=>by obtain⟨_,_,rfl⟩:=Es h;rfl
theorem ZK:Bs "_law_at" "_law_at" MZ ["_law_script","_law_k"]:=fun _ _ _ _ _ _ _ h=>by obtain⟨_,_,rfl⟩:=Es h;rfl
theorem Vx:Bs "_law_digits" "_law_digits" LA ["_law_cell","_law_sizes"]:=fun _ _ _ _ _ _ _ h=>by obtain⟨_,_,rfl⟩:=Es h;rfl
theorem ZE:Bs "_law_count" "_law_count" LS ["_law_cell"]:=fun _ _ _ _ _ _ _ h=>by obtain⟨_,rfl⟩:=HN h;rfl
theorem Wn:Bs "_law_loop" "_law_loop" K6 ["_law_cell","_law_loops"]:=fun _ _ _ _ _ _ _ h=>by obtain⟨_,_,rfl⟩:=Es h;rfl
theorem UK:Bs "_law_deeds" "_law_deeds" MM ["_law_script","_law_first","_law_count_here"]:=fun _ _ _ _ _ _ _ h=>by obtain⟨_,_,_,rfl⟩:=FM h;rfl
theorem ZI:Bs "_law_told" "_law_told" MY ["_law_spot","_law_scale","_law_base"]:=fun _ _ _ _ _ _ _ h=>by obtain⟨_,_,_,rfl⟩:=FM h;rfl
theorem Up:Bs "_law_told_deeds" "_law_told_deeds" GU ["_law_deeds_here","_law_scale","_law_base"]:=fun _ _ _ _ _ _ _ h=>by obtain⟨_,_,_,rfl⟩:=FM h;rfl
theorem Vo:Bs "_law_values" "_law_values" Mh ["_law_loops"]:=fun _ _ _ _ _ _ _ h=>by obtain⟨_,rfl⟩:=HN h;rfl
theorem W8:Bs "_law_sweeps" "_law_sweeps" MK ["_law_script","_law_first","_law_depth","_law_old","_law_ways"]:=fun _ _ _ _ _ _ _ h=>by obtain⟨_,_,_,_,_,rfl⟩:=Mf h;rfl
theorem Y7:Bs "_law_places" "_law_places" LL ["_law_script","_law_first","_law_sweeps_here","_law_loops","_law_far"]:=fun _ _ _ _ _ _ _ h=>by obtain⟨_,_,_,_,_,rfl⟩:=Mf h;rfl
theorem bZ:Bs "_law_leaves" "_law_leaves" Jp ["_law_script","_law_first","_law_depths","_law_ways","_law_far"]:=fun _ _ _ _ _ _ _ h=>by obtain⟨_,_,_,_,_,rfl⟩:=Mf h;rfl
theorem YN:Bs "_law_items" "_law_items" M7 ["_law_leaves_here","_law_level"]:=fun _ _ _ _ _ _ _ h=>by obtain⟨_,_,rfl⟩:=Es h;rfl
theorem Yu:Bs "_law_keys" "_law_keys" JP ["_law_leaves_here"]:=fun _ _ _ _ _ _ _ h=>by obtain⟨_,rfl⟩:=HN h;rfl
theorem YZ:Bs "_law_limits" "_law_limits" JX ["_law_deeds_here","_law_leaves_here","_law_keys_here","_law_scale","_law_base"]:=fun _ _ _ _ _ _ _ h=>by obtain⟨_,_,_,_,_,rfl⟩:=Mf h;rfl
theorem Yx:Bs "_law_frame" "_law_frame" Mi ["_law_script","_law_first"]:=fun _ _ _ _ _ _ _ h=>by obtain⟨_,_,rfl⟩:=Es h;rfl
theorem V2:Bs "_law_whole" "_law_whole" Ma ["_law_found"]:=fun _ _ _ _ _ _ _ h=>by obtain⟨_,rfl⟩:=HN h;rfl
theorem UA:Bs "_law_meet" "_law_meet" MV ["_law_found","_law_limits_here"]:=fun _ _ _ _ _ _ _ h=>by obtain⟨_,_,rfl⟩:=Es h;rfl
theorem Vb:Bs "law" "law" KH ["_law_script"]:=fun _ _ _ _ _ _ _ h=>by obtain⟨_,rfl⟩:=HN h;rfl
theorem txt_mk {K:Faa}{h:Heap}{mg:Str->Option Value}{fa:Addr}(X:K.In h)(G:h.Ns mainGlobals mg)(hfa:mg "law"=some (.ref fa))
  {C_Number:Addr} {C_Deed:Addr} {C_Program:Addr} {C_FurrowError:Addr} {C_NoValues:Addr} {f1 f2 f3 f4 f5 f6 f7 f8 f9 f10 f11 f12 f13 f14 f15 f16 f17 f18 f19 f20 f21 f22 f23 f24 f25 f26 f27 f28 f29 f30 f31 f32 f33 f34 f35 f36 f37 f38:Addr} {d1 d2 d3 d4 d5 d6 d7 d8 d9 d10 d11 d12 d13 d14 d15 d16 d17 d18 d19 d20 d21 d22 d23 d24 d25 d26 d27 d28 d29 d30 d31 d32 d33 d34 d35 d36 d37 d38:FuncData}
  (a_Number:ClA K C_Number "Number")
  (a_Deed:ClA K C_Deed "Deed")
  (a_Program:ClA K C_Program "Program")
  (a_FurrowError:PySem.W.nsIn K mainGlobals "FurrowError"=some (some (.ref C_FurrowError)))
  (a_NoValues:PySem.W.nsIn K mainGlobals "NoValues"=some (some (.ref C_NoValues)))
  (h1:MW K C_NoValues "__init__" "NoValues.__init__" LP f1 d1)
  (h2:MW K C_Number "__init__" "Number.__init__" Ln f2 d2)
  (h3:MW K C_Deed "__init__" "Deed.__init__" M3 f3 d3)
  (h4:MW K C_Program "__init__" "Program.__init__" Lz f4 d4)
  (h5:BF K "deeds_within" M9 f5 d5)
  (h6:BF K "sweeps_of" LX f6 d6)
  (h7:BF K "sweeps_within" Mw f7 d7)
  (h8:BF K "settled" Ko f8 d8)
  (h9:BF K "lowered_in_a_round" MU f9 d9)
  (h10:BF K "ring_behind" LQ f10 d10)
  (h11:BF K "most" Ke f11 d11)
  (h12:BF K "shortest_chain" Mq f12 d12)
  (h13:BF K "chains_to" Mc f13 d13)
  (h14:BF K "shortened_in_a_round" MF f14 d14)
  (h15:BF K "loop_bonds" MO f15 d15)
  (h16:BF K "unknown_of" Mn f16 d16)
  (h17:BF K "ends" Kv f17 d17)
  (h18:BF K "cut_paths" KR f18 d18)
  (h19:BF K "ends_at" LI f19 d19)
  (h20:BF K "end_times" Mb f20 d20)
  (h21:BF K "_law_at" MZ f21 d21)
  (h22:BF K "_law_digits" LA f22 d22)
  (h23:BF K "_law_count" LS f23 d23)
  (h24:BF K "_law_loop" K6 f24 d24)
  (h25:BF K "_law_deeds" MM f25 d25)
  (h26:BF K "_law_told" MY f26 d26)
  (h27:BF K "_law_told_deeds" GU f27 d27)
  (h28:BF K "_law_values" Mh f28 d28)
  (h29:BF K "_law_sweeps" MK f29 d29)
  (h30:BF K "_law_places" LL f30 d30)
  (h31:BF K "_law_leaves" Jp f31 d31)
  (h32:BF K "_law_items" M7 f32 d32)
  (h33:BF K "_law_keys" JP f33 d33)
  (h34:BF K "_law_limits" JX f34 d34)
  (h35:BF K "_law_frame" Mi f35 d35)
  (h36:BF K "_law_whole" Ma f36 d36)
  (h37:BF K "_law_meet" MV f37 d37)
  (h38:BF K "law" KH f38 d38)
  (n_Number_n:PySem.W.findIn K (.ref C_Number) "n"=some none)
  (n_Deed_names:PySem.W.findIn K (.ref C_Deed) "names"=some none)
  (n_Deed_lows:PySem.W.findIn K (.ref C_Deed) "lows"=some none)
  (n_Deed_highs:PySem.W.findIn K (.ref C_Deed) "highs"=some none)
  (n_Deed_table:PySem.W.findIn K (.ref C_Deed) "table"=some none)
  (n_Deed_spots:PySem.W.findIn K (.ref C_Deed) "spots"=some none)
  (n_Deed_term:PySem.W.findIn K (.ref C_Deed) "term"=some none)
  (n_Deed_path:PySem.W.findIn K (.ref C_Deed) "path"=some none)
  (n_Program_size:PySem.W.findIn K (.ref C_Program) "size"=some none)
  (n_Program_deeds:PySem.W.findIn K (.ref C_Program) "deeds"=some none)
  (hn0:PySem.W.specialIn K (.builtin "object.__class__") "__get__"=some (some (.builtin "getset_descriptor.__get__"))) (ht0:PySem.W.takesIn K (.builtin "object.__class__")=some true)
  (xga_FurrowError:PySem.W.findIn K (.ref C_FurrowError) "__getattribute__"=some (some (.builtin "BaseException.__getattribute__"))) (xgh_FurrowError:PySem.W.findIn K (.ref C_FurrowError) "__getattr__"=some none) (xbe_FurrowError:PySem.W.mroIn K C_FurrowError (.type "BaseException")=some true) (xsa_FurrowError:PySem.W.findIn K (.ref C_FurrowError) "__setattr__"=some (some (.builtin "object.__setattr__"))) (xhd_FurrowError:PySem.W.hasDictIn K C_FurrowError=true) (qmt_FurrowError:EX.mroTail K C_FurrowError=true) (xob_FurrowError:PySem.W.mroIn K C_FurrowError (.type "object")=some true) (qct_FurrowError:MH K C_FurrowError []=true) (xca_FurrowError:PySem.W.findIn K (.ref C_FurrowError) "__class__"=some (some (.builtin "object.__class__"))) (kc_FurrowError:PySem.W.keepIn K (.ref C_FurrowError)=true)
  (xin_FurrowError:PySem.W.findIn K (.ref C_FurrowError) "__init__"=some (some (.builtin "ValueError.__init__")))
  (xga_NoValues:PySem.W.findIn K (.ref C_NoValues) "__getattribute__"=some (some (.builtin "BaseException.__getattribute__"))) (xgh_NoValues:PySem.W.findIn K (.ref C_NoValues) "__getattr__"=some none) (xbe_NoValues:PySem.W.mroIn K C_NoValues (.type "BaseException")=some true) (xsa_NoValues:PySem.W.findIn K (.ref C_NoValues) "__setattr__"=some (some (.builtin "object.__setattr__"))) (xhd_NoValues:PySem.W.hasDictIn K C_NoValues=true) (qmt_NoValues:EX.mroTail K C_NoValues=true) (xob_NoValues:PySem.W.mroIn K C_NoValues (.type "object")=some true) (qct_NoValues:MH K C_NoValues [C_FurrowError]=true) (xca_NoValues:PySem.W.findIn K (.ref C_NoValues) "__class__"=some (some (.builtin "object.__class__"))) (kc_NoValues:PySem.W.keepIn K (.ref C_NoValues)=true)
  (n_NoValues_ring:PySem.W.findIn K (.ref C_NoValues) "ring"=some none)
  (dnd:([C_FurrowError,C_NoValues]:List Addr).Nodup)
  (xbg:PySem.W.specialIn K (.ref C_FurrowError) "__getattribute__"=some (some (.builtin "type.__getattribute__"))) (xbr:PySem.W.readsIn K C_FurrowError (.type "type")=true) (xbf:PySem.W.findCls K (.ref C_FurrowError) (.type "type") "__init__"=some (.val (.builtin "ValueError.__init__")))
  (z_bool:PySem.W.nsIn K mainGlobals "bool"=some none)
  (z_enumerate:PySem.W.nsIn K mainGlobals "enumerate"=some none)
  (z_int:PySem.W.nsIn K mainGlobals "int"=some none)
  (z_isinstance:PySem.W.nsIn K mainGlobals "isinstance"=some none)
  (z_len:PySem.W.nsIn K mainGlobals "len"=some none)
  (z_list:PySem.W.nsIn K mainGlobals "list"=some none)
  (z_max:PySem.W.nsIn K mainGlobals "max"=some none)
  (z_min:PySem.W.nsIn K mainGlobals "min"=some none)
  (z_range:PySem.W.nsIn K mainGlobals "range"=some none)
  (z_sum:PySem.W.nsIn K mainGlobals "sum"=some none)
  (z_tuple:PySem.W.nsIn K mainGlobals "tuple"=some none)
  (z_zip:PySem.W.nsIn K mainGlobals "zip"=some none) :
  ∃a:Ad,Tx K mg a/\fa=a.f_H/\(∀(s:Shared) (v:Value),BindsTo s a.d_H ⟨[v],[]⟩ [("_law_script",v)]):=by
 have e:=hfa.symm.trans (Br X G h38.a)
 cases e
 obtain⟨_,_,_,_,_,_,_,_,_,rfl,_⟩:=h38.F.ex
 exact⟨⟨f1,d1,f2,d2,f3,d3,f4,d4,f5,d5,f6,d6,f7,d7,f8,d8,f9,d9,f10,d10,f11,d11,f12,d12,f13,d13,f14,d14,f15,d15,f16,d16,f17,d17,f18,d18,f19,d19,f20,d20,f21,d21,f22,d22,f23,d23,f24,d24,f25,d25,f26,d26,f27,d27,f28,d28,f29,d29,f30,d30,f31,d31,f32,d32,f33,d33,f34,d34,f35,d35,f36,d36,f37,d37,fa,_,C_Number,C_Deed,C_Program,C_FurrowError,C_NoValues⟩,⟨h1.F,
  h1.F.binds Z9,
  h2.F,
  h2.F.binds Vk,
  h3.F,
  h3.F.binds VY,
  h4.F,
  h4.F.binds cF,
  h5.F,
  h5.F.binds UB,
  Br X G h5.a,
  h6.F,
  h6.F.binds bS,
  Br X G h6.a,
  h7.F,
  h7.F.binds Uu,
  Br X G h7.a,
  h8.F,
  h8.F.binds bQ,
  Br X G h8.a,
  h9.F,
  h9.F.binds WX,
  Br X G h9.a,
  h10.F,
  h10.F.binds Vp,
  Br X G h10.a,
  h11.F,
  h11.F.binds VT,
  Br X G h11.a,
  h12.F,
  h12.F.binds cL,
  Br X G h12.a,
  h13.F,
  h13.F.binds VN,
  Br X G h13.a,
  h14.F,
  h14.F.binds cJ,
  Br X G h14.a,
  h15.F,
  h15.F.binds Xo,
  Br X G h15.a,
  h16.F,
  h16.F.binds Yd,
  Br X G h16.a,
  h17.F,
  h17.F.binds XN,
  Br X G h17.a,
  h18.F,
  h18.F.binds Zm,
  Br X G h18.a,
  h19.F,
  h19.F.binds Yk,
  Br X G h19.a,
  h20.F,
  h20.F.binds bP,
  Br X G h20.a,
  h21.F,
  h21.F.binds ZK,
  Br X G h21.a,
  h22.F,
  h22.F.binds Vx,
  Br X G h22.a,
  h23.F,
  h23.F.binds ZE,
  Br X G h23.a,
  h24.F,
  h24.F.binds Wn,
  Br X G h24.a,
  h25.F,
  h25.F.binds UK,
  Br X G h25.a,
  h26.F,
  h26.F.binds ZI,
  Br X G h26.a,
  h27.F,
  h27.F.binds Up,
  Br X G h27.a,
  h28.F,
  h28.F.binds Vo,
  Br X G h28.a,
  h29.F,
  h29.F.binds W8,
  Br X G h29.a,
  h30.F,
  h30.F.binds Y7,
  Br X G h30.a,
  h31.F,
  h31.F.binds bZ,
  Br X G h31.a,
  h32.F,
  h32.F.binds YN,
  Br X G h32.a,
  h33.F,
  h33.F.binds Yu,
  Br X G h33.a,
  h34.F,
  h34.F.binds YZ,
  Br X G h34.a,
  h35.F,
  h35.F.binds Yx,
  Br X G h35.a,
  h36.F,
  h36.F.binds V2,
  Br X G h36.a,
  h37.F,
  h37.F.binds UA,
  Br X G h37.a,
  h38.F,
  h38.F.binds Vb,
  Br X G h38.a,
  ⟨a_Number.pg,a_Number.hd,a_Number.po,a_Number.sa⟩,
  Br X G a_Number.a,
  ⟨a_Number.mi,h2.a,h2.i,a_Number.kc⟩,
  n_Number_n,
  ⟨a_Deed.pg,a_Deed.hd,a_Deed.po,a_Deed.sa⟩,
  Br X G a_Deed.a,
  ⟨a_Deed.mi,h3.a,h3.i,a_Deed.kc⟩,
  n_Deed_names,
  n_Deed_lows,
  n_Deed_highs,
  n_Deed_table,
  n_Deed_spots,
  n_Deed_term,
  n_Deed_path,
  ⟨a_Program.pg,a_Program.hd,a_Program.po,a_Program.sa⟩,
  Br X G a_Program.a,
  ⟨a_Program.mi,h4.a,h4.i,a_Program.kc⟩,
  n_Program_size,
  n_Program_deeds,
  Br X G a_FurrowError,
  ⟨⟨xga_FurrowError,xgh_FurrowError,xbe_FurrowError,xsa_FurrowError,xhd_FurrowError,qmt_FurrowError,xob_FurrowError,(IP qct_FurrowError).elim fun N z=>⟨N,_,z⟩⟩,xca_FurrowError,hn0,ht0⟩,
  IP qct_FurrowError,
  ⟨⟨xga_FurrowError,xgh_FurrowError,xbe_FurrowError,xsa_FurrowError,xhd_FurrowError,qmt_FurrowError,xob_FurrowError,(IP qct_FurrowError).elim fun N z=>⟨N,_,z⟩⟩,xin_FurrowError,kc_FurrowError⟩,
  Br X G a_NoValues,
  ⟨⟨xga_NoValues,xgh_NoValues,xbe_NoValues,xsa_NoValues,xhd_NoValues,qmt_NoValues,xob_NoValues,(IP qct_NoValues).elim fun N z=>⟨N,_,z⟩⟩,xca_NoValues,hn0,ht0⟩,
  IP qct_NoValues,
  ⟨⟨xga_NoValues,xgh_NoValues,xbe_NoValues,xsa_NoValues,xhd_NoValues,qmt_NoValues,xob_NoValues,(IP qct_NoValues).elim fun N z=>⟨N,_,z⟩⟩,h1.a,h1.i,kc_NoValues⟩,
  n_NoValues_ring,
  dnd,
  ⟨xbg,xbr,xbf⟩,
  Ft X G z_bool,
  Ft X G z_enumerate,
  Ft X G z_int,
  Ft X G z_isinstance,
  Ft X G z_len,
  Ft X G z_list,
  Ft X G z_max,
  Ft X G z_min,
  Ft X G z_range,
  Ft X G z_sum,
  Ft X G z_tuple,
  Ft X G z_zip⟩,rfl,fun s v=>.of_eq rfl⟩
end Fw
open PySem PySem.W PyProof.Rows
namespace PySem.W
structure Fast where
 (tw10007529295052009052 tw10045767483342758402 tw10083895746687080958 tw10150693919610527371 tw10307433001597154424 tw10376419519641877874 tw10397312974968839034 tw10406459556412097820 tw10433072101546059154 tw10474796932827212001 tw10475377386460704597 tw10568140605180424422 tw10596275564950239261 tw10621096177165081193 tw10891201376465836511 tw10955189751027975641 tw10980029750761377575 tw10999417680272512909 tw11078342135358842460 tw11285754240803531904 tw11472116128001131121 tw11480009760825356253 tw11615398417347329181 tw11619327832284306532 tw11650032001929310097 tw11653875369594924157 tw1165689762651106443 tw11825371148754760785 tw11826814960669346 tw11833539321882050100 tw11916003748176762472 tw11935482965645782548 tw11954546665727572599 tw12034836551836050914 tw12044396186143514108 tw12075283184758957990 tw1208955368283767173 tw12097981461628618790 tw12113820902253317507 tw12124904506156662358 tw12222272558307238267 tw12268973788242062634 tw1227960552011215509 tw12291224401202148804 tw12300780338552064378 tw12372977802871187507 tw12524789924045611125 tw12549571797852028037 tw12576213013187709535 tw1261871411091954722 tw12774128219117907332 tw12794802923618982884 tw12816932029738209392 tw12869471863557792232 tw12873397332796619069 tw12887136098894100103 tw12941803000774485511 tw13042803906275658701 tw13046372765540940412 tw13050290400239890953 tw13054895865459960586 tw13077459029779517355 tw1311819635078687363 tw13119006040149391457 tw1313819591775151037 tw13181065005168617613 tw13223300522336547940 tw13224018679525529657 tw13285772848157894899 tw13304778404584257177 tw13362263052622046715 tw13401845128417617319 tw13420703604129453617 tw13571326783010304343 tw13597286538206419816 tw13626152839710643748 tw13651324967081547606 tw13708725762092433023 tw13743610086626179766 tw137656924741129023 tw13854170003025803151 tw13855086176920450344 tw14177635833372458865 tw14237565324813020067 tw14257694070817937436 tw14337242678081478551 tw14360921170907673562 tw14375842898076387985 tw14384156287963285776 tw14391130429429806221 tw14398763734455856764 tw14423827260375764253 tw14601068308404351951 tw14901945740183974498 tw1490704230888082803 tw14950367498405369250 tw15023152246289619765 tw15025026214931779918 tw15090058106059548491 tw1514967142217429293 tw15169380877810425960 tw15204883068147899013 tw15255823949142425733 tw15298514720060382202 tw15381790328805650423 tw1540933798917238727 tw15412266872768357852 tw15412551530769683966 tw15444448614027753929 tw15509454975680022543 tw15582320902879813371 tw15693971775898398084 tw15713565281478042908 tw15765355731255741418 tw15830490998396850697 tw15881024146648293593 tw15931323989671744725 tw15957678409127053699 tw16042432740336919661 tw1612994731988941618 tw16173132734729429489 tw16262563824468453268 tw16357426466898809641 tw16387740343614574041 tw16416774657912622951 tw16580222717017191100 tw16691489045869318693 tw16751328850617170825 tw16800220472504146423 tw1680533239741623452 tw1688892112395488485 tw16895965098526794361 tw1694905260177801131 tw170712481572165220 tw17109057374624708322 tw17157483335028897285 tw17240504775439021511 tw17298270007186464654 tw1730308755725310913 tw17339590277616843564 tw17479514655982016990 tw17518821348290895494 tw17541770563693817163 tw17559770173005949277 tw17592905176522826301 tw17625920658282242948 tw17630253772907317911 tw17639525013504459128 tw17666096174032628084 tw17740785447869070513 tw17819771559674716666 tw17826667522508336557 tw1788478841605307917 tw1793784814565551650 tw17942872462783774302 tw18009845510648945437 tw18258642781998089506 tw18290544803650478198 tw18312422359878480581 tw18370945304875548368 tw1837130225363150633 tw18374528802566573253 tw189183535736390127 tw1955370055999835455 tw2108270542940967804 tw2203002318648169441 tw2225782616758074250 tw2293261106462743250 tw2297206325676201373 tw2315071172808677393 tw2321402522650577821 tw2330219340902308622 tw2341403766392233458 tw235382776036056843 tw2357038987657365904 tw2397991937212783837 tw2453244539905159399 tw2531671243737383470 tw2541002282211419665 tw2565246274211441145 tw2581157055898216167 tw2686227450442292851 tw2702116072109548448 tw2714385447653112264 tw2765952389691860007 tw2908994459331336450 tw2910924652653923967 tw2930345459662854069 tw293442223516623976 tw2950278244312041020 tw2967362901037178117 tw3072034126559052601 tw3099685214403550083 tw3166077199165288771 tw3169974828678514141 tw3226155178070578467 tw3237573643718512341 tw3260572713312638868 tw3317500511990097762 tw3379213385820801160 tw3493783758317941274 tw3585974730587993179 tw3592679890218538466 tw3604643915959922667 tw362554163127650051 tw3723758251895499015 tw3759426449637909200 tw3799716340294250401 tw3800050366485216124 tw3824143543589733098 tw3870981163257136239 tw3917000943133995496 tw396011991108095953 tw397276297560136726 tw3993385131547468899 tw4009382956344158490 tw4053645254112697167 tw4146964667675361386 tw4162666840115238086 tw4171139356581576913 tw4229649509530904223 tw4327735726778178204 tw4332868700575432814 tw4372974878441042850 tw4526671374175255093 tw4535427923864836864 tw4538552314094553209 tw4571251360648479859 tw4606855151857266601 tw4682945187665015209 tw4745001627625374660 tw4800712083939230931 tw4841607245650011521 tw4865279003375999798 tw4928993808424660794 tw5009476981559223944 tw50147353010498533 tw5036408659729735003 tw5079267399154598782 tw5129917318736010113 tw51493706308277146 tw5149636387931443645 tw5187020110683688438 tw5190557282432311240 tw5355693694683378658 tw5451566731733627057 tw5539492948927983283 tw5636648357429757596 tw5686245426660883752 tw5686283186699442155 tw5740388323571633721 tw5751884886342119761 tw5929742504023470586 tw5946298757174706609 tw600197748158006575 tw6033218762649723604 tw6068960542216265101 tw6136123449485236990 tw6285954061934893334 tw629104139551579518 tw6376265595075578262 tw6420500580120802762 tw6587277443039311661 tw6625715689975214222 tw6641055215125437654 tw6801266985763795464 tw6896691520824158885 tw6910802648088971774 tw692156778024577921 tw6949499907231880844 tw6955552398044166894 tw6991570971662589451 tw6996655576336394269 tw7005818150041439489 tw706390258538777774 tw7134528116065207406 tw714897533914112216 tw7214509043765480106 tw7235482827994531775 tw7280992559338772722 tw7396872925010922844 tw7435642495245775674 tw7530233124511994239 tw7539975152082143899 tw7575904072741830786 tw7597853991087865237 tw774047800245876035 tw7807212725422974930 tw7822147986506355792 tw7838067399724753810 tw7859057429370692532 tw7865517346166232640 tw7987854366930275876 tw8020188768022872378 tw8020266164990596101 tw803104804870280865 tw8038423896250613781 tw8097510971976487960 tw8221582251936310232 tw8229281865124240824 tw8263605599383967848 tw8273231546729959804 tw8289926666456055906 tw8317472514660700408 tw8333522978384166252 tw8394012796585792968 tw8424897946827241828 tw8432113570919959634 tw8470083613931951108 tw8486730389790297650 tw8543234097962770555 tw8645199906411262942 tw8684904691647581904 tw8685267842847083331 tw8806013377289832824 tw8824523571657277292 tw8830143058464843212 tw8891606680545731255 tw8897407011327421928 tw8944044570471352828 tw9062541355829974308 tw9278483272540343253 tw9292032759160765424 tw9410709818484555144 tw9419521316804837835 tw9424427780197163648 tw9425161774164945070 tw948601488830853507 tw9486490697791388468 tw951060469710566022 tw951885662147303123 tw9519471577966830451 tw9586955080893300609 tw964507983738165837 tw9670662058485078440 tw968508677244109127 tw9885640547754934885 tw9927490744431196740 tw9957301427730360107:Prop)
end PySem.W
set_option maxRecDepth 100000 in
set_option maxHeartbeats 0 in
theorem PySem.Challenge.cw_furrow_k64_ends_of_cut_sweeps_holds : PySem.Challenge.rw_furrow_k64_ends_of_cut_sweeps.Holds := by
 w_on;o_law;k_head;(case hw=>w_witness2)
 k_fill
 refine L2.law_walk (l:=PySem.Challenge.rw_furrow_k64_ends_of_cut_sweeps) (x:="_law_script") 15 (by decide) rfl rfl (fun w h Y=>PySem.W.kIn_of Y) ?F
 case F=>
  intro w mg fa h KX G hmg
  suffices hh:∃a:Fw.Ad,Fw.Tx _ mg a/\fa=a.f_H/\(∀(s:Shared) (v:Value),BindsTo s a.d_H ⟨[v],[]⟩ [("_law_script",v)]) by
   obtain⟨a,T,e,b⟩:=hh
   subst e
   exact⟨a.d_H,b,fun base _ _=>Fw.ok_law T⟩
  refine' Fw.txt_mk KX G hmg ?a_Number ?a_Deed ?a_Program ?a_FurrowError ?a_NoValues ?h1 ?h2 ?h3 ?h4 ?h5 ?h6 ?h7 ?h8 ?h9 ?h10 ?h11 ?h12 ?h13 ?h14 ?h15 ?h16 ?h17 ?h18 ?h19 ?h20 ?h21 ?h22 ?h23 ?h24 ?h25 ?h26 ?h27 ?h28 ?h29 ?h30 ?h31 ?h32 ?h33 ?h34 ?h35 ?h36 ?h37 ?h38 ?n_Number_n ?n_Deed_names ?n_Deed_lows ?n_Deed_highs ?n_Deed_table ?n_Deed_spots ?n_Deed_term ?n_Deed_path ?n_Program_size ?n_Program_deeds ?hn0 ?ht0 ?xga_FurrowError ?xgh_FurrowError ?xbe_FurrowError ?xsa_FurrowError ?xhd_FurrowError ?qmt_FurrowError ?xob_FurrowError ?qct_FurrowError ?xca_FurrowError ?kc_FurrowError ?xin_FurrowError ?xga_NoValues ?xgh_NoValues ?xbe_NoValues ?xsa_NoValues ?xhd_NoValues ?qmt_NoValues ?xob_NoValues ?qct_NoValues ?xca_NoValues ?kc_NoValues ?n_NoValues_ring ?dnd ?xbg ?xbr ?xbf ?z_bool ?z_enumerate ?z_int ?z_isinstance ?z_len ?z_list ?z_max ?z_min ?z_range ?z_sum ?z_tuple ?z_zip
  any_goals first|refine'⟨?_,L2.fun_mk ?_ ?_ ?_⟩|refine'⟨?_,?_,L2.fun_mk ?_ ?_ ?_⟩|refine' Fw.ClA.mk ?_ ?_ ?_ ?_ ?_ ?_ ?_
  any_goals first|k_is|kit_is|exact rfl|kernel_rfl|decide
#print axioms PySem.Challenge.cw_furrow_k64_ends_of_cut_sweeps_holds
