import PyProof.Rows.All
import Wide.All
import OpenK.AllK
import Wide.FinOn
import Lean
import PyProof.EqAt
import PyProof.EqKinds
import PyProof.TupleCall
import PyProof.ListMulRoad
import PySem.Challenge.RW_furrow_k76_own_plan_is_good
set_option genSizeOf false
set_option genInjectivity false
set_option compiler.extract_closed false
set_option Elab.async false
set_option linter.all false
set_option maxRecDepth 100000
set_option maxHeartbeats 4000000
noncomputable section
abbrev Faa:=PySem.W.Frag
def Af:=@List.length_map
def Ah:=@Nat.le_refl
def Ai:=@List.length_append
def As:=@PySem.wpAny_bind
def Aw:=@List.getElem?_eq_some_iff
def Ay:=@if_pos
def AB:=@if_neg
def AE:=@List.getElem?_eq_getElem
def AU:=@PySem.W.mg_of
def AV:=@PySem.wpAny_pure
def AZ:=@List.size_toArray
def B0:=@List.mem_of_getElem?
def Bb:=@List.mem_cons
def Bc:=@List.length_singleton
def Bf:=@List.getElem?_map
def Bh:=@Nat.zero_le
def Bj:=@List.getD_eq_getElem?_getD
def Bq:=@PySem.Heap.lt_size
def Bu:=@PySem.Heap.get?_push_of_some
def Bv:=@List.map_append
def Bw:=@PySem.F.plainAttrs_list
def Bz:=@List.length_cons
def BQ:=@List.length_take
def BR:=@PySem.F.slot_list_append
def BS:=@PySem.F.type_list_append
def BU:=@decide_eq_true
def C4:=@Nat.ne_of_lt
def C7:=@List.mem_cons_self
def C8:=@List.length_range
def C9:=@decide_eq_false
def Ce:=@List.mem_cons_of_mem
def Cf:=@List.map_cons
def Cg:=@List.getElem?_append_right
def Cu:=@Option.some.inj
def Cv:=@Nat.lt_of_lt_of_le
def Cw:=@List.getElem?_append_left
def CG:=@List.mem_append
def CH:=@Bool.false_ne_true
def CN:=@List.mem_append_left
def CT:=@PySem.Heap.get?_push_size
def CU:=@List.mem_append_right
def CV:=@List.append_nil
def D6:=@List.append_assoc
def Dl:=@List.mem_map
def Dm:=@List.mem_singleton
def DA:=@List.mem_range
def DB:=@List.length_replicate
def DC:=@Bool.and_eq_true
def DO:=@Nat.sub_self
def E1:=@List.take_length
def Ea:=@Nat.lt_irrefl
def Eb:=@Int.emod_nonneg
def Ec:=@Nat.min_eq_left
def Ed:=@Nat.lt_or_ge
def Ee:=@PySem.wpAny_mono
def Ex:=@Nat.le_trans
def Ey:=@Int.emod_lt_of_pos
def Ez:=@List.not_mem_nil
def EA:=@List.take_append_of_le_length
def ES:=@List.mem_iff_getElem?
def ET:=@PySem.W.mg_none_of
def Ff:=@Nat.le_of_lt
def Fg:=@Int.toNat_natCast
def Fh:=@List.getElem_mem
def Fi:=@List.getElem?_range
def Fj:=@Nat.le_add_right
def Fk:=@of_decide_eq_true
def FH:=@PySem.W.kia_one
def FI:=@Nat.zero_add
def Gf:=@List.map_nil
def Gg:=@List.take_of_length_le
def Gh:=@List.getElem?_cons_succ
def Gi:=@Int.zero_add
def GK:=@Nat.ne_of_gt
def GL:=@Bool.eq_iff_iff
def GM:=@Nat.le_succ
def GN:=@List.length_drop
def GO:=@List.lookup_cons
def GQ:=@List.map_map
def GR:=@List.range_succ
def GS:=@List.range'_succ
def GT:=@List.drop_eq_getElem_cons
def Ig:=@Nat.lt_succ_self
def Ih:=@List.getElem?_take_of_lt
def Ii:=@Nat.add_comm
def Ij:=@List.all_eq_true
def Ik:=@Option.map_eq_some_iff
def Il:=@beq_iff_eq
def Im:=@PySem.wpAny_field
def Io:=@PySem.call_meets
def Ji:=@PyProof.Rows.callWith_type1
def Jj:=@List.nodup_cons
def Jk:=@Int.le_refl
def Jl:=@List.all_append
def Jm:=@List.cons.inj
def Jn:=@List.getElem?_take
def Jo:=@PySem.wpAny_truthy_bool
def Jp:=@PySem.wpAny_passesOwn
def Kx:=@PySem.Heap.size_push
def Ky:=@List.length_nil
def Kz:=@List.replicate_succ
def KA:=@List.nil_append
def KB:=@Int.natCast_nonneg
def KC:=@PySem.wpAny_holding
def Mw:=@PySem.mem_of_lookup
def Mx:=@Nat.succ_mul
def My:=@Nat.sub_zero
def Mz:=@List.drop_eq_nil_of_le
def MC:=@List.take_left'
def MD:=@List.getElem?_drop
def MF:=@List.mem_of_mem_take
def MG:=@List.take_take
def MH:=@List.pairwise_iff_getElem
def MI:=@beq_eq_false_iff_ne
def MJ:=@PySem.wpAny_pyIter_tuple
def MK:=@PySem.sizeLine_eq
def ML:=@PySem.wpAny_Call_Name_kw
def MM:=@PySem.wpAny_newObj_type
def MN:=@PySem.wpAny_seqItems
def MO:=@PySem.wpAny_setField_rec
def Os:=@List.mem_filter
def Ot:=@Nat.le_of_eq
def Ou:=@List.getElem?_replicate
def Ov:=@PyProof.Rows.slot_tuple_getitem
def Ow:=@PySem.Heap.get?_update_other
def Ox:=@List.flatten_cons
def Oy:=@Bool.and_false
def OA:=@List.find?_cons
def OB:=@List.forIn_cons
def OC:=@List.mem_iff_getElem
def OD:=@Nat.min_eq_right
def OE:=@Nat.add_zero
def OF:=@List.map_congr_left
def OG:=@Int.toNat_of_nonneg
def OH:=@List.range_eq_range'
def OI:=@Nat.add_sub_cancel
def OJ:=@Nat.lt_trichotomy
def OK:=@Nat.succ.inj
def OL:=@Nat.not_lt_zero
def OM:=@List.map_take
def ON:=@Nat.mul_add
def OO:=@List.mem_replicate
def OP:=@Nat.add_le_add
def OQ:=@List.eq_nil_of_length_eq_zero
def OR:=@PySem.F.slot_list_extend
def OS:=@PySem.F.type_list_extend
def OT:=@PySem.wpAny_execs_nil
def OU:=@PySem.codeAny_mono
def OV:=@PySem.wpAny_call_entry
def OW:=@PySem.wpAny_pyIter_enum
def SE:=@List.filterMap_cons
def SF:=@Array.length_toList
def SG:=@PySem.W.plainGet_of
def SH:=@List.of_mem_zip
def SI:=@PySem.F.slot_tuple_add
def SJ:=@PySem.F.entry_tuple_add
def SK:=@PySem.F.args_tuple_add_2
def SM:=@List.any_eq_true
def SN:=@List.getElem?_eq_none
def SO:=@PySem.Heap.get?_push_cases
def SQ:=@List.pairwise_map
def SR:=@List.pairwise_lt_range
def SS:=@List.range_succ_eq_map
def SU:=@Option.getD_some
def SV:=@Option.map_some
def SW:=@List.replicate_succ'
def SX:=@Array.getElem?_eq_getElem
def SY:=@List.flatMap_append
def SZ:=@List.head?_eq_getElem?
def T1:=@List.getLast?_append
def T2:=@List.pairwise_cons
def T3:=@List.range'_append_1
def T6:=@PySem.F.slot_list_pop
def T7:=@PySem.F.type_list_pop
def T8:=@PySem.wpAny_pyIter_list
def T9:=@PySem.noFill_tuple_add
def Ta:=@decide_eq_true_eq
def Tb:=@beq_self_eq_true
namespace L2
open PySem PySem.Spec PyProof.Rows
abbrev CF:=Sum Int Str
def IF:CF->Value->Bool
 |.inl k,v=>Value.isInt k v
 |.inr x,v=>Value.isStrOf x v
def ZT (w:World):CF->Int
 |.inl k=>hashInt k
 |.inr x=>hashStr w x
theorem FJ:∀{k:CF} {v:Value},IF k v=true->(∃i t,k=Sum.inl i/\v=Value.int i t)\/(∃x t,k=Sum.inr x/\v=Value.str x t)
 |
  .inl i,v,h=>by
  obtain⟨t,e⟩:=Value.isInt_shape (k:=i) (v:=v) h;exact .inl ⟨i,t,rfl,e⟩
 |
  .inr x,v,h=>by
  obtain⟨t,e⟩:=Value.isStrOf_shape (x:=x) (v:=v) h;exact .inr ⟨x,t,rfl,e⟩
theorem aY (i:Int)(t:Tok):IF (.inl i) (.int i t)=true:=by simp[IF,Value.isInt]
theorem Zd (x:Str)(t:Tok):IF (.inr x) (.str x t)=true:=by simp[IF,Value.isStrOf]
theorem ZY (a b:Int):decide ((Sum.inl a:CF)=Sum.inl b)=(a==b):=by
 by_cases e:a=b
 .subst e;simp
 .have h:¬(Sum.inl a:CF)=Sum.inl b:=λq=>e (Sum.inl.inj q);rw[C9 h];exact(MI.mpr e).symm
theorem Wu (a b:Str):decide ((Sum.inr a:CF)=Sum.inr b)=decide (a=b):=by
 by_cases e:a=b
 .subst e;simp
 .have h:¬(Sum.inr a:CF)=Sum.inr b:=λq=>e (Sum.inr.inj q);rw[C9 h,C9 e]
theorem Uo (a:Int)(b:Str):decide ((Sum.inl a:CF)=Sum.inr b)=false:=C9 (λq=>nomatch q)
theorem aE (a:Str)(b:Int):decide ((Sum.inr a:CF)=Sum.inl b)=false:=C9 (λq=>nomatch q)
def Gk (prog:Program)(w:World):PySem.KeyKind prog w CF where
 is:=IF
 hash:=ZT w
 inj:=λv a b ha hb=>by
  rcases FJ ha with⟨i,t,rfl,rfl⟩|⟨x,t,rfl,rfl⟩
  .rcases FJ hb with⟨j,u,rfl,e⟩|⟨y,u,rfl,e⟩
   .injection e with e1 _;rw[e1]
   .exact nomatch e
  .rcases FJ hb with⟨j,u,rfl,e⟩|⟨y,u,rfl,e⟩
   .exact nomatch e
   .injection e with e1 _;rw[e1]
 byValue:=λk v h=>by
  rcases FJ h with⟨i,t,rfl,rfl⟩|⟨x,t,rfl,rfl⟩<;>rfl
 pyHash:=λhv h=>by
  rcases FJ hv with⟨i,t,rfl,rfl⟩|⟨x,t,rfl,rfl⟩
  .exact wpAny_pyHash_int h
  .exact wpAny_pyHash_str h
 eqBool:=λhu hv h=>by
  rcases FJ hu with⟨i,t,rfl,rfl⟩|⟨x,t,rfl,rfl⟩
  .rcases FJ hv with⟨j,u,rfl,rfl⟩|⟨y,u,rfl,rfl⟩
   .rw[ZY]at h;exact wpAny_eqBool_int h
   .rw[Uo]at h;exact SeqAt.EqAt.int_str i t y u _ _ _ _ h
  .rcases FJ hv with⟨j,u,rfl,rfl⟩|⟨y,u,rfl,rfl⟩
   .rw[aE]at h;exact SeqAt.EqAt.str_int x t j u _ _ _ _ h
   .rw[Wu]at h;exact wpAny_eqBool_str h
 «strs» := λk x t v h=>by
  rcases FJ h with⟨i,u,rfl,e⟩|⟨y,u,rfl,e⟩
  .exact nomatch e
  .injection e with e1 _;subst e1;cases v<;>rfl
theorem aZ (prog:Program)(w:World)(i:Int)(t:Tok):(Gk prog w).is (.inl i) (.int i t)=true:=aY i t
theorem Tv (prog:Program)(w:World)(x:Str)(t:Tok):(Gk prog w).is (.inr x) (.str x t)=true:=Zd x t
set_option genInjectivity true in
inductive V where
 |non|bl (b:Bool)|int (i:Int)|str (x:Str)|byt (b:Array UInt8)|flt (b:UInt64)|ref (a:Addr)|ty (n:String)
 deriving DecidableEq
def AG:V->Value->Prop
 |.non,u=>u=Value.none
 |.bl b,u=>u=Value.bool b
 |.int i,u=>∃t,u=Value.int i t
 |.str x,u=>∃t,u=Value.str x t
 |.byt b,u=>∃t,u=Value.bytes b t
 |.flt b,u=>∃t,u=Value.float b t
 |.ref a,u=>u=Value.ref a
 |.ty n,u=>u=Value.type n
abbrev Au:List V->List Value->Prop:=Paired AG
theorem Au.length {xs:List V}{us:List Value}(r:Au xs us):xs.length=us.length:=Paired.length r
theorem Au.get:∀{xs:List V} {us:List Value} {i:Nat} {x:V},Au xs us->xs[i]?=some x->∃u,us[i]?=some u/\AG x u
 |_,_,_,_,.nil,e=>by simp at e
 |_,_,0,_,.cons r _,e=>by simp at e;subst e;exact⟨_,rfl,r⟩
 |
  _,_,i+1,x,.cons _ t,e=>by
  obtain⟨u,h1,h2⟩:=Au.get (i:=i) (x:=x) t (by simpa using e);exact⟨u,by simpa using h1,h2⟩
theorem Au.set {x:V}{u:Value}(r:AG x u):∀{xs:List V} {us:List Value} (i:Nat),Au xs us->Au (xs.set i x) (us.set i u)
 |_,_,_,.nil=>.nil
 |_,_,0,.cons _ t=>.cons r t
 |_,_,i+1,.cons q t=>.cons q (Au.set r i t)
theorem Au.append:∀{xs ys:List V} {us ws:List Value},Au xs us->Au ys ws->Au (xs++ys) (us++ws)
 |_,_,_,_,.nil,s=>s
 |_,_,_,_,.cons r t,s=>.cons r (Au.append t s)
theorem Au.take:∀{xs:List V} {us:List Value} (n:Nat),Au xs us->Au (xs.take n) (us.take n)
 |_,_,0,_=>.nil
 |_,_,_+1,.nil=>.nil
 |_,_,n+1,.cons r t=>.cons r (Au.take n t)
theorem Au.drop:∀{xs:List V} {us:List Value} (n:Nat),Au xs us->Au (xs.drop n) (us.drop n)
 |_,_,0,r=>r
 |_,_,_+1,.nil=>.nil
 |_,_,n+1,.cons _ t=>Au.drop n t
theorem Au.none_of:∀{xs:List V} {us:List Value} {i:Nat},Au xs us->xs[i]?=none->us[i]?=none:=fun{xs us i} r e=>by
 have h1:=r.length;have h2:xs.length<=i:=List.getElem?_eq_none_iff.mp e;exact List.getElem?_eq_none_iff.mpr (by lia)
def EG:Option V->Option Value->Prop
 |some v,some u=>AG v u
 |none,none=>True
 |_,_=>False
def KV {κ:Type}:List (κ×V)->List (κ×Value)->Prop:=Paired fun(p:κ×V) (q:κ×Value)=>p.1=q.1/\AG p.2 q.2
def kV:CF->V
 |.inl i=>.int i
 |.inr x=>.str x
set_option genInjectivity true in
inductive HO where
 |lst (xs:List V)
 |tup (xs:List V)
 |dK (kvs:List (CF×V))|dT (kvs:List (List CF×V))
 |set (S:Int->Bool) (n:Nat)
 |ins (C dx:Addr) (fs:List (Str×V))
 |own (x:Addr)
 |xd (fs:List (Str×V))
 |met (f x:Addr)
 |rng (lo hi:Int)
 |frz (o:Obj) (u:HO)
 |tbl (ps:Array Value)
 |ext (φ:Heap->Prop)
abbrev Hp:=Addr->Option HO
def upd (H:Hp)(a:Addr)(o:HO):Hp:=λb=>if b=a then some o else H b
theorem A7 {H:Hp}{a:Addr}{o:HO}:upd H a o a=some o:=by unfold upd;rw[Ay rfl]
theorem Ag {H:Hp}{a b:Addr}{o:HO}(h:b≠a):upd H a o b=H b:=by unfold upd;rw[AB h]
theorem Fn {H:Hp}{a b:Addr}{o u:HO}(h:H a=some o)(h':H b=some u)(d:o≠u):a≠b:=by
 intro e;subst e;rw[h]at h';exact d (Cu h')
theorem Av {H:Hp}{a b:Addr}{o:HO}(h:H a=some o)(h':H b=none):a≠b:=by
 intro e;subst e;rw[h]at h';cases h'
section
variable (P:Program)(w:World)
def EW (h:Heap)(a:Addr)(its:Array Value):Prop := ∃o,h.get? a=some o/\o.cls = .type "tuple"/\(∃n,o.data = .seq its n)/\o.dict=none
theorem EW.tup {h:Heap}{a:Addr}{its:Array Value}(x:EW h a its):IsTup h a its:=by obtain⟨o,e,c,d,_⟩:=x;exact⟨o,e,c,d⟩
theorem EW.new (h:Heap)(its:Array Value):EW (h.push {cls:=.type "tuple",data:=.seq its}) h.objs.size its:=⟨_,CT _ rfl,rfl,⟨_,rfl⟩,rfl⟩
def CM (H:Hp)(h:Heap)(a:Addr):HO->Prop
 |.lst xs=>xs.length<=sizeLine/\∃(its:List Value) (n:Nat),Au xs its/\h.get? a=some {cls:=.type "list",data:=.seq its.toArray n}
 |.tup xs=>xs.length<=sizeLine/\∃its:List Value,Au xs its/\EW h a its.toArray
 |.dK kvs=>kvs.length<=sizeLine/\(a==sysModules)=false/\∃vs,KV kvs vs/\h.DictOf (Gk P w) a vs
 |.dT kvs=>kvs.length<=sizeLine/\(a==sysModules)=false/\∃xs:List (List CF×Addr×Value),
  Paired (fun(p:List CF×V) (q:List CF×Addr×Value)=>p.1=q.1/\H q.2.1=some (.tup (p.1.map kV))/\AG p.2 q.2.2) kvs xs/\
  ∃o es ep,h.get? a=some o/\o.ExactDict/\o.data = .dict es ep/\es.toList=xs.map (entryOfKey (tupleKind (Gk P w)))/\(xs.map (·.1)).Nodup
 |.set S n=>h.SetOf (intKind P w) a S n
 |.ins C dx fs=>H dx=some (.own a)/\fs.length<=1000/\dx≠a/\h.get? a=some (PySem.W.instObj C dx)/\
  ∃mA,h.Ns1 dx mA/\(∀f,EG (fs.lookup f) (mA f))/\PySem.Within mA (fs.map (·.1))
 |.own _=>∃o,h.get? a=some o
 |.xd fs=>∃mA,h.Ns1 a mA/\∀f,EG (fs.lookup f) (mA f)
 |.rng lo hi=>∃t u v,h.get? a=some {cls:=.type "range",data:=.fields #[.int lo t,.int hi u,.int 1 v]}
 |.frz o u=>h.get? a=some o/\CM H h a u
 |.tbl ps=>h.get? a=some {cls:=.none,data:=.fields ps}
 |.met f x=>h.get? a=some (PySem.W.methodObj (.ref f) (.ref x))
 |.ext φ=>φ h/\(∃o,h.get? a=some o)/\∀h1 h2:Heap,φ h1->(∀o,h1.get? a=some o->h2.get? a=some o)->φ h2
def Cc (H:Hp)(h:Heap):Prop := ∀a o,H a=some o->CM P w H h a o
end
section
variable {P:Program}{w:World}{H H':Hp}{h h':Heap}{a:Addr}{o:HO}
theorem CM.lt (x:CM P w H h a o):a<h.objs.size:=by
 cases o with
 |lst xs=>obtain⟨_,_,_,_,e⟩:=x;exact Bq e
 |tup xs=>obtain⟨_,_,_,p⟩:=x;exact p.tup.lt
 |dK kvs=>obtain⟨_,_,_,_,o,_,_,e,_⟩:=x;exact Bq e
 |dT kvs=>obtain⟨_,_,_,_,o,_,_,e,_⟩:=x;exact Bq e
 |set S n=>obtain⟨o,_,_,_,e,_⟩:=x;exact Bq e
 |ins C dx fs=>obtain⟨_,_,_,e,_⟩:=x;exact Bq e
 |own y=>obtain⟨_,e⟩:=x;exact Bq e
 |xd fs=>obtain⟨_,⟨_,_,_,e,_⟩,_⟩:=x;exact Bq e
 |rng lo hi=>obtain⟨_,_,_,e⟩:=x;exact Bq e
 |frz ob u=>obtain⟨e,_⟩:=x;exact Bq e
 |tbl ps=>exact Bq (show h.get? a=some _ from x)
 |met f y=>exact Bq (show h.get? a=some _ from x)
 |ext φ=>obtain⟨_,⟨_,e⟩,_⟩:=x;exact Bq e
theorem Paired.mapP {α β:Type}{F G:α->β->Prop}:∀{l₁:List α} {l₂:List β},Paired F l₁ l₂->(∀a b,F a b->G a b)->Paired G l₁ l₂
 |_,_,.nil,_=>.nil
 |_,_,.cons r t,f=>.cons (f _ _ r) (Paired.mapP t f)
theorem CM.stay (x:CM P w H h a o)(k:∀b u,(b=a\/H b=some (.own a))->h.get? b=some u->h'.get? b=some u)
  (ho:∀b,H b=some (.own a)->H' b=some (.own a)) (ht:∀b xs,H b=some (.tup xs)->H' b=some (.tup xs)):CM P w H' h' a o:=by
 induction o with
 |lst xs=>obtain⟨z,its,n,r,e⟩:=x;exact⟨z,its,n,r,k _ _ (.inl rfl) e⟩
 |tup xs=>obtain⟨z,its,r,ob,e,c⟩:=x;exact⟨z,its,r,ob,k _ _ (.inl rfl) e,c⟩
 |dK kvs=>obtain⟨z,y,vs,r,ob,es,ep,e,c⟩:=x;exact⟨z,y,vs,r,ob,es,ep,k _ _ (.inl rfl) e,c⟩
 |
  dT kvs=>
  obtain⟨z,y,xs,r,ob,es,ep,e,c⟩:=x;exact⟨z,y,xs,Paired.mapP r λp q z=>⟨z.1,ht _ _ z.2.1,z.2.2⟩,ob,es,ep,k _ _ (.inl rfl) e,c⟩
 |set S n=>obtain⟨ob,es,ep,t,e,c⟩:=x;exact⟨ob,es,ep,t,k _ _ (.inl rfl) e,c⟩
 |
  ins C dx fs=>
  obtain⟨d,z,ne,e,mA,⟨od,es,ep,e2,c⟩,r⟩:=x;exact⟨ho _ d,z,ne,k _ _ (.inl rfl) e,mA,⟨od,es,ep,k _ _ (.inr d) e2,c⟩,r⟩
 |own y=>obtain⟨ob,e⟩:=x;exact⟨ob,k _ _ (.inl rfl) e⟩
 |xd fs=>obtain⟨mA,⟨od,es,ep,e,c⟩,r⟩:=x;exact⟨mA,⟨od,es,ep,k _ _ (.inl rfl) e,c⟩,r⟩
 |rng lo hi=>obtain⟨t,u,v,e⟩:=x;exact⟨t,u,v,k _ _ (.inl rfl) e⟩
 |frz ob u ih=>obtain⟨e,q⟩:=x;exact⟨k _ _ (.inl rfl) e,ih q⟩
 |
  tbl ps=>
  have e:h.get? a=some {cls:=.none,data:=.fields ps}:=x;show h'.get? a=some {cls:=.none,data:=.fields ps};exact k a _ (.inl rfl) e
 |
  met f y=>
  have e:h.get? a=some (PySem.W.methodObj (.ref f) (.ref y)):=x;show h'.get? a=some (PySem.W.methodObj (.ref f) (.ref y));exact k a _ (.inl rfl) e
 |ext φ=>obtain⟨p,⟨o,e⟩,st⟩:=x;exact⟨st _ _ p λo q=>k _ _ (.inl rfl) q,⟨o,k _ _ (.inl rfl) e⟩,st⟩
theorem Cc.lt (x:Cc P w H h)(e:H a=some o):a<h.objs.size:=(x a o e).lt
theorem Cc.fresh (x:Cc P w H h)(e:h.objs.size<=a):H a=none:=by
 cases q:H a with
 |none=>rfl
 |some u=>exact absurd (Cv (x.lt q) e) (Ea _)
theorem Cc.kept (x:Cc P w H h)(k:∀b u,h.get? b=some u->h'.get? b=some u):Cc P w H h':=λa o e=>
 (x a o e).stay (λb u _ q=>k b u q) (λ_ q=>q) λ_ _ q=>q
theorem Cc.laid (x:Cc P w H h)(k:∀b u,h.get? b=some u->h'.get? b=some u)(hp:h.objs.size<=a)(new:CM P w (upd H a o) h' a o):Cc P w (upd H a o) h':=λb u e=>by
 have hn:=x.fresh hp;by_cases hb:b=a
 .subst hb;rw[A7]at e;cases e;exact new
 .rw[Ag hb]at e;exact(x b u e).stay (λc v _ q=>k c v q) (λc q=>by rw[Ag (Av q hn)];exact q) λc xs q=>by rw[Ag (Av q hn)];exact q
end
def Rd (H:Hp)(a:Addr)(u:HO):Prop:=H a=some u\/∃o,H a=some (.frz o u)
theorem Rd.ok {P:Program}{w:World}{H:Hp}{h:Heap}{a:Addr}{u:HO}(r:Rd H a u)(x:Cc P w H h):CM P w H h a u:=by
 rcases r with r|⟨o,r⟩
 .exact x a u r
 .obtain⟨_,q⟩:=x a _ r;exact q
def KN:Option HO->Prop
 |some (.lst _)=>True
 |some (.dK _)=>True
 |some (.dT _)=>True
 |some (.set _ _)=>True
 |some (.ins _ _ _)=>True
 |some (.ext _)=>True
 |_=>False
section
variable {P:Program}{w:World}{H:Hp}{h h':Heap}{x e:Addr}{o':HO}
theorem Cc.write (ok:Cc P w H h)(mu:KN (H x))(he:e=x\/H e=some (.own x))(k:∀b u,b≠e->h.get? b=some u->h'.get? b=some u)(heo:∃u,h'.get? e=some u)
  (new:CM P w (upd H x o') h' x o'):Cc P w (upd H x o') h':=λb u q=>by
 have nown:∀c y,H c=some (.own y)->c≠x:=λc y r z=>by subst z;rw[r]at mu;exact mu
 have ntup:∀c xs,H c=some (.tup xs)->c≠x:=λc xs r z=>by subst z;rw[r]at mu;exact mu
 by_cases hb:b=x
 .subst hb;rw[A7]at q;cases q;exact new
 .rw[Ag hb]at q;by_cases hbe:b=e
  .have q':H b=some (.own x):=by
    rcases he with z|z
    .exact absurd (hbe.trans z) hb
    .rw[hbe];exact z
   rw[q]at q';cases q';obtain⟨v,hv⟩:=heo;exact⟨v,by rw[hbe];exact hv⟩
  .refine(ok b u q).stay (λc v hc r=>k c v ?_ r) (λc r=>by rw[Ag (nown c b r)];exact r) λc xs r=>by rw[Ag (ntup c xs r)];exact r
   rcases hc with rfl|hc
   .exact hbe
   .rintro rfl;rcases he with z|z
    .exact nown c b hc z
    .rw[hc]at z;cases z;exact hb rfl
end
structure Un (fs ex:List Addr)(H H':Hp)(h h':Heap):Prop where
 keep:∀b o,h.get? b=some o->H b=none->b∉fs->b∉ex->h'.get? b=some o
 slot:∀b o,h.get? b=some o->H b=none->b∈fs->b∉ex->∃sl,h'.get? b=some {o with slots:=sl}
 free:∀b o,h.get? b=some o->H b=none->b∉ex->H' b=none
 there:∀b o,h.get? b=some o->b∉ex->∃o',h'.get? b=some o'
 tups:∀b xs,H b=some (.tup xs)->H' b=some (.tup xs)
 frzs:∀b o u,H b=some (.frz o u)->H' b=some (.frz o u)
 tbls:∀b ps,H b=some (.tbl ps)->∃more,H' b=some (.tbl (ps++more))
section
variable {fs fs' ex ex':List Addr}{H H1 H2:Hp}{h h1 h2 h':Heap}{a x e:Addr}{o:HO}
theorem Un.any (u:Un fs ex H H1 h h1){b:Addr}{ob:Obj}(q:h.get? b=some ob)(n:H b=none)(hx:b∉ex):∃sl,h1.get? b=some {ob with slots:=sl}:=by
 by_cases hb:b∈fs
 .exact u.slot b ob q n hb hx
 .exact⟨ob.slots,u.keep b ob q n hb hx⟩
theorem Un.kept (k:∀b u,h.get? b=some u->h'.get? b=some u):Un fs ex H H h h':=
 ⟨λb ob q _ _ _=>k b ob q,λb ob q _ _ _=>⟨ob.slots,k b ob q⟩,λ_ _ _ n _=>n,λb ob q _=>⟨ob,k b ob q⟩,λ_ _ q=>q,λ_ _ _ q=>q,λ_ ps q=>⟨#[],by rw[q];simp⟩⟩
theorem Un.refl:Un fs ex H H h h:=Un.kept λ_ _ q=>q
theorem Un.laid (k:∀b u,h.get? b=some u->h'.get? b=some u)(hp:h.objs.size<=a)(hn:H a=none):Un fs ex H (upd H a o) h h' where
 keep:=λb u q _ _ _=>k b u q
 slot:=λb u q _ _ _=>⟨u.slots,k b u q⟩
 free:=λb u q n _=>by rw[Ag (C4 (Cv (Bq q) hp))];exact n
 there:=λb u q _=>⟨u,k b u q⟩
 tups:=λb xs q=>by rw[Ag (Av q hn)];exact q
 frzs:=λb u xs q=>by rw[Ag (Av q hn)];exact q
 tbls:=λb ps q=>⟨#[],by rw[Ag (Av q hn),q];simp⟩
theorem Un.write (mu:KN (H x))(he:e=x\/H e=some (.own x))(k:∀b u,b≠e->h.get? b=some u->h'.get? b=some u)(heo:∃u,h'.get? e=some u):Un fs ex H (upd H x o) h h':=by
 have hx:∀b,H b=none->b≠x:=λb n z=>by subst z;rw[n]at mu;exact mu
 have hb:∀b,H b=none->b≠e:=λb n z=>by
  subst z;rcases he with r|r
  .exact hx b n r
  .rw[n]at r;cases r
 have hm:∀b u,H b=some u->¬KN (some u)->b≠x:=λb u q nm z=>by subst z;rw[q]at mu;exact nm mu
 refine⟨λb u q n _ _=>k b u (hb b n) q,λb u q n _ _=>⟨u.slots,k b u (hb b n) q⟩,λb u q n _=>by rw[Ag (hx b n)];exact n,λb u q _=>?_,
  λb xs q=>by rw[Ag (hm b _ q λz=>z)];exact q,λb u xs q=>by rw[Ag (hm b _ q λz=>z)];exact q,λb ps q=>⟨#[],by rw[Ag (hm b _ q λz=>z),q];simp⟩⟩
 by_cases hbe:b=e
 .subst hbe;exact heo
 .exact⟨u,k b u hbe q⟩
end
def M0 (h:Heap)(H:Hp):List Addr:=(List.range h.objs.size).filter λa=>(H a).isSome
def FK (h:Heap)(H:Hp):Heap:=PySem.W.hideAll h (M0 h H)
theorem UP (h:Heap)(H:Hp):(FK h H).objs.size=h.objs.size:=PySem.W.hideAll_size _ _
theorem UT {h:Heap}{H:Hp}{b:Addr}{o:Obj}(e:h.get? b=some o)(n:H b=none):(FK h H).get? b=some o:=
 PySem.W.hideAll_get _ e λhm=>by
  have q:(H b).isSome=true:=(Os.mp hm).2;rw[n]at q;simp at q
theorem X1 {h:Heap}{H:Hp}{b:Addr}{o:Obj}(e:(FK h H).get? b=some o):h.get? b=some o/\H b=none:=by
 have e':h.get? b=some o:=PySem.W.of_hideAll (M0 h H) e;refine⟨e',?_⟩;cases q:H b with
 |none=>rfl
 |
  some x=>
  have hm:b∈M0 h H:=Os.mpr ⟨DA.mpr (Bq e'),by simp[q]⟩;have z:(FK h H).get? b=none:=PySem.W.hideAll_none (M0 h H) hm;rw[z]at e;cases e
structure Mod (K:Faa)(mg:Str->Option Value)(base:Heap):Prop where
 kin:K.In base
 glob:base.Ns mainGlobals mg
 blt:∃mb,base.Ns builtinsNs mb/\∀x:Str,x≠"__name__"->mb x=bootBuiltins x
 nolimit:base.NoLimit
structure Cx where
 prog:Program
 w:World
 K:Faa
 mg:Str->Option Value
 base:Heap
 A:Around
 N:List Str
 s₀:Shared
 H₀:Hp
 env:Env
 outer:List Env
 stack:List Env
 ex:List Addr
 fn:Str->Bool
 calm:Bool
 pn:List (Addr×Obj)
 xe:Value->Shared->Prop
def Eh (l:List Env):List Addr:=l.filterMap (·.frame)
abbrev Cx.fs (X:Cx):List Addr:=Eh X.outer
def J3 (sc:Scope)(x:Str):Prop:=sc.names.lookup x=some .local\/sc.names.lookup x=some .cell\/sc.names.lookup x=some .free
def HH (sc:Scope)(x:Str):Prop:=sc.names.lookup x=some .local\/sc.names.lookup x=some .cell
def Wc (env:Env)(h:Heap)(m:Str->Option Value)(x:Str)(u:Value):Prop:=
 (env.kindOf x=some .local/\m x=some u)\/((env.kindOf x=some .cell\/env.kindOf x=some .free)/\∃c,env.cells.lookup x=some c/\h.IsCell c (some u))
structure Cx.Ok (X:Cx):Prop where
 mod:Mod X.K X.mg X.base
 kind:X.env.scope.kind = .function
 glob:X.env.globals=mainGlobals
 blt:X.env.builtins=builtinsNs
 above:X.s₀.heap.objs.size<=X.env.locals
 inj:∀x y c,X.env.cells.lookup x=some c->X.env.cells.lookup y=some c->x=y
 has:∀x,(X.env.kindOf x=some .cell\/X.env.kindOf x=some .free)->∃c,X.env.cells.lookup x=some c
 cab:∀x c,X.fn x=true->X.env.cells.lookup x=some c->X.s₀.heap.objs.size<=c
 hd:X.calm=true->X.A.handled=none
 frames:X.A.frames=some X.stack
 stk:X.stack=X.outer\/(X.stack=X.env::X.outer/\X.env.frame=some X.env.locals)
 exf:∀b∈X.ex,b≠X.env.locals/\∀x c,X.env.cells.lookup x=some c->c≠b
 bs:∀b o,X.base.get? b=some o->X.s₀.heap.get? b=some o/\X.H₀ b=none
 bsz:X.base.objs.size<=X.s₀.heap.objs.size
 noex:∀b o,X.base.get? b=some o->b∉X.ex
 exfs:∀b∈X.ex,b∉X.fs
 funs:X.s₀.heap.FunFrames X.base X.outer
 frf:∀b∈X.fs,X.H₀ b=none
structure A5 (X:Cx)(pins:List (Addr×Obj))(σ:List (Option V))(H:Hp)(s:Shared):Prop where
 ok:X.Ok
 os:s.os=X.s₀.os
 bare:AllBare s.gens
 base:Un X.fs X.ex X.H₀ H X.s₀.heap s.heap
 loc:∃m,s.heap.Ns X.env.locals m/\∀(i:Nat) (x:Str) (v:V),X.N[i]?=some x->σ[i]?=some (some v)->J3 X.env.scope x->∃u,AG v u/\Wc X.env s.heap m x u
 cell:∀x c,X.env.cells.lookup x=some c->∃v,s.heap.IsCell c v
 free:H X.env.locals=none
 freeC:∀x c,X.env.cells.lookup x=some c->H c=none
 pin:∀p∈X.pn++pins,s.heap.get? p.1=some p.2/\H p.1=none/\p.1≠X.env.locals/\p.1∉X.fs/\∀v,p.2.data≠.cell v
 hok:Cc X.prog X.w H s.heap
 len:σ.length=X.N.length
section
variable {X:Cx}{pins:List (Addr×Obj)}{σ:List (Option V)}{H H':Hp}{s:Shared}{h':Heap}
theorem Cx.Ok.nofr (ok:X.Ok){b:Addr}{o:Obj}(e:X.base.get? b=some o):b∉X.fs:=λhb=>by
 have:=(ok.funs.mem hb).1;rw[e]at this;cases this
theorem A5.bs (I:A5 X pins σ H s):∀b o,X.base.get? b=some o->s.heap.get? b=some o/\H b=none:=λb o e=>
 ⟨I.base.keep b o (I.ok.bs b o e).1 (I.ok.bs b o e).2 (I.ok.nofr e) (I.ok.noex b o e),I.base.free b o (I.ok.bs b o e).1 (I.ok.bs b o e).2 (I.ok.noex b o e)⟩
theorem A5.bk (I:A5 X pins σ H s):∀b o,X.base.get? b=some o->s.heap.get? b=some o:=λb o e=>(I.bs b o e).1
theorem A5.mod (I:A5 X pins σ H s):Mod X.K X.mg X.base:=I.ok.mod
theorem A5.kIn (I:A5 X pins σ H s):X.K.In s.heap:=I.ok.mod.kin.keeps I.bk
theorem A5.lt (I:A5 X pins σ H s):X.env.locals<s.heap.objs.size:=by obtain⟨_,hn,_⟩:=I.loc;exact hn.lt
theorem A5.sz (I:A5 X pins σ H s):X.s₀.heap.objs.size<=s.heap.objs.size:=Ex I.ok.above (Ff I.lt)
theorem A5.nofs (I:A5 X pins σ H s){a:Addr}(h:s.heap.objs.size<=a):a∉X.fs:=λhb=>by
 obtain⟨_,o,ho,_⟩:=I.ok.funs.mem hb;exact absurd (Cv (Bq ho) (Ex I.sz h)) (Ea _)
theorem A5.cne (I:A5 X pins σ H s):∀x c,X.env.cells.lookup x=some c->c≠X.env.locals:=λx c e z=>by
 obtain⟨v,o,ho,hd⟩:=I.cell x c e;obtain⟨m,⟨o',es,ep,ho',hd',_⟩,_⟩:=I.loc;rw[z,ho']at ho;cases ho;rw[hd']at hd;cases hd
theorem A5.funs (I:A5 X pins σ H s):s.heap.FunFrames X.base X.outer:=by
 have all:∀(l:List Env),(∀b∈Eh l,b∈X.fs)->X.s₀.heap.FunFrames X.base l->s.heap.FunFrames X.base l:=by
  intro l;induction l with
  |nil=>intro _ _;trivial
  |
   cons env r ih=>
   intro hs hl;obtain⟨hk,⟨L,o,hf,hn,ho,hd⟩,hr⟩:=hl;have hL:L∈X.fs:=hs L (by unfold Eh;rw[SE,hf];exact C7);obtain⟨sl,e⟩:=I.base.slot L o ho (I.ok.frf L hL) hL λz=>I.ok.exfs L z hL;exact⟨hk,⟨L,_,hf,hn,e,hd⟩,ih (λb hb=>hs b (by unfold Eh;rw[SE,hf];exact Ce _ hb)) hr⟩
 exact all X.outer (λ_ hb=>hb) I.ok.funs
theorem A5.stack (I:A5 X pins σ H s):s.heap.FunFrames X.base X.stack:=by
 rcases I.ok.stk with e|⟨e,hf⟩
 .rw[e];exact I.funs
 .rw[e];obtain⟨m,hn,_⟩:=I.loc;refine .cons (by rw[I.ok.kind];decide) hf hn ?_ I.funs;exact Heap.get?_none_of_le (Ex I.ok.bsz I.ok.above)
theorem A5.stkSub (I:A5 X pins σ H s):∀b∈Eh X.stack,b∈X.env.locals::X.fs:=λb hb=>by
 rcases I.ok.stk with e|⟨e,hf⟩
 .rw[e]at hb;exact Ce _ hb
 .rw[e]at hb;unfold Eh at hb;rw[SE,hf]at hb;exact hb
theorem A5.stkFree (I:A5 X pins σ H s):∀b∈Eh X.stack,H b=none:=λb hb=>by
 rcases Bb.mp (I.stkSub b hb) with e|hb
 .rw[e];exact I.free
 .obtain⟨_,o,ho,_⟩:=I.ok.funs.mem hb;exact I.base.free b o ho (I.ok.frf b hb) λz=>I.ok.exfs b z hb
theorem A5.step {g':Array GenState}{t':Nat}{d':Drawn}{ch:List Addr}(I:A5 X pins σ H s)
  (hch:∀b∈ch,(b∈X.ex\/X.s₀.heap.objs.size<=b)/\b≠X.env.locals/\(∀x c,X.env.cells.lookup x=some c->c≠b)/\∀p∈X.pn++pins,p.1≠b)
  (keep:∀b o,b≠X.env.locals->b∉X.fs->b∉ch->s.heap.get? b=some o->H b=none->h'.get? b=some o)
  (slot:∀b o,b≠X.env.locals->b∈X.fs->b∉ch->s.heap.get? b=some o->H b=none->∃sl,h'.get? b=some {o with slots:=sl}) (free:∀b o,b∉ch->s.heap.get? b=some o->H b=none->H' b=none)
  (there:∀b o,b∉ch->s.heap.get? b=some o->∃o',h'.get? b=some o')
  (tups:∀b xs,H b=some (.tup xs)->H' b=some (.tup xs)) (frzs:∀b o u,H b=some (.frz o u)->H' b=some (.frz o u)) (tbls:∀b ps,H b=some (.tbl ps)->∃more,H' b=some (.tbl (ps++more)))
  (ns:∀m,s.heap.Ns X.env.locals m->h'.Ns X.env.locals m) (hok:Cc X.prog X.w H' h') (hg:AllBare g') :
  A5 X pins σ H' {s with heap:=h',gens:=g',drawn:=d',toks:=t'}:=by
 have neL:∀b o,X.s₀.heap.get? b=some o->b≠X.env.locals:=λb o e=>C4 (Cv (Bq e) I.ok.above);have neC:∀b o,X.s₀.heap.get? b=some o->b∉X.ex->b∉ch:=λb o e hx hb=>by
  rcases(hch b hb).1 with z|z
  .exact hx z
  .exact absurd (Cv (Bq e) z) (Ea _)
 have cellK:∀x c,X.env.cells.lookup x=some c->∀v,s.heap.IsCell c v->h'.IsCell c v:=λx c e v ⟨o,ho,hd⟩=>by
  have nch:c∉ch:=λz=>(hch c z).2.2.1 x c e rfl;by_cases hc:c∈X.fs
  .obtain⟨sl,q⟩:=slot c o (I.cne x c e) hc nch ho (I.freeC x c e);exact⟨_,q,hd⟩
  .exact⟨o,keep c o (I.cne x c e) hc nch ho (I.freeC x c e),hd⟩
 refine⟨I.ok,I.os,hg,⟨λb o e n hb hx=>?_,λb o e n hb hx=>?_,λb o e n hx=>?_,λb o e hx=>?_,λb xs e=>tups b xs (I.base.tups b xs e),λb o xs e=>frzs b o xs (I.base.frzs b o xs e),λb ps e=>?_⟩,?_,λx c e=>?_,?_,λx c e=>?_,λp hp=>?_,hok,I.len⟩
 .exact keep b o (neL b o e) hb (neC b o e hx) (I.base.keep b o e n hb hx) (I.base.free b o e n hx)
 .obtain⟨sl,e1⟩:=I.base.slot b o e n hb hx;obtain⟨sl',e2⟩:=slot b _ (neL b o e) hb (neC b o e hx) e1 (I.base.free b o e n hx);exact⟨sl',e2⟩
 .obtain⟨o',e1⟩:=I.base.there b o e hx;exact free b o' (neC b o e hx) e1 (I.base.free b o e n hx)
 .obtain⟨o',e1⟩:=I.base.there b o e hx;exact there b o' (neC b o e hx) e1
 .obtain⟨m1,e1⟩:=I.base.tbls b ps e;obtain⟨m2,e2⟩:=tbls b _ e1;exact⟨m1++m2,by rw[e2,Array.append_assoc]⟩
 .obtain⟨m,hn,hl⟩:=I.loc;refine⟨m,ns m hn,λi x v e1 e2 e3=>?_⟩;obtain⟨u,r,l⟩:=hl i x v e1 e2 e3;refine⟨u,r,?_⟩;rcases l with l|⟨k,c,e,z⟩
  .exact .inl l
  .exact .inr ⟨k,c,e,cellK x c e _ z⟩
 .obtain⟨v,z⟩:=I.cell x c e;exact⟨v,cellK x c e v z⟩
 .obtain⟨m,⟨o,_,_,ho,_⟩,_⟩:=I.loc;exact free _ o (λz=>(hch _ z).2.1 rfl) ho I.free
 .obtain⟨v,o,ho,hd⟩:=I.cell x c e;exact free c o (λz=>(hch c z).2.2.1 x c e rfl) ho (I.freeC x c e)
 .obtain⟨e,n,ne,nf,d⟩:=I.pin p hp;have nch:p.1∉ch:=λz=>(hch p.1 z).2.2.2 p hp rfl;exact⟨keep p.1 p.2 ne nf nch e n,free p.1 p.2 nch e n,ne,nf,d⟩
theorem A5.un {t':Nat}(I:A5 X pins σ H s)(u:Un X.fs [] H H' s.heap h')(hok:Cc X.prog X.w H' h'):A5 X pins σ H' {s with heap:=h',toks:=t'}:=by
 obtain⟨m,⟨o,es,ep,ho,r⟩,_⟩:=id I.loc;obtain⟨sl,hL⟩:=u.any ho I.free (by simp);exact I.step (g':=s.gens) (d':=s.drawn) (ch:=[]) (λ_ z=>nomatch z) (λb o _ hb _ e n=>u.keep b o e n hb (by simp)) (λb o _ hb _ e n=>u.slot b o e n hb (by simp)) (λb o _ e n=>u.free b o e n (by simp)) (λb o _ e=>u.there b o e (by simp)) u.tups u.frzs u.tbls (λm' hm=>by
  obtain⟨o',es',ep',ho',r'⟩:=hm;rw[ho]at ho';cases ho';exact⟨_,es',ep',hL,r'⟩) hok I.bare
theorem A5.call {g':Array GenState}{t':Nat}{d':Drawn}{ch:List Addr}(I:A5 X pins σ H s)(u:Un (Eh X.stack) ch H H' s.heap h')(hok:Cc X.prog X.w H' h')(hg:AllBare g')
  (hch:∀b∈ch,(b∈X.ex\/X.s₀.heap.objs.size<=b)/\b≠X.env.locals/\(∀x c,X.env.cells.lookup x=some c->c≠b)/\∀p∈X.pn++pins,p.1≠b) :
  A5 X pins σ H' {s with heap:=h',gens:=g',drawn:=d',toks:=t'}:=by
 obtain⟨m,⟨o,es,ep,ho,r⟩,_⟩:=id I.loc;obtain⟨sl,hL⟩:=u.any ho I.free λz=>(hch _ z).2.1 rfl;exact I.step (ch:=ch) hch (λb o hL hb hc e n=>u.keep b o e n (λz=>(Bb.mp (I.stkSub b z)).elim hL hb) hc) (λb o _ _ hc e n=>u.any e n hc) (λb o hc e n=>u.free b o e n hc) (λb o hc e=>u.there b o e hc) u.tups u.frzs u.tbls (λm' hm=>by
  obtain⟨o',es',ep',ho',r'⟩:=hm;rw[ho]at ho';cases ho';exact⟨_,es',ep',hL,r'⟩) hok hg
theorem A5.turned {t':Nat}{it:Addr}(I:A5 X pins σ H s)(k:∀b o,b≠it->s.heap.get? b=some o->h'.get? b=some o)(hn:H it=none)(hL:it≠X.env.locals)
  (h1:it∈X.ex\/X.s₀.heap.objs.size<=it) (h2:∀x c,X.env.cells.lookup x=some c->c≠it) (h3:∀p∈X.pn++pins,p.1≠it):A5 X pins σ H {s with heap:=h',toks:=t'}:=by
 have nit:∀b u,H b=some u->b≠it:=λb u e z=>by rw[z,hn]at e;cases e
 refine I.step (g':=s.gens) (d':=s.drawn) (ch:=[it]) (λb hb=>?_) (λb o _ _ hc e _=>k b o (λz=>hc (by simp[z])) e) (λb o _ _ hc e _=>⟨o.slots,k b o (λz=>hc (by simp[z])) e⟩) (λ_ _ _ _ n=>n)
  (λb o hc e=>⟨o,k b o (λz=>hc (by simp[z])) e⟩) (λ_ _ e=>e) (λ_ _ _ e=>e) (λb ps e=>⟨#[],by rw[e];simp⟩) (λm hm=>?_) (λb u e=>?_) I.bare
 .have e:b=it:=by simpa using hb
  subst e;exact⟨h1,hL,h2,h3⟩
 .obtain⟨o,es,ep,ho,r⟩:=hm;exact⟨o,es,ep,k _ o (Ne.symm hL) ho,r⟩
 .refine(I.hok b u e).stay (λc v hc q=>k c v ?_ q) (λ_ q=>q) λ_ _ q=>q;rcases hc with z|z
  .rw[z];exact nit b u e
  .exact nit c _ z
theorem A5.tok (I:A5 X pins σ H s)(t:Nat):A5 X pins σ H {s with toks:=t}:=I.un (h':=s.heap) (t':=t) Un.refl I.hok
theorem A5.kept {t':Nat}(I:A5 X pins σ H s)(k:∀b u,s.heap.get? b=some u->h'.get? b=some u):A5 X pins σ H {s with heap:=h',toks:=t'}:=I.un (Un.kept k) (I.hok.kept k)
theorem A5.laid {a:Addr}{o:HO}{t':Nat}(I:A5 X pins σ H s)(k:∀b u,s.heap.get? b=some u->h'.get? b=some u)(hp:s.heap.objs.size<=a)(new:CM X.prog X.w (upd H a o) h' a o) :
 A5 X pins σ (upd H a o) {s with heap:=h',toks:=t'}:=I.un (Un.laid k hp (I.hok.fresh hp)) (I.hok.laid k hp new)
theorem A5.write {x e:Addr}{o:HO}{t':Nat}(I:A5 X pins σ H s)(mu:KN (H x))(he:e=x\/H e=some (.own x))(k:∀b u,b≠e->s.heap.get? b=some u->h'.get? b=some u)(heo:∃u,h'.get? e=some u)
 (new:CM X.prog X.w (upd H x o) h' x o):A5 X pins σ (upd H x o) {s with heap:=h',toks:=t'}:=I.un (Un.write mu he k heo) (I.hok.write mu he k heo new)
theorem A5.weak {σ':List (Option V)}(I:A5 X pins σ H s)(hl:σ'.length=σ.length)(w:∀(i:Nat) v,σ'[i]?=some (some v)->σ[i]?=some (some v)):A5 X pins σ' H s:=
 ⟨I.ok,I.os,I.bare,I.base,let ⟨m,hn,hl'⟩:=I.loc;⟨m,hn,λi x v e1 e2 e3=>hl' i x v e1 (w i v e2) e3⟩,I.cell,I.free,I.freeC,I.pin,I.hok,hl.trans I.len⟩
theorem A5.pins_of {pins':List (Addr×Obj)}(I:A5 X pins σ H s)(h:∀p∈pins',s.heap.get? p.1=some p.2/\H p.1=none/\p.1≠X.env.locals/\p.1∉X.fs/\∀v,p.2.data≠.cell v):A5 X pins' σ H s:=
 ⟨I.ok,I.os,I.bare,I.base,I.loc,I.cell,I.free,I.freeC,λp hp=>(CG.mp hp).elim (λz=>I.pin p (CN _ z)) (h p),I.hok,I.len⟩
theorem Qo {N:List Str}(hN:N.Nodup){i j:Nat}{x:Str}(a:N[i]?=some x)(b:N[j]?=some x):i=j:=by
 obtain⟨h1,e1⟩:=Aw.mp a;obtain⟨h2,e2⟩:=Aw.mp b;exact(List.getElem_inj hN).mp (e1.trans e2.symm)
theorem aC {M:Model}{A:Around}{E:Value->Shared->Prop}{i:Nat}{x:Str}{v:V}{u:Value}{Q:Unit->Shared->Prop}(I:A5 X pins σ H s)(hN:X.N.Nodup)(hi:X.N[i]?=some x)(hx:HH X.env.scope x)(r:AG v u)
  (h:∀s',A5 X pins (σ.set i (some v)) H s'->(∃a,Heap.SameBut a s.heap s'.heap/\(a=X.env.locals\/X.env.cells.lookup x=some a))->Q () s') (hf:X.fn x=true\/X.env.scope.names.lookup x=some .local:=by first|exact .inl rfl|exact .inr rfl|assumption):wpAny M A (storeName X.env x u) Q E s:=by
 obtain⟨m,hn,hl⟩:=id I.loc;have hcls:(X.env.scope.kind == .class||(X.env.scope.kind == .module&&X.env.locals != X.env.globals))=false:=by rw[I.ok.kind];rfl
 have hiσ:i<σ.length:=by rw[I.len];exact(Aw.mp hi).1
 have cne:=I.cne;have tracked:∀{a:Addr} {h':Heap},(∃o,s.heap.get? a=some o/\H a=none)->Heap.SameBut a s.heap h'->Cc X.prog X.w H h':=fun{a h'} ha hs b ob e=>by
  obtain⟨_,_,hfree⟩:=ha;refine(I.hok b ob e).stay (λc w' hc q=>(hs.2 c ?_).trans q) (λ_ q=>q) λ_ _ q=>q;rintro rfl;rcases hc with rfl|hc
  .rw[hfree]at e;cases e
  .rw[hfree]at hc;cases hc
 rcases hx with hk|hk
 .refine wpAny_storeName_local hk hn (λh' hn' hs=>?_) hcls;obtain⟨oL,_,_,hoL,_⟩:=id hn;refine h _ ⟨I.ok,I.os,I.bare,⟨λb o e n hb hx=>?_,λb o e n hb hx=>?_,I.base.free,λb o e hx=>?_,I.base.tups,I.base.frzs,I.base.tbls⟩,⟨_,hn',λj y v' e1 e2 e3=>?_⟩,λy c e=>?_,I.free,I.freeC,λp hp=>?_,tracked ⟨oL,hoL,I.free⟩ hs,by simpa using I.len⟩ ⟨_,hs,.inl rfl⟩
  .exact(hs.2 b (C4 (Cv (Bq e) I.ok.above))).trans (I.base.keep b o e n hb hx)
  .obtain⟨sl,e1⟩:=I.base.slot b o e n hb hx;exact⟨sl,(hs.2 b (C4 (Cv (Bq e) I.ok.above))).trans e1⟩
  .obtain⟨o',e1⟩:=I.base.there b o e hx;exact⟨o',(hs.2 b (C4 (Cv (Bq e) I.ok.above))).trans e1⟩
  .by_cases hj:j=i
   .subst hj;rw[hi]at e1;cases e1;rw[List.getElem?_set_self hiσ]at e2;cases e2;exact⟨u,r,.inl ⟨hk,by simp⟩⟩
   .rw[List.getElem?_set_ne (Ne.symm hj)]at e2;obtain⟨u',r',q⟩:=hl j y v' e1 e2 e3;refine⟨u',r',?_⟩;rcases q with⟨k,e⟩|⟨k,c,e,z⟩
    .refine .inl ⟨k,?_⟩;have:y≠x:=λe=>hj (Qo hN e1 (e▸hi));simp[this,e]
    .exact .inr ⟨k,c,e,z.sameBut hs (cne y c e)⟩
  .obtain⟨w',z⟩:=I.cell y c e;exact⟨w',z.sameBut hs (cne y c e)⟩
  .obtain⟨e,n,ne,nf,d⟩:=I.pin p hp;exact⟨(hs.2 p.1 ne).trans e,n,ne,nf,d⟩
 .have hfn:X.fn x=true:=by
   rcases hf with z|z
   .exact z
   .rw[z]at hk;cases hk
  obtain⟨c,hc⟩:=I.ok.has x (.inl hk);obtain⟨w',z⟩:=I.cell x c hc;refine wpAny_storeName_cell I.ok.kind hk hc z (λh' hc' hs=>?_);obtain⟨oc,hoc,hocd⟩:=id z;refine h {s with heap:=h'} ⟨I.ok,I.os,I.bare,⟨λb o e n hb hx=>?_,λb o e n hb hx=>?_,I.base.free,λb o e hx=>?_,I.base.tups,I.base.frzs,I.base.tbls⟩,⟨m,hn.sameBut hs (Ne.symm (cne x c hc)),λj y v' e1 e2 e3=>?_⟩,λy c' e=>?_,I.free,I.freeC,λp hp=>?_,tracked ⟨oc,hoc,I.freeC x c hc⟩ hs,by simpa using I.len⟩ ⟨c,hs,.inr hc⟩
  .exact(hs.2 b (C4 (Cv (Bq e) (I.ok.cab x c hfn hc)))).trans (I.base.keep b o e n hb hx)
  .obtain⟨sl,e1⟩:=I.base.slot b o e n hb hx;exact⟨sl,(hs.2 b (C4 (Cv (Bq e) (I.ok.cab x c hfn hc)))).trans e1⟩
  .obtain⟨o',e1⟩:=I.base.there b o e hx;exact⟨o',(hs.2 b (C4 (Cv (Bq e) (I.ok.cab x c hfn hc)))).trans e1⟩
  .by_cases hj:j=i
   .subst hj;rw[hi]at e1;cases e1;rw[List.getElem?_set_self hiσ]at e2;cases e2;exact⟨u,r,.inr ⟨.inl hk,c,hc,hc'⟩⟩
   .rw[List.getElem?_set_ne (Ne.symm hj)]at e2;obtain⟨u',r',q⟩:=hl j y v' e1 e2 e3;refine⟨u',r',?_⟩;rcases q with q|⟨k,c',e,z'⟩
    .exact .inl q
    .refine .inr ⟨k,c',e,z'.sameBut hs ?_⟩;rintro rfl;exact hj (Qo hN e1 (I.ok.inj _ _ _ e hc▸hi))
  .by_cases hcc:c'=c
   .subst hcc;exact⟨_,hc'⟩
   .obtain⟨w2,z2⟩:=I.cell y c' e;exact⟨w2,z2.sameBut hs hcc⟩
  .obtain⟨e,n,ne,nf,d⟩:=I.pin p hp;refine⟨(hs.2 p.1 ?_).trans e,n,ne,nf,d⟩;intro q;rw[q,hoc]at e;have q':oc=p.2:=Cu e;exact d w' (by rw[←q'];exact hocd)
theorem KG {M:Model}{A:Around}{E:Value->Shared->Prop}{i:Nat}{x:Str}{v:V}{u:Value}{Q:Unit->Shared->Prop}(I:A5 X pins σ H s)(hN:X.N.Nodup)(hi:X.N[i]?=some x)(hx:HH X.env.scope x)(r:AG v u)
  (h:∀s',A5 X pins (σ.set i (some v)) H s'->Q () s') (hf:X.fn x=true\/X.env.scope.names.lookup x=some .local:=by first|exact .inl rfl|exact .inr rfl|assumption):wpAny M A (storeName X.env x u) Q E s:=
 aC I hN hi hx r (λs' I' _=>h s' I') hf
theorem A5.call' {s':Shared}{ch:List Addr}(I:A5 X pins σ H s)(ho:s'.os=s.os)(u:Un (Eh X.stack) ch H H' s.heap s'.heap)(hok:Cc X.prog X.w H' s'.heap)(hg:AllBare s'.gens)
  (hch:∀b∈ch,(b∈X.ex\/X.s₀.heap.objs.size<=b)/\b≠X.env.locals/\(∀x c,X.env.cells.lookup x=some c->c≠b)/\∀p∈X.pn++pins,p.1≠b):A5 X pins σ H' s':=by
 obtain⟨h',g',d',t',o'⟩:=s';have e:o'=s.os:=ho;subst e;exact I.call (g':=g') (t':=t') (d':=d') u hok hg hch
end
abbrev XK:=Value->Option Addr->Hp->Prop
abbrev St:=List (Option V)
abbrev VK:=V->Hp->Prop
abbrev TE:=St->Hp->VK->Prop
abbrev TT:=St->Hp->(Bool->Hp->Prop)->Prop
abbrev TA:=St->Hp->(List V->Hp->Prop)->Prop
structure Do where
 nx:St->Hp->Prop
 rt:VK
 bk:St->Hp->Prop:=λ_ _=>False
 ct:St->Hp->Prop:=λ_ _=>False
abbrev TS:=Do->St->Hp->Prop
def EP (X:Cx)(pins:List (Addr×Obj))(σ:St)(Q:VK)(u:Value)(s':Shared):Prop := ∃v H',A5 X pins σ H' s'/\AG v u/\Q v H'
def TP (X:Cx)(pins:List (Addr×Obj))(σ:St)(Q:Bool->Hp->Prop)(b:Bool)(s':Shared):Prop := ∃H',A5 X pins σ H' s'/\Q b H'
def AP (X:Cx)(pins:List (Addr×Obj))(σ:St)(Q:List V->Hp->Prop)(us:List Value)(s':Shared):Prop := ∃vs H',A5 X pins σ H' s'/\Au vs us/\Q vs H'
def SP (X:Cx)(pins:List (Addr×Obj))(D:Do)(f:Flow)(s':Shared):Prop:=
 match f with
 |.next=>∃σ' H',A5 X pins σ' H' s'/\D.nx σ' H'
 |.brk=>∃σ' H',A5 X pins σ' H' s'/\D.bk σ' H'
 |.cont=>∃σ' H',A5 X pins σ' H' s'/\D.ct σ' H'
 |.ret u=>∃v σ' H',A5 X pins σ' H' s'/\AG v u/\D.rt v H'
def PE (X:Cx)(e:Expr)(t:TE):Prop:=
 ∀(pins:List (Addr×Obj)) (s:Shared) (σ:St) (H:Hp) (Q:VK),A5 X pins σ H s->t σ H Q->wpAny (model X.prog X.w) X.A (eval e X.env) (EP X pins σ Q) X.xe s
def PT (X:Cx)(e:Expr)(t:TT):Prop:=
 ∀(pins:List (Addr×Obj)) (s:Shared) (σ:St) (H:Hp) (Q:Bool->Hp->Prop),A5 X pins σ H s->t σ H Q->wpAny (model X.prog X.w) X.A (isTrue e X.env (eval e X.env)) (TP X pins σ Q) X.xe s
def PW (X:Cx)(e:Expr)(t:TT):Prop:=
 ∀(whole:Sem Value) (pins:List (Addr×Obj)) (s:Shared) (σ:St) (H:Hp) (Q:Bool->Hp->Prop),A5 X pins σ H s->t σ H Q->wpAny (model X.prog X.w) X.A (isTrue e X.env whole) (TP X pins σ Q) X.xe s
theorem PW.pt {X:Cx}{e:Expr}{t:TT}(h:PW X e t):PT X e t:=h _
def PA (X:Cx)(es:List Expr)(t:TA):Prop:=
 ∀(pos:Pos) (pins:List (Addr×Obj)) (s:Shared) (σ:St) (H:Hp) (Q:List V->Hp->Prop),A5 X pins σ H s->t σ H Q->wpAny (model X.prog X.w) X.A (spliced (backTo pos (starEach es X.env))) (AP X pins σ Q) X.xe s
def PS (X:Cx)(st:Stmt)(t:TS):Prop:=
 ∀(pins:List (Addr×Obj)) (s:Shared) (σ:St) (H:Hp) (D:Do),A5 X pins σ H s->t D σ H->wpAny (model X.prog X.w) X.A (exec st X.env) (SP X pins D) X.xe s
def Eg (X:Cx)(st:List Stmt)(t:TS):Prop:=
 ∀(pins:List (Addr×Obj)) (s:Shared) (σ:St) (H:Hp) (D:Do),A5 X pins σ H s->t D σ H->wpAny (model X.prog X.w) X.A (execs st X.env) (SP X pins D) X.xe s
theorem AA {α:Type}{t:Sem α}{Q Q':α->Shared->Prop}{M:Model}{A:Around}{E:Value->Shared->Prop}{s:Shared}(h:wpAny M A t Q E s)(hQ:∀a s,Q a s->Q' a s):wpAny M A t Q' E s:=Ee h hQ λ_ _ x=>x
section
variable {X:Cx}
def O0 (i:Nat):TE:=fun σ H Q=>∃v,σ[i]?=some (some v)/\Q v H
def tC (v:V):TE:=λ_ H Q=>Q v H
theorem bK {i:Nat}{x:Str}{pos:Pos}(hN:X.N[i]?=some x)(hv:J3 X.env.scope x)(hd:(x==("__debug__":Str))=false:=by decide)(hcd:(x==("__classdict__":Str))=false:=by decide):PE X (.Name x pos) (O0 i):=by
 intro pins s σ H Q I h;obtain⟨v,e,h⟩:=h;obtain⟨m,hn,hl⟩:=I.loc;obtain⟨u,r,l⟩:=hl i x v hN e hv;have fin:EP X pins σ Q u s:=⟨v,H,I,r,h⟩
 rcases l with⟨hk,hm⟩|⟨hk,c,hc,hcell⟩
 .exact wpAny_Name (wpAny_loadName_local I.ok.kind hk hn hm fin) hd
 .rcases hk with hk|hk
  .exact wpAny_Name (wpAny_loadName_cell I.ok.kind hk hc hcell fin) hd
  .exact wpAny_Name (wpAny_loadName_free I.ok.kind hk hc hcell fin hcd) hd
theorem A1 {i j pos}:PE X (.Constant (.int i) j pos) (tC (.int i)):=λ_ _ _ H _ I h=>wpAny_Constant_int ⟨.int i,H,I.tok _,⟨_,rfl⟩,h⟩
theorem F5 {b j pos}:PE X (.Constant (.bool b) j pos) (tC (.bl b)):=λ_ _ _ H _ I h=>Constant_bool ⟨.bl b,H,I,rfl,h⟩
theorem EX {j pos}:PE X (.Constant .none j pos) (tC .non):=λ_ _ _ H _ I h=>Constant_none ⟨.non,H,I,rfl,h⟩
theorem BY {x j pos}:PE X (.Constant (.str x) j pos) (tC (.str x)):=λ_ _ _ H _ I h=>Calls.Constant_str ⟨.str x,H,I.tok _,⟨_,rfl⟩,h⟩
def Gl (X:Cx)(x:Str):Prop:=X.env.kindOf x=some .globalImplicit
theorem NF {E:Value->Shared->Prop}{pins:List (Addr×Obj)}{s:Shared}{σ:St}{H:Hp}{x:Str}{u:Value}{pos:Pos}{Q:Value->Shared->Prop}(I:A5 X pins σ H s)(hg:Gl X x)(hm:X.mg x=some u)(h:Q u s)
  (hd:(x==("__debug__":Str))=false:=by decide):wpAny (model X.prog X.w) X.A (eval (.Name x pos) X.env) Q E s:=
 Calls.Name_function_global I.ok.kind hg (Calls.loadGlobal_global (by rw[I.ok.glob];exact I.mod.glob.keeps I.bk) hm h) hd
theorem FY {E:Value->Shared->Prop}{pins:List (Addr×Obj)}{s:Shared}{σ:St}{H:Hp}{x:Str}{u:Value}{pos:Pos}{Q:Value->Shared->Prop}(I:A5 X pins σ H s)(hg:Gl X x)(hm:X.mg x=none)(hv:bootBuiltins x=some u)(h:Q u s)
  (hn:x≠"__name__":=by decide) (hd:(x==("__debug__":Str))=false:=by decide):wpAny (model X.prog X.w) X.A (eval (.Name x pos) X.env) Q E s:=by
 obtain⟨mb,h1,h2⟩:=I.mod.blt;exact Calls.Name_function_global I.ok.kind hg (Calls.loadGlobal_builtin (by rw[I.ok.glob];exact I.mod.glob.keeps I.bk) hm (by rw[I.ok.blt];exact h1.keeps I.bk) ((h2 x hn).trans hv) h) hd
theorem Nb {x:Str}{v:V}{u:Value}{pos:Pos}(hg:Gl X x)(hm:X.mg x=some u)(r:AG v u)(hd:(x==("__debug__":Str))=false:=by decide):PE X (.Name x pos) (tC v):=
 λ_ _ _ H _ I h=>NF I hg hm ⟨v,H,I,r,h⟩ hd
theorem Nd {x:Str}{v:V}{u:Value}{pos:Pos}(hg:Gl X x)(hm:X.mg x=none)(hv:bootBuiltins x=some u)(r:AG v u)(hn:x≠"__name__":=by decide)(hd:(x==("__debug__":Str))=false:=by decide):PE X (.Name x pos) (tC v):=
 λ_ _ _ H _ I h=>FY I hg hm hv ⟨v,H,I,r,h⟩ hn hd
variable {a b:Expr}{ta tb:TE}{pos:Pos}
def tB (t:TE):TT:=fun σ H Q=>t σ H λx H1=>∃c,x = .bl c/\Q c H1
theorem Fl {e:Expr}{t:TE}(h:PE X e t)(he:∀whole,isTrue e X.env whole=(do let v ←whole;standAt e.pos;holding [v] (truthy v)):=by intro _;rfl):PT X e (tB t):=by
 intro pins s σ H Q I hw;refine isTrue_plain (AA (h pins s σ H _ I hw) λv s1 zz=>?_) (he _);obtain⟨x,H1,I1,r1,q1⟩:=zz;obtain⟨d,rfl,q⟩:=q1;cases r1;exact Jo ⟨H1,I1,q⟩
variable {tA tB':TT}{rest:List Expr}
def PK (t u:TT):TT:=fun σ H Q=>t σ H λc H1=>if c=true then u σ H1 Q else Q false H1
def WT (t u:TT):TT:=fun σ H Q=>t σ H λc H1=>if c=true then Q true H1 else u σ H1 Q
def ae (t:TT):TT:=fun σ H Q=>t σ H λc H1=>Q (!c) H1
theorem E7 (ha:PT X a tA):PW X (.BoolOp .And [a] pos) tA:=by
 intro wh pins s σ H Q I h;refine isTrue_and (AA (ha pins s σ H Q I h) λc s1 e=>?_);cases c with
 |true=>exact isTrue_and_nil e
 |false=>exact e
theorem Jb (ha:PT X a tA):PW X (.BoolOp .Or [a] pos) tA:=by
 intro wh pins s σ H Q I h;refine isTrue_or (AA (ha pins s σ H Q I h) λc s1 e=>?_);cases c with
 |false=>exact isTrue_or_nil e
 |true=>exact e
theorem Dy (ha:PT X a tA)(hb:PW X (.BoolOp .And (b::rest) pos) tB'):PW X (.BoolOp .And (a::b::rest) pos) (PK tA tB'):=by
 intro wh pins s σ H Q I h;refine isTrue_and (AA (ha pins s σ H _ I h) λc s1 zz=>?_);obtain⟨H1,I1,q1⟩:=zz;cases c with
 |true=>exact hb wh pins s1 σ H1 Q I1 q1
 |false=>exact⟨H1,I1,q1⟩
theorem FL (ha:PT X a tA)(hb:PW X (.BoolOp .Or (b::rest) pos) tB'):PW X (.BoolOp .Or (a::b::rest) pos) (WT tA tB'):=by
 intro wh pins s σ H Q I h;refine isTrue_or (AA (ha pins s σ H _ I h) λc s1 zz=>?_);obtain⟨H1,I1,q1⟩:=zz;cases c with
 |true=>exact⟨H1,I1,q1⟩
 |false=>exact hb wh pins s1 σ H1 Q I1 q1
theorem Hh (ha:PT X a tA):PT X (.UnaryOp .Not a pos) (ae tA):=by
 intro pins s σ H Q I h;exact isTrue_not (ha pins s σ H (λc H1=>Q (!c) H1) I h)
def bL (ta tb:TE):TE:=fun σ H Q=>ta σ H λx H1=>∃c,x = .bl c/\if c=true then tb σ H1 Q else Q (.bl false) H1
def Z1 (ta tb:TE):TE:=fun σ H Q=>ta σ H λx H1=>∃c,x = .bl c/\if c=true then Q (.bl true) H1 else tb σ H1 Q
theorem L6 {op}{t:TE}(h:PE X a t):PE X (.BoolOp op [a] pos) t:=λpins s σ H Q I hw=>BoolOp_one (h pins s σ H Q I hw)
theorem Kn (ha:PE X a ta)(hb:PE X (.BoolOp .And (b::rest) pos) tb):PE X (.BoolOp .And (a::b::rest) pos) (bL ta tb):=by
 intro pins s σ H Q I h;refine BoolOp_and (AA (ha pins s σ H _ I h) λv s1 zz=>?_);obtain⟨x,H1,I1,r1,q1⟩:=zz;obtain⟨c,rfl,q1⟩:=q1;cases r1;refine Jo ?_;cases c with
 |true=>exact hb pins s1 σ H1 Q I1 q1
 |false=>exact⟨.bl false,H1,I1,rfl,q1⟩
theorem Xt (ha:PE X a ta)(hb:PE X (.BoolOp .Or (b::rest) pos) tb):PE X (.BoolOp .Or (a::b::rest) pos) (Z1 ta tb):=by
 intro pins s σ H Q I h;refine BoolOp_or (AA (ha pins s σ H _ I h) λv s1 zz=>?_);obtain⟨x,H1,I1,r1,q1⟩:=zz;obtain⟨c,rfl,q1⟩:=q1;cases r1;refine Jo ?_;cases c with
 |false=>exact hb pins s1 σ H1 Q I1 q1
 |true=>exact⟨.bl true,H1,I1,rfl,q1⟩
end
def A3 (K:Faa)(H:Hp)(a:Addr)(xs:List V):Prop:=
 Rd H a (.lst xs)\/
  ∃(o:Obj) (its:Array Value) (n:Nat),K.lookup a=some o/\o.cls = .type "list"/\o.dict=none/\o.data = .seq its n/\its.size<=sizeLine/\Au xs its.toList
def A4 (K:Faa)(H:Hp)(a:Addr)(xs:List V):Prop:=
 Rd H a (.tup xs)\/
  ∃(o:Obj) (its:Array Value) (n:Nat),K.lookup a=some o/\o.cls = .type "tuple"/\o.data = .seq its n/\its.size<=sizeLine/\Au xs its.toList
def YS:Value->Option V
 |.none=>some .non
 |.bool b=>some (.bl b)
 |.int i _=>some (.int i)
 |.str x _=>some (.str x)
 |.bytes b _=>some (.byt b)
 |.float b _=>some (.flt b)
 |.ref a=>some (.ref a)
 |.type n=>some (.ty n)
 |_=>none
theorem AG.abs {x:V}{u:Value}(r:AG x u):YS u=some x:=by
 cases x with
 |non=>cases r;rfl
 |bl _=>cases r;rfl
 |int _=>obtain⟨t,rfl⟩:=r;rfl
 |str _=>obtain⟨t,rfl⟩:=r;rfl
 |byt _=>obtain⟨t,rfl⟩:=r;rfl
 |flt _=>obtain⟨t,rfl⟩:=r;rfl
 |ref _=>cases r;rfl
 |ty _=>cases r;rfl
theorem AG.inj {x y:V}{u:Value}(r:AG x u)(q:AG y u):x=y:=Cu (r.abs.symm.trans q.abs)
theorem Au.inj:∀{xs ys:List V} {us:List Value},Au xs us->Au ys us->xs=ys:=by
 intro xs;induction xs with
 |
  nil=>
  intro ys us h k;cases h;cases k;rfl
 |
  cons x xs ih=>
  intro ys us h k;cases h with
  |
   cons r t=>
   cases k with
   |cons r' t'=>rw[r.inj r',ih t t']
section
variable {X:Cx}{pins:List (Addr×Obj)}{σ:St}{H:Hp}{s:Shared}{a:Addr}{xs ys:List V}
theorem A3.of {K:Faa}(h:H a=some (.lst xs)):A3 K H a xs:=.inl (.inl h)
theorem A4.of {K:Faa}(h:H a=some (.tup xs)):A4 K H a xs:=.inl (.inl h)
theorem A5.list (I:A5 X pins σ H s)(h:A3 X.K H a xs):∃its:List Value,Au xs its/\PlainL s.heap a its.toArray/\xs.length<=sizeLine:=by
 rcases h with h|⟨o,its,n,hk,hc,hd,hs,hz,r⟩
 .obtain⟨z,its,n,r,e⟩:=h.ok I.hok;exact⟨its,r,⟨_,n,e,rfl,rfl,rfl⟩,z⟩
 .refine⟨its.toList,r,⟨o,n,I.kIn a o hk,hc,hd,by simpa using hs⟩,?_⟩;have e:=r.length;simp only[SF]at e;lia
theorem A5.tuple (I:A5 X pins σ H s)(h:A4 X.K H a xs):∃its:List Value,Au xs its/\IsTup s.heap a its.toArray/\xs.length<=sizeLine:=by
 rcases h with h|⟨o,its,n,hk,hc,hs,hz,r⟩
 .obtain⟨z,its,r,p⟩:=h.ok I.hok;exact⟨its,r,p.tup,z⟩
 .refine⟨its.toList,r,⟨o,I.kIn a o hk,hc,n,by simpa using hs⟩,?_⟩;have e:=r.length;simp only[SF]at e;lia
theorem A5.list_inj (I:A5 X pins σ H s)(h:A3 X.K H a xs)(h':A3 X.K H a ys):xs=ys:=by
 obtain⟨its,r,⟨o,n,e,_,_,d⟩,_⟩:=I.list h;obtain⟨its',r',⟨o',n',e',_,_,d'⟩,_⟩:=I.list h';rw[e]at e';cases e';rw[d]at d';injection d' with d1 _;have:its=its':=by simpa using congrArg Array.toList d1
 subst this;exact r.inj r'
theorem A5.tuple_inj (I:A5 X pins σ H s)(h:A4 X.K H a xs)(h':A4 X.K H a ys):xs=ys:=by
 obtain⟨its,r,⟨o,e,_,n,d⟩,_⟩:=I.tuple h;obtain⟨its',r',⟨o',e',_,n',d'⟩,_⟩:=I.tuple h';rw[e]at e';cases e';rw[d]at d';injection d' with d1 _;have:its=its':=by simpa using congrArg Array.toList d1
 subst this;exact r.inj r'
end
abbrev Cx.wish (X:Cx)(E:Value->Shared->Prop):Cx:={X with xe:=E}
abbrev Cx.nox (X:Cx):Cx:=X.wish λ_ _=>False
theorem Cx.Ok.wish {X:Cx}(ok:X.Ok)(E:Value->Shared->Prop):(X.wish E).Ok:=
 ⟨ok.mod,ok.kind,ok.glob,ok.blt,ok.above,ok.inj,ok.has,ok.cab,ok.hd,ok.frames,ok.stk,ok.exf,ok.bs,ok.bsz,ok.noex,ok.exfs,ok.funs,ok.frf⟩
theorem Cx.Ok.unwish {X:Cx}{E:Value->Shared->Prop}(ok:(X.wish E).Ok):X.Ok:=
 ⟨ok.mod,ok.kind,ok.glob,ok.blt,ok.above,ok.inj,ok.has,ok.cab,ok.hd,ok.frames,ok.stk,ok.exf,ok.bs,ok.bsz,ok.noex,ok.exfs,ok.funs,ok.frf⟩
section
variable {X:Cx}{pins:List (Addr×Obj)}{σ:St}{H:Hp}{s:Shared}{E:Value->Shared->Prop}
theorem A5.wish (I:A5 X pins σ H s)(E:Value->Shared->Prop):A5 (X.wish E) pins σ H s:=⟨I.ok.wish E,I.os,I.bare,I.base,I.loc,I.cell,I.free,I.freeC,I.pin,I.hok,I.len⟩
theorem A5.unwish (I:A5 (X.wish E) pins σ H s):A5 X pins σ H s:=⟨I.ok.unwish,I.os,I.bare,I.base,I.loc,I.cell,I.free,I.freeC,I.pin,I.hok,I.len⟩
theorem SP.unwish {D:Do}{f:Flow}{s':Shared}(h:SP (X.wish E) pins D f s'):SP X pins D f s':=by
 cases f with
 |next=>obtain⟨σ',H',I,q⟩:=h;exact⟨σ',H',I.unwish,q⟩
 |brk=>obtain⟨σ',H',I,q⟩:=h;exact⟨σ',H',I.unwish,q⟩
 |cont=>obtain⟨σ',H',I,q⟩:=h;exact⟨σ',H',I.unwish,q⟩
 |ret u=>obtain⟨v,σ',H',I,r,q⟩:=h;exact⟨v,σ',H',I.unwish,r,q⟩
theorem Eg.nox {st:List Stmt}{t:TS}(h:Eg X.nox st t):Eg X st t:=λpins s σ H D I hw=>
 Ee (h pins s σ H D (I.wish _) hw) (λ_ _ q=>q.unwish) λ_ _ z=>False.elim z
end
section
variable {X:Cx}{st:Stmt}{rest:List Stmt}{t u:TS}{e:Expr}{te:TE}{pos:Pos}
def K6:TS:=λD σ H=>D.nx σ H
def FF (t u:TS):TS:=λD σ H=>t {D with nx:=u D} σ H
theorem BW:Eg X [] K6:=λ_ _ σ H _ I h=>OT ⟨σ,H,I,h⟩
theorem A9 (h1:PS X st t)(h2:Eg X rest u):Eg X (st::rest) (FF t u):=by
 intro pins s σ H D I h;refine wpAny_execs_cons (AA (h1 pins s σ H {D with nx:=u D} I h) λf s1 q=>?_);cases f with
 |
  next=>
  obtain⟨σ',H',I',q⟩:=q;exact h2 pins s1 σ' H' D I' q
 |ret v=>exact q
 |brk=>exact q
 |cont=>exact q
theorem Ae (h1:PS X st t):Eg X [st] t:=by
 intro pins s σ H D I h;refine wpAny_execs_cons (AA (h1 pins s σ H D I h) λf s1 q=>?_);cases f with
 |next=>exact OT q
 |ret v=>exact q
 |brk=>exact q
 |cont=>exact q
theorem A5.quiet {pins:List (Addr×Obj)}{σ:St}{H:Hp}{s:Shared}(I:A5 X pins σ H s):interactive X.env=false:=by simp[interactive,I.ok.kind]
def UI (te:TE):TS:=λD σ H=>te σ H λ_ H1=>D.nx σ H1
theorem Br (he:PE X e te)(hs:swapsWith e none pos.line X.env=pure false:=by rfl):PS X (.Expr e pos) (UI te):=by
 intro pins s σ H D I h;refine wpAny_Expr_any (AA (he pins s σ H _ I h) λv s1 zz=>?_) I.quiet hs;obtain⟨x,H1,I1,r1,q1⟩:=zz;exact⟨σ,H1,I1,q1⟩
def NB (te:TE):TS:=λD σ H=>te σ H D.rt
theorem AH (he:PE X e te):PS X (.Return (some e) pos) (NB te):=by
 intro pins s σ H D I h;refine wpAny_Return_some (AA (he pins s σ H _ I h) λv s1 zz=>?_);obtain⟨x,H1,I1,r1,q1⟩:=zz;exact⟨x,σ,H1,I1,r1,q1⟩
def GE (c:TT)(t u:TS):TS:=λD σ H=>c σ H λb H1=>if b=true then t D σ H1 else u D σ H1
theorem Bx {c:Expr}{a b:List Stmt}{tc:TT}(hc:PT X c tc)(ha:Eg X a t)(hb:Eg X b u):PS X (.If c a b pos) (GE tc t u):=by
 intro pins s σ H D I h;refine wpAny_If (AA (hc pins s σ H _ I h) λd s1 zz=>?_);obtain⟨H1,I1,q1⟩:=zz;cases d with
 |true=>exact ha pins s1 σ H1 D I1 q1
 |false=>exact hb pins s1 σ H1 D I1 q1
def V7:TS:=λ_ _ _=>False
theorem Q9:PS X st V7:=λ_ _ _ _ _ _ h=>h.elim
end
abbrev TG:=V->St->Hp->(St->Hp->Prop)->Prop
abbrev G9:=List V->St->Hp->(St->Hp->Prop)->Prop
def PG (X:Cx)(target:Expr)(t:TG):Prop:=
 ∀(pins:List (Addr×Obj)) (s:Shared) (σ:St) (H:Hp) (v:V) (u:Value) (Q:St->Hp->Prop),A5 X pins σ H s->AG v u->t v σ H Q->
  wpAny (model X.prog X.w) X.A (assign target X.env u) (λ_ s'=>∃σ' H',A5 X pins σ' H' s'/\Q σ' H') X.xe s
def Jg (X:Cx)(ts:List Expr)(t:G9):Prop:=
 ∀(pins:List (Addr×Obj)) (s:Shared) (σ:St) (H:Hp) (vs:List V) (us:List Value) (Q:St->Hp->Prop),A5 X pins σ H s->Au vs us->t vs σ H Q->
  wpAny (model X.prog X.w) X.A (assignInOrder ((assignEach ts X.env).map (·.2)) us) (λ_ s'=>∃σ' H',A5 X pins σ' H' s'/\Q σ' H') X.xe s
abbrev O7:=V->V->V->Hp->(Hp->Prop)->Prop
def Rq (X:Cx)(t:O7):Prop:=
 ∀(pins:List (Addr×Obj)) (s:Shared) (σ:St) (H:Hp) (o i v:V) (ov iv u:Value) (Q:Hp->Prop),A5 X pins σ H s->AG o ov->AG i iv->AG v u->t o i v H Q->
  wpAny (model X.prog X.w) X.A (setItem ov iv u) (λ_ s'=>∃H',A5 X pins σ H' s'/\Q H') X.xe s
abbrev Ms:=V->V->Hp->VK->Prop
def Rf (X:Cx)(op:Operator)(t:Ms):Prop:=
 ∀(pins:List (Addr×Obj)) (s:Shared) (σ:St) (H:Hp) (x y:V) (v u:Value) (Q:VK),A5 X pins σ H s->AG x v->AG y u->t x y H Q->
  wpAny (model X.prog X.w) X.A (inplaceOp op v u) (EP X pins σ Q) X.xe s
section
variable {X:Cx}{pos:Pos}
def Aq (i:Nat):TG:=λv σ H Q=>Q (σ.set i (some v)) H
theorem Az {i:Nat}{x:Str}(hN:X.N.Nodup)(hi:X.N[i]?=some x)(hx:HH X.env.scope x)(hf:X.fn x=true\/X.env.scope.names.lookup x=some .local:=by first|exact .inl rfl|exact .inr rfl|assumption):PG X (.Name x pos) (Aq i):=by
 intro pins s σ H v u Q I r h;exact wpAny_assign_Name (KG I hN hi hx r (λs' I'=>⟨_,H,I',h⟩) hf)
def WK:G9:=λvs σ H Q=>vs=[]/\Q σ H
def Vh (t:TG)(u:G9):G9:=λvs σ H Q=>∃v r,vs=v::r/\t v σ H fun σ' H'=>u r σ' H' Q
theorem D4:Jg X [] WK:=by
 intro pins s σ H vs us Q I r h;obtain⟨e,h⟩:=h;subst e;cases r;exact assignInOrder_nil ⟨σ,H,I,h⟩
theorem Np {e:Expr}{es:List Expr}{t:TG}{u:G9}(h1:PG X e t)(h2:Jg X es u)
  (hs:(assignEach (e::es) X.env).map (·.2)=assign e X.env::(assignEach es X.env).map (·.2):=by rfl):Jg X (e::es) (Vh t u):=by
 intro pins s σ H vs us Q I r h;obtain⟨v,vr,e1,h⟩:=h;subst e1;cases r with
 |
  cons r rr=>
  rw[hs];refine assignInOrder_cons (AA (h1 pins s σ H _ _ _ I r h) λ_ s1 zz=>?_);obtain⟨σ1,H1,I1,q1⟩:=zz;exact h2 pins s1 σ1 H1 _ _ Q I1 rr q1
def JI (K:Faa)(n:Nat)(t:G9):TG:=λv σ H Q=>∃a xs,v = .ref a/\A4 K H a xs/\xs.length=n/\t xs σ H Q
theorem CZ {es:List Expr}{k:Nat}{t:G9}{n:Nat}(hc:X.calm=true)(h:Jg X es t)
  (hn:(assignEach es X.env).length=n:=by rfl) (hst:(assignEach es X.env).findIdx? (·.1)=none:=by rfl):PG X (.Tuple es k pos) (JI X.K n t):=by
 intro pins s σ H v u Q I r hw;obtain⟨a,xs,e1,hq,hl,hw⟩:=hw;subst e1;cases r;obtain⟨its,rv,ht,hz⟩:=I.tuple hq;refine assign_Tuple_tuple (I.ok.hd hc) ht (by simp[hn,←hl,rv.length]) hst λh' hx=>?_;have I1:A5 X pins σ H {s with heap:=h'}:=I.kept (t':=s.toks) λb o e=>hx b o (C4 (Bq e)) e;exact h pins _ σ H xs _ Q I1 (by simpa using rv) hw
def Uq (to ti:TE)(t:O7):TG:=λv σ H Q=>to σ H λo H1=>ti σ H1 λi H2=>t o i v H2 λH3=>Q σ H3
theorem K0 {o i:Expr}{to ti:TE}{t:O7}(ho:PE X o to)(hi:PE X i ti)(hs:Rq X t)
  (ha:∀v,assign (.Subscript o i pos) X.env v=(do
   let ov ←holding [v] (eval o X.env);let iv ←holding [v,ov] (eval i X.env)
   standAt pos
   holding [v,ov,iv] (setItem ov iv v)
   release [v,ov,iv] []):=by intro _;rfl):PG X (.Subscript o i pos) (Uq to ti t):=by
 intro pins s σ H v u Q I r h;rw[ha];refine As (KC (AA (ho pins s σ H _ I h) λov s1 zz=>?_));obtain⟨x,H1,I1,r1,q1⟩:=zz;refine As (KC (AA (hi pins s1 σ H1 _ I1 q1) λiv s2 zz=>?_));obtain⟨y,H2,I2,r2,q2⟩:=zz;refine As (wpAny_standAt (As (KC (AA (hs pins s2 σ H2 x y v ov iv u _ I2 r1 r2 r q2) λ_ s3 zz=>?_))));obtain⟨H3,I3,q3⟩:=zz;exact wpAny_release ⟨σ,H3,I3,q3⟩
def Jt (te:TE)(g:TG):TS:=λD σ H=>te σ H λx H1=>g x σ H1 D.nx
theorem Jx {tg e:Expr}{te:TE}{g:TG}(he:PE X e te)(hg:PG X tg g)(hs:swapsWithSole [tg] e pos.line X.env=pure false:=by rfl)(hw:swappedStores [tg] e X.env=pure none:=by rfl)
  (h1:(assignEach [tg] X.env).map (·.2)=[assign tg X.env]:=by rfl):PS X (.Assign [tg] e pos) (Jt te g):=by
 intro pins s σ H D I h;refine wpAny_Assign_stores (AA (he pins s σ H _ I h) λv s1 zz=>?_) hs hw;obtain⟨x,H1,I1,r1,q1⟩:=zz;rw[h1];exact AA (hg pins s1 σ H1 x v _ I1 r1 q1) λ_ s2 q=>q
theorem Ao {i:Nat}{x:Str}{e:Expr}{te:TE}{pos':Pos}(hN:X.N.Nodup)(hi:X.N[i]?=some x)(hx:HH X.env.scope x)(he:PE X e te)(hs:swapsWith e (some (.Name x pos')) pos.line X.env=pure false:=by rfl)(hf:X.fn x=true\/X.env.scope.names.lookup x=some .local:=by first|exact .inl rfl|exact .inr rfl|assumption) :
  PS X (.Assign [.Name x pos'] e pos) (Jt te (Aq i)):=by
 intro pins s σ H D I h;refine wpAny_Assign_Name (AA (he pins s σ H _ I h) λv s1 zz=>?_) hs;obtain⟨y,H1,I1,r1,q1⟩:=zz;exact KG I1 hN hi hx r1 (λs2 I2=>⟨_,H1,I2,q1⟩) hf
def YI (i:Nat)(te:TE)(ti:Ms):TS:=λD σ H=>∃x,σ[i]?=some (some x)/\te σ H λy H1=>ti x y H1 λz H2=>D.nx (σ.set i (some z)) H2
theorem U5 {i:Nat}{x:Str}{e:Expr}{te:TE}{op:Operator}{ti:Ms}{pos':Pos}(hN:X.N.Nodup)(hi:X.N[i]?=some x)(hx:HH X.env.scope x)(he:PE X e te)(ho:Rf X op ti)(hf:X.fn x=true\/X.env.scope.names.lookup x=some .local:=by first|exact .inl rfl|exact .inr rfl|assumption) :
  PS X (.AugAssign (.Name x pos') op e pos) (YI i te ti):=by
 intro pins s σ H D I h;obtain⟨v,e1,h⟩:=h;obtain⟨m,hn,hl⟩:=I.loc;have vis:J3 X.env.scope x:=by rcases hx with k|k;exact .inl k;exact .inr (.inl k)
 obtain⟨u,r,l⟩:=hl i x v hi e1 vis;refine wpAny_AugAssign_Name ?_;have go:wpAny (model X.prog X.w) X.A (eval e X.env) (λw s₂=>wpAny (model X.prog X.w) X.A (inplaceOp op u w) (λr s₃=>wpAny (model X.prog X.w) X.A (storeName X.env x r) (λ_=>SP X pins D .next) X.xe s₃) X.xe s₂) X.xe s:=by
  refine AA (he pins s σ H _ I h) λw s1 zz=>?_;obtain⟨y,H1,I1,r1,q1⟩:=zz;refine AA (ho pins s1 σ H1 v y u w _ I1 r r1 q1) λz s2 zz=>?_;obtain⟨zv,H2,I2,r2,q2⟩:=zz;exact KG I2 hN hi hx r2 (λs3 I3=>⟨_,H2,I3,q2⟩) hf
 rcases l with⟨hk,hm⟩|⟨hk,c,hc,hcell⟩
 .exact wpAny_loadName_local I.ok.kind hk hn hm go
 .rcases hk with hk|hk
  .exact wpAny_loadName_cell I.ok.kind hk hc hcell go
  .rcases hx with k|k
   .have:X.env.scope.names.lookup x=some .free:=hk;rw[k]at this;cases this
   .have:X.env.scope.names.lookup x=some .free:=hk;rw[k]at this;cases this
def Tj (f:Int->Int->Int):Ms:=λx y H Q=>∃i j,x = .int i/\y = .int j/\Q (.int (f i j)) H
theorem Yg:Rf X .Add (Tj λi j=>i+j):=by
 intro pins s σ H x y v u Q I r1 r2 h;obtain⟨i,j,e1,e2,q⟩:=h;subst e1;subst e2;obtain⟨t,rfl⟩:=r1;obtain⟨t',rfl⟩:=r2;exact iadd_int ⟨.int _,H,I.tok _,⟨_,rfl⟩,q⟩
end
section
variable {X:Cx}{pos:Pos}
def O5 (c:TT)(tb:TS):TS:=λD σ H=>∃W:Nat->St->Hp->Prop,(∃m,W m σ H)/\∀m σ H,W m σ H->
 c σ H λb H1=>if b=true then ∃N:St->Hp->Prop,(∀σ' H',N σ' H'->∃m',m'<m/\W m' σ' H')/\tb {D with nx:=N,ct:=N,bk:=D.nx} σ H1 else D.nx σ H1
theorem Ko {c:Expr}{body:List Stmt}{tc:TT}{tb:TS}(hp:PassesOwn (model X.prog X.w) X.A X.env X.xe)(hc:PT X c tc)(hb:Eg X body tb):PS X (.While c body [] pos) (O5 tc tb):=by
 intro pins s σ H D I h;obtain⟨W,⟨m0,w0⟩,turn⟩:=h;refine wpAny_While (codeAny_whileLoop (λn s'=>∃σ' H',A5 X pins σ' H' s'/\W n σ' H') ?_ m0 ⟨σ,H,I,w0⟩);rintro n s1 ⟨σ1,H1,I1,w1⟩;refine Jp hp (AA (hc pins s1 σ1 H1 _ I1 (turn n σ1 H1 w1)) λb s2 zz=>?_);obtain⟨H2,I2,q2⟩:=zz;cases b with
 |
  true=>
  obtain⟨N,hN,q2⟩:=q2;rw[Ay rfl];refine Jp hp (AA (hb pins s2 σ1 H2 _ I2 q2) λf s3 q3=>?_);cases f with
  |
   next=>
   obtain⟨σ3,H3,I3,n3⟩:=q3;obtain⟨m',hm,w3⟩:=hN σ3 H3 n3;exact⟨m',hm,σ3,H3,I3,w3⟩
  |
   cont=>
   obtain⟨σ3,H3,I3,n3⟩:=q3;obtain⟨m',hm,w3⟩:=hN σ3 H3 n3;exact⟨m',hm,σ3,H3,I3,w3⟩
  |brk=>exact q3
  |ret v=>exact q3
 |
  false=>
  rw[AB CH];exact OT ⟨σ1,H2,I2,q2⟩
end
structure It where
 go:Nat->Hp->Prop
 yld:Nat->Hp->V->Hp->Prop
 stop:Nat->Hp->Prop
def F6 (X:Cx)(pins:List (Addr×Obj))(H:Hp)(b:Addr):Prop:=
 H b=none/\b≠X.env.locals/\b∉X.fs/\(b∈X.ex\/X.s₀.heap.objs.size<=b)/\(∀x c,X.env.cells.lookup x=some c->c≠b)/\∀p∈X.pn++pins,p.1≠b
theorem A5.fpOk {X:Cx}{pins:List (Addr×Obj)}{σ:St}{H H':Hp}{s:Shared}{b:Addr}(I:A5 X pins σ H s)(hb:s.heap.objs.size<=b)(hn:H' b=none):F6 X pins H' b:=by
 refine⟨hn,GK (Cv I.lt hb),I.nofs hb,.inr (Ex I.sz hb),λx c e z=>?_,λp hp z=>?_⟩
 .obtain⟨v,q⟩:=I.cell x c e;exact absurd (Cv q.lt (by rw[z];exact hb)) (Ea _)
 .exact absurd (Cv (Bq (I.pin p hp).1) (by rw[z];exact hb)) (Ea _)
structure Hw (P:Program)(w:World)(K:Faa)(tg:Expr)(J:It)(fp:List Addr)(it:Addr)(tn:Nat->Heap->Prop):Prop where
 mem:it∈fp
 obj:∀i h,tn i h->∀b∈fp,∃o,h.get? b=some o/\∀v,o.data≠.cell v
 keep:∀i h h',tn i h->(∀b∈fp,∀o,h.get? b=some o->h'.get? b=some o)->tn i h'
 item:∀(X:Cx),X.prog=P->X.w=w->X.K=K->X.calm=true->∀(i:Nat) (pins:List (Addr×Obj)) (s:Shared) (σ:St) (H:Hp) (E:Value->Shared->Prop),A5 X pins σ H s->(∀b∈fp,F6 X pins H b)->tn i s.heap->J.go i H->
  wpAny (model P w) X.A (pyNext (.ref it)) (λr s1=>∃u,r=some u/\
   wpAny (model P w) X.A (letOwnedTupleGo tg (.ref it) u) (λ_ s2=>∃x H',A5 X pins σ H' s2/\AG x u/\J.yld i H x H'/\tn (i+1) s2.heap/\∀b∈fp,H' b=none) E s1) E s
 done:∀(X:Cx),X.prog=P->X.w=w->X.K=K->X.calm=true->∀(i:Nat) (pins:List (Addr×Obj)) (s:Shared) (σ:St) (H:Hp) (E:Value->Shared->Prop),A5 X pins σ H s->(∀b∈fp,F6 X pins H b)->tn i s.heap->J.stop i H->
  wpAny (model P w) X.A (pyNext (.ref it)) (λr s1=>r=none/\A5 X pins σ H s1) E s
 self:∀(A:Around) (i:Nat) (s:Shared) (Q:Value->Shared->Prop) (E:Value->Shared->Prop),tn i s.heap->Q (.ref it) s->wpAny (model P w) A (pyIter (.ref it)) Q E s
abbrev TI:=St->Hp->(It->Hp->Prop)->Prop
def RF (X:Cx)(pins:List (Addr×Obj))(σ:St)(tg:Expr)(R:It->Hp->Prop)(itv:Value)(s2:Shared):Prop:=
 ∃(it:Addr) (fp:List Addr) (tn:Nat->Heap->Prop) (J:It) (H':Hp),itv = .ref it/\A5 X pins σ H' s2/\Hw X.prog X.w X.K tg J fp it tn/\tn 0 s2.heap/\(∀b∈fp,F6 X pins H' b)/\R J H'
def PI (X:Cx)(tg iter:Expr)(wi:TI):Prop:=
 ∀(pins:List (Addr×Obj)) (s:Shared) (σ:St) (H:Hp) (R:It->Hp->Prop),A5 X pins σ H s->wi σ H R->
  wpAny (model X.prog X.w) X.A (eval iter X.env) (λv s1=>wpAny (model X.prog X.w) X.A (pyIter v) (RF X pins σ tg R) X.xe s1) X.xe s
theorem N3 {M:Model}{A:Around}{E:Value->Shared->Prop}{s:Shared}{tg:Expr}{it:Addr}{u:Value}{o:Obj}{n:String}{vs:Array Value}{Q:Unit->Shared->Prop}(ho:s.heap.get? it=some o)(hc:o.cls = .type n)(hd:o.data = .fields vs)
  (hn:["enumerate","zip","dict_itemiterator","dict_reverseitemiterator","odict_iterator","itertools.zip_longest","itertools.pairwise"].contains n=false) (hQ:Q () s):wpAny M A (letOwnedTupleGo tg (.ref it) u) Q E s:=by
 unfold letOwnedTupleGo;cases tg<;>first
  |exact AV hQ
  |(cases u<;>first
   |exact AV hQ
   |(
    refine As (wpAny_load ho ?_);rw[hc,hd];show wpAny M A (if(["enumerate","zip","dict_itemiterator","dict_reverseitemiterator","odict_iterator","itertools.zip_longest","itertools.pairwise"].contains n&&vs[0]?==some (rawInt _))=true then _ else _) Q E s;rw[AB (by intro h;rw[hn,Bool.false_and]at h;cases h)];exact AV hQ))
def Hb (K:Faa)(a:Addr):It:=
 ⟨λi H=>∃xs x,A3 K H a xs/\xs[i]?=some x,λi H x H'=>H'=H/\∀xs,A3 K H a xs->xs[i]?=some x,λi H=>∃xs,A3 K H a xs/\xs.length<=i⟩
def IR (K:Faa)(a:Addr):It:=
 ⟨λi H=>∃xs x,A4 K H a xs/\xs[i]?=some x,λi H x H'=>H'=H/\∀xs,A4 K H a xs->xs[i]?=some x,λi H=>∃xs,A4 K H a xs/\xs.length<=i⟩
def Hg (lo:Int)(n:Nat):It:=⟨λi _=>i<n,λi H x H'=>H'=H/\x = .int (lo+i),λi _=>n<=i⟩
theorem WZ {P:Program}{w:World}{K:Faa}{tg:Expr}(a it:Addr):Hw P w K tg (Hb K a) [it] it (λi h=>h.IsListIter it a i) where
 mem:=by simp
 obj:=λi h st b hb=>by
  have e:b=it:=by simpa using hb
  subst e;obtain⟨o,e,c,d⟩:=st;exact⟨o,e,λv z=>by rw[d]at z;cases z⟩
 keep:=λi h h' st k=>st.at λo e=>k it (by simp) o e
 item:=by
  intro X hP hw hK hc i pins s σ H E I hf st hg;subst hP hw hK;obtain⟨xs,x,hq,hx⟩:=hg;obtain⟨its,rv,p,hz⟩:=I.list hq;obtain⟨u,hu,ru⟩:=rv.get hx;obtain⟨f0,f1,f2,f3,f4,f5⟩:=hf it (by simp);refine wpAny_pyNext_list_item st p.isList (x:=u) (by simpa using hu) λh' st' sb=>?_;have I1:A5 X pins σ H {s with heap:=h'}:=I.turned (t':=s.toks) (λb o hb e=>(sb.2 b hb).trans e) f0 f1 f3 f4 f5;obtain⟨o,e,c,d⟩:=id st';exact⟨u,rfl,N3 (s:={s with heap:=h'}) e c d (by decide) ⟨x,H,I1,ru,⟨rfl,λys hy=>by rw[I.list_inj hy hq];exact hx⟩,st',λb hb=>(hf b hb).1⟩⟩
 done:=by
  intro X hP hw hK hc i pins s σ H E I hf st hg;subst hP hw hK;obtain⟨xs,hq,hx⟩:=hg;obtain⟨its,rv,p,hz⟩:=I.list hq;obtain⟨f0,f1,f2,f3,f4,f5⟩:=hf it (by simp);have hl:=rv.length;exact wpAny_pyNext_list_end (I.ok.hd hc) st p.isList (by simp;lia) λh' eb=>⟨rfl,I.turned (t':=s.toks) (λb o hb e=>eb b o hb e) f0 f1 f3 f4 f5⟩
 self:=λ_ _ _ _ _ st h=>wpAny_pyIter_listiter st h
theorem Wb {P:Program}{w:World}{K:Faa}{tg:Expr}(a it:Addr):Hw P w K tg (IR K a) [it] it (λi h=>h.IsTupleIter it a i) where
 mem:=by simp
 obj:=λi h st b hb=>by
  have e:b=it:=by simpa using hb
  subst e;obtain⟨o,e,c,d⟩:=st;exact⟨o,e,λv z=>by rw[d]at z;cases z⟩
 keep:=λi h h' st k=>st.at λo e=>k it (by simp) o e
 item:=by
  intro X hP hw hK hc i pins s σ H E I hf st hg;subst hP hw hK;obtain⟨xs,x,hq,hx⟩:=hg;obtain⟨its,rv,p,hz⟩:=I.tuple hq;obtain⟨u,hu,ru⟩:=rv.get hx;obtain⟨f0,f1,f2,f3,f4,f5⟩:=hf it (by simp);refine wpAny_pyNext_tuple_item st (show s.heap.IsTuple a its.toArray from p) (x:=u) (by simpa using hu) λh' st' sb=>?_;have I1:A5 X pins σ H {s with heap:=h'}:=I.turned (t':=s.toks) (λb o hb e=>(sb.2 b hb).trans e) f0 f1 f3 f4 f5;obtain⟨o,e,c,d⟩:=id st';exact⟨u,rfl,N3 (s:={s with heap:=h'}) e c d (by decide) ⟨x,H,I1,ru,⟨rfl,λys hy=>by rw[I.tuple_inj hy hq];exact hx⟩,st',λb hb=>(hf b hb).1⟩⟩
 done:=by
  intro X hP hw hK hc i pins s σ H E I hf st hg;subst hP hw hK;obtain⟨xs,hq,hx⟩:=hg;obtain⟨its,rv,p,hz⟩:=I.tuple hq;obtain⟨f0,f1,f2,f3,f4,f5⟩:=hf it (by simp);have hl:=rv.length;exact wpAny_pyNext_tuple_end (I.ok.hd hc) st (show s.heap.IsTuple a its.toArray from p) (by simp;lia) λh' eb=>⟨rfl,I.turned (t':=s.toks) (λb o hb e=>eb b o hb e) f0 f1 f3 f4 f5⟩
 self:=λ_ _ _ _ _ st h=>wpAny_pyIter_tupleiter st h
theorem VU {P:Program}{w:World}{K:Faa}{tg:Expr}(it:Addr)(lo:Int)(n:Nat):Hw P w K tg (Hg lo n) [it] it (λi h=>IsRangeIter h it (lo+(i:Nat)*1) ((n:Int)-(i:Nat)) 1) where
 mem:=by simp
 obj:=λi h st b hb=>by
  have e:b=it:=by simpa using hb
  subst e;exact⟨_,st,λv z=>by
   have z':Data.fields _=Data.cell v:=z;cases z'⟩
 keep:=λi h h' st k=>k it (by simp) _ st
 item:=by
  intro X hP hw hK hc i pins s σ H E I hf st hg;subst hP hw hK;obtain⟨f0,f1,f2,f3,f4,f5⟩:=hf it (by simp);have W:=Walks.range (prog:=X.prog) (w:=X.w) (I.ok.hd hc) it lo 1 n;refine W.item i s _ _ hg st λv h' tk hv st' kk=>?_;obtain⟨t,rfl⟩:=hv;have I1:A5 X pins σ H {s with heap:=h',toks:=tk}:=I.turned (λb o hb e=>kk b o (by simpa using hb) e) f0 f1 f3 f4 f5;refine⟨_,rfl,N3 (s:={s with heap:=h',toks:=tk}) (n:="range_iterator") st' rfl rfl (by decide) ⟨.int (lo+i),H,I1,⟨t,?_⟩,⟨rfl,rfl⟩,st',λb hb=>(hf b hb).1⟩⟩;rw[Int.mul_one]
 done:=by
  intro X hP hw hK hc i pins s σ H E I hf st hg;subst hP hw hK;obtain⟨f0,f1,f2,f3,f4,f5⟩:=hf it (by simp);exact wpAny_pyNext_range_end (I.ok.hd hc) st (by have:n<=i:=hg;lia) λh' eb=>⟨rfl,I.turned (t':=s.toks) (λb o hb e=>eb b o hb e) f0 f1 f3 f4 f5⟩
 self:=λ_ _ _ _ _ st h=>wpAny_pyIter_rangeiter st h
section
variable {X:Cx}{tg:Expr}
def Ws (K:Faa)(tl:TE):TI:=fun σ H R=>tl σ H λx H1=>∃a,x = .ref a/\(∃xs,A3 K H1 a xs)/\R (Hb K a) H1
def ag (K:Faa)(tl:TE):TI:=fun σ H R=>tl σ H λx H1=>∃a,x = .ref a/\(∃xs,A4 K H1 a xs)/\R (IR K a) H1
theorem CQ {l:Expr}{tl:TE}(hl:PE X l tl):PI X tg l (Ws X.K tl):=by
 intro pins s σ H R I h;refine AA (hl pins s σ H _ I h) λv s1 zz=>?_;obtain⟨x,H1,I1,r1,q1⟩:=zz;obtain⟨a,e,⟨xs,hq⟩,q⟩:=q1;subst e;cases r1;obtain⟨its,rv,p,hz⟩:=I1.list hq;refine T8 p.isList ?_;refine⟨s1.heap.objs.size,[s1.heap.objs.size],_,_,H1,rfl,I1.kept (t':=s1.toks) λb o e=>Bu _ e,WZ a _,⟨_,CT _ rfl,rfl,rfl⟩,λb hb=>?_,q⟩;have e:b=s1.heap.objs.size:=by simpa using hb
 subst e;exact I1.fpOk (Ah _) (I1.hok.fresh (Ah _))
theorem LJ {l:Expr}{tl:TE}(hl:PE X l tl):PI X tg l (ag X.K tl):=by
 intro pins s σ H R I h;refine AA (hl pins s σ H _ I h) λv s1 zz=>?_;obtain⟨x,H1,I1,r1,q1⟩:=zz;obtain⟨a,e,⟨xs,hq⟩,q⟩:=q1;subst e;cases r1;obtain⟨its,rv,p,hz⟩:=I1.tuple hq;refine MJ (show s1.heap.IsTuple a its.toArray from p) ?_;refine⟨s1.heap.objs.size,[s1.heap.objs.size],_,_,H1,rfl,I1.kept (t':=s1.toks) λb o e=>Bu _ e,Wb a _,⟨_,CT _ rfl,rfl,rfl⟩,λb hb=>?_,q⟩;have e:b=s1.heap.objs.size:=by simpa using hb
 subst e;exact I1.fpOk (Ah _) (I1.hok.fresh (Ah _))
theorem Um {pins:List (Addr×Obj)}{σ:St}{H:Hp}{s:Shared}{R:It->Hp->Prop}{E:Value->Shared->Prop}{lo hi:Int}{t u v:Tok}{tk:Nat}(I:A5 X pins σ H s)(h1 : -(2 ^ 62)<=lo)(h2:lo<2 ^ 62)(h3 : -(2 ^ 62)<=hi)(h4:hi<2 ^ 62)
  (q:R (Hg lo (hi-lo).toNat) H):wpAny (model X.prog X.w) X.A (pyIter (.ref s.heap.objs.size)) (RF X pins σ tg R) E {s with heap:=s.heap.push {cls:=.type "range",data:=.fields #[.int lo t,.int hi u,.int 1 v]},toks:=tk}:=by
 refine wpAny_pyIter_range (IsRange.new ..) (small_one h1 h2 h3 h4) ?_;have I1:A5 X pins σ H {s with heap:=s.heap.push {cls:=.type "range",data:=.fields #[.int lo t,.int hi u,.int 1 v]},toks:=tk}:=I.kept λb o e=>Bu _ e;refine⟨(s.heap.push {cls:=.type "range",data:=.fields #[.int lo t,.int hi u,.int 1 v]}).objs.size,[(s.heap.push {cls:=.type "range",data:=.fields #[.int lo t,.int hi u,.int 1 v]}).objs.size],_,_,H,rfl,
  I1.kept (t':=tk) λb o e=>Bu _ e,VU _ lo (hi-lo).toNat,?_,λb hb=>?_,q⟩
 .have e1:lo+((0:Nat):Int)*1=lo:=by simp
  have e2:(((hi-lo).toNat:Nat):Int)-((0:Nat):Int)=Builtin.Range.rangeSize lo hi 1:=by rw[rangeSize_one];split<;>lia
  show IsRangeIter _ _ (lo+((0:Nat):Int)*1) ((((hi-lo).toNat:Nat):Int)-((0:Nat):Int)) 1;rw[e1,e2];exact CT _ rfl
 .have e:b=(s.heap.push {cls:=.type "range",data:=.fields #[.int lo t,.int hi u,.int 1 v]}).objs.size:=by simpa using hb
  subst e;exact I1.fpOk (Ah _) (I1.hok.fresh (Ah _))
def Vg (ta:TA):TI:=fun σ H R=>ta σ H λvs H1=>∃j:Int,vs=[.int j]/\-(2 ^ 62)<=j/\j<2 ^ 62/\R (Hg 0 j.toNat) H1
theorem F0 {a:Expr}{ta:TA}{p pos:Pos}(hg:Gl X "range")(hm:X.mg "range"=none)(ha:PA X [a] ta)(hs:starEach [a] X.env=[(false,eval a X.env)]:=by rfl):PI X tg (.Call (.Name "range" p) [a] [] pos) (Vg ta):=by
 intro pins s σ H R I h;refine Call_ (FY I hg hm boot_range (Ji (AA (ha pos pins s σ H _ I h) λus s1 zz=>?_) hs rfl));obtain⟨vs,H1,I1,r1,q1⟩:=zz;obtain⟨j,e,q1,q2,q⟩:=q1;subst e;cases r1 with
 |
  cons r rr=>
  cases rr;obtain⟨t,rfl⟩:=r;exact call_range_1 (Um I1 (by lia) (by lia) q1 q2 (by simpa using q))
def RJ (wi:TI)(g:TG)(tb:TS):TS:=λD σ H=>wi σ H λJ H1=>∃W:Nat->Nat->St->Hp->Prop,(∃m,W 0 m σ H1)/\∀i m σ H,W i m σ H->
 (J.stop i H/\D.nx σ H)\/(J.go i H/\∃N:St->Hp->Prop,(∀σ' H',N σ' H'->∃m',m'<m/\W (i+1) m' σ' H')/\∀x H',J.yld i H x H'->g x σ H' fun σ2 H2=>tb {D with nx:=N,ct:=N,bk:=D.nx} σ2 H2)
def IL (fp:List Addr)(h:Heap):List (Addr×Obj):=fp.filterMap λb=>(h.get? b).map λo=>(b,o)
theorem JU {fp:List Addr}{h:Heap}{b:Addr}{o:Obj}(hb:b∈fp)(e:h.get? b=some o):(b,o)∈IL fp h:=List.mem_filterMap.mpr ⟨b,hb,by rw[e];rfl⟩
theorem Ww {fp:List Addr}{h:Heap}{p:Addr×Obj}(hp:p∈IL fp h):p.1∈fp/\h.get? p.1=some p.2:=by
 obtain⟨b,hb,e⟩:=List.mem_filterMap.mp hp;cases q:h.get? b with
 |none=>rw[q]at e;cases e
 |
  some o=>
  rw[q]at e;have e':(b,o)=p:=Cu e;subst e';exact⟨hb,q⟩
theorem A5.pinned {pins:List (Addr×Obj)}{σ:St}{H:Hp}{s:Shared}{fp:List Addr}(I:A5 X pins σ H s)(hf:∀b∈fp,F6 X pins H b)(ho:∀b∈fp,∃o,s.heap.get? b=some o/\∀v,o.data≠.cell v):A5 X (pins++IL fp s.heap) σ H s:=
 I.pins_of λp hp=>(CG.mp hp).elim (λz=>I.pin p (CU _ z)) λz=>by
  obtain⟨hb,e⟩:=Ww z;obtain⟨f0,f1,f2,_⟩:=hf p.1 hb;obtain⟨o,e',d⟩:=ho p.1 hb;rw[e]at e';cases e';exact⟨e,f0,f1,f2,d⟩
theorem A5.unpinned {pins pl:List (Addr×Obj)}{σ:St}{H:Hp}{s:Shared}(I:A5 X (pins++pl) σ H s):A5 X pins σ H s:=I.pins_of λp hp=>I.pin p (CU _ (CN _ hp))
theorem C2 {iter:Expr}{body:List Stmt}{wi:TI}{g:TG}{tb:TS}{pos:Pos}(hp:PassesOwn (model X.prog X.w) X.A X.env X.xe)(hc:X.calm=true)(hi:PI X tg iter wi)(hg:PG X tg g)(hb:Eg X body tb)
  (hs:∀x,foldedSetIterable iter X.env x=pure x:=by intro _;rfl):PS X (.For tg iter body [] pos) (RJ wi g tb):=by
 intro pins s σ H D I h;refine wpAny_For (AA (hi pins s σ H _ I h) λv s1 h1=>AA h1 λitv s2 h2=>?_) hs;obtain⟨it,fp,tn,J,H2,e,I2,T,st2,f2,W,⟨m0,w0⟩,turn⟩:=h2;subst e;have stat:∀{H':Hp},(∀b∈fp,H' b=none)->∀b∈fp,F6 X pins H' b:=λhn b hb=>⟨hn b hb,(f2 b hb).2⟩
 refine codeAny_forLoop_any (λn s'=>∃i σ' H',A5 X pins σ' H' s'/\tn i s'.heap/\(∀b∈fp,H' b=none)/\W i n σ' H') ?_ m0 ⟨0,σ,H2,I2,st2,λb hb=>(f2 b hb).1,w0⟩;rintro n s3 ⟨i,σ3,H3,I3,st3,fr3,w3⟩;rcases turn i n σ3 H3 w3 with⟨stop,qn⟩|⟨go,N,hN,step⟩
 .refine Jp hp (AA (T.done X rfl rfl rfl hc i pins s3 σ3 H3 X.xe I3 (stat fr3) st3 stop) λr s4 zz=>?_);obtain⟨hr,I4⟩:=zz;subst hr;exact OT ⟨σ3,H3,I4,qn⟩
 .refine Jp hp (AA (T.item X rfl rfl rfl hc i pins s3 σ3 H3 X.xe I3 (stat fr3) st3 go) λr s4 zz=>?_);obtain⟨u,hr,h4⟩:=zz;subst hr;refine Jp hp (AA h4 λ_ s5 zz=>?_);obtain⟨x,H5,I5,r5,y5,st5,fr5⟩:=zz;have I5':=I5.pinned (stat fr5) (T.obj _ _ st5);refine Jp hp (AA (hg _ s5 σ3 H5 x u _ I5' r5 (step x H5 y5)) λ_ s6 zz=>?_);obtain⟨σ6,H6,I6,q6⟩:=zz;refine Jp hp (AA (hb _ s6 σ6 H6 _ I6 q6) λf s7 q7=>?_);have again:∀{σ7:St} {H7:Hp},A5 X (pins++IL fp s5.heap) σ7 H7 s7->N σ7 H7->∃m,m<n/\∃i σ' H',A5 X pins σ' H' s7/\tn i s7.heap/\(∀b∈fp,H' b=none)/\W i m σ' H':=fun{σ7 H7} I7 n7=>by
   obtain⟨m',hm,w7⟩:=hN σ7 H7 n7;refine⟨m',hm,i+1,σ7,H7,I7.unpinned,T.keep _ _ _ st5 λb hb o e=>(I7.pin (b,o) (CU _ (CU _ (JU hb e)))).1,λb hb=>?_,w7⟩;obtain⟨o,e,d⟩:=T.obj _ _ st5 b hb;exact(I7.pin (b,o) (CU _ (CU _ (JU hb e)))).2.1
  cases f with
  |next=>obtain⟨σ7,H7,I7,n7⟩:=q7;exact again I7 n7
  |cont=>obtain⟨σ7,H7,I7,n7⟩:=q7;exact again I7 n7
  |brk=>obtain⟨σ7,H7,I7,q7⟩:=q7;exact⟨σ7,H7,I7.unpinned,q7⟩
  |ret v=>obtain⟨x7,σ7,H7,I7,r7,q7⟩:=q7;exact⟨x7,σ7,H7,I7.unpinned,r7,q7⟩
end
theorem EI {K:Faa}{a:Addr}{xs:List V}{g:TG}{tb:TS}{D:Do}{σ:St}{H:Hp}(Pv:Nat->St->Hp->Prop)(h0:Pv 0 σ H)(hl:∀i σ H,i<=xs.length->Pv i σ H->A3 K H a xs)
  (hs:∀i x σ H,xs[i]?=some x->Pv i σ H->g x σ H fun σ2 H2=>tb {D with nx:=Pv (i+1),ct:=Pv (i+1),bk:=D.nx} σ2 H2) (hd:∀σ H,Pv xs.length σ H->D.nx σ H) :
  ∃W:Nat->Nat->St->Hp->Prop,(∃m,W 0 m σ H)/\∀i m σ H,W i m σ H->
   ((Hb K a).stop i H/\D.nx σ H)\/((Hb K a).go i H/\∃N:St->Hp->Prop,(∀σ' H',N σ' H'->∃m',m'<m/\W (i+1) m' σ' H')/\∀x H',(Hb K a).yld i H x H'->g x σ H' fun σ2 H2=>tb {D with nx:=N,ct:=N,bk:=D.nx} σ2 H2):=by
 refine⟨λi m σ H=>m=xs.length-i/\i<=xs.length/\Pv i σ H,⟨xs.length,by simp,Bh _,h0⟩,?_⟩;rintro i m σ H ⟨rfl,hi,p⟩;have q:=hl i σ H hi p;by_cases hlt:i<xs.length
 .refine .inr ⟨⟨xs,xs[i],q,by simp[hlt]⟩,Pv (i+1),fun σ' H' p'=>⟨xs.length-(i+1),by lia,rfl,hlt,p'⟩,λx H' y=>?_⟩;obtain⟨e,y⟩:=y;subst e;exact hs i x σ _ (y xs q) p
 .have e:i=xs.length:=by lia
  subst e;exact .inl ⟨⟨xs,q,Ah _⟩,hd σ H p⟩
theorem Na {K:Faa}{a:Addr}{xs:List V}{g:TG}{tb:TS}{D:Do}{σ:St}{H:Hp}(Pv:Nat->St->Hp->Prop)(h0:Pv 0 σ H)(hl:∀i σ H,i<=xs.length->Pv i σ H->A4 K H a xs)
  (hs:∀i x σ H,xs[i]?=some x->Pv i σ H->g x σ H fun σ2 H2=>tb {D with nx:=Pv (i+1),ct:=Pv (i+1),bk:=D.nx} σ2 H2) (hd:∀σ H,Pv xs.length σ H->D.nx σ H) :
  ∃W:Nat->Nat->St->Hp->Prop,(∃m,W 0 m σ H)/\∀i m σ H,W i m σ H->
   ((IR K a).stop i H/\D.nx σ H)\/((IR K a).go i H/\∃N:St->Hp->Prop,(∀σ' H',N σ' H'->∃m',m'<m/\W (i+1) m' σ' H')/\∀x H',(IR K a).yld i H x H'->g x σ H' fun σ2 H2=>tb {D with nx:=N,ct:=N,bk:=D.nx} σ2 H2):=by
 refine⟨λi m σ H=>m=xs.length-i/\i<=xs.length/\Pv i σ H,⟨xs.length,by simp,Bh _,h0⟩,?_⟩;rintro i m σ H ⟨rfl,hi,p⟩;have q:=hl i σ H hi p;by_cases hlt:i<xs.length
 .refine .inr ⟨⟨xs,xs[i],q,by simp[hlt]⟩,Pv (i+1),fun σ' H' p'=>⟨xs.length-(i+1),by lia,rfl,hlt,p'⟩,λx H' y=>?_⟩;obtain⟨e,y⟩:=y;subst e;exact hs i x σ _ (y xs q) p
 .have e:i=xs.length:=by lia
  subst e;exact .inl ⟨⟨xs,q,Ah _⟩,hd σ H p⟩
theorem GA {lo:Int}{n:Nat}{g:TG}{tb:TS}{D:Do}{σ:St}{H:Hp}(Pv:Nat->St->Hp->Prop)(h0:Pv 0 σ H)
  (hs:∀i σ H,i<n->Pv i σ H->g (.int (lo+i)) σ H fun σ2 H2=>tb {D with nx:=Pv (i+1),ct:=Pv (i+1),bk:=D.nx} σ2 H2) (hd:∀σ H,Pv n σ H->D.nx σ H) :
  ∃W:Nat->Nat->St->Hp->Prop,(∃m,W 0 m σ H)/\∀i m σ H,W i m σ H->
   ((Hg lo n).stop i H/\D.nx σ H)\/((Hg lo n).go i H/\∃N:St->Hp->Prop,(∀σ' H',N σ' H'->∃m',m'<m/\W (i+1) m' σ' H')/\∀x H',(Hg lo n).yld i H x H'->g x σ H' fun σ2 H2=>tb {D with nx:=N,ct:=N,bk:=D.nx} σ2 H2):=by
 refine⟨λi m σ H=>m=n-i/\i<=n/\Pv i σ H,⟨n,by simp,Bh _,h0⟩,?_⟩;rintro i m σ H ⟨rfl,hi,p⟩;by_cases hlt:i<n
 .refine .inr ⟨hlt,Pv (i+1),fun σ' H' p'=>⟨n-(i+1),by lia,rfl,hlt,p'⟩,λx H' y=>?_⟩;obtain⟨e,y⟩:=y;subst e y;exact hs i σ _ hlt p
 .have e:i=n:=by lia
  subst e;exact .inl ⟨Ah _,hd σ H p⟩
abbrev R2:=V->V->Hp->VK->Prop
def BI (X:Cx)(f:Value->Value->Sem Value)(r:R2):Prop:=
 ∀(pins:List (Addr×Obj)) (s:Shared) (σ:St) (H:Hp) (x y:V) (v u:Value) (Q:VK),A5 X pins σ H s->AG x v->AG y u->r x y H Q->
  wpAny (model X.prog X.w) X.A (f v u) (EP X pins σ Q) X.xe s
def NK (X:Cx)(f:Value->Sem Value)(r:V->Hp->VK->Prop):Prop:=
 ∀(pins:List (Addr×Obj)) (s:Shared) (σ:St) (H:Hp) (x:V) (v:Value) (Q:VK),A5 X pins σ H s->AG x v->r x H Q->
  wpAny (model X.prog X.w) X.A (f v) (EP X pins σ Q) X.xe s
def EL (X:Cx)(f:Value)(r:List V->Hp->VK->Prop):Prop:=
 ∀(pins:List (Addr×Obj)) (s:Shared) (σ:St) (H:Hp) (xs:List V) (us:List Value) (Q:VK),A5 X pins σ H s->Au xs us->r xs H Q->
  wpAny (model X.prog X.w) X.A (call f us) (EP X pins σ Q) X.xe s
def UR (X:Cx)(r:V->Hp->(Bool->Hp->Prop)->Prop):Prop:=
 ∀(pins:List (Addr×Obj)) (s:Shared) (σ:St) (H:Hp) (x:V) (v:Value) (Q:Bool->Hp->Prop),A5 X pins σ H s->AG x v->r x H Q->
  wpAny (model X.prog X.w) X.A (truthy v) (TP X pins σ Q) X.xe s
def Ks (r:R2)(ta tb:TE):TE:=fun σ H Q=>ta σ H λx H1=>tb σ H1 λy H2=>r x y H2 Q
def ZI (r:V->Hp->VK->Prop)(ta:TE):TE:=fun σ H Q=>ta σ H λx H1=>r x H1 Q
def rI (C:Int->Int->Prop)(g:Int->Int->V):R2:=λx y H Q=>∃i j,x = .int i/\y = .int j/\C i j/\Q (g i j) H
def Gd (g:Int->Int->V):R2:=λx y H Q=>∃i j,x = .int i/\y = .int j/\Q (g i j) H
def rU (g:Int->V):V->Hp->VK->Prop:=λx H Q=>∃i,x = .int i/\Q (g i) H
section
variable {X:Cx}{a b c:Expr}{ta tb tc:TE}{pos:Pos}
theorem Og (ha:PE X a ta)(hb:PE X b tb){pins:List (Addr×Obj)}{s:Shared}{σ:St}{H:Hp}{R:V->V->Hp->Prop}(I:A5 X pins σ H s)
  (h:ta σ H λx H1=>tb σ H1 λy H2=>R x y H2) {Q:Value->Shared->Prop} {f:Value->Value->Sem Value}
  (hf:∀v u s2 x y H2,A5 X pins σ H2 s2->AG x v->AG y u->R x y H2->wpAny (model X.prog X.w) X.A (f v u) Q X.xe s2) :
  wpAny (model X.prog X.w) X.A (eval a X.env) (λv s₁=>wpAny (model X.prog X.w) X.A (eval b X.env) (λu s₂=>wpAny (model X.prog X.w) X.A (f v u) Q X.xe s₂) X.xe s₁) X.xe s:=by
 refine AA (ha pins s σ H _ I h) λv s1 zz=>?_;obtain⟨x,H1,I1,r1,q1⟩:=zz;refine AA (hb pins s1 σ H1 _ I1 q1) λu s2 zz=>?_;obtain⟨y,H2,I2,r2,q2⟩:=zz;exact hf v u s2 x y H2 I2 r1 r2 q2
theorem Aj {op:Operator}{r:R2}(ho:BI X (binaryOp op) r)(ha:PE X a ta)(hb:PE X b tb):PE X (.BinOp a op b pos) (Ks r ta tb):=by
 intro pins s σ H Q I h;exact wpAny_BinOp (Og ha hb I h λv u s2 x y H2 I2 rx ry q=>ho pins s2 σ H2 x y v u Q I2 rx ry q)
theorem DL {op:UnaryOp}{r:V->Hp->VK->Prop}(ho:NK X (unaryOp op) r)(ha:PE X a ta):PE X (.UnaryOp op a pos) (ZI r ta):=by
 intro pins s σ H Q I h;refine UnaryOp_ (AA (ha pins s σ H _ I h) λv s1 zz=>?_);obtain⟨x,H1,I1,r1,q1⟩:=zz;exact ho pins s1 σ H1 x v Q I1 r1 q1
theorem Lc {f:Value->Value->Sem Value}{C:Int->Int->Prop}{g:Int->Int->Int}
  (rule:∀(i j:Int) (t u:Tok) (s:Shared) (Q:Value->Shared->Prop) (E:Value->Shared->Prop),C i j->Q (.int (g i j) s.toks) {s with toks:=s.toks+1}->wpAny (model X.prog X.w) X.A (f (.int i t) (.int j u)) Q E s) :
  BI X f (rI C λi j=>.int (g i j)):=by
 intro pins s σ H x y v u Q I rx ry h;obtain⟨i,j,rfl,rfl,hc,q⟩:=h;obtain⟨t,rfl⟩:=rx;obtain⟨t',rfl⟩:=ry;exact rule i j t t' s _ _ hc ⟨.int (g i j),H,I.tok _,⟨_,rfl⟩,q⟩
theorem QD {f:Value->Value->Sem Value}{g:Int->Int->Int}
  (rule:∀(i j:Int) (t u:Tok) (s:Shared) (Q:Value->Shared->Prop) (E:Value->Shared->Prop),Q (.int (g i j) s.toks) {s with toks:=s.toks+1}->wpAny (model X.prog X.w) X.A (f (.int i t) (.int j u)) Q E s) :
  BI X f (Gd λi j=>.int (g i j)):=by
 intro pins s σ H x y v u Q I rx ry h;obtain⟨i,j,rfl,rfl,q⟩:=h;obtain⟨t,rfl⟩:=rx;obtain⟨t',rfl⟩:=ry;exact rule i j t t' s _ _ ⟨.int (g i j),H,I.tok _,⟨_,rfl⟩,q⟩
theorem NP {f:Value->Value->Sem Value}{g:Int->Int->Bool}
  (rule:∀(i j:Int) (t u:Tok) (s:Shared) (Q:Value->Shared->Prop) (E:Value->Shared->Prop),Q (.bool (g i j)) s->wpAny (model X.prog X.w) X.A (f (.int i t) (.int j u)) Q E s) :
  BI X f (Gd λi j=>.bl (g i j)):=by
 intro pins s σ H x y v u Q I rx ry h;obtain⟨i,j,rfl,rfl,q⟩:=h;obtain⟨t,rfl⟩:=rx;obtain⟨t',rfl⟩:=ry;exact rule i j t t' s _ _ ⟨.bl (g i j),H,I,rfl,q⟩
def ZV (i j:Int):Prop:=0<j/\j<1073741824
def XZ (i j:Int):Prop:=0<=j/\j<=1000000/\i.natAbs<2 ^ 64
def Nv (i j:Int):Prop:=(-(2 ^ 64)<i/\i<2 ^ 64)\/(-(2 ^ 64)<j/\j<2 ^ 64)
theorem Nv.ok {i j:Int}(h:Nv i j):IntMulOk i j:=by
 rcases h with⟨h1,h2⟩|⟨h1,h2⟩
 .exact .of_left (intBits_le_64 h1 h2)
 .exact .of_right (intBits_le_64 h1 h2)
theorem BH:BI X (binaryOp .Add) (Gd λi j=>.int (i+j)):=QD λ_ _ _ _ _ _ _ q=>add_int q
theorem EO:BI X (binaryOp .Sub) (Gd λi j=>.int (i-j)):=QD λ_ _ _ _ _ _ _ q=>sub_int q
theorem Hy:BI X (binaryOp .Mult) (rI Nv λi j=>.int (i*j)):=Lc λ_ _ _ _ _ _ _ hc q=>mul_int q hc.ok
theorem DK:BI X (binaryOp .FloorDiv) (rI ZV λi j=>.int (i/j)):=Lc λi j _ _ _ _ _ hc q=>by
 have h1:(0:Int)<j:=hc.1;have h2:j<1073741824:=hc.2;exact floordiv_int (by lia) (by rw[Int.fdiv_eq_ediv_of_nonneg i (by lia)];exact q) (.inl (PyProof.noPylong_small (by lia)))
theorem C0:BI X (binaryOp .Mod) (rI (λ_ j=>0<j) λi j=>.int (i%j)):=Lc λi j _ _ _ _ _ hc q=>by
 have h1:(0:Int)<j:=hc;exact mod_int' (by lia) (by rw[Int.fmod_eq_emod_of_nonneg i (by lia)];exact q)
theorem Wj:BI X (binaryOp .Pow) (rI XZ λi j=>.int (i ^ j.toNat)):=Lc λ_ _ _ _ _ _ _ hc q=>pow_int_small hc.1 hc.2.1 hc.2.2 q
theorem aq {f:Value->Sem Value}{g:Int->Int}
  (rule:∀(i:Int) (t:Tok) (s:Shared) (Q:Value->Shared->Prop) (E:Value->Shared->Prop),Q (.int (g i) s.toks) {s with toks:=s.toks+1}->wpAny (model X.prog X.w) X.A (f (.int i t)) Q E s) :
  NK X f (rU λi=>.int (g i)):=by
 intro pins s σ H x v Q I rx h;obtain⟨i,rfl,q⟩:=h;obtain⟨t,rfl⟩:=rx;exact rule i t s _ _ ⟨.int (g i),H,I.tok _,⟨_,rfl⟩,q⟩
theorem DH:NK X (unaryOp .USub) (rU λi=>.int (-i)):=aq λ_ _ _ _ _ q=>neg_int q
end
def Sn:V->V->Bool
 |.non,.non=>true|.non,.int _=>true|.int _,.non=>true|.non,.bl _=>true|.bl _,.non=>true|.non,.str _=>true|.str _,.non=>true
 |.int _,.int _=>true|.bl _,.bl _=>true|.str _,.str _=>true|.byt _,.byt _=>true
 |.int _,.str _=>true|.str _,.int _=>true|.bl _,.str _=>true|.str _,.bl _=>true
 |_,_=>false
def TF:R2:=λx y H Q=>Sn x y=true/\Q (.bl (decide (x=y))) H
def W6:R2:=λx y H Q=>Sn x y=true/\Q (.bl (!decide (x=y))) H
theorem PB {i j:Int}:decide (V.int i=V.int j)=(i==j):=by
 rw[GL];simp
theorem P8 {i j:Bool}:decide (V.bl i=V.bl j)=(i==j):=by
 rw[GL];simp
theorem RT {i j:Str}:decide (V.str i=V.str j)=(i==j):=by
 rw[GL];simp
theorem P3 {i j:Array UInt8}:decide (V.byt i=V.byt j)=(i.toList==j.toList):=by
 rw[GL];cases i;cases j;simp
section
variable {X:Cx}{a b c:Expr}{ta tb tc:TE}{pos:Pos}
theorem BZ {pins:List (Addr×Obj)}{σ:St}{H:Hp}{s:Shared}{Q:VK}{k k':Bool}(I:A5 X pins σ H s)(q:Q (.bl k) H)(e:k=k'):EP X pins σ Q (.bool k') s:=by
 subst e;exact⟨.bl k,H,I,rfl,q⟩
theorem Co:BI X (compareOp .Eq) TF:=by
 intro pins s σ H x y v u Q I rx ry h;obtain⟨hs,q⟩:=h;cases x with
 |
  non=>
  cases rx;cases y with
  |non=>cases ry;exact PySem.EqNone.eq_none_none (BZ I q (by simp))
  |bl j=>cases ry;exact PySem.EqNone.eq_none_bool (BZ I q (by simp))
  |int j=>obtain⟨t',rfl⟩:=ry;exact PySem.EqNone.eq_none_int (BZ I q (by simp))
  |str j=>obtain⟨t',rfl⟩:=ry;exact PySem.EqNone.eq_none_str (BZ I q (by simp))
  |_=>exact absurd (show false=true from hs) CH
 |
  bl i=>
  cases rx;cases y with
  |non=>cases ry;exact PySem.EqNone.eq_bool_none (BZ I q (by simp))
  |bl j=>cases ry;exact eq_bool (BZ I q P8)
  |str j=>obtain⟨t',rfl⟩:=ry;exact PySem.EqMixed.eq_bool_str (BZ I q (by simp))
  |_=>exact absurd (show false=true from hs) CH
 |
  int i=>
  obtain⟨t,rfl⟩:=rx;cases y with
  |non=>cases ry;exact PySem.EqNone.eq_int_none (BZ I q (by simp))
  |int j=>obtain⟨t',rfl⟩:=ry;exact eq_int (BZ I q PB)
  |str j=>obtain⟨t',rfl⟩:=ry;exact PySem.EqMixed.eq_int_str (BZ I q (by simp))
  |_=>exact absurd (show false=true from hs) CH
 |
  str i=>
  obtain⟨t,rfl⟩:=rx;cases y with
  |non=>cases ry;exact PySem.EqNone.eq_str_none (BZ I q (by simp))
  |bl j=>cases ry;exact PySem.EqMixed.eq_str_bool (BZ I q (by simp))
  |int j=>obtain⟨t',rfl⟩:=ry;exact PySem.EqMixed.eq_str_int (BZ I q (by simp))
  |str j=>obtain⟨t',rfl⟩:=ry;exact eq_str (BZ I q RT)
  |_=>exact absurd (show false=true from hs) CH
 |
  byt i=>
  obtain⟨t,rfl⟩:=rx;cases y with
  |byt j=>obtain⟨t',rfl⟩:=ry;exact PySem.W.eq_bytes (BZ I q P3)
  |_=>exact absurd (show false=true from hs) CH
 |_=>cases y<;>exact absurd (show false=true from hs) CH
theorem Nc:BI X (compareOp .NotEq) W6:=by
 intro pins s σ H x y v u Q I rx ry h;obtain⟨hs,q⟩:=h;cases x with
 |
  non=>
  cases rx;cases y with
  |non=>cases ry;exact PySem.EqNone.ne_none_none (BZ I q (by simp))
  |bl j=>cases ry;exact PySem.EqNone.ne_none_bool (BZ I q (by simp))
  |int j=>obtain⟨t',rfl⟩:=ry;exact PySem.EqNone.ne_none_int (BZ I q (by simp))
  |str j=>obtain⟨t',rfl⟩:=ry;exact PySem.EqNone.ne_none_str (BZ I q (by simp))
  |_=>exact absurd (show false=true from hs) CH
 |
  bl i=>
  cases rx;cases y with
  |non=>cases ry;exact PySem.EqNone.ne_bool_none (BZ I q (by simp))
  |bl j=>cases ry;exact ne_bool (BZ I q (congrArg not P8))
  |str j=>obtain⟨t',rfl⟩:=ry;exact PySem.EqMixed.ne_bool_str (BZ I q (by simp))
  |_=>exact absurd (show false=true from hs) CH
 |
  int i=>
  obtain⟨t,rfl⟩:=rx;cases y with
  |non=>cases ry;exact PySem.EqNone.ne_int_none (BZ I q (by simp))
  |int j=>obtain⟨t',rfl⟩:=ry;exact ne_int (BZ I q (congrArg not PB))
  |str j=>obtain⟨t',rfl⟩:=ry;exact PySem.EqMixed.ne_int_str (BZ I q (by simp))
  |_=>exact absurd (show false=true from hs) CH
 |
  str i=>
  obtain⟨t,rfl⟩:=rx;cases y with
  |non=>cases ry;exact PySem.EqNone.ne_str_none (BZ I q (by simp))
  |bl j=>cases ry;exact PySem.EqMixed.ne_str_bool (BZ I q (by simp))
  |int j=>obtain⟨t',rfl⟩:=ry;exact PySem.EqMixed.ne_str_int (BZ I q (by simp))
  |str j=>obtain⟨t',rfl⟩:=ry;exact ne_str (BZ I q (congrArg not RT))
  |_=>exact absurd (show false=true from hs) CH
 |
  byt i=>
  obtain⟨t,rfl⟩:=rx;cases y with
  |byt j=>obtain⟨t',rfl⟩:=ry;exact PySem.W.ne_bytes (BZ I q (congrArg not P3))
  |_=>exact absurd (show false=true from hs) CH
 |_=>cases y<;>exact absurd (show false=true from hs) CH
theorem Es:BI X (compareOp .Lt) (Gd λi j=>.bl (decide (i<j))):=NP λ_ _ _ _ _ _ _ q=>lt_int q
theorem F4:BI X (compareOp .Gt) (Gd λi j=>.bl (decide (j<i))):=NP λ_ _ _ _ _ _ _ q=>gt_int q
theorem b8:BI X (compareOp .GtE) (Gd λi j=>.bl (decide (j<=i))):=NP λ_ _ _ _ _ _ _ q=>ge_int q
theorem Sa:BI X (compareOp .Is) (λx y H Q=>y = .non/\Q (.bl (decide (x = .non))) H):=by
 intro pins s σ H x y v u Q I rx ry h;obtain⟨rfl,q⟩:=h;cases ry;refine is_none_gen (BZ I q ?_);cases x<;>first
  |(cases rx;rfl)
  |(obtain⟨t,rfl⟩:=rx;rfl)
theorem Yw:BI X (compareOp .IsNot) (λx y H Q=>y = .non/\Q (.bl (!decide (x = .non))) H):=by
 intro pins s σ H x y v u Q I rx ry h;obtain⟨rfl,q⟩:=h;cases ry;refine isnot_none_gen (BZ I q ?_);cases x<;>first
  |(cases rx;rfl)
  |(obtain⟨t,rfl⟩:=rx;rfl)
theorem AF (b:Expr){op:CmpOp}(h:op≠.In:=by decide)(h2:op≠.NotIn:=by decide):behindInMarks op b=false:=by
 have e1:(op==CmpOp.In)=false:=by cases op<;>first|rfl|exact absurd rfl h
 have e2:(op==CmpOp.NotIn)=false:=by cases op<;>first|rfl|exact absurd rfl h2
 cases b<;>simp[behindInMarks,e1,e2]
theorem GB {op:CmpOp}{r:R2}(ho:BI X (compareOp op) r)(ha:PE X a ta)(hb:PE X b tb)(hm:behindInMarks op b=false):PE X (.Compare a [op] [b] pos) (Ks r ta tb):=by
 intro pins s σ H Q I h;exact wpAny_Compare1 (Og ha hb I h λv u s2 x y H2 I2 rx ry q=>ho pins s2 σ H2 x y v u Q I2 rx ry q) hm
def QP (t:TE):TT:=fun σ H Q=>t σ H λx H'=>∃k,x = .bl k/\Q k H'
theorem AK {op:CmpOp}{r:R2}(ho:BI X (compareOp op) r)(ha:PE X a ta)(hb:PE X b tb)(hm:behindInMarks op b=false):PT X (.Compare a [op] [b] pos) (QP (Ks r ta tb)):=by
 intro pins s σ H Q I h;refine wpAny_isTrue_Compare1 (AA (ha pins s σ H _ I h) λv s1 ⟨x,H1,I1,r1,q1⟩=>AA (hb pins s1 σ H1 _ I1 q1) λu s2 ⟨y,H2,I2,r2,q2⟩=>
  AA (ho pins s2 σ H2 x y v u _ I2 r1 r2 q2) λc s3 ⟨z,H3,I3,r3,k,e,q3⟩=>?_) hm
 subst e;cases r3;exact Jo ⟨H3,I3,q3⟩
def RP (K:Faa)(x:V)(H:Hp)(k:Bool):Prop:=
 match x with
 |.non=>k=false
 |.bl b=>k=b
 |.int i=>k=(i != 0)
 |.str y=>y.length<=sizeLine/\k=((y.length:Int) != 0)
 |.byt y=>y.size<=sizeLine/\k=((y.size:Int) != 0)
 |.ref p=>(∃xs,A3 K H p xs/\k=!xs.isEmpty)\/(∃xs,A4 K H p xs/\k=!xs.isEmpty)\/∃kvs,H p=some (.dK kvs)/\k=!kvs.isEmpty
 |_=>False
theorem Zm {κ:Type}{kvs:List (κ×V)}{vs:List (κ×Value)}(r:KV kvs vs):(!vs.isEmpty)=!kvs.isEmpty:=by
 cases r<;>rfl
theorem Ry {xs:List V}{its:List Value}(r:Au xs its):(!its.toArray.isEmpty)=!xs.isEmpty:=by
 cases r<;>simp
theorem Ip:(sizeLine:Nat)<2 ^ 63:=by rw[MK];decide
theorem TC:UR X (λx H Q=>∃k,RP X.K x H k/\Q k H):=by
 intro pins s σ H x v Q I rx h;obtain⟨k,e,q⟩:=h;have hl:=Ip;have hs:sizeLine=16777216:=MK;cases x with
 |
  non=>
  cases rx;have e':k=false:=e;subst e';exact truthy_none ⟨H,I,q⟩
 |
  bl b=>
  cases rx;have e':k=b:=e;subst e';exact Jo ⟨H,I,q⟩
 |
  int i=>
  obtain⟨t,rfl⟩:=rx;have e':k=(i != 0):=e;subst e';exact PySem.P.truthy_int ⟨H,I,q⟩
 |
  str y=>
  obtain⟨t,rfl⟩:=rx;obtain⟨hy,e'⟩:y.length<=sizeLine/\k=((y.length:Int) != 0):=e;subst e';exact PySem.P.truthy_str (by lia) ⟨H,I.tok _,q⟩
 |
  byt y=>
  obtain⟨t,rfl⟩:=rx;obtain⟨hy,e'⟩:y.size<=sizeLine/\k=((y.size:Int) != 0):=e;subst e';exact PySem.W.truthy_bytes (by lia) ⟨H,I.tok _,q⟩
 |
  ref p=>
  cases rx;have e':(∃xs,A3 X.K H p xs/\k=!xs.isEmpty)\/(∃xs,A4 X.K H p xs/\k=!xs.isEmpty)\/∃kvs,H p=some (.dK kvs)/\k=!kvs.isEmpty:=e;rcases e' with⟨xs,hx,e'⟩|⟨xs,hx,e'⟩|⟨kvs,hx,e'⟩
  .subst e';obtain⟨its,r,pl,hz⟩:=I.list hx;have hlen:=r.length;exact wpAny_truthy_list pl.isList (by simp only[AZ];lia) ⟨H,I.tok _,by rw[Ry r];exact q⟩
  .subst e';obtain⟨its,r,pl,hz⟩:=I.tuple hx;have hlen:=r.length;exact truthy_tuple pl (by simp only[AZ];lia) ⟨H,I.tok _,by rw[Ry r];exact q⟩
  .subst e';obtain⟨hz,hS,vs,r,m⟩:kvs.length<=sizeLine/\(p==sysModules)=false/\∃vs,KV kvs vs/\s.heap.DictOf (Gk X.prog X.w) p vs:=I.hok p _ hx;have hlen:kvs.length=vs.length:=Paired.length r;exact wpAny_truthy_dict hS m (by lia) ⟨H,I.tok _,by rw[Zm r];exact q⟩
 |_=>exact(show False from e).elim
theorem WV (ha:PE X a ta)(he:∀whole,isTrue a X.env whole=(do let v ←whole;standAt a.pos;holding [v] (truthy v))) :
  PT X a (fun σ H Q=>ta σ H λx H'=>∃k,RP X.K x H' k/\Q k H'):=by
 intro pins s σ H Q I h;refine isTrue_plain (AA (ha pins s σ H _ I h) λv s1 zz=>?_) (he _);obtain⟨x,H1,I1,r1,q1⟩:=zz;exact TC pins s1 σ H1 x v Q I1 r1 q1
theorem Ti:BI X (binaryOp .Add) (λx y H Q=>∃i j,x = .str i/\y = .str j/\i.length+j.length<=sizeLine/\Q (.str (i++j)) H):=by
 intro pins s σ H x y v u Q I rx ry h;obtain⟨i,j,rfl,rfl,hz,q⟩:=h;obtain⟨t,rfl⟩:=rx;obtain⟨t',rfl⟩:=ry;exact add_str (λt' tk=>⟨.str (i++j),H,I.tok _,⟨_,rfl⟩,q⟩) hz
theorem F7 {x:V}{us:List Value}(r:Au [x] us):∃u,us=[u]/\AG x u:=by
 cases r with
 |cons r1 r2=>cases r2;exact⟨_,rfl,r1⟩
theorem YK {x y:V}{us:List Value}(r:Au [x,y] us):∃u w',us=[u,w']/\AG x u/\AG y w':=by
 cases r with
 |
  cons r1 r2=>
  cases r2 with
  |cons r3 r4=>cases r4;exact⟨_,_,rfl,r1,r3⟩
theorem aT:EL X (.builtin "abs") (λxs H Q=>∃i,xs=[.int i]/\Q (.int (if i<0 then -i else i)) H):=by
 intro pins s σ H xs us Q I r h;obtain⟨i,rfl,q⟩:=h;obtain⟨u,rfl,t,rfl⟩:=F7 r;exact call_abs_int λu tk=>⟨.int (if i<0 then -i else i),H,I.tok _,⟨_,rfl⟩,q⟩
theorem KW (hc:X.calm=true):EL X (.builtin "min") (λxs H Q=>∃i j,xs=[.int i,.int j]/\Q (.int (if j<i then j else i)) H):=by
 intro pins s σ H xs us Q I r h;obtain⟨i,j,rfl,q⟩:=h;obtain⟨u,w',rfl,⟨t,rfl⟩,⟨t',rfl⟩⟩:=YK r;refine min_two_ints (I.ok.hd hc) λh' tk k=>⟨_,H,I.kept k,?_,q⟩
 by_cases hj:j<i
 .rw[Ay hj,Ay hj];exact⟨_,rfl⟩
 .rw[AB hj,AB hj];exact⟨_,rfl⟩
theorem V8:EL X (.type "int") (λxs H Q=>(∃i,xs=[.int i]/\Q (.int i) H)\/∃k,xs=[.bl k]/\Q (.int (if k then 1 else 0)) H):=by
 intro pins s σ H xs us Q I r h;rcases h with⟨i,rfl,q⟩|⟨k,rfl,q⟩
 .obtain⟨u,rfl,t,rfl⟩:=F7 r;exact call_int_int ⟨.int i,H,I,⟨_,rfl⟩,q⟩
 .obtain⟨u,rfl,r1⟩:=F7 r;cases r1;exact call_int_bool ⟨.int (if k then 1 else 0),H,I.tok _,⟨_,rfl⟩,q⟩
end
structure I0 (h:Heap)(x dx C:Addr)(mA:Str->Option Value):Prop where
 obj:h.get? x=some (PySem.W.instObj C dx)
 ns:h.Ns1 dx mA
 ne:dx≠x
theorem WG {h:Heap}{dx:Addr}{mA:Str->Option Value}(n:h.Ns1 dx mA):∃od,h.get? dx=some od/\∀name,PySem.W.lookIn name od=some (mA name):=by
 obtain⟨o,es,ep,ho,hd,hk,_,hm⟩:=n;refine⟨o,ho,λname=>?_⟩;have e:=hm name;unfold nsFind findBy at e;rw[←Array.find?_toList]at e;unfold PySem.W.lookIn;rw[hd];dsimp only;split
 .rename_i y q;rw[q]at e;exact congrArg some e
 .rename_i q;rw[q]at e;have a:es.toList.any (·.refKey)=false:=by
   rw[List.any_eq_false];intro y hy;obtain⟨z,t,hkey⟩:=hk y (Array.mem_toList_iff.mp hy);simp[DictEntry.refKey,hkey]
  have a':¬es.toList.any (·.refKey)=true:=by rw[a];exact CH
  rw[AB a'];exact congrArg some e
theorem I0.look {h:Heap}{x dx C:Addr}{mA:Str->Option Value}(I:I0 h x dx C mA):∃od,PySem.W.InstAt h x (PySem.W.instObj C dx) C (some od)/\∀name,PySem.W.lookIn name od=some (mA name):=
 let ⟨od,ho,hl⟩:=WG I.ns
 ⟨od,⟨I.obj,rfl,rfl,ho⟩,hl⟩
section
variable {prog:Program}{w:World}{A:Around}{E:Value->Shared->Prop}{s:Shared}{K:Faa}{x dx C f:Addr}{mA:Str->Option Value}{name:Str}{v:Value}
theorem X2 {expr:Bool}{Q:Value->Shared->Prop}(X:K.In s.heap)(I:I0 s.heap x dx C mA)(hg:PySem.W.plainGet K C name=true)(hh:PySem.W.hasDictIn K C=true)
  (ha:PySem.W.findIn K (.ref C) name=some none) (hv:mA name=some v) (hv':PySem.W.handedIn v=true) (h:Q v {s with toks:=s.toks+1}) :
  wpAny (model prog w) A (getAttr (.ref x) name expr) Q E s:=by
 obtain⟨od,J,hl⟩:=I.look;exact PySem.W.get_value X J (SG hg).1 (PySem.W.findObj_own hh ha rfl (by rw[hl,hv])) hv' h
theorem W0 {pl:Sem Bool}{Q:Value×List Value->Shared->Prop}(X:K.In s.heap)(I:I0 s.heap x dx C mA)(hg:PySem.W.plainGet K C name=true)
  (hf:PySem.W.findIn K (.ref C) name=some (some (.ref f))) (ht:PySem.W.isFn K (.ref f)=true) (hv:mA name=none) (h:Q (.ref f,[.ref x]) s) :
  wpAny (model prog w) A (getMethod (.ref x) name pl) Q E s:=by
 obtain⟨od,J,hl⟩:=I.look;exact PySem.W.method_fn X J (SG hg).1 (SG hg).2 hf (Il.mp ht) (by show(PySem.W.lookIn name od).map (·.isSome)=some false;rw[hl,hv];rfl) h
theorem UQ {ns:List Str}{Q:Unit->Shared->Prop}(X:K.In s.heap)(I:I0 s.heap x dx C mA)
  (hs:PySem.W.findIn K (.ref C) "__setattr__"=some (some (.builtin "object.__setattr__"))) (hp:PySem.W.plainOver K C=true) (ht:PySem.W.takerIn K C name=some none) (hh:PySem.W.hasDictIn K C=true)
  (hw:PySem.Within mA ns) (hsz:ns.length<=sizeLine)
  (h:∀h',I0 h' x dx C (λy=>if y=name then some v else mA y)->Heap.SameBut dx s.heap h'->Q () {s with heap:=h',toks:=s.toks+2}) :
  wpAny (model prog w) A (setAttr (.ref x) name v) Q E s:=by
 obtain⟨od,J,hl⟩:=I.look;refine PySem.W.set_plain X J hs (PySem.W.osa_open (s:={s with toks:=s.toks+1}) (r:=none) X J hp ht λb=>?_);obtain⟨cd,hc,hd'⟩:=PySem.W.any_some hh;have hx:s.heap.get? x=some ⟨.ref C,some dx,.plain,#[]⟩:=I.obj;refine As (AV (As (As (wpAny_loadPart hx (As (PySem.W.Looks.here (s:={s with toks:=s.toks+1}) (PySem.W.looks_clsIn X hc) ?_))))));rw[hd'];refine AV (a:=some dx) (As (AV (As ?_)));refine wpAny_nsSet1 (s:={s with toks:=s.toks+1}) I.ns λh' hn2 hs2=>?_;obtain⟨oD,esD,epD,hoD,hdD,hcD⟩:=hn2.count (PySem.Within.cons name v hw);refine As (wpAny_lookBehind hoD (by rw[hdD];exact pastItsLine_dict (Ex hcD (by rw[Bz];lia))) ?_);exact AV (h _ ⟨(hs2.2 _ (Ne.symm I.ne)).trans I.obj,hn2,I.ne⟩ hs2)
theorem YY {R:Result->Shared->Prop}{vs:List Value}{kw:List (Str×Value)}(X:K.In s.heap)(hm:PySem.W.makesIn K C=true)
  (hi:PySem.W.findIn K (.ref C) "__init__"=some (some (.ref f))) (hf:PySem.W.typeIn K (.ref f)=some (.type "function"))
  (h:codeAny (model prog w) (A.under (.builtin "type.__call__" ⟨.ref C::vs,kw⟩)) (.call (.ref f) ⟨.ref (s.heap.objs.size+1)::vs,kw⟩) (PySem.W.InitBack (s.heap.objs.size+1) R)
   {s with heap:=(s.heap.push PySem.W.emptyDict).push (PySem.W.instObj C s.heap.objs.size)}) :
  codeAny (model prog w) A (.call (.ref C) ⟨vs,kw⟩) R s:=by
 obtain⟨hh,g,d,t,os⟩:=s;exact PySem.W.make_core (PySem.W.makes_of X hm) (PySem.W.looks_findIn X hi) (λself=>PySem.W.bind_fn X self hf) (.inl rfl) h
end
def DE (f:Str)(v:V):List (Str×V)->List (Str×V)
 |[]=>[(f,v)]
 |(g,x)::r=>if g=f then(g,v)::r else(g,x)::DE f v r
theorem Q2 (f g:Str)(v:V):∀fs:List (Str×V),(DE f v fs).lookup g=if g=f then some v else fs.lookup g
 |
  []=>by
  show List.lookup g [(f,v)]=_;by_cases h:g=f
  .have hb:(g==f)=true:=Il.mpr h;simp only[List.lookup,hb,Ay h]
  .have hb:(g==f)=false:=MI.mpr h;simp only[List.lookup,hb,AB h]
 |
  (k,x)::r=>by
  have ih:=Q2 f g v r;rw[show DE f v ((k,x)::r)=(if k=f then(k,v)::r else(k,x)::DE f v r) from rfl];by_cases hk:k=f
  .rw[Ay hk];by_cases h:g=k
   .have hb:(g==k)=true:=Il.mpr h;simp only[List.lookup,hb,Ay (h.trans hk)]
   .have hb:(g==k)=false:=MI.mpr h;simp only[List.lookup,hb,AB (λe:g=f=>h (e.trans hk.symm))]
  .rw[AB hk];by_cases h:g=k
   .have hb:(g==k)=true:=Il.mpr h;simp only[List.lookup,hb,AB (λe:g=f=>hk (h.symm.trans e))]
   .have hb:(g==k)=false:=MI.mpr h;simp only[List.lookup,hb];exact ih
theorem Nn (f:Str)(v:V):∀fs:List (Str×V),f∈(DE f v fs).map (·.1)/\∀g,g∈fs.map (·.1)->g∈(DE f v fs).map (·.1)
 |[]=>⟨by simp[DE],λg h=>by simp at h⟩
 |
  (k,x)::r=>by
  obtain⟨i1,i2⟩:=Nn f v r;rw[show DE f v ((k,x)::r)=(if k=f then(k,v)::r else(k,x)::DE f v r) from rfl];by_cases hk:k=f
  .rw[Ay hk];subst hk;exact⟨by simp,λg h=>by simpa using h⟩
  .rw[AB hk];refine⟨?_,λg h=>?_⟩
   .rw[Cf];exact Ce _ i1
   .rw[Cf]at h ⊢;rcases Bb.mp h with e|e
    .exact Bb.mpr (.inl e)
    .exact Ce _ (i2 g e)
theorem QX (f:Str)(v:V):∀fs:List (Str×V),(DE f v fs).length<=fs.length+1
 |[]=>by simp[DE]
 |
  (k,x)::r=>by
  have ih:=QX f v r;rw[show DE f v ((k,x)::r)=(if k=f then(k,v)::r else(k,x)::DE f v r) from rfl];by_cases hk:k=f
  .rw[Ay hk,Bz,Bz];lia
  .rw[AB hk,Bz,Bz];lia
theorem EG.some_of {v:V}{o:Option Value}(r:EG (some v) o):∃u,o=some u/\AG v u:=by
 cases o with
 |none=>exact(show False from r).elim
 |some u=>exact⟨u,rfl,r⟩
theorem EG.none_of {o:Option Value}(r:EG none o):o=none:=by
 cases o with
 |none=>rfl
 |some u=>exact(show False from r).elim
theorem TL {v:V}{u:Value}(r:AG v u):PySem.W.handedIn u=true:=by
 cases v with
 |non=>cases (show u=Value.none from r);rfl
 |bl b=>cases (show u=Value.bool b from r);rfl
 |int i=>obtain⟨t,e⟩:=(show ∃t,u=Value.int i t from r);cases e;rfl
 |str x=>obtain⟨t,e⟩:=(show ∃t,u=Value.str x t from r);cases e;rfl
 |byt b=>obtain⟨t,e⟩:=(show ∃t,u=Value.bytes b t from r);cases e;rfl
 |flt b=>obtain⟨t,e⟩:=(show ∃t,u=Value.float b t from r);cases e;rfl
 |ref a=>cases (show u=Value.ref a from r);rfl
 |ty n=>cases (show u=Value.type n from r);rfl
section
variable {P:Program}{w:World}{H H':Hp}{h h':Heap}{a C dx:Addr}{fs fs':List (Str×V)}
theorem LG (hok:Cc P w H h)(e:H a=some (.ins C dx fs)):∃mA,I0 h a dx C mA/\(∀f,EG (fs.lookup f) (mA f))/\PySem.Within mA (fs.map (·.1))/\fs.length<=1000/\H dx=some (.own a):=by
 obtain⟨d,z,ne,ob,mA,n,r,q⟩:=(show CM P w H h a (.ins C dx fs) from hok a _ e)
 exact⟨mA,⟨ob,n,ne⟩,r,q,z,d⟩
end
structure DU (K:Faa)(C:Addr):Prop where
 pg:PySem.W.plainGet K C Str.empty=true
 hd:PySem.W.hasDictIn K C=true
 po:PySem.W.plainOver K C=true
 sa:PySem.W.findIn K (.ref C) "__setattr__"=some (some (.builtin "object.__setattr__"))
theorem DU.get {K:Faa}{C:Addr}(c:DU K C)(f:Str):PySem.W.plainGet K C f=true:=c.pg
def CO (K:Faa)(C:Addr)(f:Str):Prop:=PySem.W.findIn K (.ref C) f=some none
theorem CO.taker {K:Faa}{C:Addr}{f:Str}(n:CO K C f):PySem.W.takerIn K C f=some none:=by
 unfold PySem.W.takerIn;rw[show PySem.W.findIn K (.ref C) f=some none from n];rfl
structure Jy (K:Faa)(C:Addr)(m:Str)(f:Addr):Prop where
 at_:PySem.W.findIn K (.ref C) m=some (some (.ref f))
 fn:PySem.W.isFn K (.ref f)=true
 kp:PySem.W.keepIn K (.ref f)=true
section
variable {X:Cx}{pins:List (Addr×Obj)}{σ:St}{H:Hp}{s:Shared}{a C dx:Addr}{fs:List (Str×V)}{f:Str}{v:V}{A:Around}{E:Value->Shared->Prop}
theorem ZO {b:Bool}{Q:Value->Shared->Prop}(I:A5 X pins σ H s)(e:H a=some (.ins C dx fs))(c:DU X.K C)(n:CO X.K C f)(l:fs.lookup f=some v)
  (h:∀u s',A5 X pins σ H s'->AG v u->Q u s'):wpAny (model X.prog X.w) A (getAttr (.ref a) f b) Q E s:=by
 obtain⟨mA,O,r,_,_,_⟩:=LG I.hok e;obtain⟨u,hu,ru⟩:=EG.some_of (v:=v) (o:=mA f) (by rw[←l];exact r f);exact X2 I.kIn O (c.get f) c.hd n hu (TL ru) (h u _ (I.tok _) ru)
theorem YZ {m:Str}{g:Addr}{pl:Sem Bool}{Q:Value×List Value->Shared->Prop}(I:A5 X pins σ H s)(e:H a=some (.ins C dx fs))(c:DU X.K C)(k:Jy X.K C m g)(l:fs.lookup m=none)
  (h:Q (.ref g,[.ref a]) s):wpAny (model X.prog X.w) A (getMethod (.ref a) m pl) Q E s:=by
 obtain⟨mA,O,r,_,_,_⟩:=LG I.hok e;have hn:mA m=none:=EG.none_of (by rw[←l];exact r m);exact W0 I.kIn O (c.get m) k.at_ k.fn hn h
theorem aO {y:V}{u:Value}{Q:Unit->Shared->Prop}(I:A5 X pins σ H s)(e:H a=some (.ins C dx fs))(c:DU X.K C)(n:CO X.K C f)(hl:fs.length<1000)(ry:AG y u)
  (h:∀s',A5 X pins σ (upd H a (.ins C dx (DE f y fs))) s'->Q () s'):wpAny (model X.prog X.w) A (setAttr (.ref a) f u) Q E s:=by
 obtain⟨mA,O,r,wi,_,ho⟩:=LG I.hok e;have hz:(fs.map (·.1)).length<=sizeLine:=by rw[Af,MK];lia
 refine UQ I.kIn O c.sa c.po n.taker c.hd wi hz λh' O' sb=>h _ ?_;have hd:∃o,h'.get? dx=some o:=by obtain⟨o,_,_,e',_⟩:=O'.ns;exact⟨o,e'⟩
 refine I.write (x:=a) (e:=dx) (by rw[e];exact True.intro) (.inr ho) (λb q hb z=>(sb.2 b hb).trans z) hd ?_;refine⟨by rw[Ag O.ne];exact ho,?_,O.ne,O'.obj,_,O'.ns,λg=>?_,λg hg=>?_⟩
 .have:=QX f y fs;lia
 .show EG ((DE f y fs).lookup g) (if g=f then some u else mA g);rw[Q2];by_cases q:g=f
  .rw[Ay q,Ay q];exact ry
  .rw[AB q,AB q];exact r g
 .by_cases q:g=f
  .rw[q];exact(Nn f y fs).1
  .refine(Nn f y fs).2 g (wi g λz=>hg ?_);show(if g=f then some u else mA g)=none;rw[AB q];exact z
theorem A5.made (I:A5 X pins σ H s):A5 X pins σ (upd (upd H s.heap.objs.size (.own (s.heap.objs.size+1))) (s.heap.objs.size+1) (.ins C s.heap.objs.size []))
  {s with heap:=(s.heap.push PySem.W.emptyDict).push (PySem.W.instObj C s.heap.objs.size)}:=by
 have e1:(s.heap.push PySem.W.emptyDict).get? s.heap.objs.size=some PySem.W.emptyDict:=CT s.heap rfl;have e2:((s.heap.push PySem.W.emptyDict).push (PySem.W.instObj C s.heap.objs.size)).get? (s.heap.objs.size+1)=some (PySem.W.instObj C s.heap.objs.size):=by
  have:=CT (s.heap.push PySem.W.emptyDict) (o:=PySem.W.instObj C s.heap.objs.size) rfl
  rwa [Kx]at this
 have e3:(s.heap.push PySem.W.emptyDict).Ns s.heap.objs.size (λ_=>none):=⟨PySem.W.emptyDict,#[],_,e1,rfl,(λe he=>absurd he (by simp)),λ_=>rfl⟩
 have I1:=I.laid (a:=s.heap.objs.size) (o:=.own (s.heap.objs.size+1)) (h':=s.heap.push PySem.W.emptyDict) (t':=s.toks) (λb u q=>Bu _ q) (Ah _) ⟨_,e1⟩;refine I1.laid (a:=s.heap.objs.size+1) (o:=.ins C s.heap.objs.size []) (t':=s.toks) (λb u q=>Bu _ q) (Ot (Kx _ _)) ?_;have ne:s.heap.objs.size≠s.heap.objs.size+1:=C4 (Ig _);refine⟨by rw[Ag ne,A7],Bh _,ne,e2,λ_=>none,(Heap.Ns1.of_empty e3).at λo q=>Bu _ q,λ_=>True.intro,λy hy=>absurd rfl hy⟩
theorem TR {prog:Program}{w:World}{env:Env}{e:Expr}{f:Str}{pos:Pos}{s:Shared}{Q:Value->Shared->Prop}(hb:attributeBase e f env (eval e env)=eval e env)
  (h:wpAny (model prog w) A (eval e env) (λo s₁=>wpAny (model prog w) A (getAttr o f true) Q E s₁) E s):wpAny (model prog w) A (eval (.Attribute e f pos) env) Q E s:=
 Attribute_any_ h (by rw[arm_eval_Attribute,hb])
end
def Qu (K:Faa)(ta:TE)(f:Str):TE:=fun σ H Q=>ta σ H λx H1=>∃a C dx fs v,x = .ref a/\H1 a=some (.ins C dx fs)/\DU K C/\CO K C f/\fs.lookup f=some v/\Q v H1
def Yp (K:Faa)(ta tv:TE)(f:Str):TS:=λD σ H=>tv σ H λy H1=>ta σ H1 λx H2=>∃a C dx fs,x = .ref a/\H2 a=some (.ins C dx fs)/\DU K C/\CO K C f/\fs.length<1000/\
 D.nx σ (upd H2 a (.ins C dx (DE f y fs)))
section
variable {X:Cx}{o e value:Expr}{f:Str}{pos pos' tpos:Pos}{ta tv:TE}
theorem B9 (he:PE X e ta)(hb:attributeBase e f X.env (eval e X.env)=eval e X.env):PE X (.Attribute e f pos) (Qu X.K ta f):=by
 intro pins s σ H Q I h;refine TR hb (AA (he pins s σ H _ I h) λu s1 zz=>?_);obtain⟨x,H1,I1,rx,a,C,dx,fs,v,ex,ea,c,n,l,q⟩:=zz;subst ex;obtain rfl:u=Value.ref a:=rx;exact ZO I1 ea c n l λu' s2 I2 ru=>⟨v,H1,I2,ru,q⟩
theorem DX (ha:PE X o ta)(hv:PE X value tv)(hs:swapsWith value (some (.Attribute o f pos')) pos.line X.env=pure false):PS X (.Assign [.Attribute o f pos'] value pos) (Yp X.K ta tv f):=by
 intro pins s σ H D I h;refine plainObj_wpAny_Assign_Attribute (AA (hv pins s σ H _ I h) λu s1 zz=>?_) hs;obtain⟨y,H1,I1,ry,q⟩:=zz;refine AA (ha pins s1 σ H1 _ I1 q) λov s2 zz=>?_;obtain⟨x,H2,I2,rx,a,C,dx,fs,ex,ea,c,n,l,q2⟩:=zz;subst ex;obtain rfl:ov=Value.ref a:=rx;exact aO I2 ea c n l ry λs3 I3=>⟨σ,_,I3,q2⟩
end
section
variable {X:Cx}{pins:List (Addr×Obj)}{σ:St}{H:Hp}{s:Shared}{A:Around}{E:Value->Shared->Prop}{Q:Value->Shared->Prop}{c:Value}{b:Bool}
inductive Eo (K:Faa)(H:Hp):V->Value->Prop where
 |non:Eo K H .non (.type "NoneType")
 |bl (x:Bool):Eo K H (.bl x) (.type "bool")
 |int (i:Int):Eo K H (.int i) (.type "int")
 |str (x:Str):Eo K H (.str x) (.type "str")
 |flt (x:UInt64):Eo K H (.flt x) (.type "float")
 |lst {a:Addr} {xs:List V} (e:H a=some (.lst xs)):Eo K H (.ref a) (.type "list")
 |frz {a:Addr} {o:Obj} {xs:List V} (e:H a=some (.frz o (.lst xs))):Eo K H (.ref a) (.type "list")
 |tup {a:Addr} {xs:List V} (e:H a=some (.tup xs)):Eo K H (.ref a) (.type "tuple")
 |dK {a:Addr} {kvs:List (CF×V)} (e:H a=some (.dK kvs)):Eo K H (.ref a) (.type "dict")
 |dT {a:Addr} {kvs:List (List CF×V)} (e:H a=some (.dT kvs)):Eo K H (.ref a) (.type "dict")
 |ins {a C dx:Addr} {fs:List (Str×V)} (e:H a=some (.ins C dx fs)) (cl:DU K C) (ha:PySem.W.findIn K (.ref C) "__class__"=some (some (.builtin "object.__class__")))
  (hn:PySem.W.specialIn K (.builtin "object.__class__") "__get__"=some (some (.builtin "getset_descriptor.__get__"))) (htk:PySem.W.takesIn K (.builtin "object.__class__")=some true)
  (hm:PySem.W.mroIn K C (.type "object")=some true):Eo K H (.ref a) (.ref C)
theorem YG {x:V}{u t:Value}(I:A5 X pins σ H s)(rx:AG x u)(ty:Eo X.K H x t)(e:PySem.W.kitOne X.K t c=some b)(h:∀tk,Q (.bool b) {s with toks:=tk}) :
  wpAny (model X.prog X.w) A (call (.builtin "isinstance") [u,c]) Q E s:=by
 cases ty with
 |non=>cases (show u=Value.none from rx);exact FH PySem.W.kitx_none I.kIn True.intro e (λz=>nomatch z) h
 |bl y=>cases (show u=Value.bool y from rx);exact FH PySem.W.kitx_bool I.kIn True.intro e (λz=>nomatch z) h
 |int i=>obtain⟨t,q⟩:=(show ∃t,u=Value.int i t from rx);cases q;exact FH PySem.W.kitx_int I.kIn True.intro e (λz=>nomatch z) h
 |str y=>obtain⟨t,q⟩:=(show ∃t,u=Value.str y t from rx);cases q;exact FH PySem.W.kitx_str I.kIn True.intro e (λz=>nomatch z) h
 |flt y=>obtain⟨t,q⟩:=(show ∃t,u=Value.float y t from rx);cases q;exact FH PySem.W.kitx_float I.kIn True.intro e (λz=>nomatch z) h
 |
  @lst a xs ea=>
  cases (show u=Value.ref a from rx);obtain⟨_,_,n,_,h1⟩:=(show CM X.prog X.w H s.heap a (.lst xs) from I.hok a _ ea)
  exact FH PySem.W.kitx_list I.kIn ⟨_,h1,rfl⟩ e (λz=>nomatch z) h
 |
  @frz a ob xs ea=>
  cases (show u=Value.ref a from rx);obtain⟨_,_,_,n,_,h1⟩:=(show CM X.prog X.w H s.heap a (.frz ob (.lst xs)) from I.hok a _ ea)
  exact FH PySem.W.kitx_list I.kIn ⟨_,h1,rfl⟩ e (λz=>nomatch z) h
 |
  @tup a xs ea=>
  cases (show u=Value.ref a from rx);obtain⟨_,_,_,p⟩:=(show CM X.prog X.w H s.heap a (.tup xs) from I.hok a _ ea)
  obtain⟨o,h1,h2,_⟩:=p;exact FH PySem.W.kitx_tuple I.kIn ⟨o,h1,h2⟩ e (λz=>nomatch z) h
 |
  @dK a kvs ea=>
  cases (show u=Value.ref a from rx);obtain⟨_,_,vs,_,p⟩:=(show CM X.prog X.w H s.heap a (.dK kvs) from I.hok a _ ea)
  obtain⟨o,es,ep,h1,h2,_⟩:=p;exact FH PySem.W.kitx_dict I.kIn ⟨o,h1,h2.1⟩ e (λz=>nomatch z) h
 |
  @dT a kvs ea=>
  cases (show u=Value.ref a from rx);obtain⟨_,_,xs,_,o,es,ep,h1,h2,_⟩:=(show CM X.prog X.w H s.heap a (.dT kvs) from I.hok a _ ea)
  exact FH PySem.W.kitx_dict I.kIn ⟨o,h1,h2.1⟩ e (λz=>nomatch z) h
 |
  @ins a C dx fs ea cl ha hn htk hm=>
  cases (show u=Value.ref a from rx);obtain⟨mA,O,_⟩:=LG I.hok ea;obtain⟨od,J,_⟩:=O.look;exact FH (PySem.W.kitx_own (cl.get _) cl.hd ha hn htk hm) I.kIn J e (λz=>nomatch z) h
end
structure Cq (k:Nat)(A:Around):Prop where
 hd:A.handled=none
 dp:A.depth+3*k+5<recursionLimit
 un:A.units+16*k+200<cLine
 gd:A.guards=some []
theorem Cq.mono {j k:Nat}{A:Around}(r:Cq k A)(h:j<=k):Cq j A:=⟨r.hd,by have:=r.dp;lia,by have:=r.un;lia,r.gd⟩
theorem Cq.deeper {k:Nat}{A:Around}(r:Cq (k+1) A)(env:Env):Cq k (A.deeper env):=
 ⟨r.hd,by have:=r.dp;show A.depth+1+3*k+5<_;lia,by have:=r.un;show A.units+3+16*k+200<_;lia,r.gd⟩
theorem Vk {A:Around}{C:Addr}{us:List Value}{kw:List (Str×Value)}:(A.under (.builtin "type.__call__" ⟨.ref C::us,kw⟩)).depth=A.depth+1:=by
 first|rfl|simp[Around.under,Code.weight,Code.isCreation,Code.isGuard,Code.isCaller,Code.frames,Code.isFrame,guardIds]
theorem ai {A:Around}{C:Addr}{us:List Value}{kw:List (Str×Value)}:(A.under (.builtin "type.__call__" ⟨.ref C::us,kw⟩)).units=A.units+1:=by
 first|rfl|simp[Around.under,Code.cUnits,Code.frames,Code.isFrame]
theorem ZW {A:Around}{C:Addr}{us:List Value}{kw:List (Str×Value)}:(A.under (.builtin "type.__call__" ⟨.ref C::us,kw⟩)).guards=A.guards:=by
 have:Code.guards (.builtin "type.__call__" ⟨.ref C::us,kw⟩)=[]:=by first|rfl|simp[Code.guards,Code.isGuard,guardIds]
 show pushGuards (Code.guards (.builtin "type.__call__" ⟨.ref C::us,kw⟩)) A.guards=A.guards;rw[this];cases A.guards<;>rfl
theorem Cq.make {k:Nat}{A:Around}(r:Cq (k+1) A)(C:Addr)(us:List Value)(kw:List (Str×Value)):Cq k (A.under (.builtin "type.__call__" ⟨.ref C::us,kw⟩)):=
 ⟨r.hd,by have:=r.dp;rw[Vk];lia,by have:=r.un;rw[ai];lia,by rw[ZW];exact r.gd⟩
theorem Cq.depth {k:Nat}{A:Around}(r:Cq k A):A.depth<recursionLimit:=by have:=r.dp;lia
theorem Cq.units {k:Nat}{A:Around}(r:Cq k A):A.units+64<cLine:=by have:=r.un;lia
def HP:TA:=λ_ H Q=>Q [] H
def KU (ta:TE)(tr:TA):TA:=fun σ H Q=>ta σ H λx H1=>tr σ H1 λxs H2=>Q (x::xs) H2
section
variable {X:Cx}{e:Expr}{es:List Expr}{te:TE}{t:TA}{pos:Pos}
theorem A2:PA X [] HP:=λ_ _ _ _ H Q I h=>Calls.spliced_nil ⟨[],H,I,.nil,h⟩
theorem A0 (ha:PE X e te)(hr:PA X es t)(hs:starEach (e::es) X.env=(false,eval e X.env)::starEach es X.env:=by rfl):PA X (e::es) (KU te t):=by
 intro pos pins s σ H Q I h;rw[hs];show wpAny _ _ (spliced ((false,eval e X.env)::backTo pos (starEach es X.env))) _ _ s;refine Calls.spliced_cons (AA (ha pins s σ H _ I h) λu s1 zz=>?_);obtain⟨x,H1,I1,r1,q1⟩:=zz;refine AA (hr pos pins s1 σ H1 _ I1 q1) λus s2 zz=>?_;obtain⟨xs,H2,I2,r2,q2⟩:=zz;exact⟨x::xs,H2,I2,.cons r1 r2,q2⟩
def Ss (t:TA):TE:=fun σ H Q=>t σ H λxs H1=>xs.length<=sizeLine/\∀p,H1 p=none->Q (.ref p) (upd H1 p (.tup xs))
def P6 (t:TA):TE:=fun σ H Q=>t σ H λxs H1=>xs.length<=sizeLine/\∀p,H1 p=none->Q (.ref p) (upd H1 p (.lst xs))
theorem BX {x1}(h:PA X es t):PE X (.Tuple es x1 pos) (Ss t):=by
 intro pins s σ H Q I hq;refine wpAny_Tuple_spliced (AA (h pos pins s σ H _ I hq) λus s1 zz=>?_);obtain⟨xs,H1,I1,r,z,q⟩:=zz;refine⟨by rw[←r.length];exact z,?_⟩;have hf:H1 s1.heap.objs.size=none:=I1.hok.fresh (Ah _);refine⟨.ref s1.heap.objs.size,upd H1 s1.heap.objs.size (.tup xs),I1.laid (t':=s1.toks) (λb u e=>Bu _ e) (Ah _) ?_,rfl,q _ hf⟩;exact⟨z,us,r,⟨_,CT _ rfl,rfl,⟨_,rfl⟩,rfl⟩⟩
theorem BO (h:PA X es t):PE X (.List es pos) (P6 t):=by
 intro pins s σ H Q I hq;refine wpAny_List_spliced (AA (h pos pins s σ H _ I hq) λus s1 zz=>?_);obtain⟨xs,H1,I1,r,z,q⟩:=zz;refine⟨by rw[←r.length];exact z,?_⟩;have hf:H1 s1.heap.objs.size=none:=I1.hok.fresh (Ah _);refine⟨.ref s1.heap.objs.size,upd H1 s1.heap.objs.size (.lst xs),I1.laid (t':=s1.toks) (λb u e=>Bu _ e) (Ah _) ?_,rfl,q _ hf⟩;exact⟨z,us,0,r,CT _ rfl⟩
end
abbrev Sp:=List V->Hp->VK->XK->Prop
abbrev Fe:=List Env->Hp->Shared->XK->Value->Shared->Prop
structure HQ (P:Program)(w:World)(K:Faa)(mg:Str->Option Value)(base:Heap)(A:Around)(outer:List Env)(s:Shared)(H:Hp):Prop where
 frames:A.frames=some outer
 mod:Mod K mg base
 bs:∀b o,base.get? b=some o->s.heap.get? b=some o/\H b=none
 bsz:base.objs.size<=s.heap.objs.size
 funs:s.heap.FunFrames base outer
 frf:∀b∈Eh outer,H b=none
 hok:Cc P w H s.heap
 bare:AllBare s.gens
def CE (outer:List Env)(P:Program)(w:World)(H:Hp)(s:Shared)(Q:VK)(u:Value)(s':Shared):Prop:=
 ∃v H',s'.os=s.os/\AllBare s'.gens/\Un (Eh outer) [] H H' s.heap s'.heap/\Cc P w H' s'.heap/\AG v u/\Q v H'
def CR (CX:Fe)(outer:List Env)(P:Program)(w:World)(H:Hp)(s:Shared)(Q:VK)(E:XK)(r:Result)(s':Shared):Prop:=
 match r with
 |.ok (.ret u)=>CE outer P w H s Q u s'
 |.ok _=>False
 |.error e=>CX outer H s E e s'
structure AI (P:Program)(w:World)(K:Faa)(mg:Str->Option Value)(base:Heap)(CX:Fe)(k:Nat)(f:Addr)(fd:FuncData)(ps:List Str)(sp:Sp):Prop where
 len:∀vs H Q E,sp vs H Q E->vs.length=ps.length
 run:∀(A:Around) (outer:List Env) (s:Shared) (H:Hp) (args:Args) (us:List Value) (vs:List V) (Q:VK) (E:XK),Cq k A->HQ P w K mg base A outer s H->BindsTo s fd args (ps.zip us)->Au vs us->sp vs H Q E->
  codeAny (model P w) A (.call (.ref f) args) (CR CX outer P w H s Q E) s
theorem HQ.make {P:Program}{w:World}{K:Faa}{mg:Str->Option Value}{base:Heap}{A:Around}{outer:List Env}{s:Shared}{H:Hp}(e:HQ P w K mg base A outer s H)(C:Addr)(us:List Value)(kw:List (Str×Value)) :
 HQ P w K mg base (A.under (.builtin "type.__call__" ⟨.ref C::us,kw⟩)) outer s H:=⟨by first|exact e.frames|(simpa[Around.under,Code.envs,Code.isFrame,pushEnvs] using e.frames),e.mod,e.bs,e.bsz,e.funs,e.frf,e.hok,e.bare⟩
section
variable {X:Cx}{pins:List (Addr×Obj)}{σ:St}{H:Hp}{s s':Shared}
theorem A5.env0 (I:A5 X pins σ H s):HQ X.prog X.w X.K X.mg X.base X.A X.stack s H:=
 ⟨I.ok.frames,I.ok.mod,I.bs,Ex I.ok.bsz I.sz,I.stack,I.stkFree,I.hok,I.bare⟩
theorem A5.after {Q:VK}{u:Value}(I:A5 X pins σ H s)(h:CE X.stack X.prog X.w H s Q u s'):EP X pins σ Q u s':=by
 obtain⟨v,H',os,bare,un,hok,r,q⟩:=h;obtain⟨hh,g,d,t,os'⟩:=s';obtain rfl:os'=s.os:=os;exact⟨v,H',I.call (h':=hh) (g':=g) (d':=d) (t':=t) (ch:=[]) un hok bare (λb z=>absurd z (by simp)),r,q⟩
end
def ZQ (sp:Sp)(dvs:List V)(E:XK)(t:TA):TE:=fun σ H Q=>t σ H λvs H1=>sp (vs++dvs) H1 Q E
def La (C:Addr)(m:Str)(sp:Sp)(dvs:List V)(E:XK)(ta:TE)(t:TA):TE:=fun σ H Q=>ta σ H λx H1=>∃a dx fs,x = .ref a/\H1 a=some (.ins C dx fs)/\fs.lookup m=none/\
 t σ H1 λvs H2=>sp (x::(vs++dvs)) H2 Q E
def Xn (C:Addr)(sp:Sp)(dvs:List V)(E:XK)(t:TA):TE:=fun σ H Q=>t σ H λvs H1=>∀x dx,H1 x=none->H1 dx=none->dx≠x->
 sp (.ref x::(vs++dvs)) (upd (upd H1 dx (.own x)) x (.ins C dx [])) (λv H2=>v = .non/\Q (.ref x) H2) E
def AL (K:Faa)(fd:FuncData)(ps:List Str)(ds:List Value):Prop:=
 ∀(s:Shared) (us:List Value),K.In s.heap->(us++ds).length=ps.length->BindsTo s fd ⟨us,[]⟩ (ps.zip (us++ds))
theorem AL.all {K:Faa}{fd:FuncData}{ps:List Str}(h:∀us:List Value,us.length=ps.length->bindArgs fd ⟨us,[]⟩=pure (ps.zip us)):AL K fd ps []:=λs us _ hl=>by
 rw[CV]at hl ⊢;exact .of_eq (h us hl)
def J2 (CX:Fe)(X:Cx)(E:XK):Prop := ∀(pins:List (Addr×Obj)) (σ:St) (H:Hp) (s:Shared) (e:Value) (s':Shared),A5 X pins σ H s->CX X.stack H s E e s'->X.xe e s'
section
variable {X:Cx}{CX:Fe}{k:Nat}{f C:Addr}{fd:FuncData}{ps:List Str}{sp:Sp}{dvs:List V}{ds:List Value}{E:XK}{x m:Str}{p pos apos:Pos}{e o:Expr}{es:List Expr}{ta:TE}{t:TA}
theorem QL {pins:List (Addr×Obj)}{σ:St}{H:Hp}{s:Shared}{Q:VK}{us:List Value}{vs:List V}(F:AI X.prog X.w X.K X.mg X.base CX k f fd ps sp)(hr:Cq k X.A)(hb:AL X.K fd ps ds)(hd:Au dvs ds)(hx:J2 CX X E)
  (I:A5 X pins σ H s) (r:Au vs us) (h:sp (vs++dvs) H Q E):wpAny (model X.prog X.w) X.A (call (.ref f) us) (EP X pins σ Q) X.xe s:=by
 have r2:Au (vs++dvs) (us++ds):=r.append hd;have hl:(us++ds).length=ps.length:=by rw[←r2.length];exact F.len _ _ _ _ h
 refine wpAny_call (OU (F.run X.A X.stack s H ⟨us,[]⟩ (us++ds) (vs++dvs) Q E hr I.env0 (hb s us I.kIn hl) r2 h) λr s' hq=>?_);cases r with
 |error e=>exact hx pins σ H s e s' I hq
 |
  ok fl=>
  cases fl with
  |ret u=>exact I.after hq
  |next=>exact False.elim hq
  |brk=>exact False.elim hq
  |cont=>exact False.elim hq
theorem Ax (F:AI X.prog X.w X.K X.mg X.base CX k f fd ps sp)(hr:Cq k X.A)(hg:Gl X x)(hm:X.mg x=some (.ref f))(hk:PySem.W.keepIn X.K (.ref f)=true)(hb:AL X.K fd ps ds)(hd:Au dvs ds)(hx:J2 CX X E)
  (ha:PA X (e::es) t) (hdb:(x==("__debug__":Str))=false:=by decide) (he:starEach (e::es) X.env=(false,eval e X.env)::starEach es X.env:=by rfl) (hpl:(backTo pos (starEach es X.env)).any (·.1)=false:=by rfl) :
  PE X (.Call (.Name x p) (e::es) [] pos) (ZQ sp dvs E t):=by
 intro pins s σ H Q I h;refine ML (NF I hg hm ?_ hdb);refine PySem.W.callWith_K (h₀:=X.base) I.ok.mod.kin hk (AA (ha pos pins s σ H _ I h) λus s1 zz=>?_) he hpl;obtain⟨vs,H1,I1,r,q⟩:=zz;refine⟨I1.kIn,?_⟩;exact QL F hr hb hd hx I1 r q
theorem FP {pl:Sem Bool}(he:PE X o ta)(c:DU X.K C)(hm:Jy X.K C m f)(F:AI X.prog X.w X.K X.mg X.base CX k f fd ps sp)(hr:Cq k X.A)(hb:AL X.K fd ps ds)(hd:Au dvs ds)(hx:J2 CX X E)
  (ht:eval (.Call (.Attribute o m apos) [] [] pos) X.env=(do
   let ov ←eval o X.env
   standAt apos.atName
   let (f,first) ←holding [ov] (getMethod ov m pl)
   callWith pos f first (backTo pos (starEach [] X.env)) (backToKw pos (keywordEach [] X.env))):=by rfl) :
  PE X (.Call (.Attribute o m apos) [] [] pos) (La C m sp dvs E ta HP):=by
 intro pins s σ H Q I h;refine PySem.W.methodCall_KW (pl:=pl) (AA (he pins s σ H _ I h) λu s1 zz=>?_) ht;obtain⟨x,H1,I1,rx,a,dx,fs,ex,ea,l,q⟩:=zz;subst ex;obtain rfl:u=Value.ref a:=rx;refine YZ I1 ea c hm l ?_;exact PySem.W.callWith_K0 (first:=[.ref a]) I1.kIn hm.kp (QL (us:=[.ref a]) (vs:=[.ref a]) F hr hb hd hx I1 (.cons rfl .nil) q)
structure Mk (K:Faa)(C f:Addr):Prop where
 makes:PySem.W.makesIn K C=true
 init:PySem.W.findIn K (.ref C) "__init__"=some (some (.ref f))
 fn:PySem.W.isFn K (.ref f)=true
 kp:PySem.W.keepIn K (.ref C)=true
theorem aK {pins:List (Addr×Obj)}{σ:St}{H:Hp}{s:Shared}{Q:VK}{us:List Value}{vs:List V}(M:Mk X.K C f)(F:AI X.prog X.w X.K X.mg X.base CX k f fd ps sp)(hr:Cq (k+1) X.A)(hb:AL X.K fd ps ds)(hd:Au dvs ds)
  (hx:J2 CX X E) (I:A5 X pins σ H s) (r:Au vs us)
  (h:∀x dx,H x=none->H dx=none->dx≠x->sp (.ref x::(vs++dvs)) (upd (upd H dx (.own x)) x (.ins C dx [])) (λv H2=>v = .non/\Q (.ref x) H2) E) :
  wpAny (model X.prog X.w) X.A (call (.ref C) us) (EP X pins σ Q) X.xe s:=by
 have hq:=h (s.heap.objs.size+1) s.heap.objs.size (I.hok.fresh (GM _)) (I.hok.fresh (Ah _)) (C4 (Ig _));have I2:=A5.made (C:=C) I;have r2:Au (V.ref (s.heap.objs.size+1)::(vs++dvs)) (Value.ref (s.heap.objs.size+1)::(us++ds)):=.cons rfl (r.append hd);have hl:(Value.ref (s.heap.objs.size+1)::us++ds).length=ps.length:=by
  have e:=r2.length;rw[F.len _ _ _ _ hq]at e;exact e.symm
 refine wpAny_call (YY (f:=f) I.kIn M.makes M.init (Il.mp M.fn) (OU (F.run _ X.stack _ _ ⟨Value.ref (s.heap.objs.size+1)::us,[]⟩ (Value.ref (s.heap.objs.size+1)::(us++ds)) _ _ E (hr.make C us [])
  (I2.env0.make C us []) (hb _ (Value.ref (s.heap.objs.size+1)::us) I2.kIn hl) r2 hq) λr s' hq'=>?_))
 cases r with
 |error e=>exact hx pins σ _ _ e s' I2 hq'
 |
  ok fl=>
  cases fl with
  |
   ret u=>
   obtain⟨v,H',I3,rv,ev,q3⟩:=I2.after hq';subst ev;exact⟨rv,⟨V.ref (s.heap.objs.size+1),H',I3,rfl,q3⟩⟩
  |next=>exact False.elim hq'
  |brk=>exact False.elim hq'
  |cont=>exact False.elim hq'
theorem Jr (M:Mk X.K C f)(F:AI X.prog X.w X.K X.mg X.base CX k f fd ps sp)(hr:Cq (k+1) X.A)(hg:Gl X x)(hm:X.mg x=some (.ref C))(hb:AL X.K fd ps ds)(hd:Au dvs ds)(hx:J2 CX X E)
  (ha:PA X (e::es) t) (hdb:(x==("__debug__":Str))=false:=by decide) (he:starEach (e::es) X.env=(false,eval e X.env)::starEach es X.env:=by rfl) (hpl:(backTo pos (starEach es X.env)).any (·.1)=false:=by rfl) :
  PE X (.Call (.Name x p) (e::es) [] pos) (Xn C sp dvs E t):=by
 intro pins s σ H Q I h;refine ML (NF I hg hm ?_ hdb);refine PySem.W.callWith_K (h₀:=X.base) I.ok.mod.kin M.kp (AA (ha pos pins s σ H _ I h) λus s1 zz=>?_) he hpl;obtain⟨vs,H1,I1,r,q⟩:=zz;refine⟨I1.kIn,?_⟩;exact aK M F hr hb hd hx I1 r q
end
section
variable {X:Cx}{CX:Fe}{k:Nat}{f C:Addr}{fd:FuncData}{ps ks:List Str}{sp:Sp}{E:XK}{x m:Str}{p pos apos kpos:Pos}{e o:Expr}{es:List Expr}{kws:List Keyword}{te ta:TE}{t tk:TA}{nm:Option Str}
variable {g:List Value->List Value->List Value}{gV:List V->List V->List V}
end
structure AO (N P:List Str)(sc:Scope):Prop where
 kind:sc.kind = .function
 co:sc.isCoroutine=false
 gen:sc.isGenerator=false
 nd:N.Nodup
 pre:N.take P.length=P
 par:∀x∈P,sc.names.lookup x=some .local\/sc.names.lookup x=some .cell
 nofree:∀y∈sc.names,y.2≠.free
theorem Qb {kindOf:Str->Option NameKind}{x:Str}:∀{binds:List (Str×Value)} {m:Str->Option Value},(∀v,(x,v)∉binds)->bindL kindOf binds m x=m x
 |[],_,_=>rfl
 |
  (n,v)::r,m,h=>by
  unfold bindL;rw[Qb λw hw=>h w (Ce _ hw)];split
  .have:x≠n:=by rintro rfl;exact h v C7
   simp[this]
  .rfl
theorem RW {kindOf:Str->Option NameKind}{x:Str}:∀{binds:List (Str×Value)} {m:Str->Option Value},(∀v,(x,v)∉binds)->bindC kindOf binds m x=m x
 |[],_,_=>rfl
 |
  (n,v)::r,m,h=>by
  unfold bindC;rw[RW λw hw=>h w (Ce _ hw)];split
  .rfl
  .have:x≠n:=by rintro rfl;exact h v C7
   simp[this]
theorem QH {kindOf:Str->Option NameKind}{x:Str}{v:Value}:∀{P:List Str} {vs:List Value} {i:Nat} {m:Str->Option Value},P.Nodup->P[i]?=some x->vs[i]?=some v->kindOf x=some .local->
  bindL kindOf (P.zip vs) m x=some v
 |[],_,_,_,_,h,_,_=>by simp at h
 |_::_,[],_,_,_,_,h,_=>by simp at h
 |
  p::P,w::vs,0,m,nd,h1,h2,hk=>by
  simp at h1 h2;subst h1;subst h2;show bindL kindOf ((p,w)::P.zip vs) m p=_;unfold bindL;rw[Qb λv hv=>(Jj.mp nd).1 (SH hv).1,Ay hk];simp
 |
  p::P,w::vs,i+1,m,nd,h1,h2,hk=>by
  show bindL kindOf ((p,w)::P.zip vs) m x=_;unfold bindL;exact QH (i:=i) (Jj.mp nd).2 (by simpa using h1) (by simpa using h2) hk
theorem Pn {kindOf:Str->Option NameKind}{x:Str}{v:Value}:∀{P:List Str} {vs:List Value} {i:Nat} {m:Str->Option Value},P.Nodup->P[i]?=some x->vs[i]?=some v->kindOf x≠some .local->
  bindC kindOf (P.zip vs) m x=some v
 |[],_,_,_,_,h,_,_=>by simp at h
 |_::_,[],_,_,_,_,h,_=>by simp at h
 |
  p::P,w::vs,0,m,nd,h1,h2,hk=>by
  simp at h1 h2;subst h1;subst h2;show bindC kindOf ((p,w)::P.zip vs) m p=_;unfold bindC;rw[RW λv hv=>(Jj.mp nd).1 (SH hv).1,AB hk];simp
 |
  p::P,w::vs,i+1,m,nd,h1,h2,hk=>by
  show bindC kindOf ((p,w)::P.zip vs) m x=_;unfold bindC;exact Pn (i:=i) (Jj.mp nd).2 (by simpa using h1) (by simpa using h2) hk
def start (N:List Str)(vs:List V):St:=vs.map some++List.replicate (N.length-vs.length) none
def Jc (CX:Fe)(P:Program)(w:World)(K:Faa)(mg:Str->Option Value)(base:Heap)(N:List Str)(qual:Str)(scope:Scope)(f:Addr)(cd:Value)(A:Around)(outer:List Env)(s:Shared)(H:Hp)(E:XK):Cx where
 prog:=P
 w:=w
 K:=K
 mg:=mg
 base:=base
 A:=A.deeper (envOfC qual scope s.heap.objs.size f cd)
 N:=N
 s₀:=s
 H₀:=H
 env:=envOfC qual scope s.heap.objs.size f cd
 outer:=outer
 stack:=envOfC qual scope s.heap.objs.size f cd::outer
 ex:=[]
 calm:=true
 fn:=λ_=>true
 pn:=[]
 xe:=λe s'=>wpAny (model P w) (A.deeper (envOfC qual scope s.heap.objs.size f cd)) (leaving (envOfC qual scope s.heap.objs.size f cd) e) (λ_ s''=>CX outer H s E e s'') (λe' s''=>CX outer H s E e' s'') s'
theorem S6 {sc:Scope}{n:Nat}{x:Str}(h:sc.names.lookup x=some .cell):∃c,(cellsFrom n sc.names []).lookup x=some c:=by
 have q:=PySem.W.cellsFrom_some sc.names n [] (.inl h);exact Option.isSome_iff_exists.mp q
theorem Xi {CX:Fe}{P:Program}{w:World}{K:Faa}{mg:Str->Option Value}{base:Heap}{N ps:List Str}{qual:Str}{scope:Scope}{f:Addr}{cd:Value}{A:Around}{outer:List Env}{s s1:Shared}{H:Hp}{E:XK}{us:List Value}{vs:List V}
  (S:AO N ps scope) (hd:A.handled=none) (e0:HQ P w K mg base A outer s H) (hl:vs.length=ps.length) (r:Au vs us)
  (x:InCallC s s.heap.objs.size (bindL (envOfC qual scope s.heap.objs.size f cd).kindOf (ps.zip us) λ_=>none) (cellsFrom (s.heap.objs.size+1) scope.names []) (bindC (envOfC qual scope s.heap.objs.size f cd).kindOf (ps.zip us) λ_=>none) s1) :
  A5 (Jc CX P w K mg base N qual scope f cd A outer s H E) [] (start N vs) H s1:=by
 have hpl:ps.length<=N.length:=by have:=congrArg List.length S.pre;rw[BQ]at this;lia
 obtain⟨h1,tk,rfl,hk⟩:=x.done;have noA:∀b:Addr,b∉(Jc CX P w K mg base N qual scope f cd A outer s H E).ex:=λb z=>absurd (show b∈([]:List Addr) from z) (by simp);refine⟨⟨e0.mod,S.kind,rfl,rfl,Ah _,λy z c h1 h2=>?_,λy hy=>?_,λy c _ h=>?_,λ_=>hd,Around.frames_deeper e0.frames,.inr ⟨rfl,rfl⟩,λb z=>absurd z (noA b),e0.bs,e0.bsz,λb _ _=>noA b,λb z=>absurd z (noA b),e0.funs,e0.frf⟩,
  rfl,e0.bare,Un.kept hk,⟨_,x.toInCall.ns,λi y v h1 h2 h3=>?_⟩,λy c h=>⟨_,x.cell y c h⟩,e0.hok.fresh (Ah _),λy c h=>?_,λp hp=>absurd (show p∈([]:List (Addr×Obj)) from hp) (by simp),e0.hok.kept hk,?_⟩
 .exact name_of_addr x.apart (Mw h1) (Mw h2)
 .have hy:scope.names.lookup y=some .cell\/scope.names.lookup y=some .free:=hy;rcases hy with hy|hy
  .exact S6 hy
  .exact absurd rfl (S.nofree _ (Mw hy))
 .exact Ff (x.above y c (Mw h))
 .have hi:i<vs.length:=by
   unfold start at h2;by_cases hi:i<vs.length
   .exact hi
   .rw[Cg (by simpa using hi)]at h2;rw[Ou]at h2;split at h2<;>cases h2
  have ha:vs[i]?=some v:=by
   unfold start at h2;rw[Cw (by simpa using hi),Bf]at h2;cases e:vs[i]? with
   |none=>rw[e]at h2;cases h2
   |some a=>rw[e]at h2;cases h2;rfl
  obtain⟨u,hu,rv⟩:=r.get ha;have hp:ps[i]?=some y:=by
   rw[←S.pre,Ih (by lia)];exact h1
  have ndP:ps.Nodup:=by rw[←S.pre];exact S.nd.sublist (List.take_sublist _ _)
  refine⟨u,rv,?_⟩;rcases S.par y (B0 hp) with k|k
  .exact .inl ⟨k,QH ndP hp hu k⟩
  .obtain⟨c,e⟩:=S6 (n:=s.heap.objs.size+1) k;refine .inr ⟨.inl k,c,e,?_⟩;have q:=x.cell y c e;rw[Pn ndP hp hu (by show scope.names.lookup y≠_;rw[k];decide)]at q;exact q
 .exact e0.hok.fresh (Ff (x.above y c (Mw h)))
 .unfold start;show _=N.length;rw[Ai,Af,DB];lia
theorem Yt {CX:Fe}{P:Program}{w:World}{K:Faa}{mg:Str->Option Value}{base:Heap}{k:Nat}{f:Addr}{name qual:Str}{params:Arguments}{body:List Stmt}{scope:Scope}{dV kV doc pm cdv ct oc:Value}{an od:Option Addr}
  {osl:Array (Option Value)} {N ps:List Str} {sp:Sp} (lk:K.lookup f=some ⟨oc,od,.func (PySem.W.fnOf name qual params body scope dV kV doc pm an cdv ct),osl⟩) (hcd:PySem.W.codeIn K cdv qual=true) (S:AO N ps scope)
  (len:∀vs H Q E,sp vs H Q E->vs.length=ps.length)
  (hbody:∀(A:Around) (outer:List Env) (s:Shared) (H:Hp) (vs:List V) (Q:VK) (E:XK),Cq k (A.deeper (envOfC qual scope s.heap.objs.size f cdv))->sp vs H Q E->
   ∃t,Eg (Jc CX P w K mg base N qual scope f cdv A outer s H E) body t/\t {nx:=λ_ H'=>Q .non H',rt:=Q} (start N vs) H) :
  AI P w K mg base CX (k+1) f (PySem.W.fnOf name qual params body scope dV kV doc pm an cdv ct) ps sp:=by
 refine⟨len,λA outer s H args us vs Q E hr e0 hb r hsp=>?_⟩;have hl:=len _ _ _ _ hsp;have KX:K.In s.heap:=e0.mod.kin.keeps λb o e=>(e0.bs b o e).1;have lim:s.heap.NoLimit:=e0.mod.nolimit.keeps λb o e=>(e0.bs b o e).1;have hkind:∀y∈ps.zip us,scope.names.lookup y.1=some .local\/(scope.names.lookup y.1=some .cell/\((cellsFrom (s.heap.objs.size+1) scope.names []).lookup y.1).isSome=true):=fun⟨n,v⟩ hy=>by
  rcases S.par n (SH hy).1 with q|q
  .exact .inl q
  .exact .inr ⟨q,PySem.W.cellsFrom_some _ _ _ (.inl q)⟩
 refine codeAny_call_function hr.depth (KX _ _ lk) rfl S.co S.gen rfl (PySem.W.codeRec_of KX hcd) (hb _ _ _ _ ?_);refine wpAny_newFunctionEnv_cells S.kind hkind λenv he s1 x=>?_;subst he;refine⟨lim.keeps x.toInCall.keep,codeAny_func ?_⟩;obtain⟨t,ht,hq⟩:=hbody A outer s H vs Q E (hr.deeper _) hsp;have I:A5 (Jc CX P w K mg base N qual scope f cdv A outer s H E) [] (start N vs) H s1:=Xi S hr.hd e0 hl r x;refine Ee (ht [] s1 (start N vs) H _ I hq) (λfl s' hs=>?_) λe s' hs=>hs;have fin:∀{σ':St} {H':Hp} {v:V} {u:Value},A5 (Jc CX P w K mg base N qual scope f cdv A outer s H E) [] σ' H' s'->AG v u->Q v H'->CE outer P w H s Q u s':=
  fun{σ' H' v u} J rv q=>⟨v,H',J.os,J.bare,J.base,J.hok,rv,q⟩
 cases fl with
 |
  ret u=>
  obtain⟨v,σ',H',J,rv,q⟩:=hs;exact fin J rv q
 |
  next=>
  obtain⟨σ',H',J,q⟩:=hs;exact fin (v:=V.non) (u:=Value.none) J rfl q
 |
  brk=>
  obtain⟨_,_,_,q⟩:=hs;exact False.elim q
 |
  cont=>
  obtain⟨_,_,_,q⟩:=hs;exact False.elim q
section
variable {X:Cx}{x:Str}{p pos:Pos}{e:Expr}{es:List Expr}{t:TA}{id T:String}{r:List V->Hp->VK->Prop}
def Nh (r:List V->Hp->VK->Prop)(t:TA):TE:=fun σ H Q=>t σ H λvs H1=>r vs H1 Q
theorem B5 (hc:EL X (.builtin id) r)(hg:Gl X x)(hm:X.mg x=none)(hv:bootBuiltins x=some (.builtin id))(ha:PA X (e::es) t)(hn:x≠"__name__":=by decide)(hdb:(x==("__debug__":Str))=false:=by decide)
  (he:starEach (e::es) X.env=(false,eval e X.env)::starEach es X.env:=by rfl) (hpl:(backTo pos (starEach es X.env)).any (·.1)=false:=by rfl):PE X (.Call (.Name x p) (e::es) [] pos) (Nh r t):=by
 intro pins s σ H Q I h;refine ML (FY I hg hm hv ?_ hn hdb);refine PyProof.Rows.callWith_builtin1 (AA (ha pos pins s σ H _ I h) λus s1 zz=>?_) he hpl;obtain⟨vs,H1,I1,r1,q1⟩:=zz;exact hc pins s1 σ H1 vs us Q I1 r1 q1
theorem Dv (hc:EL X (.type T) r)(hg:Gl X x)(hm:X.mg x=none)(hv:bootBuiltins x=some (.type T))(ha:PA X (e::es) t)(hn:x≠"__name__":=by decide)(hdb:(x==("__debug__":Str))=false:=by decide)
  (he:starEach (e::es) X.env=(false,eval e X.env)::starEach es X.env:=by rfl) (hpl:(backTo pos (starEach es X.env)).any (·.1)=false:=by rfl):PE X (.Call (.Name x p) (e::es) [] pos) (Nh r t):=by
 intro pins s σ H Q I h;refine ML (FY I hg hm hv ?_ hn hdb);refine Ji (AA (ha pos pins s σ H _ I h) λus s1 zz=>?_) he hpl;obtain⟨vs,H1,I1,r1,q1⟩:=zz;exact hc pins s1 σ H1 vs us Q I1 r1 q1
end
end L2
namespace HT
open PySem PyProof.Rows
def lexLt:List Int->List Int->Bool
 |[],[]=>false
 |[],_::_=>true
 |_::_,[]=>false
 |x::xs,y::ys=>if x=y then lexLt xs ys else decide (x<y)
theorem Wg (x y:Int)(xs ys:List Int):lexLt (x::xs) (y::ys)=if x=y then lexLt xs ys else decide (x<y):=rfl
theorem Zu:lexLt [] []=false:=rfl
theorem VJ (y:Int)(ys:List Int):lexLt [] (y::ys)=true:=rfl
theorem VT (x:Int)(xs:List Int):lexLt (x::xs) []=false:=rfl
theorem Tp (A:Around)(s:Shared)(a:Int)(t:Tok)(c:Int)(u:Tok):∃e,SeqAt.EqAt A s (.int a t) (.int c u) e/\(e=true↔a=c):=
 ⟨(a==c),SeqAt.EqAt.int_int a t c u,by simp⟩
theorem Xb (A:Around)(s:Shared)(a:Int)(t:Tok)(c:Int)(u:Tok)(prog:Program)(w:World)(E:Value->Shared->Prop)(Q:Value->Shared->Prop)(h:Q (.bool (decide (a<c))) s) :
  wpAny (model prog w) A (richCompare .Lt (.int a t) (.int c u)) Q E s:=
 (PyProof.Rows.lt_int h:wpAny (model prog w) A (compareOp .Lt (.int a t) (.int c u)) Q E s)
section
open PySem.SeqAt
open PySem.AutoSeq1 (wpAny_loadPart')
open PySem.MeetsSeq PySem.MeetsSeq2 PySem.MeetsSeq3
theorem Y7 (l b:Addr)(items items2:Array Value)(n n2:Nat)(dd dd2:Option Addr)(sl sl2:Array (Option Value))(ns ms:List Int)(hi:IntsAre items.toList ns)(hj:IntsAre items2.toList ms) :
  Meets (Builtin.«tuple.__lt__» ⟨[.ref l,.ref b],[]⟩)
   (λ_ R s=>s.heap.get? l=some {cls:=.type "tuple",dict:=dd,data:=.seq items n,slots:=sl}/\s.heap.get? b=some {cls:=.type "tuple",dict:=dd2,data:=.seq items2 n2,slots:=sl2}/\
    R (.ok (.ret (.bool (lexLt ns ms)))) s):=
 .of_wp λprog w A R s h=>by
  obtain⟨hp,g,d,tk,os⟩:=s;obtain⟨hl,hb,h⟩:=h;have f2:=AutoSeq1.sub_tuple_tuple;have z1:items.size=ns.length:=by rw[←hi.length];simp
  have z2:items2.size=ms.length:=by rw[←hj.length];simp
  wp_walk using wpAny_loadPart' hl,wpAny_loadPart' hb,wpAny_forIn_list _ (λrest b s'=>b.1=none/\s'=⟨hp,g,d,tk,os⟩/\∃(vs ws:List Value) (ns' ms':List Int),rest=vs.zip ws/\
   IntsAre vs ns'/\IntsAre ws ms'/\ns'.length+items2.size=ms'.length+items.size/\R (.ok (.ret (.bool (lexLt ns' ms')))) ⟨hp,g,d,tk,os⟩) _
  case turn=>
   rintro ⟨y,x⟩ rest b s' ⟨hb',rfl,vs,ws,ns',ms',hz,hvi,hwi,hlen,hR⟩;cases hvi with
   |nil=>rw[List.zip_nil_left]at hz;cases hz
   |
    cons a t hvi'=>
    cases hwi with
    |nil=>rw[List.zip_nil_right]at hz;cases hz
    |
     cons c u hwi'=>
     rw[List.zip_cons_cons]at hz;injection hz with hyx hrest;injection hyx with hy hx;subst hy hx;rw[Wg]at hR;simp only[Bz]at hlen;obtain⟨e,he,hiff⟩:=Tp A.in1 ⟨hp,g,d,tk,os⟩ a t c u;refine As (he prog w _ _ ?_);cases e with
     |
      true=>
      rw[Ay (hiff.mp rfl)]at hR
      wp_walk
      exact⟨rfl,rfl,_,_,_,_,hrest,hvi',hwi',by lia,hR⟩
     |
      false=>
      rw[AB (λq=>absurd (hiff.mpr q) CH)]at hR;have hri:=Xb A.in1 ⟨hp,g,d,tk,os⟩ a t c u prog w
      wp_walk using hri
      exact⟨_,rfl,by simpa using hR⟩
  case fin=>
   rintro ⟨b1,b2⟩ s' ⟨hb',rfl,vs,ws,ns',ms',hz,hvi,hwi,hlen,hR⟩;simp only at hb';subst hb';have hv:lexLt ns' ms'=decide (items.size<items2.size):=by
    cases hvi with
    |
     nil=>
     cases hwi with
     |
      nil=>
      simp only[Ky]at hlen;rw[Zu];exact(C9 (by lia)).symm
     |
      cons c u hw=>
      simp only[Ky,Bz]at hlen;rw[VJ];exact(BU (by lia)).symm
    |
     cons a t hv=>
     cases hwi with
     |
      nil=>
      simp only[Ky,Bz]at hlen;rw[VT];exact(C9 (by lia)).symm
     |
      cons c u hw=>
      rw[List.zip_cons_cons]at hz;cases hz
   rw[hv]at hR
   wp_walk
   exact⟨_,rfl,by simpa[Builtin.Tuple.tupleCompareSizes] using hR⟩
  case h=>
   exact⟨rfl,rfl,items.toList,items2.toList,ns,ms,rfl,hi,hj,by lia,h⟩
end
section
variable {prog:Program}{w:World}{A:Around}{E:Value->Shared->Prop}{s:Shared}
theorem lt_tupInts {l b:Addr}{items items2:Array Value}{ns ms:List Int}{Q:Value->Shared->Prop}(hl:IsTup s.heap l items)(hb:IsTup s.heap b items2)(hi:IntsAre items.toList ns)(hj:IntsAre items2.toList ms)
  (hu:A.units<cLine) (h:Q (.bool (lexLt ns ms)) s):wpAny (model prog w) A (compareOp .Lt (.ref l) (.ref b)) Q E s:=by
 obtain⟨⟨cls,dd,data,sl⟩,ho,hc,n,hd⟩:=id hl;obtain⟨⟨cls2,dd2,data2,sl2⟩,ho2,hc2,n2,hd2⟩:=id hb;simp only at hc hd hc2 hd2;subst hc hd hc2 hd2;exact richCompare_meets_room (op:=.Lt) ⟨_,ho,rfl⟩ ⟨_,ho2,rfl⟩ PySem.F.slot_tuple_lt PySem.F.entry_tuple_lt (PySem.F.args_tuple_lt_2 _ _) (Y7 l b items items2 n n2 dd dd2 sl sl2 ns ms hi hj)
  ⟨ho,ho2,show Value.bool (lexLt ns ms)≠Value.notImplemented/\Q (.bool (lexLt ns ms)) s from⟨(λx=>nomatch x),h⟩⟩ hu
theorem cat_tup {t b:Addr}{vs ws:List Value}{Q:Value->Shared->Prop}(ht:IsTup s.heap t vs.toArray)(hb:IsTup s.heap b ws.toArray)(hv:vs≠[])
  (h1:ws=[]->Q (.ref t) s) (h2:ws≠[]->Q (.ref s.heap.objs.size) {s with heap:=s.heap.push {cls:=.type "tuple",data:=.seq (vs++ws).toArray}})
  (hsz:vs.length+ws.length<=sizeLine):wpAny (model prog w) A (binaryOp .Add (.ref t) (.ref b)) Q E s:=by
 obtain⟨⟨cls,dd,data,sl⟩,ho,hc,n,hd⟩:=id ht;obtain⟨⟨cls2,dd2,data2,sl2⟩,ho2,hc2,n2,hd2⟩:=id hb;simp only at hc hd hc2 hd2;subst hc hd hc2 hd2;have e:vs.toArray++ws.toArray=(vs++ws).toArray:=by simp
 by_cases hw:ws=[]
 .exact concat_meets ⟨_,ho,rfl⟩ ⟨_,ho2,rfl⟩ T9 seq_tuple_add SI SJ (SK _ _)
   (tuple_addW1 t b vs.toArray ws.toArray n n2 dd dd2 sl sl2 (by simpa using hv) (by simp[hw])) ⟨ho,ho2,h1 hw⟩
 .refine concat_meets ⟨_,ho,rfl⟩ ⟨_,ho2,rfl⟩ T9 seq_tuple_add SI SJ (SK _ _)
   (tuple_addW2 t b vs.toArray ws.toArray n n2 dd dd2 sl sl2 (by simpa using hv) (by simpa using hw) (by rw[AZ,AZ];exact hsz)) ⟨ho,ho2,?_⟩
  rw[e];exact h2 hw
def sIx (n d:Nat):Option Int->Nat
 |none=>d
 |some v=>if v<0 then(v+(n:Int)).toNat else min v.toNat n
theorem sIx_none (n d:Nat):sIx n d none=d:=rfl
theorem sIx_nat (n d k:Nat):sIx n d (some (k:Int))=min k n:=by
 show(if(k:Int)<0 then((k:Int)+(n:Int)).toNat else min (k:Int).toNat n)=min k n;rw[AB (by lia),Fg]
theorem WM (n d:Nat)(hd:d<=n)(o:Option Int):sIx n d o<=n:=by
 cases o with
 |none=>exact hd
 |
  some v=>
  show(if v<0 then(v+(n:Int)).toNat else min v.toNat n)<=n;by_cases hv:v<0
  .rw[Ay hv];lia
  .rw[AB hv];exact Nat.min_le_right _ _
theorem Pt (v:Int)(n d:Nat):(if v<0 then max (v+(n:Int)) 0 else min v (n:Int))=((sIx n d (some v):Nat):Int):=by
 show(if v<0 then max (v+(n:Int)) 0 else min v (n:Int))=(((if v<0 then(v+(n:Int)).toNat else min v.toNat n):Nat):Int)
 by_cases hv:v<0
 .simp only[Ay hv];lia
 .simp only[AB hv];lia
theorem UA (lo hi:Option Int)(n:Nat):Builtin.Slice.sliceAdjust lo hi 1 (n:Int)=(((sIx n 0 lo:Nat):Int),((sIx n n hi:Nat):Int)):=by
 have h1:¬((1:Int)<0):=by lia
 unfold Builtin.Slice.sliceAdjust;simp only[h1,if_false];refine Prod.ext ?_ ?_
 .cases lo with
  |none=>rfl
  |some v=>exact Pt v n 0
 .cases hi with
  |none=>rfl
  |some v=>exact Pt v n n
theorem ba (i j:Nat):Builtin.Slice.slicePlaces (i:Int) (j:Int) 1=j-i:=by
 unfold Builtin.Slice.slicePlaces;have h1:(1:Int)>0:=by lia
 simp only[h1,if_true,Int.ediv_one];split<;>lia
theorem Sy {v:Value}{o:Option Int}{Q:Option Int->Shared->Prop}(p:IsPart v o)(h:Q o s):wpAny (model prog w) A (Builtin.Slice.slicePartIndex v) Q E s:=by
 cases p with
 |none=>exact slicePart_none h
 |int i t=>exact slicePart_int h
theorem Ql {sl:Addr}{vl vu:Value}{lo hi:Option Int}{n:Nat}{Q:Int×Int×Nat->Shared->Prop}(hs:s.heap.IsSliceOf sl vl vu .none)(pl:IsPart vl lo)(pu:IsPart vu hi)
  (h:Q (((sIx n 0 lo:Nat):Int),1,sIx n n hi-sIx n 0 lo) s):wpAny (model prog w) A (Builtin.Slice.sliceApplied (.ref sl) (pure (n:Int))) Q E s:=by
 obtain⟨os,hos,hcs,hds⟩:=id hs;unfold Builtin.Slice.sliceApplied Builtin.Slice.sliceFields;refine As (As (Im hos hds (x:=vl) rfl (As (Im hos hds (x:=vu) rfl (As (Im hos hds (x:=.none) rfl (AV ?_)))))));refine As (slicePart_none ?_);show wpAny _ _ (if((1:Int)==0)=true then _ else _) _ _ s;rw[AB (by decide)];refine As (Sy pl (As (Sy pu (As (AV ?_)))));show wpAny _ _ (match Builtin.Slice.sliceAdjust lo hi 1 (n:Int) with|(lo,hi)=>pure (lo,(1:Int),Builtin.Slice.slicePlaces lo hi 1)) _ _ s;rw[UA lo hi n];show wpAny _ _ (pure (((sIx n 0 lo:Nat):Int),(1:Int),Builtin.Slice.slicePlaces ((sIx n 0 lo:Nat):Int) ((sIx n n hi:Nat):Int) 1)) _ _ s;rw[ba];exact AV h
theorem Yn (xs:Array Value)(i k:Nat):((List.range k).filterMap fun(m:Nat)=>xs[((i:Int)+(m:Int)*1).toNat]?).toArray=((xs.toList.drop i).take k).toArray:=by
 have e:(fun(m:Nat)=>xs[((i:Int)+(m:Int)*1).toNat]?)=λm=>xs[i+m]?:=by
  funext m
  have:((i:Int)+(m:Int)*1).toNat=i+m:=by lia
  rw[this]
 rw[e];have:=pick_run xs i k;rw[List.filterMap_map]at this;have e2:((λx=>xs[x]?)∘λx=>i+x)=λm=>xs[i+m]?:=rfl;rw[e2]at this;rw[this]
theorem getItem_tuple_cut {t sl:Addr}{items:Array Value}{vl vu:Value}{lo hi:Option Int}{Q:Value->Shared->Prop}(ht:IsTup s.heap t items)(hs:s.heap.IsSliceOf sl vl vu .none)(pl:IsPart vl lo)(pu:IsPart vu hi)
  (hw:¬(sIx items.size 0 lo=0/\sIx items.size items.size hi=items.size))
  (h:Q (.ref s.heap.objs.size) {s with heap:=s.heap.push {cls:=.type "tuple",data:=.seq ((items.toList.drop (sIx items.size 0 lo)).take (sIx items.size items.size hi-sIx items.size 0 lo)).toArray}})
  (hsz:items.size<=sizeLine):wpAny (model prog w) A (getItem (.ref t) (.ref sl)) Q E s:=by
 have htake:sizeOk (.seq ((items.toList.drop (sIx items.size 0 lo)).take (sIx items.size items.size hi-sIx items.size 0 lo)).toArray):=by
  show((items.toList.drop (sIx items.size 0 lo)).take (sIx items.size items.size hi-sIx items.size 0 lo)).toArray.size<=sizeLine;rw[AZ,BQ,GN,SF];lia
 have hj:sIx items.size items.size hi<=items.size:=WM _ _ (Ah _) hi;obtain⟨os,hos,hcs,hds⟩:=id hs;have hTs:s.TypeIs (.ref sl) "slice":=⟨os,hos,hcs⟩
 unfold getItem
 try with_reducible refine KC ?_
 first|refine As (AV ?_)|skip
 refine As (wpAny_sequenceKey ht.typeIs (by decide) ?_);refine As (wpAny_callSpecial?_slot (name:=Str.ofString "__getitem__") ht.typeIs Ov
  (OV Ov ht.typeIs entry_tuple_getitem ?_ (args_tuple_getitem _ _)))
 show wpAny _ _ (Builtin.Tuple.tupleItemsOf (.ref t)>>=_) _ _ s;refine As (tupleItemsOf_ ht ?_);refine As (wpAny_typeOf hTs ?_);rw[Ay (by decide)];refine As (Ql hs pl pu ?_);have hno:¬((((sIx items.size 0 lo:Nat):Int)==0&&(1:Int)==1&&(sIx items.size items.size hi-sIx items.size 0 lo)==items.size)=true):=by
  intro q;rw[DC,DC]at q;have q1:((sIx items.size 0 lo:Nat):Int)=0:=eq_of_beq q.1.1;have q2:sIx items.size items.size hi-sIx items.size 0 lo=items.size:=eq_of_beq q.2;exact hw ⟨by lia,by lia⟩
 show wpAny _ _ (if(((sIx items.size 0 lo:Nat):Int)==0&&(1:Int)==1&&(sIx items.size items.size hi-sIx items.size 0 lo)==items.size)=true then _ else _) _ _ s;rw[AB hno,Yn]
 first
  |exact As (m:=Builtin.Tuple.tupleExact _) (MM (AV ⟨_,rfl,AV h⟩) htake)
  |exact As (m:=Builtin.Tuple.tupleExact _) (MM (As (AV (AV ⟨_,rfl,AV h⟩))) htake)
  |exact As (As (m:=Builtin.Tuple.tupleExact _) (MM (AV (AV ⟨_,rfl,AV h⟩)) htake))
  |exact As (As (m:=Builtin.Tuple.tupleExact _) (MM (AV ⟨_,rfl,AV h⟩) htake))
end
end HT
namespace L2
open PySem PySem.Spec PyProof.Rows
abbrev TO:=St->Hp->(Option Int->Hp->Prop)->Prop
def PO (X:Cx)(e:Option Expr)(t:TO):Prop:=
 ∀(pins:List (Addr×Obj)) (s:Shared) (σ:St) (H:Hp) (Q:Option Int->Hp->Prop),A5 X pins σ H s->t σ H Q->
  wpAny (model X.prog X.w) X.A (evalPart e X.env) (λu s'=>∃o H',A5 X pins σ H' s'/\IsPart u o/\Q o H') X.xe s
def P5:TO:=λ_ H Q=>Q none H
def Po (t:TE):TO:=fun σ H Q=>t σ H λx H1=>∃i,x = .int i/\Q (some i) H1
theorem Ra {ns:List Int}:∀{us:List Value},Au (ns.map V.int) us->IntsAre us ns:=by
 induction ns with
 |nil=>intro us r;rw[Gf]at r;cases r;exact .nil
 |
  cons n ns ih=>
  intro us r;rw[Cf]at r;cases r with
  |
   cons r1 r2=>
   obtain⟨t,e⟩:=r1;subst e;exact .cons n t (ih r2)
section
variable {X:Cx}{e:Expr}{te:TE}{lo hi:Option Expr}{tl th:TO}{pos p2:Pos}
theorem HR:PO X none P5:=by
 intro pins s σ H Q I h;rw[evalPart_none];exact AV ⟨none,H,I,.none,h⟩
theorem Fc (h:PE X e te):PO X (some e) (Po te):=by
 intro pins s σ H Q I hw;rw[evalPart_some];refine AA (h pins s σ H _ I hw) λu s1 zz=>?_;obtain⟨x,H1,I1,r1,q1⟩:=zz;obtain⟨i,rfl,q⟩:=q1;obtain⟨t,rfl⟩:=r1;exact⟨some i,H1,I1,.int i t,q⟩
def Lh (X:Cx)(r:V->Option Int->Option Int->Hp->VK->Prop):Prop:=
 ∀(pins:List (Addr×Obj)) (s:Shared) (σ:St) (H:Hp) (x:V) (v vl vu:Value) (lo hi:Option Int) (sl:Addr) (Q:VK),A5 X pins σ H s->AG x v->s.heap.IsSliceOf sl vl vu .none->IsPart vl lo->IsPart vu hi->r x lo hi H Q->
  ∃T id,typeLookup (.type T) "__getitem__"=pure (some (.builtin id))/\s.TypeIs v T/\wpAny (model X.prog X.w) X.A (getItem v (.ref sl)) (EP X pins σ Q) X.xe s
def QJ (r:V->Option Int->Option Int->Hp->VK->Prop)(te:TE)(tl th:TO):TE:=fun σ H Q=>te σ H λx H1=>tl σ H1 λl H2=>th σ H2 λu H3=>r x l u H3 Q
theorem Gb {r:V->Option Int->Option Int->Hp->VK->Prop}(hr:Lh X r)(he:PE X e te)(hl:PO X lo tl)(hu:PO X hi th):PE X (.Subscript e (.Slice lo hi none p2) pos) (QJ r te tl th):=by
 intro pins s σ H Q I h;refine Subscript_ (AA (he pins s σ H _ I h) λv s1 zz=>?_);obtain⟨x,H1,I1,r1,q1⟩:=zz;refine wpAny_Slice (AA (hl pins s1 σ H1 _ I1 q1) λvl s2 zz=>?_);obtain⟨l,H2,I2,pl,q2⟩:=zz;refine AA (hu pins s2 σ H2 _ I2 q2) λvu s3 zz=>?_;obtain⟨u,H3,I3,pu,q3⟩:=zz;rw[evalPart_none];refine AV ?_;have I4:A5 X pins σ H3 {s3 with heap:=s3.heap.push {cls:=.type "slice",data:=.fields #[vl,vu,.none]}}:=I3.kept (t':=s3.toks) λb ob q=>Bu _ q;obtain⟨T,id,hT,ht,hg⟩:=hr pins {s3 with heap:=s3.heap.push {cls:=.type "slice",data:=.fields #[vl,vu,.none]}} σ H3 x v vl vu l u s3.heap.objs.size Q I4 r1 (Heap.IsSliceOf.new ..) pl pu q3;show wpAny (model X.prog X.w) X.A (subscriptTail e (.Slice lo hi none p2) v (.ref s3.heap.objs.size)) (EP X pins σ Q) X.xe {s3 with heap:=s3.heap.push {cls:=.type "slice",data:=.fields #[vl,vu,.none]}};exact tail_any (ops:=[.ref s3.heap.objs.size,v]) ht hT hg (by with_unfolding_all rfl)
def Ci (xs:List V)(lo hi:Option Int):List V:=(xs.drop (HT.sIx xs.length 0 lo)).take (HT.sIx xs.length xs.length hi-HT.sIx xs.length 0 lo)
theorem QF (xs:List V)(lo hi:Option Int):(Ci xs lo hi).length<=xs.length:=by
 unfold Ci;rw[BQ,GN];lia
def Wv (K:Faa):V->Option Int->Option Int->Hp->VK->Prop:=λx lo hi H Q=>∃a xs,x = .ref a/\A4 K H a xs/\
 ¬(HT.sIx xs.length 0 lo=0/\HT.sIx xs.length xs.length hi=xs.length)/\∀p,H p=none->Q (.ref p) (upd H p (.tup (Ci xs lo hi)))
theorem To:Lh X (Wv X.K):=by
 intro pins s σ H x v vl vu lo hi sl Q I rx hs pl pu h;obtain⟨a,xs,rfl,hx,hw,q⟩:=h;cases rx;obtain⟨its,r,ht,hz⟩:=I.tuple hx;have hlen:its.toArray.size=xs.length:=by rw[AZ];exact r.length.symm
 refine⟨"tuple",_,PyProof.Rows.slot_tuple_getitem.lookup,ht.typeIs,?_⟩;refine HT.getItem_tuple_cut ht hs pl pu (by rw[hlen];exact hw) ?_ (by rw[hlen];exact hz);rw[hlen];refine⟨.ref s.heap.objs.size,_,I.laid (t':=s.toks) (o:=.tup (Ci xs lo hi)) (λb ob q=>Bu _ q) (Ah _) ?_,rfl,q _ (I.hok.fresh (Ah _))⟩;exact⟨Ex (QF xs lo hi) hz,_,(r.drop (HT.sIx xs.length 0 lo)).take (HT.sIx xs.length xs.length hi-HT.sIx xs.length 0 lo),EW.new _ _⟩
def YQ (K:Faa):R2:=λx y H Q=>∃a b ns ms,x = .ref a/\y = .ref b/\A4 K H a (ns.map V.int)/\A4 K H b (ms.map V.int)/\Q (.bl (HT.lexLt ns ms)) H
theorem Vi (hu:X.A.units<cLine):BI X (compareOp .Lt) (YQ X.K):=by
 intro pins s σ H x y v u Q I rx ry h;obtain⟨a,b,ns,ms,rfl,rfl,ha,hb,q⟩:=h;cases rx;cases ry;obtain⟨its,r1,p1,_⟩:=I.tuple ha;obtain⟨its2,r2,p2,_⟩:=I.tuple hb;have i1:IntsAre its.toArray.toList ns:=Ra r1;have i2:IntsAre its2.toArray.toList ms:=Ra r2;exact HT.lt_tupInts p1 p2 i1 i2 hu ⟨.bl (HT.lexLt ns ms),H,I,rfl,q⟩
def ZU (K:Faa):R2:=λx y H Q=>∃a b xs ys,x = .ref a/\y = .ref b/\A4 K H a xs/\A4 K H b ys/\xs≠[]/\xs.length+ys.length<=sizeLine/\
 (ys=[]->Q (.ref a) H)/\(ys≠[]->∀p,H p=none->Q (.ref p) (upd H p (.tup (xs++ys))))
theorem Au.nil_iff {xs:List V}{us:List Value}(r:Au xs us):us=[]↔xs=[]:=by
 cases r with
 |nil=>simp
 |cons _ _=>simp
theorem Xl:BI X (binaryOp .Add) (ZU X.K):=by
 intro pins s σ H x y v u Q I rx ry h;obtain⟨a,b,xs,ys,rfl,rfl,ha,hb,hx,hz,q1,q2⟩:=h;cases rx;cases ry;obtain⟨its,r1,p1,_⟩:=I.tuple ha;obtain⟨its2,r2,p2,_⟩:=I.tuple hb;refine HT.cat_tup p1 p2 (λz=>hx (r1.nil_iff.mp z)) (λz=>⟨.ref a,H,I,rfl,q1 (r2.nil_iff.mp z)⟩) (λz=>?_) (by rw[←r1.length,←r2.length];exact hz);refine⟨.ref s.heap.objs.size,_,I.laid (t':=s.toks) (o:=.tup (xs++ys)) (λb ob q=>Bu _ q) (Ah _) ?_,rfl,q2 (λw=>z (r2.nil_iff.mpr w)) _ (I.hok.fresh (Ah _))⟩;exact⟨by rw[Ai];exact hz,_,r1.append r2,EW.new _ _⟩
end
def DJ (n:Nat)(i:Int):Option Nat:=if 0<=i then(if i<n then some i.toNat else none) else if -(n:Int)<=i then some (i+n).toNat else none
def B1 {α:Type}(xs:List α)(i:Int):Option α:=(DJ xs.length i).bind λj=>xs[j]?
theorem Q6 {n:Nat}{i:Int}{j:Nat}(h:DJ n i=some j):seqIndex? i n=some j/\j<n/\-(n:Int)<=i/\i<n:=by
 unfold DJ at h;by_cases h0:0<=i
 .rw[Ay h0]at h;by_cases h1:i<n
  .rw[Ay h1]at h;have e:i.toNat=j:=Cu h;exact⟨by rw[seqIndex_of h0 h1,e],by lia,by lia,h1⟩
  .rw[AB h1]at h;cases h
 .rw[AB h0]at h;by_cases h1 : -(n:Int)<=i
  .rw[Ay h1]at h;have e:(i+n).toNat=j:=Cu h;exact⟨by rw[seqIndex_neg (by lia) h1,e],by lia,h1,by lia⟩
  .rw[AB h1]at h;cases h
theorem MQ {α:Type}{xs:List α}{i:Int}{v:α}(h:B1 xs i=some v):∃j,seqIndex? i xs.length=some j/\xs[j]?=some v/\j<xs.length/\-(xs.length:Int)<=i/\i<xs.length:=by
 unfold B1 at h;cases e:DJ xs.length i with
 |none=>rw[e]at h;cases h
 |
  some j=>
  rw[e]at h;obtain⟨h1,h2,h3,h4⟩:=Q6 e;exact⟨j,h1,h,h2,h3,h4⟩
theorem BA {α:Type}{xs:List α}{j:Nat}{v:α}(h:xs[j]?=some v):B1 xs (j:Int)=some v:=by
 have hj:j<xs.length:=(Aw.mp h).1;have e:DJ xs.length (j:Int)=some j:=by
  unfold DJ;rw[Ay (by lia),Ay (by lia)];simp
 unfold B1;rw[e];exact h
theorem MZ {α:Type}(xs:List α)(v:α):B1 (xs++[v]) (-1)=some v:=by
 have hl:(xs++[v]).length=xs.length+1:=by simp
 have e:DJ (xs++[v]).length (-1)=some xs.length:=by
  unfold DJ;rw[hl,AB (by decide),Ay (by lia)];congr 1;lia
 unfold B1;rw[e];show(xs++[v])[xs.length]?=some v;simp
def VW (b:Expr):Prop := ∀o i,subscripted b false o i=operate [o,i] (getItem o i)
def DQ (X:Cx)(r:R2):Prop:=
 ∀(value slice:Expr) (pins:List (Addr×Obj)) (s:Shared) (σ:St) (H:Hp) (x y:V) (v u:Value) (Q:VK),A5 X pins σ H s->AG x v->AG y u->r x y H Q->
  subscripted slice false v u=operate [v,u] (getItem v u)->wpAny (model X.prog X.w) X.A (subscriptTail value slice v u) (EP X pins σ Q) X.xe s
def Ru (X:Cx)(id:String)(r:V->List V->Hp->VK->Prop):Prop:=
 ∀(pins:List (Addr×Obj)) (s:Shared) (σ:St) (H:Hp) (x:V) (xs:List V) (v:Value) (us:List Value) (Q:VK),A5 X pins σ H s->AG x v->Au xs us->r x xs H Q->
  wpAny (model X.prog X.w) X.A (call (.builtin id) (v::us)) (EP X pins σ Q) X.xe s
section
variable {X:Cx}{a b:Expr}{ta tb:TE}{pos:Pos}
theorem Aa {r:R2}(hr:DQ X r)(ha:PE X a ta)(hb:PE X b tb)(hs:VW b):PE X (.Subscript a b pos) (Ks r ta tb):=by
 intro pins s σ H Q I h;exact Subscript_ (Og ha hb I h λv u s2 x y H2 I2 rx ry q=>hr a b pins s2 σ H2 x y v u Q I2 rx ry q (hs _ _))
def Ka (K:Faa):R2:=λx y H Q=>∃p xs i v,x = .ref p/\y = .int i/\A3 K H p xs/\B1 xs i=some v/\Q v H
def Fv (K:Faa):R2:=λx y H Q=>∃p xs i v,x = .ref p/\y = .int i/\A4 K H p xs/\B1 xs i=some v/\Q v H
def Vj:R2:=λx y H Q=>∃z i c,x = .str z/\y = .int i/\z.length<=sizeLine/\B1 z.cps.toList i=some c/\Q (.str ⟨#[c]⟩) H
theorem AS:DQ X (Ka X.K):=by
 intro value slice pins s σ H x y v u Q I rx ry h hs;obtain⟨p,xs,i,z,rfl,rfl,hq,he,q⟩:=h;cases rx;obtain⟨t,rfl⟩:=ry;obtain⟨its,r,pl,hz⟩:=I.list hq;obtain⟨j,h1,h2,h3,h4,h5⟩:=MQ he;obtain⟨w,ew,rw'⟩:=r.get h2;have hl:=r.length;have hn:=Ip;have fin:EP X pins σ Q w s:=⟨z,H,I,rw',q⟩
 by_cases h0:0<=i
 .have hj:i.toNat=j:=by
   rw[seqIndex_of h0 h5]at h1;exact Cu h1
  exact item_listR pl.isList h0 (by lia) (by rw[hj];simpa using ew) fin hs
 .have hj:(i+(its.toArray.size:Int)).toNat=j:=by
   rw[seqIndex_neg (by lia) h4]at h1;rw[AZ,←hl];exact Cu h1
  exact subscriptTail_builtinR (x:=w) pl.isList.typeIs slot_list_getitem.lookup
   (wpAny_getItem_list_neg (Q:=λr s'=>r=w/\EP X pins σ Q r s') pl.isList (by lia) (by rw[AZ]<;>lia) (by lia) (by rw[hj];simpa using ew) ⟨rfl,fin⟩) hs
theorem Al:DQ X (Fv X.K):=by
 intro value slice pins s σ H x y v u Q I rx ry h hs;obtain⟨p,xs,i,z,rfl,rfl,hq,he,q⟩:=h;cases rx;obtain⟨t,rfl⟩:=ry;obtain⟨its,r,pl,hz⟩:=I.tuple hq;obtain⟨j,h1,h2,h3,h4,h5⟩:=MQ he;obtain⟨w,ew,rw'⟩:=r.get h2;have hl:=r.length;have hn:=Ip;have fin:EP X pins σ Q w s:=⟨z,H,I,rw',q⟩
 exact subscriptTail_builtinR (x:=w) pl.typeIs slot_tuple_getitem.lookup
  (getItem_tuple (j:=j) (Q:=λr s'=>r=w/\EP X pins σ Q r s') pl (by lia) (by lia) (by rw[AZ,←hl];exact h1) (by simpa using ew) ⟨rfl,fin⟩) hs
theorem RM:DQ X Vj:=by
 intro value slice pins s σ H x y v u Q I rx ry h hs;obtain⟨z,i,c,rfl,rfl,hz,he,q⟩:=h;obtain⟨t,rfl⟩:=rx;obtain⟨t',rfl⟩:=ry;obtain⟨j,h1,h2,h3,h4,h5⟩:=MQ he;have hl:z.cps.toList.length=z.length:=by simp[Str.length]
 rw[hl]at h1 h4 h5;have hn:=Ip;exact tail_any (typeIs_str s z t) slot_str_getitem.lookup (getItem_str (c:=c) (by
  have e1:decide (i < -(2 ^ 63:Int))=false:=C9 (by lia);have e2:decide (i≥2 ^ 63)=false:=C9 (by lia);rw[e1,e2,Bool.or_false]) (by rw[h1];simpa using h2) ⟨.str ⟨#[c]⟩,H,I.tok _,⟨_,rfl⟩,q⟩) hs
theorem VL (its:List Value)(n j:Nat)(u:Value):Obj.mapSeq (·.setIfInBounds j u) {cls:=.type "list",data:=.seq its.toArray n}={cls:=.type "list",data:=.seq (its.set j u).toArray n}:=by
 simp[Obj.mapSeq]
theorem A5.lst {pins:List (Addr×Obj)}{σ:St}{H:Hp}{s:Shared}{p:Addr}{xs:List V}(I:A5 X pins σ H s)(h:H p=some (.lst xs)) :
  ∃(its:List Value) (n:Nat),Au xs its/\s.heap.get? p=some {cls:=.type "list",data:=.seq its.toArray n}/\xs.length<=sizeLine:=by
 obtain⟨z,its,n,r,e⟩:=I.hok p _ h;exact⟨its,n,r,e,z⟩
theorem A5.lstUpd {pins:List (Addr×Obj)}{σ:St}{H:Hp}{s:Shared}{p:Addr}{xs ys:List V}{its its':List Value}{n n':Nat}{f:Obj->Obj}(I:A5 X pins σ H s)(h:H p=some (.lst xs))
  (ho:s.heap.get? p=some {cls:=.type "list",data:=.seq its.toArray n}) (hf:f {cls:=.type "list",data:=.seq its.toArray n}={cls:=.type "list",data:=.seq its'.toArray n'}) (r:Au ys its') (hz:ys.length<=sizeLine) (t:Nat) :
  A5 X pins σ (upd H p (.lst ys)) {s with heap:=s.heap.update p f,toks:=t}:=by
 have e:(s.heap.update p f).get? p=some {cls:=.type "list",data:=.seq its'.toArray n'}:=by
  rw[Heap.get?_update_self f ho (by rw[hf]<;>rfl),hf]
 refine I.write (x:=p) (e:=p) (by rw[h];trivial) (.inl rfl) (λb u hb q=>(Ow _ _ (Ne.symm hb)).trans q) ⟨_,e⟩ ?_;exact⟨hz,its',n',r,e⟩
def Xg:V->V->V->Hp->(Hp->Prop)->Prop:=λo i v H Q=>∃p xs k j,o = .ref p/\i = .int k/\H p=some (.lst xs)/\DJ xs.length k=some j/\Q (upd H p (.lst (xs.set j v)))
theorem JL:Rq X Xg:=by
 intro pins s σ H o i v ov iv u Q I ro ri rv h;obtain⟨p,xs,k,j,rfl,rfl,hp,hj,q⟩:=h;cases ro;obtain⟨t,rfl⟩:=ri;obtain⟨its,n,r,ho,hz⟩:=I.lst hp;obtain⟨h1,h2,h3,h4⟩:=Q6 hj;have hl:=r.length;have hn:=Ip;have I':A5 X pins σ (upd H p (.lst (xs.set j v))) {s with heap:=s.heap.update p (Obj.mapSeq (·.setIfInBounds j u))}:=
  I.lstUpd hp ho (VL its n j u) (r.set rv j) (by rw[List.length_set];exact hz) s.toks
 by_cases h0:0<=k
 .have hk:k.toNat=j:=by
   rw[seqIndex_of h0 h4]at h1;exact Cu h1
  exact PySem.W.ki_setAt ho h0 (by lia) (by rw[AZ,←hl];exact h4) (by rw[hk];exact⟨_,I',q⟩)
 .have hk:(k+(its.toArray.size:Int)).toNat=j:=by
   rw[seqIndex_neg (by lia) h3]at h1;rw[AZ,←hl];exact Cu h1
  exact PySem.W.ki_setBack ho (by lia) (by rw[AZ,←hl];exact h3) (by lia) (by rw[hk];exact⟨_,I',q⟩)
theorem ZF (lo hi:Option Int)(n:Nat):(sliceBounds lo hi none n).1=((HT.sIx n 0 lo:Nat):Int)/\(sliceBounds lo hi none n).2.1=((HT.sIx n n hi:Nat):Int)/\(sliceBounds lo hi none n).2.2=1:=by
 refine⟨?_,?_,rfl⟩
 .cases lo with
  |none=>simp[sliceBounds,HT.sIx]
  |
   some i=>
   simp only[sliceBounds,HT.sIx,Option.getD_none,show(1:Int)>0 by decide,if_true];by_cases h:i<0
   .simp only[h,if_true]<;>lia
   .simp only[h,if_false]<;>lia
 .cases hi with
  |none=>simp[sliceBounds,HT.sIx]
  |
   some i=>
   simp only[sliceBounds,HT.sIx,Option.getD_none,show(1:Int)>0 by decide,if_true];by_cases h:i<0
   .simp only[h,if_true]<;>lia
   .simp only[h,if_false]<;>lia
theorem VH (its:List Value)(lo hi:Option Int):slicePick its.toArray lo hi none=((its.drop (HT.sIx its.length 0 lo)).take (HT.sIx its.length its.length hi-HT.sIx its.length 0 lo)).toArray:=by
 obtain⟨h1,h2,h3⟩:=ZF lo hi its.toArray.size;unfold slicePick;rw[h1,h2,h3];simp only[sliceRange_one,pick_run,AZ]<;>rfl
def XB (K:Faa):V->Option Int->Option Int->Hp->VK->Prop:=λx lo hi H Q=>∃a xs,x = .ref a/\A3 K H a xs/\∀p,H p=none->Q (.ref p) (upd H p (.lst (Ci xs lo hi)))
theorem Mj:Lh X (XB X.K):=by
 intro pins s σ H x v vl vu lo hi sl Q I rx hs pl pu h;obtain⟨a,xs,rfl,hx,q⟩:=h;cases rx;obtain⟨its,r,ht,hz⟩:=I.list hx;have hlen:=r.length;refine⟨"list",_,slot_list_getitem.lookup,ht.isList.typeIs,?_⟩;refine wpAny_getItem_list_slice ht.isList hs pl pu .none (by simp) ?_ (by rw[AZ]<;>lia);rw[VH,←hlen];refine⟨.ref s.heap.objs.size,_,I.laid (t':=s.toks) (o:=.lst (Ci xs lo hi)) (λb ob q=>Bu _ q) (Ah _) ?_,rfl,q _ (I.hok.fresh (Ah _))⟩;exact⟨Ex (QF xs lo hi) hz,_,0,(r.drop (HT.sIx xs.length 0 lo)).take (HT.sIx xs.length xs.length hi-HT.sIx xs.length 0 lo),CT _ rfl⟩
def E4:V->Bool
 |.non=>true
 |.bl _=>true
 |.int _=>true
 |.str _=>true
 |_=>false
def DT:V->V->Bool
 |.non,.non=>true
 |.bl a,.bl b=>a==b
 |.bl a,.int b=>(if a then 1 else 0)==b
 |.int a,.bl b=>a==(if b then 1 else 0)
 |.int a,.int b=>a==b
 |.str a,.str b=>a==b
 |_,_=>false
theorem N0 {A:Around}{s:Shared}{y x:V}{u v:Value}(ry:AG y u)(rx:AG x v)(fy:E4 y=true)(fx:E4 x=true):SeqAt.EqAt A s u v (DT y x):=by
 cases y with
 |
  non=>
  cases ry;cases x with
  |non=>cases rx;exact SeqAt.EqAt.same _
  |bl b=>cases rx;exact SeqAt.EqAt.none_bool b
  |int b=>obtain⟨t,rfl⟩:=rx;exact SeqAt.EqAt.none_int b t
  |str b=>obtain⟨t,rfl⟩:=rx;exact SeqAt.EqAt.none_str b t
  |_=>exact absurd (show false=true from fx) CH
 |
  bl a=>
  cases ry;cases x with
  |non=>cases rx;exact SeqAt.EqAt.bool_none a
  |bl b=>cases rx;exact SeqAt.EqAt.bool_bool a b
  |int b=>obtain⟨t,rfl⟩:=rx;exact SeqAt.EqAt.bool_int a b t
  |str b=>obtain⟨t,rfl⟩:=rx;exact SeqAt.EqAt.bool_str a b t
  |_=>exact absurd (show false=true from fx) CH
 |
  int a=>
  obtain⟨t',rfl⟩:=ry;cases x with
  |non=>cases rx;exact SeqAt.EqAt.int_none a t'
  |bl b=>cases rx;exact SeqAt.EqAt.int_bool a t' b
  |int b=>obtain⟨t,rfl⟩:=rx;exact SeqAt.EqAt.int_int a t' b t
  |str b=>obtain⟨t,rfl⟩:=rx;exact SeqAt.EqAt.int_str a t' b t
  |_=>exact absurd (show false=true from fx) CH
 |
  str a=>
  obtain⟨t',rfl⟩:=ry;cases x with
  |non=>cases rx;exact SeqAt.EqAt.str_none a t'
  |bl b=>cases rx;exact SeqAt.EqAt.str_bool a t' b
  |int b=>obtain⟨t,rfl⟩:=rx;exact SeqAt.EqAt.str_int a t' b t
  |str b=>obtain⟨t,rfl⟩:=rx;exact SeqAt.EqAt.str_str a t' b t
  |_=>exact absurd (show false=true from fx) CH
 |_=>exact absurd (show false=true from fy) CH
def DZ (x:V)(u:Value):Bool:=match u with
 |.none=>DT .non x
 |.bool b=>DT (.bl b) x
 |.int i _=>DT (.int i) x
 |.str z _=>DT (.str z) x
 |_=>false
theorem Qp {x y:V}{u:Value}(r:AG y u)(f:E4 y=true):DZ x u=DT y x:=by
 cases y with
 |non=>cases r;rfl
 |bl b=>cases r;rfl
 |int i=>obtain⟨t,rfl⟩:=r;rfl
 |str z=>obtain⟨t,rfl⟩:=r;rfl
 |_=>exact absurd (show false=true from f) CH
theorem JF {x:V}:∀{xs:List V} {us:List Value},Au xs us->xs.all E4=true->us.any (DZ x)=xs.any λy=>DT y x
 |_,_,.nil,_=>rfl
 |
  y::xs,u::us,.cons r t,f=>by
  rw[List.all_cons,DC]at f;rw[List.any_cons,List.any_cons,Qp r f.1,JF t f.2]
theorem JW {A:Around}{s:Shared}{x:V}{v:Value}(rx:AG x v)(fx:E4 x=true):∀{xs:List V} {us:List Value},Au xs us->xs.all E4=true->∀u∈us,SeqAt.EqAt A s u v (DZ x u)
 |_,_,.nil,_=>λu hu=>by cases hu
 |
  y::xs,u::us,.cons r t,f=>λu' hu=>by
  rw[List.all_cons,DC]at f;rcases Bb.mp hu with rfl|hu
  .rw[Qp r f.1];exact N0 r rx f.1 fx
  .exact JW rx fx t f.2 u' hu
def Hm (x:V)(xs:List V):Bool:=xs.any λy=>DT y x
def Ol (K:Faa)(neg:Bool):R2:=λx y H Q=>∃p xs,y = .ref p/\(A3 K H p xs\/A4 K H p xs)/\E4 x=true/\xs.all E4=true/\Q (.bl (if neg then !Hm x xs else Hm x xs)) H
theorem MY:BI X (compareOp .In) (Ol X.K false):=by
 intro pins s σ H x y v u Q I rx ry h;obtain⟨p,xs,rfl,hq,fx,fs,q⟩:=h;cases ry;rcases hq with hq|hq
 .obtain⟨its,r,pl,hz⟩:=I.list hq;refine SeqAt.in_listAt (DZ x) pl.isList (λw hw=>JW rx fx r fs w (by simpa using hw)) ⟨.bl _,H,I,rfl,?_⟩;rw[show its.toArray.any (DZ x)=its.any (DZ x) by simp,JF r fs];exact q
 .obtain⟨its,r,pl,hz⟩:=I.tuple hq;refine SeqAt.in_tupleAt (DZ x) pl (λw hw=>JW rx fx r fs w (by simpa using hw)) ⟨.bl _,H,I,rfl,?_⟩;rw[show its.toArray.any (DZ x)=its.any (DZ x) by simp,JF r fs];exact q
theorem Zp:BI X (compareOp .NotIn) (Ol X.K true):=by
 intro pins s σ H x y v u Q I rx ry h;obtain⟨p,xs,rfl,hq,fx,fs,q⟩:=h;cases ry;rcases hq with hq|hq
 .obtain⟨its,r,pl,hz⟩:=I.list hq;refine SeqAt.notIn_listAt (DZ x) pl.isList (λw hw=>JW rx fx r fs w (by simpa using hw)) ⟨.bl _,H,I,rfl,?_⟩;rw[show its.toArray.any (DZ x)=its.any (DZ x) by simp,JF r fs];exact q
 .obtain⟨its,r,pl,hz⟩:=I.tuple hq;refine SeqAt.notIn_tupleAt (DZ x) pl (λw hw=>JW rx fx r fs w (by simpa using hw)) ⟨.bl _,H,I,rfl,?_⟩;rw[show its.toArray.any (DZ x)=its.any (DZ x) by simp,JF r fs];exact q
theorem BB:EL X (.builtin "len") (λxs H Q=>∃p ys,xs=[.ref p]/\(A3 X.K H p ys\/A4 X.K H p ys)/\Q (.int ys.length) H):=by
 intro pins s σ H xs us Q I r h;obtain⟨p,ys,rfl,hq,q⟩:=h;obtain⟨u,rfl,rx⟩:=F7 r;cases rx;have hn:=Ip;rcases hq with hq|hq
 .obtain⟨its,r',pl,hz⟩:=I.list hq;have hlen:=r'.length;exact Calls.call_len_list pl.isList (by simp only[AZ]<;>lia) ⟨.int ys.length,H,I.tok _,⟨s.toks+1,by rw[AZ,hlen]⟩,q⟩
 .obtain⟨its,r',pl,hz⟩:=I.tuple hq;have hlen:=r'.length;exact len_tuple pl (by simp only[AZ]<;>lia) ⟨.int ys.length,H,I.tok _,⟨s.toks+1,by rw[AZ,hlen]⟩,q⟩
theorem Kd:EL X (.type "list") (λxs H Q=>∃p ys,xs=[.ref p]/\(A3 X.K H p ys\/A4 X.K H p ys)/\∀l,H l=none->Q (.ref l) (upd H l (.lst ys))):=by
 intro pins s σ H xs us Q I r h;obtain⟨p,ys,rfl,hq,q⟩:=h;obtain⟨u,rfl,rx⟩:=F7 r;cases rx;have fin:∀(its:List Value),Au ys its->ys.length<=sizeLine->∀(h':Heap) (c':Nat),(∀b o',s.heap.get? b=some o'->h'.get? b=some o')->
   h'.get? s.heap.objs.size=some {cls:=.type "list",dict:=none,data:=.seq its.toArray c',slots := #[]}->EP X pins σ Q (.ref s.heap.objs.size) {s with heap:=h'}:=λits r' hz h' c' kp e=>
  ⟨.ref s.heap.objs.size,_,I.laid (t':=s.toks) kp (Ah _) (show CM X.prog X.w _ h' _ (.lst ys) from⟨hz,its,c',r',e⟩),rfl,q _ (I.hok.fresh (Ah _))⟩
 rcases hq with hq|hq
 .obtain⟨its,r',pl,hz⟩:=I.list hq;have hlen:=r'.length;obtain⟨o,ho,hc,n,hd⟩:=pl.isList;exact call_list_seq p (.inl rfl) ho hc hd (λh' c' kp e=>fin its r' hz h' c' kp e) (by simp only[AZ]<;>lia)
 .obtain⟨its,r',pl,hz⟩:=I.tuple hq;have hlen:=r'.length;obtain⟨o,ho,hc,n,hd⟩:=pl;exact call_list_seq p (.inr rfl) ho hc hd (λh' c' kp e=>fin its r' hz h' c' kp e) (by simp only[AZ]<;>lia)
theorem F8:EL X (.type "tuple") (λxs H Q=>∃p ys,xs=[.ref p]/\((A3 X.K H p ys/\∀l,H l=none->Q (.ref l) (upd H l (.tup ys)))\/(A4 X.K H p ys/\Q (.ref p) H))):=by
 intro pins s σ H xs us Q I r h;obtain⟨p,ys,rfl,h⟩:=h;obtain⟨u,rfl,rx⟩:=F7 r;cases rx;rcases h with⟨hq,q⟩|⟨hq,q⟩
 .obtain⟨its,r',pl,hz⟩:=I.list hq;have hlen:=r'.length;refine call_tuple_list pl.isList (λh' kp=>?_) (by simp only[AZ]<;>lia);have I1:A5 X pins σ H {s with heap:=h'}:=I.kept (t':=s.toks) kp;have I2:A5 X pins σ (upd H h'.objs.size (.tup ys)) {s with heap:=h'.push {cls:=.type "tuple",data:=.seq its.toArray}}:=
   I1.laid (t':=s.toks) (λb o e=>Bu _ e) (Ah _) (show CM X.prog X.w _ _ _ (.tup ys) from⟨hz,its,r',EW.new _ _⟩)
  exact⟨.ref h'.objs.size,_,I2,rfl,q _ (I1.hok.fresh (Ah _))⟩
 .obtain⟨its,r',pl,hz⟩:=I.tuple hq;exact call_tuple_same pl ⟨.ref p,H,I,rfl,q⟩
def O8 (K:Faa)(T:String)(x:V)(H:Hp):Prop:=match x with
 |.str _=>T="str"
 |.int _=>T="int"
 |.ref p=>(T="list"/\∃xs,A3 K H p xs)\/(T="tuple"/\∃o,K.lookup p=some o/\o.cls = .type "tuple"/\o.dict=none)\/
  (T="dict"/\((∃kvs,H p=some (.dK kvs))\/∃kvs,H p=some (.dT kvs)))\/(T="set"/\∃S n,H p=some (.set S n))
 |_=>False
theorem SC {pins:List (Addr×Obj)}{σ:St}{H:Hp}{s:Shared}{T:String}{x:V}{v:Value}(I:A5 X pins σ H s)(r:AG x v)(ty:O8 X.K T x H) :
  s.TypeIs v T/\∀a,v = .ref a->∃ob,s.heap.get? a=some ob/\ob.dict=none:=by
 cases x with
 |
  str z=>
  obtain⟨t,rfl⟩:=r;cases (show T="str" from ty);exact⟨typeIs_str s z t,λ_ e=>nomatch e⟩
 |
  int i=>
  obtain⟨t,rfl⟩:=r;cases (show T="int" from ty);exact⟨typeIs_int s i t,λ_ e=>nomatch e⟩
 |
  ref p=>
  cases r;rcases ty with⟨rfl,xs,hq⟩|⟨rfl,o,hk,hc,hd⟩|⟨rfl,hk⟩|⟨rfl,S,n,hk⟩
  .obtain⟨its,_,pl,_⟩:=I.list hq;refine⟨pl.isList.typeIs,λa e=>?_⟩;cases e;obtain⟨o,n,e,c,hd,_⟩:=pl;exact⟨o,e,hd⟩
  .refine⟨⟨o,I.kIn p o hk,hc⟩,λa e=>?_⟩;cases e;exact⟨o,I.kIn _ o hk,hd⟩
  .have z:∃o,s.heap.get? p=some o/\o.ExactDict:=by
    rcases hk with⟨kvs,hk⟩|⟨kvs,hk⟩
    .obtain⟨_,_,_,_,o,_,_,e,ex,_⟩:=I.hok p _ hk;exact⟨o,e,ex⟩
    .obtain⟨_,_,_,_,o,_,_,e,ex,_⟩:=I.hok p _ hk;exact⟨o,e,ex⟩
   obtain⟨o,e,ex⟩:=z;refine⟨⟨o,e,ex.1⟩,λa e2=>?_⟩;cases e2;exact⟨o,e,ex.2.1⟩
  .obtain⟨o,_,_,_,e,ex,_⟩:=I.hok p _ hk;refine⟨⟨o,e,ex.1⟩,λa e2=>?_⟩;cases e2;exact⟨o,e,ex.2.1⟩
 |_=>exact False.elim ty
def ao (K:Faa)(T:String)(r:V->List V->Hp->VK->Prop)(to:TE):TE:=fun σ H Q=>to σ H λx H1=>O8 K T x H1/\r x [] H1 Q
def WN (K:Faa)(T:String)(r:V->List V->Hp->VK->Prop)(to:TE)(t:TA):TE:=fun σ H Q=>to σ H λx H1=>O8 K T x H1/\t σ H1 λxs H2=>r x xs H2 Q
variable {o e:Expr}{es:List Expr}{to:TE}{t:TA}{name:Str}{apos cpos:Pos}{T id:String}{r:V->List V->Hp->VK->Prop}
theorem LP (pa:PlainAttrs T)(slot:Slot T name id)(hty:typeOf (.builtin id)=pure (.type "method_descriptor"))(hm:Ru X id r)(ho:PE X o to)
  (hbase:attributeBase o name X.env (eval o X.env)=eval o X.env:=by rfl) (hline:(apos.endLine==cpos.line)=true:=by rfl):PE X (.Call (.Attribute o name apos) [] [] cpos) (ao X.K T r to):=by
 intro pins s σ H Q I h;refine wpAny_Call_method0_late hbase hline (AA (ho pins s σ H _ I h) λv s1 zz=>?_);obtain⟨x,H1,I1,r1,ty,q1⟩:=zz;obtain⟨h1,h2⟩:=SC I1 r1 ty;exact⟨T,id,pa,slot,hty,h1,h2,Calls.callWith_builtin rfl (PySem.evalArgs_none (hm pins s1 σ H1 x [] v [] Q I1 r1 .nil q1))⟩
theorem BF (pa:PlainAttrs T)(slot:Slot T name id)(hty:typeOf (.builtin id)=pure (.type "method_descriptor"))(hm:Ru X id r)(ho:PE X o to)(ha:PA X (e::es) t)
  (hbase:attributeBase o name X.env (eval o X.env)=eval o X.env:=by rfl)
  (hfew:((backTo cpos (starEach (e::es) X.env)).all (λx=>!x.1)&&(backToKw cpos (keywordEach [] X.env)).all (λx=>x.1.isSome)
   && decide ((e::es).length+([]:List Keyword).length+(if([]:List Keyword).isEmpty then 0 else 1)<30))=true:=by rfl)
  (hline:(apos.endLine==cpos.line)=true:=by rfl) (hs:starEach (e::es) X.env=(false,eval e X.env)::starEach es X.env:=by rfl) (hplain:(backTo cpos (starEach es X.env)).any (·.1)=false:=by rfl) :
  PE X (.Call (.Attribute o name apos) (e::es) [] cpos) (WN X.K T r to t):=by
 intro pins s σ H Q I h;refine wpAny_Call_method_late hbase hfew hline rfl (AA (ho pins s σ H _ I h) λv s1 zz=>?_);obtain⟨x,H1,I1,r1,ty,q1⟩:=zz;obtain⟨h1,h2⟩:=SC I1 r1 ty;refine⟨T,id,pa,slot,hty,h1,h2,?_⟩;have hA:=ha cpos pins s1 σ H1 _ I1 q1;rw[hs]at hA ⊢;refine Calls.callWith_builtin (by show(false||(backTo cpos (starEach es X.env)).any (·.1))=false;rw[hplain]<;>rfl) (Calls.evalArgs_plain ?_);refine AA hA λus s2 zz=>?_;obtain⟨vs,H2,I2,r2,q2⟩:=zz;exact hm pins s2 σ H2 x vs v us Q I2 r1 r2 q2
end
def Iy (X:Cx)(id:String)(r:V->List V->Hp->VK->Prop):Prop:=
 ∀(pins:List (Addr×Obj)) (s:Shared) (σ:St) (H:Hp) (x:V) (xs:List V) (v:Value) (us:List Value) (Q:VK),A5 X pins σ H s->AG x v->Au xs us->r x xs H Q->
  wpAny (model X.prog X.w) X.A (call (.builtin id) (v::us)) (EP X pins σ Q) X.xe s
theorem Au.one:∀{x:V} {us:List Value},Au [x] us->∃u,us=[u]/\AG x u:=by
 intro x us h;cases h with
 |
  cons r q=>
  cases q;exact⟨_,rfl,r⟩
theorem Au.two:∀{x y:V} {us:List Value},Au [x,y] us->∃u v,us=[u,v]/\AG x u/\AG y v:=by
 intro x y us h;cases h with
 |
  cons r q=>
  obtain⟨v,rfl,z⟩:=Au.one q;exact⟨_,_,rfl,r,z⟩
theorem Au.zero:∀{us:List Value},Au [] us->us=[]
 |_,.nil=>rfl
theorem Au.dropLast {xs:List V}{us:List Value}(h:Au xs us):Au xs.dropLast us.dropLast:=by
 induction h with
 |nil=>exact .nil
 |
  cons r t ih=>
  cases t with
  |nil=>exact .nil
  |cons q t'=>exact .cons r ih
theorem Au.rep {xs:List V}{us:List Value}(h:Au xs us):∀k:Nat,Au (List.replicate k xs).flatten (List.replicate k us).flatten
 |0=>.nil
 |
  k+1=>by
  rw[Kz,Kz,Ox,Ox];exact Au.append h (Au.rep h k)
theorem Td {α:Type}(l:List α):l.eraseIdx (l.length-1)=l.dropLast:=by
 induction l with
 |nil=>rfl
 |
  cons a r ih=>
  cases r with
  |nil=>rfl
  |
   cons b r=>
   have e:(a::b::r).length-1=((b::r).length-1)+1:=by
    have h1:(a::b::r).length=r.length+2:=rfl;have h2:(b::r).length=r.length+1:=rfl;lia
   rw[e,List.eraseIdx_cons_succ,ih]
   all_goals rfl
theorem Qq (its:List Value):∀(k:Nat) (acc:List Value),
  List.foldl (λx1 x2=>x1++x2) acc.toArray (List.replicate k its.toArray)=(acc++(List.replicate k its).flatten).toArray
 |0,acc=>by simp
 |
  k+1,acc=>by
  have e:acc.toArray++its.toArray=(acc++its).toArray:=by simp
  have e2:(acc++its)++(List.replicate k its).flatten=acc++(List.replicate (k+1) its).flatten:=by
   rw[Kz,Ox,D6]
  rw[←e2,←Qq its k (acc++its),←e,Kz,List.foldl_cons]
section
variable {X:Cx}{pins:List (Addr×Obj)}{σ:St}{H:Hp}{s:Shared}{l b:Addr}{xs ys zs:List V}
theorem A5.lset {its its':List Value}{n:Nat}{f:Array Value->Array Value}{t':Nat}(I:A5 X pins σ H s)(hH:H l=some (.lst xs))
  (e:s.heap.get? l=some {cls:=.type "list",data:=.seq its.toArray n}) (hf:f its.toArray=its'.toArray) (hv:Au ys its') (hz:ys.length<=sizeLine) :
  A5 X pins σ (upd H l (.lst ys)) {s with heap:=s.heap.update l (Obj.mapSeq f),toks:=t'}:=by
 have q:=PySem.IsL.update e f;rw[hf]at q;refine I.write (x:=l) (e:=l) (by rw[hH];exact trivial) (.inl rfl) (λb' u hb hu=>(Ow s.heap (Obj.mapSeq f) (Ne.symm hb)).trans hu) ⟨_,q⟩ ?_;exact⟨hz,its',_,hv,q⟩
theorem A5.lnew {its:List Value}{t':Nat}(I:A5 X pins σ H s)(hv:Au ys its)(hz:ys.length<=sizeLine) :
  A5 X pins σ (upd H s.heap.objs.size (.lst ys)) {s with heap:=s.heap.push {cls:=.type "list",data:=.seq its.toArray},toks:=t'}:=
 I.laid (λ_ _ q=>Bu _ q) (Ah _) ⟨hz,its,0,hv,CT _ rfl⟩
theorem A5.fresh (I:A5 X pins σ H s):H s.heap.objs.size=none:=I.hok.fresh (Ah _)
theorem A5.lstM (I:A5 X pins σ H s)(hH:H l=some (.lst xs)):xs.length<=sizeLine/\∃(its:List Value) (n:Nat),Au xs its/\xs.length=its.length/\s.heap.get? l=some {cls:=.type "list",data:=.seq its.toArray n}:=by
 obtain⟨z,its,n,r,e⟩:=I.hok l _ hH;exact⟨z,its,n,r,r.length,e⟩
theorem Pc {n:Nat}(h:n<=sizeLine):Builtin.List.listTooLong n=false:=by
 unfold Builtin.List.listTooLong;exact C9 (by lia)
end
section
variable {X:Cx}
def Z8:V->List V->Hp->VK->Prop:=λx vs H Q=>∃l xs y,x = .ref l/\vs=[y]/\H l=some (.lst xs)/\xs.length<sizeLine/\Q .non (upd H l (.lst (xs++[y])))
theorem BL:Iy X "list.append" Z8:=by
 intro pins s σ H x vs v us Q I rx rv h;obtain⟨l,xs,y,rfl,rfl,hH,hz,q⟩:=h;cases rx;obtain⟨u,rfl,ru⟩:=rv.one;obtain⟨z,its,n,r,hl,e⟩:=I.lstM hH;refine Io F.slot_list_append ⟨_,e,rfl⟩ F.entry_list_append (F.args_list_append_2 _ _) (PySem.list_append l its.toArray n u (by rw[AZ];lia)) ⟨e,?_⟩;refine⟨.non,_,I.lset (its':=its++[u]) hH e (by simp) (r.append (.cons ru .nil)) ?_,rfl,q⟩;rw[Ai,Bc];lia
def Xw:V->List V->Hp->VK->Prop:=λx vs H Q=>∃l b xs zs,x = .ref l/\vs=[.ref b]/\H l=some (.lst xs)/\H b=some (.lst zs)/\xs.length+zs.length<=sizeLine/\Q .non (upd H l (.lst (xs++zs)))
theorem LI:Iy X "list.extend" Xw:=by
 intro pins s σ H x vs v us Q I rx rv h;obtain⟨l,b,xs,zs,rfl,rfl,hH,hB,hz,q⟩:=h;cases rx;obtain⟨u,rfl,ru⟩:=rv.one;cases ru;obtain⟨z,its,n,r,hl,e⟩:=I.lstM hH;obtain⟨z2,its2,n2,r2,hl2,e2⟩:=I.lstM hB;have hsz:its.toArray.size+its2.toArray.size<=sizeLine:=by rw[AZ,AZ];lia
 have hlong:¬(!its.toArray.isEmpty&&Builtin.List.listTooLong (its.toArray.size+its2.toArray.size))=true:=by
  rw[Pc hsz,Oy];exact CH
 refine Io F.slot_list_extend ⟨_,e,rfl⟩ F.entry_list_extend (F.args_list_extend_2 _ _)
  (AutoSeq1.list_extend_list_list_0 l its.toArray n b its2.toArray n2 hlong (by rw[AZ];lia) (by lia)) ⟨e,e2,?_⟩
 refine⟨.non,_,I.lset (its':=its++its2) hH e (by simp) (r.append r2) ?_,rfl,q⟩;rw[Ai];lia
def We:V->List V->Hp->VK->Prop:=λx vs H Q=>∃l xs y,x = .ref l/\vs=[]/\H l=some (.lst xs)/\xs[xs.length-1]?=some y/\Q y (upd H l (.lst xs.dropLast))
theorem MU:Iy X "list.pop" We:=by
 intro pins s σ H x vs v us Q I rx rv h;obtain⟨l,xs,y,rfl,rfl,hH,hy,q⟩:=h;cases rx;have hus:=rv.zero;subst hus;obtain⟨z,its,n,r,hl,e⟩:=I.lstM hH;obtain⟨u,hu,ru⟩:=r.get hy;have hy':its.toArray[its.toArray.size-1]?=some u:=by
  show its.toArray[its.length-1]?=some u;rw[←Array.getElem?_toList,←hl];exact hu
 refine Io F.slot_list_pop ⟨_,e,rfl⟩ F.entry_list_pop (F.args_list_pop_1 _) (MeetsSeq.list_pop_last l its.toArray n u hy' (by rw[AZ];lia)) ⟨e,?_⟩;refine⟨y,_,I.lset (its':=its.dropLast) hH e ?_ r.dropLast ?_,ru,q⟩
 .show its.toArray.eraseIdxIfInBounds (its.toArray.size-1)=its.dropLast.toArray;rw[AZ,List.eraseIdxIfInBounds_toArray,Td]
 .rw[List.length_dropLast];lia
def Wi:V->List V->Hp->VK->Prop:=λx vs H Q=>∃l xs,x = .ref l/\vs=[]/\H l=some (.lst xs)/\Q .non (upd H l (.lst []))
theorem YN:Iy X "list.clear" Wi:=by
 intro pins s σ H x vs v us Q I rx rv h;obtain⟨l,xs,rfl,rfl,hH,q⟩:=h;cases rx;have hus:=rv.zero;subst hus;obtain⟨z,its,n,r,hl,e⟩:=I.lstM hH;refine Io F.slot_list_clear ⟨_,e,rfl⟩ F.entry_list_clear (F.args_list_clear_1 _) (AutoSeq1.list_clear_list_0 l its.toArray n (by rw[AZ];lia)) ⟨e,?_⟩;exact⟨.non,_,I.lset (its':=[]) (ys:=[]) hH e rfl .nil (Bh _),rfl,q⟩
def V0:R2:=λx y H Q=>∃l b xs zs,x = .ref l/\y = .ref b/\H l=some (.lst xs)/\H b=some (.lst zs)/\xs.length+zs.length<=sizeLine/\∀p,H p=none->Q (.ref p) (upd H p (.lst (xs++zs)))
theorem HK:BI X (binaryOp .Add) V0:=by
 intro pins s σ H x y v u Q I rx ry h;obtain⟨l,b,xs,zs,rfl,rfl,hH,hB,hz,q⟩:=h;cases rx;cases ry;obtain⟨z,its,n,r,hl,e⟩:=I.lstM hH;obtain⟨z2,its2,n2,r2,hl2,e2⟩:=I.lstM hB;refine PySem.P.add_list e e2 ?_ (by rw[AZ,AZ];lia);have ea:its.toArray++its2.toArray=(its++its2).toArray:=by simp
 rw[ea];exact⟨.ref _,_,I.lnew (t':=s.toks) (r.append r2) (by rw[Ai];lia),rfl,q _ I.fresh⟩
def WQ:R2:=λx y H Q=>∃l k xs,x = .ref l/\y = .int k/\H l=some (.lst xs)/\-(2 ^ 63)<=k/\k<2 ^ 63/\xs.length*k.toNat<=sizeLine/\
 ∀p,H p=none->Q (.ref p) (upd H p (.lst (List.replicate k.toNat xs).flatten))
theorem Zl {α:Type}(xs:List α)(k:Nat):(List.replicate k xs).flatten.length=k*xs.length:=by
 induction k with
 |zero=>simp
 |succ k ih=>rw[Kz,Ox,Ai,ih,Mx,Ii]
theorem NZ:BI X (binaryOp .Mult) WQ:=by
 intro pins s σ H x y v u Q I rx ry h;obtain⟨l,k,xs,rfl,rfl,hH,h1,h2,hz,q⟩:=h;cases rx;obtain⟨t,rfl⟩:=ry;obtain⟨z,its,n,r,hl,e⟩:=I.lstM hH;have hlen:its.toArray.size*k.toNat<=sizeLine:=by rw[AZ,←hl];exact hz
 have hcap:¬its.toArray.size*k.toNat>(2 ^ 63-1)/8:=by
  have:(sizeLine:Nat)<=(2 ^ 63-1)/8:=by decide
  lia
 have hfit:¬(!Builtin.List.listFitsIndex k)=true:=by
  rw[fitsIndex_both h1 h2];exact CH
 have hlong:¬Builtin.List.listTooLong (its.toArray.size*k.toNat)=true:=by
  rw[Pc hlen];exact CH
 have hnew:List.foldl (λx1 x2=>x1++x2) #[] (List.replicate (if its.toArray.isEmpty=true then 0 else k.toNat) its.toArray)=(List.replicate k.toNat its).flatten.toArray:=by
  have f0:∀m:Nat,List.foldl (λx1 x2=>x1++x2) #[] (List.replicate m its.toArray)=(List.replicate m its).flatten.toArray:=λm=>by
   have:=Qq its m [];rw[KA]at this;exact this
  rw[f0];cases its with
  |nil=>simp
  |cons a r'=>rw[AB (by simp)]
 refine wpAny_binaryOp_repeat_ref (T:="list") (U:="int") (by decide) ⟨_,e,rfl⟩ (λs'=>typeIs_int s' k t) noFill_list_mul F.fills_int_mul F.slot_int_rmul repeat_list F.slot_int_index.lookup
  (Io F.slot_int_rmul (typeIs_int s k t) F.entry_int_rmul (F.args_int_rmul_2 _ _) (int___rmul___int_list k t l its.toArray n)
   ⟨e,rfl,⟨_,e,rfl⟩,Io F.slot_list_mul ⟨_,e,rfl⟩ F.entry_list_mul (F.args_list_mul_2 _ _) (AutoListH.list___mul___list_int_3 l its.toArray n k t hfit hcap hlong) ⟨e,?_⟩⟩)
 rw[hnew];exact⟨.ref _,_,I.lnew (t':=s.toks) (r.rep k.toNat) (by rw[Zl,Nat.mul_comm];exact hz),rfl,q _ I.fresh⟩
end
section
variable {prog:Program}{w:World}{A:Around}{E:Value->Shared->Prop}{s:Shared}
set_option maxRecDepth 100000 in
end
section
variable {X:Cx}
end
section
variable {κ:Type}[DecidableEq κ]
def Fd (kvs:List (κ×V))(k:κ):Option V:=(kvs.find? λkv=>decide (kv.1=k)).map (·.2)
theorem TZ {p:κ×V}{r:List (κ×V)}{k:κ}(e:p.1=k):Fd (p::r) k=some p.2:=by simp[Fd,OA,e]
theorem Y6 {p:κ×V}{r:List (κ×V)}{k:κ}(e:¬p.1=k):Fd (p::r) k=Fd r k:=by simp[Fd,OA,e]
theorem KV.val {kvs:List (κ×V)}{vs:List (κ×Value)}(r:KV kvs vs)(k:κ):EG (Fd kvs k) (valueAt vs k):=by
 unfold KV at r;induction r with
 |nil=>exact True.intro
 |
  @cons p q ps qs h t ih=>
  obtain⟨h1,h2⟩:=h;by_cases e:p.1=k
  .have e':q.1=k:=h1.symm.trans e;have b:valueAt (q::qs) k=some q.2:=by simp[valueAt,OA,e']
   rw[TZ e,b];exact h2
  .have e':¬q.1=k:=λz=>e (h1.trans z);have b:valueAt (q::qs) k=valueAt qs k:=by simp[valueAt,OA,e']
   rw[Y6 e,b];exact ih
end
theorem PD {P:Program}{w:World}{k:CF}{u:Value}(r:AG (kV k) u):(Gk P w).is k u=true:=by
 cases k with
 |inl i=>obtain⟨t,e⟩:=(show ∃t,u=Value.int i t from r);subst e;exact aZ P w i t
 |inr x=>obtain⟨t,e⟩:=(show ∃t,u=Value.str x t from r);subst e;exact Tv P w x t
section
variable {P:Program}{w:World}{H:Hp}{h:Heap}{a:Addr}
end
section
variable {X:Cx}{pins:List (Addr×Obj)}{σ:St}{H:Hp}{s:Shared}{a:Addr}{y v:V}{u r:Value}{o:Option V}{A:Around}{E:Value->Shared->Prop}
end
section
variable {X:Cx}{pins:List (Addr×Obj)}{σ:St}{H:Hp}{s:Shared}{a:Addr}{kvs:List (CF×V)}{k:CF}{u:Value}{A:Around}{E:Value->Shared->Prop}
end
def RN (i:Expr):Prop := ∀ov iv,subscripted i false ov iv=operate [ov,iv] (getItem ov iv)
theorem Zw {prog:Program}{w:World}{A:Around}{E:Value->Shared->Prop}{s:Shared}{env:Env}{value slice:Expr}{pos:Pos}{T id:String}{Q:Value->Shared->Prop}
  (hl:typeLookup (.type T) "__getitem__"=pure (some (.builtin id))) (hs:RN slice)
  (h:wpAny (model prog w) A (eval value env) (λo s₁=>wpAny (model prog w) A (eval slice env) (λi s₂=>s₂.TypeIs o T/\wpAny (model prog w) A (getItem o i) Q E s₂) E s₁) E s) :
  wpAny (model prog w) A (eval (.Subscript value slice pos) env) Q E s:=by
 refine Subscript_ (Ee h (λo s₁ h₁=>Ee h₁ (λi s₂ h₂=>?_) λ_ _ x=>x) λ_ _ x=>x);obtain⟨hT,h₂⟩:=h₂;unfold subscriptTail;refine As ?_;rw[getitemInPython_of_ne hT.not_modules];refine As (wpAny_specialOf hT hl ?_);have fin:wpAny (model prog w) A (subscripted slice false o i) (λr s₃=>wpAny (model prog w) A (letTemporaryGo value o r>>=λ_=>pure r) Q E s₃) E s₂:=by
  rw[hs o i];exact wpAny_operating (Ee h₂ (λr s₃ h₃=>As (wpAny_letTemporaryGo (AV h₃))) λ_ _ x=>x)
 first
  |exact AV (As fin)
  |exact As (AV (As fin))
  |exact As fin
section
variable {X:Cx}{o i e value:Expr}{pos pos' tpos:Pos}{td ty tv:TE}
end
section
variable {X:Cx}{pos:Pos}
end
section
variable {X:Cx}{pins:List (Addr×Obj)}{σ:St}{H:Hp}{s:Shared}{a:Addr}{y d:V}{u r:Value}{o:Option V}{A:Around}{E:Value->Shared->Prop}
end
section
variable {X:Cx}{o e f:Expr}{apos cpos:Pos}{td ty tx:TE}
end
section
variable {X:Cx}{pins:List (Addr×Obj)}{σ:St}{H:Hp}{s:Shared}{a:Addr}{kvs:List (CF×V)}{A:Around}{E:Value->Shared->Prop}
end
section
variable {X:Cx}{pins:List (Addr×Obj)}{σ:St}{H:Hp}{s:Shared}{a:Addr}{y:V}{u:Value}{A:Around}{E:Value->Shared->Prop}
end
end L2
namespace Att
open PySem PySem.W PySem.Calls PyProof.Rows
theorem ZC {P:Params}{h:Heap}:∀(ns:List Int) (vs:List Value),WellAll P h vs (ns.map WData.int)->IntsAre vs ns:=by
 intro ns;induction ns with
 |
  nil=>
  intro vs w;rw[Gf]at w;cases w;exact .nil
 |
  cons n ns ih=>
  intro vs w;rw[Cf]at w;cases w with
  |
   cons a b=>
   cases a;exact .cons _ _ (ih _ b)
theorem ZS {l:OpenLaw}{n:Nat}(hn:l.most=some n){P:Params}{h:Heap}{args:List WData}{vals:List Value}
  (hpre:l.row.toRowW.claim.pre args=true) (hwl:WellAll P h vals args) :
  ∃a vs ns,vals=[Value.ref a]/\args=[WData.list (ns.map WData.int)]/\h.get? a=some {cls:=.type "list",data:=.seq vs.toArray}/\IntsAre vs ns/\ns.length<=n:=by
 have hsh:WShape.hasAll [] args [.list .int]=true:=(pre_splitW hpre).1;have hc:l.pre.holds [] {args:=args}=true:=(pre_splitW hpre).2;obtain⟨d,r,rfl,h1,h2⟩:=hasAllW_cons hsh;obtain rfl:=hasAllW_nil h2;obtain⟨xs,rfl,h3⟩:=hasW_list h1;obtain⟨ns,rfl⟩:=items_int h3;have hlen:ns.length<=n:=by
  unfold OpenLaw.pre at hc;have h4:(WTm.not (.lt (.lit (.int (n:Int))) (.len (.arg 0)))).holds [] {args:=[.list (ns.map .int)]}=true:=by
   have h4:=(holds_andW hc).1;rw[hn]at h4;exact h4
  have h5:=condW_of h4 (w_not (w_lt w_lit (w_len_list (w_arg rfl))));rw[Af]at h5;refine Nat.le_of_not_lt λq=>?_;have q':(n:Int)<((ns.length:Nat):Int):=by lia
  first
   |(rw[BU q']at h5;exact absurd h5 (by decide))
   |(simp at h5;lia)
 cases hwl with
 |
  cons w1 w2=>
  cases w2;cases w1 with
  |list ho hall=>exact⟨_,_,ns,rfl,rfl,ho,ZC ns _ hall,hlen⟩
theorem XT (l:OpenLaw)(args:List WData):l.row.toRowW.claim.post args (.bool true) args=true:=
 postW_of (r:=l.row.toRowW) (X:=(true==true))
  (show WShape.has [] (.bool true) .bool=true by first|rfl|decide|simp[WShape.has,WShape.arms,WShape.armsAll])
  (show(WTm.eq .res (.lit (.bool true))).value [] {args:=args,res:=some (.bool true),after:=args}=some (.bool (true==true)) from w_eq_bool (w_res rfl) w_lit) rfl
theorem attach_call {l:OpenLaw}{n:Nat}{q:Program}{loose:List Str}{XP:(Str->Option Value)->Heap->Prop}{YP:World->Heap->Prop}{d:DefRec}
  (hn:l.most=some n) (hdf:d.params.defaults=[])
  (call:∀(w:World) (s₀ s₁:Shared) (mg mb:Str->Option Value) (fa:Addr) (o:Obj) (pm cd doc:Value) (a:Addr) (vs:List Value) (ns:List Int),
   Ground q loose [] XP w s₀ mg mb s₁.heap->YP w s₁.heap->
   s₁.heap.get? fa=some o->o.data = .func (docDef d.name d.params d.body d.scope pm cd doc)->s₁.heap.CodeRec cd d.name->mg d.name=some (.ref fa)->
   s₁.heap.get? a=some {cls:=.type "list",data:=.seq vs.toArray}->IntsAre vs ns->ns.length<=n->s₁.gens = #[]->
   codeAny (model l.prog w) callerA (.call (.ref fa) ⟨[.ref a],[]⟩) (λr s'=>r = .ok (.ret (.bool true))/\OldK s₁.heap s'.heap/\s'.os=s₁.os/\AllBare s'.gens) s₁) :
  WalkO q loose XP YP l.row.toRowW d [] (λf vs=>PySem.call f vs):=by
 intro w s₀ s₁ mg mb G Y fa o pm cd doc dV kV ho hd hcd hD hmg hg args vals as hpre hlay hrd hwl hlo;obtain rfl:dV = .none:=Dflts.none hD hdf;obtain rfl:kV = .none:=Dflts.noKw hD;obtain⟨a,vs,ns,rfl,rfl,hobj,hints,hlen⟩:=ZS hn hpre hwl;refine enter_call (OU (call w s₀ s₁ mg mb fa o pm cd doc a vs ns G Y ho (fd_plain hd) hcd hmg hobj hints hlen hg) λr s' hq=>?_);obtain⟨rfl,h2,h3,h4⟩:=hq;exact⟨.inl ⟨.bool true,.bool true,[],rfl,λ_=>rfl,.bool true,XT l _,λ_=>⟨List.Pairwise.nil,λ_ hm=>(nomatch hm)⟩⟩,h2,h3,h4⟩
section
variable {prog:Program}{w:World}{A:Around}{E:Value->Shared->Prop}{s:Shared}{K:Frag}
end
end Att
namespace L2
open PySem PySem.Spec PyProof.Rows
theorem Pj:∀{vs:List Value} {ns:List Int},IntsAre vs ns->Au (ns.map V.int) vs
 |_,_,.nil=>.nil
 |_,_,.cons n t h=>.cons ⟨t,rfl⟩ (Pj h)
def L5 (H:Hp):Prop := ∀b,H b=none\/∃o xs,H b=some (.frz o (.lst xs))
theorem aQ {P:Program}{w:World}{K:Faa}{mg mb:Str->Option Value}{CX:Fe}{k:Nat}{fa a:Addr}{fd:FuncData}{x:Str}{sp:Sp}{s₁:Shared}{vs:List Value}{ns:List Int}
  (KX:K.In s₁.heap) (hns:s₁.heap.Ns mainGlobals mg) (hb:s₁.heap.Ns builtinsNs mb) (hbb:∀x:Str,x≠"__name__"->mb x=bootBuiltins x) (hlim:s₁.heap.NoLimit) (hg:s₁.gens = #[])
  (ha:s₁.heap.get? a=some {cls:=.type "list",data:=.seq vs.toArray}) (hi:IntsAre vs ns) (hl:ns.length<=sizeLine) (hr:Cq k callerA)
  (F:∀base:Heap,K.In base->base.Ns mainGlobals mg->AI P w K mg base CX k fa fd [x] sp) (hbind:∀(s:Shared) (u:Value),BindsTo s fd ⟨[u],[]⟩ [(x,u)])
  (hsp:∀H:Hp,L5 H->A3 K H a (ns.map V.int)->sp [.ref a] H (λv _=>v = .bl true) λ_ _ _=>False)
  (hCX:∀H e s',CX [] H s₁ (λ_ _ _=>False) e s'->False) :
  codeAny (model P w) callerA (.call (.ref fa) ⟨[.ref a],[]⟩) (λr s'=>r = .ok (.ret (.bool true))/\OldK s₁.heap s'.heap/\s'.os=s₁.os/\AllBare s'.gens) s₁:=by
 have rv:=Pj hi;have lenV:=hi.length;have core:∀H:Hp,L5 H->A3 K H a (ns.map V.int)->Cc P w H s₁.heap->(∀b,H b≠none->b=a)->(H a≠none->K.lookup a=none)->
   codeAny (model P w) callerA (.call (.ref fa) ⟨[.ref a],[]⟩) (λr s'=>r = .ok (.ret (.bool true))/\OldK s₁.heap s'.heap/\s'.os=s₁.os/\AllBare s'.gens) s₁:=by
  intro H hO hS hok hA hK;have base_of:∀{b:Addr} {o:Obj},s₁.heap.get? b=some o->H b=none->(FK s₁.heap H).get? b=some o:=λe n=>UT e n;have noA:∀{b:Addr} {o:Obj} {es:Array DictEntry} {ep:Nat},s₁.heap.get? b=some o->o.data = .dict es ep->H b=none:=fun{b o es ep} e d=>by
   cases q:H b with
   |none=>rfl
   |
    some u=>
    have e':b=a:=hA b (by rw[q];simp);subst e';rw[ha]at e;cases e;have d':Data.seq vs.toArray _=Data.dict es ep:=d;cases d'
  have nsK:∀{b:Addr} {m:Str->Option Value},s₁.heap.Ns b m->(FK s₁.heap H).Ns b m:=fun{b m} ⟨o,es,ep,e,d,r⟩=>⟨o,es,ep,base_of e (noA e d),d,r⟩
  have hKb:K.In (FK s₁.heap H):=λb o e=>base_of (KX b o e) (by
   cases q:H b with
   |none=>rfl
   |
    some u=>
    have e':b=a:=hA b (by rw[q];simp);subst e';rw[hK (by rw[q];simp)]at e;cases e)
  have hM:Mod K mg (FK s₁.heap H):=⟨hKb,nsK hns,⟨mb,nsK hb,hbb⟩,let ⟨mc,h1,h2⟩:=hlim;⟨mc,nsK h1,h2⟩⟩
  have e0:HQ P w K mg (FK s₁.heap H) callerA [] s₁ H:=⟨rfl,hM,λb o e=>X1 e,Ot (UP _ _),trivial,λb hb=>absurd (show b∈([]:List Addr) from hb) (by simp),hok,.of_eq hg⟩
  refine OU ((F _ hKb (nsK hns)).run callerA [] s₁ H ⟨[.ref a],[]⟩ [.ref a] [.ref a] _ _ hr e0 (hbind s₁ (.ref a)) (.cons rfl .nil) (hsp H hO hS)) λr s' h=>?_;cases r with
  |error e=>exact(hCX H e s' h).elim
  |
   ok fl=>
   cases fl with
   |next=>exact False.elim h
   |brk=>exact False.elim h
   |cont=>exact False.elim h
   |
    ret u=>
    obtain⟨v,H',os,bare,un,hok',r',q⟩:=h;have q':v = .bl true:=q;subst q';obtain rfl:u=Value.bool true:=r';refine⟨rfl,OldK.of_keep λb o e=>?_,os,bare⟩;cases q:H b with
    |none=>exact un.keep b o e q (by intro z;exact absurd (show b∈([]:List Addr) from z) (by simp)) (by simp)
    |
     some u=>
     rcases hO b with z|⟨ob,xs,z⟩
     .rw[q]at z;cases z
     .have z2:=un.frzs b ob _ z;obtain⟨e1,_⟩:=hok b _ z;obtain⟨e2,_⟩:=hok' b _ z2;rw[e]at e1;cases e1;exact e2
 cases hk:K.lookup a with
 |
  some o=>
  have e:=KX a o hk;rw[ha]at e;cases e;refine core (λ_=>none) (λ_=>.inl rfl) (.inr ⟨_,vs.toArray,_,hk,rfl,rfl,rfl,by rw[AZ,lenV];exact hl,by simpa using rv⟩) (λb u z=>by have z':(none:Option HO)=some u:=z;cases z') (λb z=>absurd rfl z) λz=>absurd rfl z
 |
  none=>
  refine core (λb=>if b=a then some (.frz {cls:=.type "list",data:=.seq vs.toArray} (.lst (ns.map V.int))) else none) (λb=>?_) (.inl (.inr ⟨{cls:=.type "list",data:=.seq vs.toArray},Ay rfl⟩)) (λb u z=>?_) (λb z=>?_) λ_=>hk
  .by_cases hb:b=a
   .exact .inr ⟨_,_,Ay hb⟩
   .exact .inl (AB hb)
  .by_cases hb:b=a
   .have z':=(Ay hb).symm.trans z;cases z';subst hb;exact⟨ha,by rw[Af];exact hl,vs,_,rv,ha⟩
   .have z':=(AB hb).symm.trans z;cases z'
  .by_cases hb:b=a
   .exact hb
   .exact absurd (AB hb) z
theorem walk_of {l:PySem.W.OpenLaw}{n k:Nat}{q:Program}{loose:List Str}{XP:(Str->Option Value)->Heap->Prop}{YP:World->Heap->Prop}{d:DefRec}{K:Params->Faa}{CX:World->Fe}{sp:World->Sp}{x:Str}
  (hn:l.most=some n) (hn2:n<=sizeLine) (hdf:d.params.defaults=[]) (hr:Cq k callerA)
  (hY:∀(w:World) (h:Heap),YP w h->(K w.params).In h)
  (F:∀(w:World) (mg:Str->Option Value) (fa:Addr) (h:Heap),(K w.params).In h->h.Ns mainGlobals mg->mg d.name=some (.ref fa)->
   ∃fd:FuncData,(∀(s:Shared) (u:Value),BindsTo s fd ⟨[u],[]⟩ [(x,u)])/\
    ∀base:Heap,(K w.params).In base->base.Ns mainGlobals mg->AI l.prog w (K w.params) mg base (CX w) k fa fd [x] (sp w))
  (hsp:∀(w:World) (H:Hp) (a:Addr) (ns:List Int),ns.length<=n->L5 H->A3 (K w.params) H a (ns.map V.int)->sp w [.ref a] H (λv _=>v = .bl true) λ_ _ _=>False)
  (hCX:∀(w:World) (H:Hp) (s:Shared) (e:Value) (s':Shared),CX w [] H s (λ_ _ _=>False) e s'->False) :
  PySem.W.WalkO q loose XP YP l.row.toRowW d [] (λf vs=>PySem.call f vs):=by
 refine Att.attach_call hn hdf λw s₀ s₁ mg mb fa o pm cd doc a vs ns G Y ho hd hcd hmg hobj hints hlen hg=>?_;have KX:=hY w _ Y;obtain⟨fd,hb,hF⟩:=F w mg fa _ KX G.T.g hmg;exact aQ KX G.T.g G.T.b G.T.builtins G.T.nolimit hg hobj hints (Ex hlen hn2) hr hF hb (λH hO hS=>hsp w H a ns hlen hO hS) λH e s'=>hCX w H s₁ e s'
def Gr (s:Stmt)(j:Nat):Stmt:=match s with
 |.ClassDef _ _ _ body _ _ _ _ _ _ _=>body.getD j (.Pass ⟨0,0,0,0⟩)
 |_=>.Pass ⟨0,0,0,0⟩
def Jv (s:Stmt):Arguments:=match s with
 |.FunctionDef _ a _ _ _ _ _ _ _ _=>a
 |_=>{posonlyargs:=[],args:=[],vararg:=none,kwonlyargs:=[],kw_defaults:=[],kwarg:=none,defaults:=[]}
def IW (s:Stmt):List Stmt:=match s with
 |.FunctionDef _ _ b _ _ _ _ _ _ _=>b
 |_=>[]
def AC (s:Stmt):Scope:=match s with
 |.FunctionDef _ _ _ _ _ _ sc _ _ _=>sc
 |_=>{kind:=.function,names:=[],isGenerator:=false,isCoroutine:=false}
abbrev AN:Fe:=λ_ _ _ _ _ _=>False
abbrev E0:XK:=λ_ _ _=>False
theorem Ar {X:Cx}:J2 AN X E0:=λ_ _ _ _ _ _ _ h=>h.elim
structure AM (K:Faa)(x qual:Str)(st:Stmt)(f:Addr)(fd:FuncData):Prop where
 ex:∃(oc:Value) (od:Option Addr) (kV doc pm:Value) (an:Option Addr) (cdv ct:Value) (osl:Array (Option Value)),
  fd=PySem.W.fnOf x qual (Jv st) (IW st) (AC st) .none kV doc pm an cdv ct/\K.lookup f=some ⟨oc,od,.func fd,osl⟩/\PySem.W.codeIn K cdv qual=true
 kp:PySem.W.keepIn K (.ref f)=true
section
variable {P:Program}{w:World}{K:Faa}{mg:Str->Option Value}{base:Heap}
theorem AM.ok {x qual:Str}{st:Stmt}{f:Addr}{fd:FuncData}{N ps:List Str}{k:Nat}{sp:Sp}(F:AM K x qual st f fd)(S:AO N ps (AC st))(len:∀vs H Q E,sp vs H Q E->vs.length=ps.length)
  (hbody:∀(cdv:Value) (A:Around) (outer:List Env) (s:Shared) (H:Hp) (vs:List V) (Q:VK) (E:XK),Cq k (A.deeper (envOfC qual (AC st) s.heap.objs.size f cdv))->sp vs H Q E->
   ∃t,Eg (Jc AN P w K mg base N qual (AC st) f cdv A outer s H E).nox (IW st) t/\t {nx:=λ_ H'=>Q .non H',rt:=Q} (start N vs) H):AI P w K mg base AN (k+1) f fd ps sp:=by
 obtain⟨oc,od,kV,doc,pm,an,cdv,ct,osl,rfl,lk,hcd⟩:=F.ex;refine Yt lk hcd S len λA outer s H vs Q E hr hsp=>?_;obtain⟨t,h,q⟩:=hbody cdv A outer s H vs Q E hr hsp;exact⟨t,h.nox,q⟩
theorem AM.binds {x qual:Str}{st:Stmt}{f:Addr}{fd:FuncData}{ps:List Str}(F:AM K x qual st f fd)
  (h:∀(kV doc pm:Value) (an:Option Addr) (cdv ct:Value) (us:List Value),us.length=ps.length->bindArgs (PySem.W.fnOf x qual (Jv st) (IW st) (AC st) .none kV doc pm an cdv ct) ⟨us,[]⟩=pure (ps.zip us)):AL K fd ps []:=by
 obtain⟨oc,od,kV,doc,pm,an,cdv,ct,osl,rfl,lk,hcd⟩:=F.ex;exact .all (h kV doc pm an cdv ct)
theorem fun_mk {x qual:Str}{st:Stmt}{f:Addr}{oc:Value}{od an:Option Addr}{osl:Array (Option Value)}{kV doc pm cdv ct:Value}(l:K.lookup f=some ⟨oc,od,.func (PySem.W.fnOf x qual (Jv st) (IW st) (AC st) .none kV doc pm an cdv ct),osl⟩)
 (c:PySem.W.codeIn K cdv qual=true) (k:PySem.W.keepIn K (.ref f)=true):AM K x qual st f (PySem.W.fnOf x qual (Jv st) (IW st) (AC st) .none kV doc pm an cdv ct):=⟨⟨oc,od,kV,doc,pm,an,cdv,ct,osl,rfl,l,c⟩,k⟩
end
theorem W8 {A:Around}{k:Nat}(hr:Cq k A):A.units+1<cLine:=Nat.lt_of_le_of_lt (Nat.add_le_add_left (by decide:1<=64) _) hr.units
section
variable {X:Cx}
theorem pv (i:Nat){x:Str}{pos:Pos}(hN:X.N[i]?=some x:=by rfl)(hv:J3 X.env.scope x:=by first|exact Or.inl rfl|exact Or.inr (.inl rfl)|exact Or.inr (.inr rfl))(hd:(x==("__debug__":Str))=false:=by decide)
 (hcd:(x==("__classdict__":Str))=false:=by decide):PE X (.Name x pos) (O0 i):=bK hN hv hd hcd
end
theorem By {A B:Prop}(h:B):if false=true then A else B:=by
 rw[AB CH];exact h
theorem C6 {A B:Prop}(h:A):if true=true then A else B:=by
 rw[Ay rfl];exact h
theorem BN {c A B:Prop}[Decidable c](h1:c->A)(h2:¬c->B):if c then A else B:=by
 by_cases h:c
 .rw[Ay h];exact h1 h
 .rw[AB h];exact h2 h
def A8 (H H':Hp):Prop := ∀b o,H b=some o->H' b=some o
theorem A8.refl (H:Hp):A8 H H:=λ_ _ h=>h
theorem A8.trans {H H1 H2:Hp}(a:A8 H H1)(b:A8 H1 H2):A8 H H2:=λc o h=>b c o (a c o h)
theorem A8.free {H H':Hp}(e:A8 H H'){l:Addr}(h:H' l=Option.none):H l=Option.none:=by
 cases q:H l with
 |none=>rfl
 |
  some o=>
  rw[e l o q]at h;cases h
theorem A8.seq {K:Faa}{H H':Hp}{a:Addr}{xs:List V}(e:A8 H H')(h:A3 K H a xs):A3 K H' a xs:=by
 rcases h with(h|⟨o,h⟩)|h
 .exact .inl (.inl (e _ _ h))
 .exact .inl (.inr ⟨o,e _ _ h⟩)
 .exact .inr h
section
variable {κ:Type}[DecidableEq κ]
end
theorem Ng (env:Env):∀(l:List (Str×NameKind)) (cs:List (Str×Addr)),(∀n,(n,NameKind.free)∈l->∃c,env.cells.lookup n=some c)->(∀x c,cs.lookup x=some c->env.cells.lookup x=some c)->
  ∃cl,(forIn l cs λx s=>if(x.snd==NameKind.free)=true then do let c ←cellOf env x.fst;pure (ForInStep.yield ((x.fst,c)::s)) else pure (ForInStep.yield s))=(pure cl:Sem (List (Str×Addr)))/\
   (∀x c,cl.lookup x=some c->env.cells.lookup x=some c)/\(∀n,(n,NameKind.free)∈l->∃c,cl.lookup n=some c)/\∀n c,cs.lookup n=some c->∃c',cl.lookup n=some c'
 |[],cs,_,h=>⟨cs,rfl,h,(λ_ z=>nomatch z),(λn c e=>⟨c,e⟩)⟩
 |
  (n,k)::r,cs,hf,h=>by
  by_cases hk:k = .free
  .subst hk;obtain⟨c,hc⟩:=hf n C7;have e:cellOf env n=pure c:=by unfold cellOf;rw[hc]
   obtain⟨cl,e1,h1,h2,h3⟩:=Ng env r ((n,c)::cs) (λm hm=>hf m (Ce _ hm)) (λx c' q=>by
    rw[GO]at q;by_cases hx:x=n
    .subst hx;simp at q;subst q;exact hc
    .have:(x==n)=false:=by simpa using hx
     rw[this]at q;exact h x c' q)
   refine⟨cl,?_,h1,λm hm=>?_,λm c' q=>?_⟩
   .rw[OB];show((do let c ←cellOf env n;pure (ForInStep.yield ((n,c)::cs)))>>=_)=_;rw[e];exact e1
   .rcases Bb.mp hm with z|z
    .cases z;exact h3 n c (by simp)
    .exact h2 m z
   .by_cases hx:m=n
    .subst hx;exact h3 m c (by simp)
    .have:(m==n)=false:=by simpa using hx
     exact h3 m c' (by rw[GO,this];exact q)
  .have hb:(k==NameKind.free)=false:=by simpa using hk
   obtain⟨cl,e1,h1,h2,h3⟩:=Ng env r cs (λm hm=>hf m (Ce _ hm)) h;refine⟨cl,?_,h1,λm hm=>?_,h3⟩
   .rw[OB];dsimp only;rw[hb];exact e1
   .rcases Bb.mp hm with z|z
    .cases z;exact absurd rfl hk
    .exact h2 m z
theorem PL {scope:Scope}{env:Env}(h:∀n,(n,NameKind.free)∈scope.names->∃c,env.cells.lookup n=some c) :
  ∃cl,closureFor scope env=pure cl/\(∀x c,cl.lookup x=some c->env.cells.lookup x=some c)/\∀n,(n,NameKind.free)∈scope.names->∃c,cl.lookup n=some c:=by
 obtain⟨cl,e,h1,h2,_⟩:=Ng env scope.names [] h (λ_ _ z=>by simp at z);refine⟨cl,?_,h1,h2⟩;simp only[closureFor];rw[e];rfl
def D8 (X:Cx)(scope:Scope)(N':List Str)(cl:List (Str×Addr))(C:Addr)(s:Shared)(H:Hp)(fp:List Addr)(pins:List (Addr×Obj)):Cx where
 prog:=X.prog
 w:=X.w
 K:=X.K
 mg:=X.mg
 base:=X.base
 A:=X.A
 N:=N'
 s₀:=s
 H₀:=H
 env:=compEnvC scope cl C X.env
 outer:=X.stack
 stack:=X.stack
 ex:=fp
 calm:=X.calm
 fn:=λ_=>false
 pn:=X.pn++pins
 xe:=λ_ _=>False
structure Iq (sc:Scope)(out:Scope):Prop where
 kind:sc.kind = .function
 cell:∀y∈sc.names,y.2≠.cell
 loc:∀y∈sc.names,y.2 = .local->sc.names.lookup y.1=some .local
 free:∀y∈sc.names,y.2 = .free->out.names.lookup y.1=some .cell\/out.names.lookup y.1=some .free
def C1 (ρ:List (Option Nat))(σ:St):St:=ρ.map λo=>match o with|some i=>(σ[i]?).getD none|none=>none
def Kc (sc:Scope)(env:Env)(N N':List Str)(ρ:List (Option Nat)):Prop:=
 ρ.length=N'.length/\∀(j i:Nat) (x:Str),ρ[j]?=some (some i)->N'[j]?=some x->N[i]?=some x/\J3 env.scope x/\(x,NameKind.free)∈sc.names
theorem Pr {names:List (Str×NameKind)}{env:Env}{x:Str}{k:NameKind}(h:(names.map fun(n,k)=>if(k==NameKind.free&&env.scope.kind == .function&&env.kindOf n==some .cell) then(n,NameKind.cell) else(n,k)).lookup x=some k)
  (hk:k = .cell\/k = .free) (hc:∀y∈names,y.2≠.cell):(x,NameKind.free)∈names:=by
 induction names with
 |nil=>simp at h
 |
  cons p r ih=>
  obtain⟨n,k'⟩:=p;by_cases hx:x=n
  .subst hx;have hk':k' = .free:=by
    by_cases hc':(k'==NameKind.free&&env.scope.kind == .function&&env.kindOf x==some .cell)=true
    .simp only[DC,Il]at hc';exact hc'.1.1
    .simp only[Cf]at h;rw[AB hc']at h;simp at h;subst h;rcases hk with z|z
     .exact absurd z (hc (x,k') C7)
     .exact z
   rw[hk'];exact C7
  .have hb:(x==n)=false:=by simpa using hx
   refine Ce _ (ih ?_ λy hy=>hc y (Ce _ hy));simp only[Cf]at h;by_cases hc':(k'==NameKind.free&&env.scope.kind == .function&&env.kindOf n==some .cell)=true
   .rw[Ay hc',GO,hb]at h;exact h
   .rw[AB hc',GO,hb]at h;exact h
theorem bJ:∀{names:List (Str×NameKind)} {env:Env} {x:Str},(x,NameKind.free)∈names->(names.map fun(n,k)=>if(k==NameKind.free&&env.scope.kind == .function&&env.kindOf n==some .cell) then(n,NameKind.cell) else(n,k)).lookup x=some .cell\/
  (names.map fun(n,k)=>if(k==NameKind.free&&env.scope.kind == .function&&env.kindOf n==some .cell) then(n,NameKind.cell) else(n,k)).lookup x=some .free\/names.lookup x≠some .free:=by
 intro names env x hm;by_cases hl:names.lookup x=some .free
 .induction names with
  |nil=>simp at hl
  |
   cons p r ih=>
   obtain⟨n,k'⟩:=p;by_cases hx:x=n
   .subst hx;simp at hl;subst hl;by_cases hc':(NameKind.free==NameKind.free&&env.scope.kind == .function&&env.kindOf x==some .cell)=true
    .left;simp only[Cf];rw[Ay hc'];simp
    .right;left;simp only[Cf];rw[AB hc'];simp
   .have hb:(x==n)=false:=by simpa using hx
    rw[GO,hb]at hl;have hm':(x,NameKind.free)∈r:=by
     rcases Bb.mp hm with z|z
     .cases z;exact absurd rfl hx
     .exact z
    have q:=ih hm' hl;simp only[Cf];by_cases hc':(k'==NameKind.free&&env.scope.kind == .function&&env.kindOf n==some .cell)=true
    .rw[Ay hc',GO,hb,GO,hb];exact q
    .rw[AB hc',GO,hb,GO,hb];exact q
 .exact .inr (.inr hl)
section
variable {X:Cx}{pins:List (Addr×Obj)}{σ:St}{H:Hp}{s:Shared}{scope:Scope}{N':List Str}{ρ:List (Option Nat)}{cl:List (Str×Addr)}{fp:List Addr}{C D:Addr}
theorem X7 (I:A5 X pins σ H s)(S:Iq scope X.env.scope)(hf:∀b∈fp,F6 X pins H b)(h1:∀x c,cl.lookup x=some c->X.env.cells.lookup x=some c)(h2:∀n,(n,NameKind.free)∈scope.names->∃c,cl.lookup n=some c)
  (hC:s.heap.objs.size<=C) (hfs:∀b∈fp,b<s.heap.objs.size):(D8 X scope N' cl C s H fp pins).Ok where
 mod:=I.ok.mod
 kind:=S.kind
 glob:=I.ok.glob
 blt:=I.ok.blt
 above:=hC
 inj:=λx y c e1 e2=>I.ok.inj x y c (h1 x c e1) (h1 y c e2)
 has:=λx hk=>h2 x (by
  rcases hk with hk|hk
  .exact Pr (env:=X.env) hk (.inl rfl) S.cell
  .exact Pr (env:=X.env) hk (.inr rfl) S.cell)
 cab:=λ_ _ z=>nomatch z
 hd:=I.ok.hd
 frames:=I.ok.frames
 stk:=.inl rfl
 exf:=λb hb=>⟨C4 (Cv (hfs b hb) hC),λx c e=>(hf b hb).2.2.2.2.1 x c (h1 x c e)⟩
 bs:=I.bs
 bsz:=Ex I.ok.bsz I.sz
 noex:=λb o e hb=>by
  rcases(hf b hb).2.2.2.1 with z|z
  .exact I.ok.noex b o e z
  .exact absurd (Cv (Cv (Bq e) I.ok.bsz) z) (Ea _)
 exfs:=λb hb z=>by
  rcases Bb.mp (I.stkSub b z) with q|q
  .exact(hf b hb).2.1 q
  .exact(hf b hb).2.2.1 q
 funs:=I.stack
 frf:=I.stkFree
theorem Up {h₁:Heap}{tk:Nat}(I:A5 X pins σ H s)(S:Iq scope X.env.scope)(hρ:Kc scope X.env X.N N' ρ)(hf:∀b∈fp,F6 X pins H b)(h1:∀x c,cl.lookup x=some c->X.env.cells.lookup x=some c)
  (h2:∀n,(n,NameKind.free)∈scope.names->∃c,cl.lookup n=some c) (hC:s.heap.objs.size<=C) (hfs:∀b∈fp,b<s.heap.objs.size) (hn:h₁.Ns C (λ_=>none)) (hk:∀b o,s.heap.get? b=some o->h₁.get? b=some o)
  (hl:∀x,(x,NameKind.free)∈scope.names->scope.names.lookup x=some .free) :
  A5 (D8 X scope N' cl C s H fp pins) [] (C1 ρ σ) H {s with heap:=h₁,toks:=tk} where
 ok:=X7 I S hf h1 h2 hC hfs
 os:=rfl
 bare:=I.bare
 base:=Un.kept hk
 loc:=by
  refine⟨_,hn,λj x v e1 e2 hv=>?_⟩;obtain⟨m,hm,hl'⟩:=I.loc;unfold C1 at e2;rw[Bf]at e2;cases hr:ρ[j]? with
  |none=>rw[hr]at e2;simp at e2
  |
   some o=>
   cases o with
   |none=>rw[hr]at e2;simp at e2
   |
    some i=>
    rw[hr]at e2;obtain⟨q1,q2,q3⟩:=hρ.2 j i x hr e1;have e3:σ[i]?=some (some v):=by
     cases hσ:σ[i]? with
     |none=>simp[hσ]at e2
     |some z=>simp[hσ]at e2;rw[e2]
    obtain⟨u,r,lk⟩:=hl' i x v q1 e3 q2;refine⟨u,r,?_⟩;obtain⟨c,hc⟩:=h2 x q3;have hkind:(relabel scope X.env).names.lookup x=some .cell\/(relabel scope X.env).names.lookup x=some .free:=by
     rcases bJ (env:=X.env) q3 with z|z|z
     .exact .inl z
     .exact .inr z
     .exact absurd (hl x q3) z
    refine .inr ⟨hkind,c,hc,?_⟩;rcases lk with⟨k,_⟩|⟨_,c',e',z⟩
    .rcases S.free (x,.free) q3 rfl with z|z
     .have k':X.env.scope.names.lookup x=some .local:=k;rw[z]at k';cases k'
     .have k':X.env.scope.names.lookup x=some .local:=k;rw[z]at k';cases k'
    .have:=h1 x c hc;rw[e']at this;cases this;obtain⟨o,ho,hd⟩:=z;exact⟨o,hk _ _ ho,hd⟩
 cell:=λx c e=>by
  obtain⟨v,o,ho,hd⟩:=I.cell x c (h1 x c e);exact⟨v,o,hk _ _ ho,hd⟩
 free:=I.hok.fresh hC
 freeC:=λx c e=>I.freeC x c (h1 x c e)
 pin:=λp hp=>by
  have hp':p∈X.pn++pins:=by simpa[D8] using hp
  obtain⟨e,n,ne,nf,d⟩:=I.pin p hp';refine⟨hk _ _ e,n,C4 (Cv (Bq e) hC),λz=>?_,d⟩;rcases Bb.mp (I.stkSub p.1 z) with q|q
  .exact ne q
  .exact nf q
 hok:=I.hok.kept hk
 len:=by
  show(C1 ρ σ).length=N'.length;unfold C1;rw[Af];exact hρ.1
end
theorem Cc.track {P:Program}{w:World}{H:Hp}{h:Heap}{D:Addr}{o:HO}(x:Cc P w H h)(n:H D=none)(new:CM P w (upd H D o) h D o):Cc P w (upd H D o) h:=λb u e=>by
 by_cases hb:b=D
 .subst hb;rw[A7]at e;cases e;exact new
 .rw[Ag hb]at e;exact(x b u e).stay (λc v _ q=>q) (λc q=>by rw[Ag (Av q n)];exact q) λc xs q=>by rw[Ag (Av q n)];exact q
section
variable {prog:Program}{w:World}{A:Around}{R:Result->Shared->Prop}{s:Shared}
theorem VI {elt target iter:Expr}{ifs:List Expr}{scope:Scope}{pos:Pos}{it acc:Value}{env:Env}(I:Nat->Shared->Prop)
  (turn:∀n s,I n s->wpAny (model prog w) A (pyNext it) (λr s₁=>match r with
   |none=>R (.ok .next) s₁
   |some v=>wpAny (model prog w) A (letOwnedTupleGo target it v) (λ_ s₁'=>wpAny (model prog w) A (assign target env v) (λ_ s₂=>
    wpAny (model prog w) A (forIn ifs true λc r=>if r=true then do let ok ←isTrue c env (eval c env);pure (ForInStep.yield ok) else pure (ForInStep.yield r)) (λok s₃=>
     if ok=true then wpAny (model prog w) A (eval elt env) (λx s₄=>
      wpAny (model prog w) A (call (.builtin "list.append") [acc,x]) (λ_ s₅=>∃m,m<n/\I m s₅) (λ_ _=>False) s₄) (λ_ _=>False) s₃
     else ∃m,m<n/\I m s₃) (λ_ _=>False) s₂) (λ_ _=>False) s₁') (λ_ _=>False) s₁) (λ_ _=>False) s)
  (n:Nat) (h:I n s) :
  codeAny (model prog w) A (.compLoop (.ListComp elt [⟨target,iter,ifs,0⟩] scope pos) 0 it acc env) R s:=by
 refine codeAny_loop rfl I (λn s hI=>?_) n h;show wpAny _ A ((compTurn (.ListComp elt [⟨target,iter,ifs,0⟩] scope pos) 0 it acc env).onRaise (λx=>do noteFrame x env;theTreesLotGoes x)) _ _ s;refine wpAny_noted ?_;rw[compTurn_list];refine As (wpAny_standAt (As (Ee (turn n s hI) (λr s₁ h₁=>?_) λ_ _ h'=>h'.elim)));cases r with
 |none=>exact AV h₁
 |
  some v=>
  refine As (Ee h₁ (λ_ s₁' h₁=>?_) λ_ _ h'=>h'.elim);refine As (Ee h₁ (λ_ s₂ h₂=>As (Ee h₂ (λok s₃ h₃=>?_) λ_ _ h'=>h'.elim)) λ_ _ h'=>h'.elim);cases ok with
  |false=>exact AV ⟨rfl,h₃⟩
  |
   true=>
   exact As (As (Ee h₃ (λx s₄ h₄=>As (Ee h₄ (λ_ s₅ h₅=>AV (AV ⟨rfl,h₅⟩)) λ_ _ h'=>h'.elim)) λ_ _ h'=>h'.elim))
end
def Hn (X:Cx)(ifs:List Expr)(t:TT):Prop:=
 ∀(pins:List (Addr×Obj)) (s:Shared) (σ:St) (H:Hp) (Q:Bool->Hp->Prop),A5 X pins σ H s->t σ H Q->
  wpAny (model X.prog X.w) X.A (forIn ifs true λc r=>if r=true then do let ok ←isTrue c X.env (eval c X.env);pure (ForInStep.yield ok) else pure (ForInStep.yield r)) (TP X pins σ Q) X.xe s
def U9:TT:=λ_ H Q=>Q true H
theorem Ef {X:Cx}:Hn X [] U9:=λ_ _ _ H _ I h=>wpAny_tests_nil ⟨H,I,h⟩
theorem br {X:Cx}{c:Expr}{t:TT}(h:PT X c t):Hn X [c] t:=λpins s σ H Q I hw=>wpAny_tests_one (h pins s σ H Q I hw)
def IM (ρ:List (Option Nat))(σ σ2:St):Prop:=σ2.length=ρ.length/\∀(j:Nat) v,(C1 ρ σ)[j]?=some (some v)->σ2[j]?=some (some v)
def HW (ρ:List (Option Nat))(g:TG)(tt:TT)(te:TE)(σ:St)(Q:VK)(J:It)(H1:Hp):Prop := ∃W:Nat->Nat->List V->Hp->Prop,(∃m,W 0 m [] H1)/\∀i m ys H',W i m ys H'->
 (J.stop i H'/\ys.length<=sizeLine/\∀p,H' p=none->Q (.ref p) (upd H' p (.lst ys)))\/
 (J.go i H'/\ys.length<sizeLine/\∃N:List V->Hp->Prop,(∀ys' H'',N ys' H''->∃m',m'<m/\W (i+1) m' ys' H'')/\∀x H2,J.yld i H' x H2->g x (C1 ρ σ) H2 fun σ2 H3=>IM ρ σ σ2/\tt σ2 H3 λok H4=>if ok=true then te σ2 H4 λv H5=>N (ys++[v]) H5 else N ys H4)
def JM (ρ:List (Option Nat))(wi:TI)(g:TG)(tt:TT)(te:TE):TE:=fun σ H Q=>wi σ H λJ H1=>HW ρ g tt te σ Q J H1
theorem Qk {X:Cx}{elt iter tg:Expr}{ifs:List Expr}{scope:Scope}{pos:Pos}{N':List Str}{ρ:List (Option Nat)}{wi:TI}{g:TG}{tt:TT}{te:TE}{cl:List (Str×Addr)}{RR:Value->Addr->Result->Shared->Prop}(hc:X.calm=true)(hi:PI X tg iter wi)(S:Iq scope X.env.scope)(hρ:Kc scope X.env X.N N' ρ)
  (hl:∀x,(x,NameKind.free)∈scope.names->scope.names.lookup x=some .free)
  (inner:∀(cl:List (Str×Addr)) (C:Addr) (s:Shared) (H:Hp) (fp:List Addr) (pins:List (Addr×Obj)),PG (D8 X scope N' cl C s H fp pins) tg g/\Hn (D8 X scope N' cl C s H fp pins) ifs tt/\PE (D8 X scope N' cl C s H fp pins) elt te)
  {pins:List (Addr×Obj)} {s:Shared} {σ:St} {H:Hp} {Q:VK} (I:A5 X pins σ H s) (h:JM ρ wi g tt te σ H Q)
  (h1:∀x c,cl.lookup x=some c->X.env.cells.lookup x=some c) (h2:∀n,(n,NameKind.free)∈scope.names->∃c,cl.lookup n=some c)
  (fin:∀D C s' H' m,A5 X pins σ H' s'->Q (.ref D) H'->s'.heap.Ns C m->F6 X pins H' C->RR (.ref D) C (.ok .next) s') :
  wpAny (model X.prog X.w) X.A (eval iter X.env) (λx s₁=>wpAny (model X.prog X.w) X.A (pyIter x) (λit s₂=>wpAny (model X.prog X.w) X.A (newList []) (λacc s₃=>
   wpAny (model X.prog X.w) X.A (newFunctionEnv scope X.env.globals cl [] X.env.qual none .none (some X.env)) (λcenv s₄=>
    codeAny (model X.prog X.w) X.A (.compStart (.ListComp elt [⟨tg,iter,ifs,0⟩] scope pos) 0 it acc {cenv with scope:=relabel scope X.env}) (RR acc cenv.locals) s₄) X.xe s₃) X.xe s₂) X.xe s₁) X.xe s:=by
 refine AA (hi pins s σ H _ I h) λv s1 h1'=>AA h1' λitv s2 hx=>?_;obtain⟨it,fp,tn,J,H2,e,I2,T,st2,f2,W,⟨m0,w0⟩,turn⟩:=hx;subst e;have hfs:∀b∈fp,b<s2.heap.objs.size:=λb hb=>by
  obtain⟨o,e,_⟩:=T.obj _ _ st2 b hb;exact Bq e
 refine MM (wpAny_newFunctionEnv S.cell (by intro y hy;simp at hy) (λh₁ hns₁ hsb₁=>?_) S.kind);dsimp only at hns₁ hsb₁ ⊢;generalize hH2:s2.heap.push {cls:=.type "list",dict:=none,data:=.seq ([]:List Value).toArray}=G at hns₁ hsb₁ ⊢;have hC:G.objs.size=s2.heap.objs.size+1:=by rw[←hH2,Kx]
 have hDC:s2.heap.objs.size≠G.objs.size:=by rw[hC];exact C4 (Ig _)
 have hCle:s2.heap.objs.size<=G.objs.size:=by rw[hC];exact GM _
 have old:∀b o,s2.heap.get? b=some o->h₁.get? b=some o:=λb o e=>hsb₁.extBut b o (C4 (Cv (Bq e) hCle)) (Bu _ (hH2▸Bu _ e));have hacc:h₁.get? s2.heap.objs.size=some {cls:=.type "list",dict:=none,data:=.seq ([]:List Value).toArray}:=hsb₁.extBut _ _ hDC (Bu _ (hH2▸CT _ rfl));have hns₂:h₁.Ns G.objs.size (λ_=>none):=hns₁;generalize hXX:D8 X scope N' cl G.objs.size s2 H2 fp pins=XX at *;have IN:∀(tk:Nat),A5 XX [] (C1 ρ σ) H2 {s2 with heap:=h₁,toks:=tk}:=λtk=>hXX▸Up (N':=N') I2 S hρ f2 h1 h2 hCle hfs hns₂ old hl;obtain⟨pg,pt,pe⟩:=inner cl G.objs.size s2 H2 fp pins;rw[hXX]at pg pt pe;have eP:XX.prog=X.prog:=by rw[←hXX];rfl
 have eW:XX.w=X.w:=by rw[←hXX];rfl
 have eK:XX.K=X.K:=by rw[←hXX];rfl
 have eA:XX.A=X.A:=by rw[←hXX];rfl
 have eE:XX.env=compEnvC scope cl G.objs.size X.env:=by rw[←hXX];rfl
 have eL:XX.env.locals=G.objs.size:=by rw[eE];rfl
 have ec:XX.calm=true:=by rw[←hXX];exact hc
 have ex:XX.xe=λ_ _=>False:=by rw[←hXX];rfl
 have es0:XX.s₀=s2:=by rw[←hXX];rfl
 have eex:XX.ex=fp:=by rw[←hXX];rfl
 have efs:XX.fs=Eh X.stack:=by rw[←hXX];rfl
 have eH0:XX.H₀=H2:=by rw[←hXX];rfl
 have epn:XX.pn=X.pn++pins:=by rw[←hXX];rfl
 have ecl:XX.env.cells=cl:=by rw[eE];rfl
 have stat:∀{H':Hp} {ps:List (Addr×Obj)},(∀b∈fp,H' b=none)->(∀p∈ps,p.1=s2.heap.objs.size)->∀b∈fp,F6 XX ps H' b:=fun{H' ps} hn hp b hb=>by
  refine⟨hn b hb,?_,?_,?_,?_,?_⟩
  .rw[eL];exact C4 (Cv (hfs b hb) hCle)
  .rw[efs];intro z;rcases Bb.mp (I2.stkSub b z) with q|q
   .exact(f2 b hb).2.1 q
   .exact(f2 b hb).2.2.1 q
  .rw[eex];exact .inl hb
  .rw[ecl];exact λx c e=>(f2 b hb).2.2.2.2.1 x c (h1 x c e)
  .intro p hp' z;rw[epn]at hp';rcases CG.mp hp' with q|q
   .exact(f2 b hb).2.2.2.2.2 p q z
   .rw[hp p q]at z;exact absurd (hfs b hb) (by rw[z];exact Ea _)
 have nofsD:s2.heap.objs.size∉XX.fs:=by
  rw[efs];intro z;rcases Bb.mp (I2.stkSub _ z) with q|q
  .exact absurd I2.lt (by rw[←q];exact Ea _)
  .exact I2.nofs (Ah _) q
 have pinD:∀{σ':St} {H':Hp} {s':Shared} {its:List Value} {n:Nat},A5 XX [] σ' H' s'->H' s2.heap.objs.size=none->s'.heap.get? s2.heap.objs.size=some {cls:=.type "list",data:=.seq its.toArray n}->
   A5 XX [(s2.heap.objs.size,{cls:=.type "list",data:=.seq its.toArray n})] σ' H' s':=fun{σ' H' s' its n} I' hn ho=>I'.pins_of λp hp=>by
  have e:p=(s2.heap.objs.size,{cls:=.type "list",data:=.seq its.toArray n}):=by simpa using hp
  subst e;refine⟨ho,hn,by rw[eL];exact hDC,nofsD,λv z=>?_⟩;have z':Data.seq its.toArray n=Data.cell v:=z;cases z'
 have loop:∀s₃:Shared,(∃tk,s₃={s2 with heap:=h₁,toks:=tk})->
   codeAny (model X.prog X.w) X.A (.compLoop (.ListComp elt [⟨tg,iter,ifs,0⟩] scope pos) 0 (.ref it) (.ref s2.heap.objs.size) (compEnvC scope cl G.objs.size X.env)) (RR (.ref s2.heap.objs.size) G.objs.size) s₃:=by
  rintro s₃ ⟨tk,rfl⟩;refine VI (λn s'=>∃i ys its k H',A5 XX [] (C1 ρ σ) H' s'/\tn i s'.heap/\(∀b∈fp,H' b=none)/\H' s2.heap.objs.size=none/\Au ys its/\
   s'.heap.get? s2.heap.objs.size=some {cls:=.type "list",data:=.seq its.toArray k}/\W i n ys H') ?_ m0
   ⟨0,[],[],0,H2,IN tk,T.keep _ _ _ st2 λb _ o e=>old b o e,λb hb=>(f2 b hb).1,I2.hok.fresh (Ah _),.nil,hacc,w0⟩
  rintro n s3 ⟨i,ys,its,k,H3,I3,st3,fr3,hD3,rv,ho3,w3⟩;rcases turn i n ys H3 w3 with⟨stop,hz,qn⟩|⟨go,hz,N,hN,step⟩
  .have I3p:=pinD I3 hD3 ho3;have q:=T.done XX eP eW eK ec i _ s3 (C1 ρ σ) H3 (λ_ _=>False) I3p (stat fr3 (by simp)) st3 stop;rw[eA]at q;refine AA q λr s4 zz=>?_;obtain⟨hr,I4⟩:=zz;subst hr;have ho4:=(I4.pin (s2.heap.objs.size,{cls:=.type "list",data:=.seq its.toArray k}) (by simp)).1;obtain⟨m,hm,_⟩:=I4.loc;rw[eL]at hm;have hun:Un (Eh X.stack) fp H2 (upd H3 s2.heap.objs.size (.lst ys)) s2.heap s4.heap:=by
    have u:=I4.base;rw[efs,eex,eH0,es0]at u;refine⟨u.keep,u.slot,λb o e n hx=>?_,u.there,λb xs e=>?_,λb o xs e=>?_,λb ps e=>?_⟩
    .rw[Ag (C4 (Bq e))];exact u.free b o e n hx
    .have q:=u.tups b xs e;rw[Ag (Av q hD3)];exact q
    .have q:=u.frzs b o xs e;rw[Ag (Av q hD3)];exact q
    .obtain⟨more,q⟩:=u.tbls b ps e;exact⟨more,by rw[Ag (Av q hD3)];exact q⟩
   have hok:Cc X.prog X.w (upd H3 s2.heap.objs.size (.lst ys)) s4.heap:=by
    have q:=I4.hok;rw[eP,eW]at q;exact q.track hD3 ⟨hz,its,k,rv,ho4⟩
   have hfr:∀b∈fp,(b∈X.ex\/X.s₀.heap.objs.size<=b)/\b≠X.env.locals/\(∀x c,X.env.cells.lookup x=some c->c≠b)/\∀p∈X.pn++pins,p.1≠b:=λb hb=>⟨(f2 b hb).2.2.2.1,(f2 b hb).2.1,(f2 b hb).2.2.2.2.1,(f2 b hb).2.2.2.2.2⟩
   have IO:A5 X pins σ (upd H3 s2.heap.objs.size (.lst ys)) s4:=I2.call' (by have:=I4.os;rw[es0]at this;exact this) hun hok I4.bare hfr;refine fin _ _ s4 _ m IO (qn _ hD3) hm (I2.fpOk hCle ?_);rw[Ag (Ne.symm hDC)];have:=I4.free;rw[eL]at this;exact this
  .have I3p:=pinD I3 hD3 ho3;have q:=T.item XX eP eW eK ec i _ s3 (C1 ρ σ) H3 (λ_ _=>False) I3p (stat fr3 (by simp)) st3 go;rw[eA]at q;refine AA q λr s4 zz=>?_;obtain⟨u,hr,h4⟩:=zz;subst hr;refine AA h4 λ_ s5 zz=>?_;obtain⟨x,H5,I5,r5,y5,st5,fr5⟩:=zz;have I5':=I5.pinned (stat fr5 (by simp)) (T.obj _ _ st5);have qa:=pg _ s5 (C1 ρ σ) H5 x u _ I5' r5 (step x H5 y5);rw[eP,eW,eA,eE,ex]at qa;refine AA qa λ_ s6 zz=>?_;obtain⟨σ6,H6,I6,⟨ou1,ou2⟩,q6⟩:=zz;have hw6:(C1 ρ σ).length=σ6.length:=by rw[ou1];unfold C1;rw[Af]
   have qt:=pt _ s6 σ6 H6 _ I6 q6;rw[eP,eW,eA,eE,ex]at qt;refine AA qt λok s7 zz=>?_;obtain⟨H7,I7,q7⟩:=zz;have back:∀{s8:Shared} {H8:Hp},A5 XX ([(s2.heap.objs.size,{cls:=.type "list",data:=.seq its.toArray k})]++IL fp s5.heap) σ6 H8 s8->tn (i+1) s8.heap/\(∀b∈fp,H8 b=none)/\H8 s2.heap.objs.size=none/\
     s8.heap.get? s2.heap.objs.size=some {cls:=.type "list",data:=.seq its.toArray k}:=fun{s8 H8} I8=>by
    refine⟨T.keep _ _ _ st5 λb hb o e=>(I8.pin (b,o) (CU _ (CU _ (JU hb e)))).1,λb hb=>?_,?_,?_⟩
    .obtain⟨o,e,d⟩:=T.obj _ _ st5 b hb;exact(I8.pin (b,o) (CU _ (CU _ (JU hb e)))).2.1
    .exact(I8.pin (s2.heap.objs.size,{cls:=.type "list",data:=.seq its.toArray k}) (by simp)).2.1
    .exact(I8.pin (s2.heap.objs.size,{cls:=.type "list",data:=.seq its.toArray k}) (by simp)).1
   cases ok with
   |
    false=>
    obtain⟨m',hm,w7⟩:=hN _ _ q7;obtain⟨b1,b2,b3,b4⟩:=back I7;exact⟨m',hm,i+1,ys,its,k,H7,(I7.pins_of (pins':=[]) (λ_ z=>nomatch z)).weak hw6 ou2,b1,b2,b3,rv,b4,w7⟩
   |
    true=>
    have qe:=pe _ s7 σ6 H7 _ I7 q7;rw[eP,eW,eA,eE,ex]at qe;refine AA qe λy s8 zz=>?_;obtain⟨v8,H8,I8,r8,n8⟩:=zz;obtain⟨m',hm,w8⟩:=hN _ _ n8;obtain⟨b1,b2,b3,b4⟩:=back I8;have hlen:=rv.length;refine Io F.slot_list_append ⟨_,b4,rfl⟩ F.entry_list_append (F.args_list_append_2 _ _) (PySem.list_append s2.heap.objs.size its.toArray k y (by rw[AZ];lia)) ⟨b4,?_⟩;have qL:=PySem.IsL.update b4 (λxs=>xs.push y);have I8':A5 XX [] σ6 H8 s8:=I8.pins_of (λ_ z=>nomatch z);have I9:A5 XX [] σ6 H8 {s8 with heap:=s8.heap.update s2.heap.objs.size (Obj.mapSeq λxs=>xs.push y),toks:=s8.toks}:=I8'.turned (it:=s2.heap.objs.size) (λb o hb e=>(Ow s8.heap _ (Ne.symm hb)).trans e) b3
     (by rw[eL];exact hDC) (.inr (by rw[es0];exact Ah _)) (by
      rw[ecl];intro x c e z;obtain⟨v,qc⟩:=I2.cell x c (h1 x c e);exact absurd qc.lt (by rw[z];exact Ea _)) (by
      intro p hp z;have hp':p∈X.pn++pins:=by rw[epn]at hp;simpa using hp
      exact absurd (Bq (I2.pin p hp').1) (by rw[z];exact Ea _))
    have hnd:s2.heap.objs.size∉fp:=λz=>Ea _ (hfs _ z);rw[show its.toArray.push y=(its++[y]).toArray by simp]at qL;refine⟨m',hm,i+1,ys++[v8],its++[y],_,H8,I9.weak hw6 ou2,T.keep _ _ _ b1 λb hb o e=>(Ow s8.heap _ (by rintro rfl;exact hnd hb)).trans e,b2,b3,rv.append (.cons r8 .nil),qL,w8⟩
 refine codeAny_compStart_list (loop _ ⟨_,rfl⟩) (T.self X.A 0 _ _ _ (T.keep _ _ _ st2 λb _ o e=>old b o e) (loop _ ⟨_,rfl⟩))
theorem ZJ {X:Cx}{elt iter tg:Expr}{ifs:List Expr}{scope:Scope}{pos:Pos}(N':List Str)(ρ:List (Option Nat)){wi:TI}{g:TG}{tt:TT}{te:TE}(hc:X.calm=true)(hi:PI X tg iter wi)(S:Iq scope X.env.scope)(hρ:Kc scope X.env X.N N' ρ)
  (hl:∀x,(x,NameKind.free)∈scope.names->scope.names.lookup x=some .free)
  (inner:∀(cl:List (Str×Addr)) (C:Addr) (s:Shared) (H:Hp) (fp:List Addr) (pins:List (Addr×Obj)),PG (D8 X scope N' cl C s H fp pins) tg g/\Hn (D8 X scope N' cl C s H fp pins) ifs tt/\PE (D8 X scope N' cl C s H fp pins) elt te)
  (hs:∀x,foldedSetIterable iter X.env x=pure x:=by intro _;rfl):PE X (.ListComp elt [⟨tg,iter,ifs,0⟩] scope pos) (JM ρ wi g tt te):=by
 intro pins s σ H Q I h;obtain⟨cl,hcl,h1,h2⟩:=PL (scope:=scope) (env:=X.env) (λn hn=>I.ok.has n (S.free (n,.free) hn rfl));rw[eval_ListComp];refine wpAny_comprehension_free (use:=none) rfl hs hcl S.kind S.loc ?_;refine Qk (RR:=λacc C=>compPost (model X.prog X.w) X.A X.xe none (EP X pins σ Q) acc C) hc hi S hρ hl inner I h h1 h2 ?_;intro D C s' H' m I' q hm hf;refine⟨m,hm,λh' sb=>⟨.ref D,H',?_,rfl,q⟩⟩;exact I'.turned (t':=s'.toks) (λb o hb e=>(sb.2 b hb).trans e) hf.1 hf.2.1 hf.2.2.2.1 hf.2.2.2.2.1 hf.2.2.2.2.2
theorem Ya {X:Cx}{elt iter tg:Expr}{ifs:List Expr}{scope:Scope}{pos pos' spos:Pos}{i:Nat}{x:Str}(N':List Str)(ρ:List (Option Nat)){wi:TI}{g:TG}{tt:TT}{te:TE}(hN:X.N.Nodup)(hix:X.N[i]?=some x)(hx:HH X.env.scope x)
  (hc:X.calm=true) (hi:PI X tg iter wi) (S:Iq scope X.env.scope) (hρ:Kc scope X.env X.N N' ρ)
  (hl:∀x,(x,NameKind.free)∈scope.names->scope.names.lookup x=some .free)
  (inner:∀(cl:List (Str×Addr)) (C:Addr) (s:Shared) (H:Hp) (fp:List Addr) (pins:List (Addr×Obj)),PG (D8 X scope N' cl C s H fp pins) tg g/\Hn (D8 X scope N' cl C s H fp pins) ifs tt/\PE (D8 X scope N' cl C s H fp pins) elt te)
  (hsw:swapsWith (.ListComp elt [⟨tg,iter,ifs,0⟩] scope pos) (some (.Name x pos')) spos.line X.env=pure true:=by rfl)
  (hs:∀x,foldedSetIterable iter X.env x=pure x:=by intro _;rfl) (hf:X.fn x=true\/X.env.scope.names.lookup x=some .local:=by first|exact .inl rfl|exact .inr rfl|assumption) :
  PS X (.Assign [.Name x pos'] (.ListComp elt [⟨tg,iter,ifs,0⟩] scope pos) spos) (Jt (JM ρ wi g tt te) (Aq i)):=by
 intro pins s σ H Dn I h;obtain⟨cl,hcl,h1,h2⟩:=PL (scope:=scope) (env:=X.env) (λn hn=>I.ok.has n (S.free (n,.free) hn rfl));rw[exec_Assign_Name_used _ _ _ _ hsw];refine As (wpAny_standAt (As ?_));show wpAny _ X.A (do let _ ←comprehension (.ListComp elt [⟨tg,iter,ifs,0⟩] scope pos) scope X.env _ (newList []) false (eval iter X.env) (some (assign (.Name x pos') X.env))) _ _ s;refine As (Ee (wpAny_comprehension_free (use:=some (assign (.Name x pos') X.env)) (Q:=λ_ s'=>SP X pins Dn .next s') rfl hs hcl S.kind S.loc ?_) (λ_ s' hq=>AV (AV hq)) λ_ _ e=>e);refine Qk (RR:=λacc C=>compPost (model X.prog X.w) X.A X.xe (some (assign (.Name x pos') X.env)) (λ_ s'=>SP X pins Dn .next s') acc C) hc hi S hρ hl inner I h h1 h2 ?_;intro D C s' H' m I' q hm hfC;obtain⟨oC,es,ep,hoC,hr⟩:=id hm;have pin:A5 X (pins++IL [C] s'.heap) σ H' s':=I'.pinned (λb hb=>by
  have e:b=C:=by simpa using hb
  subst e;exact hfC) (λb hb=>by
  have e:b=C:=by simpa using hb
  subst e;exact⟨oC,hoC,λv z=>by rw[hr.1]at z;cases z⟩)
 show wpAny _ X.A (assign (.Name x pos') X.env (.ref D)) _ _ _;refine wpAny_assign_Name ?_;refine KG (M:=model X.prog X.w) (A:=X.A) (E:=X.xe) pin hN hix hx (v:=.ref D) (u:=.ref D) rfl (λs'' I''=>?_) hf;have pC:=(I''.pin (C,oC) (CU _ (CU _ (JU (by simp) hoC))))
 refine⟨m,⟨oC,es,ep,pC.1,hr⟩,λh' sb=>⟨_,H',?_,q⟩⟩;have I2:A5 X pins (σ.set i (some (.ref D))) H' s'':=I''.unpinned;exact I2.turned (t':=s''.toks) (λb o hb e=>(sb.2 b hb).trans e) hfC.1 hfC.2.1 hfC.2.2.2.1 hfC.2.2.2.2.1 hfC.2.2.2.2.2
theorem Fq (σ:St)(o:Option Nat)(ρ:List (Option Nat)):C1 (o::ρ) σ=(match o with|some i=>(σ[i]?).getD none|none=>none)::C1 ρ σ:=rfl
theorem V3 {ρ:List (Option Nat)}{σ:St}(o:Option V):IM (none::ρ) σ (o::C1 ρ σ):=by
 refine⟨by unfold C1;simp,λj v e=>?_⟩;cases j with
 |zero=>rw[Fq]at e;simp at e
 |succ j=>rw[Fq]at e;simpa using e
theorem PV {ρ:List (Option Nat)}{σ:St}(o o':Option V):IM (none::none::ρ) σ (o::o'::C1 ρ σ):=by
 refine⟨by unfold C1;simp,λj v e=>?_⟩;cases j with
 |zero=>rw[Fq]at e;simp at e
 |
  succ j=>
  rw[Fq,Fq]at e;cases j with
  |zero=>simp at e
  |succ j=>simpa using e
theorem O1 {J:It}{n:Nat}{X:Nat->V->Prop}{ρ:List (Option Nat)}{tt:TT}{te:TE}{σ:St}{H:Hp}{Q:VK}(Pv:Nat->List V->Hp->Prop)(h0:Pv 0 [] H)(hlen:n<=sizeLine)
  (hy:∀i ys H,i<=n->Pv i ys H->ys.length<=i) (hgo:∀i ys H,i<n->Pv i ys H->J.go i H) (hyl:∀i ys H x H',i<n->Pv i ys H->J.yld i H x H'->H'=H/\X i x) (hst:∀ys H,Pv n ys H->J.stop n H)
  (hs:∀i x ys H,i<n->X i x->Pv i ys H->tt (some x::C1 ρ σ) H λok H4=>if ok=true then te (some x::C1 ρ σ) H4 λv H5=>Pv (i+1) (ys++[v]) H5 else Pv (i+1) ys H4)
  (hd:∀ys H,Pv n ys H->∀p,H p=none->Q (.ref p) (upd H p (.lst ys))) :
  HW (none::ρ) (Aq 0) tt te σ Q J H:=by
 refine⟨λi m ys H=>m=n-i/\i<=n/\Pv i ys H,⟨n,by simp,Bh _,h0⟩,?_⟩;rintro i m ys H ⟨rfl,hi,p⟩;have hl:=hy i ys H hi p;by_cases hlt:i<n
 .refine .inr ⟨hgo i ys H hlt p,by lia,Pv (i+1),λys' H'' p'=>⟨n-(i+1),by lia,rfl,hlt,p'⟩,λx H' y=>?_⟩;obtain⟨e,y2⟩:=hyl i ys H x H' hlt p y;subst e;exact⟨V3 _,hs i x ys _ hlt y2 p⟩
 .have e:i=n:=by lia
  subst e;exact .inl ⟨hst ys H p,by lia,hd ys H p⟩
theorem Yx {K:Faa}{a:Addr}{xs:List V}{ρ:List (Option Nat)}{tt:TT}{te:TE}{σ:St}{H:Hp}{Q:VK}(Pv:Nat->List V->Hp->Prop)(h0:Pv 0 [] H)(hlen:xs.length<=sizeLine)(hl:∀i ys H,i<=xs.length->Pv i ys H->A4 K H a xs/\ys.length<=i)
  (hs:∀i x ys H,xs[i]?=some x->Pv i ys H->tt (some x::C1 ρ σ) H λok H4=>if ok=true then te (some x::C1 ρ σ) H4 λv H5=>Pv (i+1) (ys++[v]) H5 else Pv (i+1) ys H4)
  (hd:∀ys H,Pv xs.length ys H->∀p,H p=none->Q (.ref p) (upd H p (.lst ys))) :
  HW (none::ρ) (Aq 0) tt te σ Q (IR K a) H:=
 O1 (n:=xs.length) (X:=λi x=>xs[i]?=some x) Pv h0 hlen (λi ys H hi p=>(hl i ys H hi p).2) (λi ys H hi p=>⟨xs,xs[i],(hl i ys H (Ff hi) p).1,by simp[hi]⟩) (λi ys H x H' hi p y=>⟨y.1,y.2 xs (hl i ys H (Ff hi) p).1⟩)
  (λys H p=>⟨xs,(hl _ ys H (Ah _) p).1,Ah _⟩) (λi x ys H _ e p=>hs i x ys H e p) hd
theorem Iu {K:Faa}{a:Addr}{xs:List V}{ρ:List (Option Nat)}{tt:TT}{te:TE}{σ:St}{H:Hp}{Q:VK}(Pv:Nat->List V->Hp->Prop)(h0:Pv 0 [] H)(hlen:xs.length<=sizeLine)(hl:∀i ys H,i<=xs.length->Pv i ys H->A3 K H a xs/\ys.length<=i)
  (hs:∀i x ys H,xs[i]?=some x->Pv i ys H->tt (some x::C1 ρ σ) H λok H4=>if ok=true then te (some x::C1 ρ σ) H4 λv H5=>Pv (i+1) (ys++[v]) H5 else Pv (i+1) ys H4)
  (hd:∀ys H,Pv xs.length ys H->∀p,H p=none->Q (.ref p) (upd H p (.lst ys))) :
  HW (none::ρ) (Aq 0) tt te σ Q (Hb K a) H:=
 O1 (n:=xs.length) (X:=λi x=>xs[i]?=some x) Pv h0 hlen (λi ys H hi p=>(hl i ys H hi p).2) (λi ys H hi p=>⟨xs,xs[i],(hl i ys H (Ff hi) p).1,by simp[hi]⟩) (λi ys H x H' hi p y=>⟨y.1,y.2 xs (hl i ys H (Ff hi) p).1⟩)
  (λys H p=>⟨xs,(hl _ ys H (Ah _) p).1,Ah _⟩) (λi x ys H _ e p=>hs i x ys H e p) hd
theorem NT {lo:Int}{n:Nat}{ρ:List (Option Nat)}{tt:TT}{te:TE}{σ:St}{H:Hp}{Q:VK}(Pv:Nat->List V->Hp->Prop)(h0:Pv 0 [] H)(hlen:n<=sizeLine)(hl:∀i ys H,i<=n->Pv i ys H->ys.length<=i)
  (hs:∀i ys H,i<n->Pv i ys H->tt (some (.int (lo+i))::C1 ρ σ) H λok H4=>if ok=true then te (some (.int (lo+i))::C1 ρ σ) H4 λv H5=>Pv (i+1) (ys++[v]) H5 else Pv (i+1) ys H4)
  (hd:∀ys H,Pv n ys H->∀p,H p=none->Q (.ref p) (upd H p (.lst ys))) :
  HW (none::ρ) (Aq 0) tt te σ Q (Hg lo n) H:=
 O1 (n:=n) (X:=λi x=>x = .int (lo+i)) Pv h0 hlen hl (λi ys H hi p=>hi) (λi ys H x H' hi p y=>y) (λys H p=>Ah _) (λi x ys H hi e p=>by subst e;exact hs i ys H hi p) hd
abbrev Fm (x:Str):List Nat:=x.cps.toList
theorem LA (x:Str):(Fm x).length=x.length:=by simp[Fm,Str.length]
theorem X0 (x y:Str):Fm (x++y)=Fm x++Fm y:=by simp[Fm,Str.cps_append]
def U0 (l:List Nat):Str:=⟨l.toArray⟩
def IK {α:Type}(xs:List α)(lo hi:Option Int):List α:=(xs.drop (HT.sIx xs.length 0 lo)).take (HT.sIx xs.length xs.length hi-HT.sIx xs.length 0 lo)
section
variable {X:Cx}
def TH:R2:=λx y H Q=>∃z n,x = .str z/\y = .int n/\-(2 ^ 63:Int)<=n/\n<=4096/\z.length<=4096/\Q (.str (Txt.mul z n)) H
theorem U8:BI X (binaryOp .Mult) TH:=by
 intro pins s σ H x y v u Q I rx ry h;obtain⟨z,n,rfl,rfl,h1,h2,h3,q⟩:=h;obtain⟨t,rfl⟩:=rx;obtain⟨t',rfl⟩:=ry;exact SB.mul (mulOk_of 4096 4096 h3 h2 h1 (by decide) (by decide)) λt' k=>⟨.str _,H,I.tok _,⟨_,rfl⟩,q⟩
theorem ZP (c:Nat)(n:Int):Fm (Txt.mul ⟨#[c]⟩ n)=List.replicate n.toNat c:=mul_one_list c n
end
section
variable {X:Cx}
theorem Wk (hc:X.calm=true):EL X (.builtin "all") (λxs H Q=>∃(p:Addr) (bs:List Bool),xs=[.ref p]/\A3 X.K H p (bs.map V.bl)/\Q (.bl (bs.all id)) H):=by
 intro pins s σ H xs us Q I r h;obtain⟨p,bs,rfl,hq,q⟩:=h;obtain⟨u,rfl,ru⟩:=F7 r;cases ru;obtain⟨its,rv,pl,hz⟩:=I.list hq;have hne:p≠s.heap.objs.size:=by
  obtain⟨o,n,e,_⟩:=pl;exact C4 (Bq e)
 have hl:=rv.length;refine call_all_walk (T8 pl.isList ⟨s.heap.objs.size,_,_,its.toArray.size,_,_,λi=>bs.getD i true,rfl,Walks.list (A:=X.A.in1) (show X.A.in1.handled=none from I.ok.hd hc) s.heap.objs.size p hne its.toArray,⟨⟨_,CT _ rfl,rfl,rfl⟩,(pl.isList).push _⟩,?_,λh' tk kk=>?_⟩)
 .intro i v s' Q' E hv hq';have hv':its[i]?=some v:=by simpa using hv
  have hb:∃b,bs[i]?=some b/\v = .bool b:=by
   cases e:(bs.map V.bl)[i]? with
   |
    none=>
    have:=rv.none_of e;rw[hv']at this;cases this
   |
    some y=>
    obtain⟨u,hu,ru⟩:=rv.get e;rw[hv']at hu;cases hu;rw[Bf]at e;cases eb:bs[i]? with
    |none=>rw[eb]at e;cases e
    |
     some b=>
     rw[eb]at e;cases e;exact⟨b,rfl,ru⟩
  obtain⟨b,hb,rfl⟩:=hb;refine Jo ?_;have hq2:Q' ((bs[i]?).getD true) s':=hq';rw[hb]at hq2;exact hq2
 .have e:((List.range its.toArray.size).all λi=>bs.getD i true)=bs.all id:=by
   have el:its.toArray.size=bs.length:=by rw[AZ,←hl,Af]
   rw[el];rw[GL];simp only[Ij,DA];constructor
   .intro h b hb;obtain⟨i,hi,e⟩:=OC.mp hb;have:=h i hi;rw[Bj,AE hi]at this;rw[←e];exact this
   .intro h i hi;rw[Bj,AE hi];exact h _ (Fh hi)
  rw[e];refine⟨.bl (bs.all id),H,I.kept (t':=tk) λb o eb=>kk b o ?_ (Bu _ eb),rfl,q⟩;intro z;have z':b=s.heap.objs.size:=by simpa using z
  exact absurd (Bq eb) (by rw[z'];exact Ea _)
def Vl:V->Option Value
 |.ty n=>some (.type n)
 |.ref a=>some (.ref a)
 |_=>none
theorem MV:EL X (.builtin "isinstance") (λxs H Q=>∃x c t cv b,xs=[x,c]/\Vl c=some cv/\Eo X.K H x t/\PySem.W.kitOne X.K t cv=some b/\Q (.bl b) H):=by
 intro pins s σ H xs us Q I r h;obtain⟨x,c,t,cv,b,rfl,rc,ty,e,q⟩:=h;obtain⟨u,w',rfl,rx,rw'⟩:=r.two;have:w'=cv:=by
  cases c with
  |ref a=>cases rc;exact rw'
  |ty a=>cases rc;exact rw'
  |_=>cases rc
 subst this;exact YG I rx ty e λtk=>⟨.bl b,H,I.tok _,rfl,q⟩
end
def Dq (sc out:Scope)(N N':List Str)(ρ:List (Option Nat)):Bool:=
 decide (sc.kind = .function)&&sc.names.all (λy=>decide (y.2≠.cell))&&sc.names.all (λy=>decide (y.2 = .local->sc.names.lookup y.1=some .local)) &&
 sc.names.all (λy=>decide (y.2 = .free->sc.names.lookup y.1=some .free/\(out.names.lookup y.1=some .cell\/out.names.lookup y.1=some .free))) &&
 decide (ρ.length=N'.length)&&decide N'.Nodup &&
 (ρ.zip N').all (λp=>match p.1 with|none=>true|some i=>decide (N[i]?=some p.2)&&decide (out.names.lookup p.2=some .local\/out.names.lookup p.2=some .cell\/out.names.lookup p.2=some .free)&&sc.names.any (λy=>decide (y=(p.2,NameKind.free))))
structure UH (sc:Scope)(env:Env)(N N':List Str)(ρ:List (Option Nat)):Prop where
 S:Iq sc env.scope
 sl:Kc sc env N N' ρ
 hl:∀x,(x,NameKind.free)∈sc.names->sc.names.lookup x=some .free
 nd:N'.Nodup
theorem PQ {sc:Scope}{env:Env}{N N':List Str}{ρ:List (Option Nat)}(h:Dq sc env.scope N N' ρ=true):UH sc env N N' ρ:=by
 unfold Dq at h;simp only[DC,Ta,Ij]at h;obtain⟨⟨⟨⟨⟨⟨h1,h2⟩,h3⟩,h4⟩,h5⟩,h6⟩,h7⟩:=h;refine⟨⟨h1,h2,h3,λy hy e=>(h4 y hy e).2⟩,⟨h5,λj i x e1 e2=>?_⟩,λx hx=>(h4 _ hx rfl).1,h6⟩;have hm:(some i,x)∈ρ.zip N':=by
  refine B0 (i:=j) ?_;rw[List.getElem?_zip_eq_some];exact⟨e1,e2⟩
 have q:=h7 _ hm;simp only[DC,Ta,SM]at q;obtain⟨⟨q1,q2⟩,y,hy,e⟩:=q;exact⟨q1,q2,e▸hy⟩
theorem F1 {X:Cx}{elt iter tg:Expr}{ifs:List Expr}{scope:Scope}{pos:Pos}(N':List Str)(ρ:List (Option Nat)){wi:TI}{g:TG}{tt:TT}{te:TE}(hc:X.calm=true)(hi:PI X tg iter wi)(h:Dq scope X.env.scope X.N N' ρ=true)
  (inner:∀(cl:List (Str×Addr)) (C:Addr) (s:Shared) (H:Hp) (fp:List Addr) (pins:List (Addr×Obj)),PG (D8 X scope N' cl C s H fp pins) tg g/\Hn (D8 X scope N' cl C s H fp pins) ifs tt/\PE (D8 X scope N' cl C s H fp pins) elt te)
  (hs:∀x,foldedSetIterable iter X.env x=pure x:=by intro _;rfl):PE X (.ListComp elt [⟨tg,iter,ifs,0⟩] scope pos) (JM ρ wi g tt te):=
 have F:=PQ h
 ZJ N' ρ hc hi F.S F.sl F.hl inner hs
theorem O9 {X:Cx}{elt iter tg:Expr}{ifs:List Expr}{scope:Scope}{pos pos' spos:Pos}{i:Nat}{x:Str}(N':List Str)(ρ:List (Option Nat)){wi:TI}{g:TG}{tt:TT}{te:TE}(hN:X.N.Nodup)(hix:X.N[i]?=some x)(hx:HH X.env.scope x)
  (hc:X.calm=true) (hi:PI X tg iter wi) (h:Dq scope X.env.scope X.N N' ρ=true)
  (inner:∀(cl:List (Str×Addr)) (C:Addr) (s:Shared) (H:Hp) (fp:List Addr) (pins:List (Addr×Obj)),PG (D8 X scope N' cl C s H fp pins) tg g/\Hn (D8 X scope N' cl C s H fp pins) ifs tt/\PE (D8 X scope N' cl C s H fp pins) elt te)
  (hsw:swapsWith (.ListComp elt [⟨tg,iter,ifs,0⟩] scope pos) (some (.Name x pos')) spos.line X.env=pure true:=by rfl)
  (hs:∀x,foldedSetIterable iter X.env x=pure x:=by intro _;rfl) (hf:X.fn x=true\/X.env.scope.names.lookup x=some .local:=by first|exact .inl rfl|exact .inr rfl|assumption) :
  PS X (.Assign [.Name x pos'] (.ListComp elt [⟨tg,iter,ifs,0⟩] scope pos) spos) (Jt (JM ρ wi g tt te) (Aq i)):=
 have F:=PQ h
 Ya N' ρ hN hix hx hc hi F.S F.sl F.hl inner hsw hs hf
def Oc (K:Faa):Sp:=λvs H Q _=>∃(a:Addr) (ns:List Int),vs=[.ref a]/\A3 K H a (ns.map V.int)/\ns.length<=63/\L5 H/\∀H',Q (.bl true) H'
theorem law_walk {l:PySem.W.OpenLaw}{q:Program}{loose:List Str}{XP:(Str->Option Value)->Heap->Prop}{YP:World->Heap->Prop}{d:DefRec}{K:Params->Faa}{x:Str}(k:Nat)(hk:k<=200)(hn:l.most=some 63)(hdf:d.params.defaults=[])
  (hY:∀(w:World) (h:Heap),YP w h->(K w.params).In h)
  (F:∀(w:World) (mg:Str->Option Value) (fa:Addr) (h:Heap),(K w.params).In h->h.Ns mainGlobals mg->mg d.name=some (.ref fa)->
   ∃fd:FuncData,(∀(s:Shared) (u:Value),BindsTo s fd ⟨[u],[]⟩ [(x,u)])/\∀base:Heap,(K w.params).In base->base.Ns mainGlobals mg->AI l.prog w (K w.params) mg base AN k fa fd [x] (Oc (K w.params))) :
  PySem.W.WalkO q loose XP YP l.row.toRowW d [] (λf vs=>PySem.call f vs):=
 L2.walk_of (n:=63) (k:=k) (x:=x) (CX:=λ_=>AN) (sp:=λw=>Oc (K w.params)) hn (by decide) hdf
  ⟨rfl,by
    have:callerA.depth+605<recursionLimit:=by decide
    lia,by
     have:callerA.units+3400<cLine:=by decide
     lia,rfl⟩ hY F (λ_ H a ns hl hO hS=>⟨a,ns,rfl,hS,hl,hO,λ_=>rfl⟩) λ_ _ _ _ _ z=>z
def E6 (l:List (Str×NameKind)):Scope:={kind:=.function,names:=l,isGenerator:=false,isCoroutine:=false,more:=[]}
theorem BC:bootBuiltins "len"=some (.builtin "len"):=by decide +kernel
theorem Uz:bootBuiltins "all"=some (.builtin "all"):=by decide +kernel
theorem Vr:bootBuiltins "any"=some (.builtin "any"):=by decide +kernel
theorem NN:bootBuiltins "isinstance"=some (.builtin "isinstance"):=by decide +kernel
theorem XG:bootBuiltins "abs"=some (.builtin "abs"):=by decide +kernel
theorem Lo:bootBuiltins "min"=some (.builtin "min"):=by decide +kernel
theorem Qt:bootBuiltins "sorted"=some (.builtin "sorted"):=by decide +kernel
theorem Yc:bootBuiltins "int"=some (.type "int"):=by decide +kernel
theorem GW:bootBuiltins "list"=some (.type "list"):=by decide +kernel
theorem Em:bootBuiltins "tuple"=some (.type "tuple"):=by decide +kernel
theorem BD {n:Nat}(h:n<=1000000):n<=sizeLine:=by rw[MK];lia
theorem Ap {n:Nat}(h:Nat.ble n 1000000=true):n<=sizeLine:=BD (Nat.le_of_ble_eq_true h)
theorem BK {n:Nat}(h:n<1000000):n<sizeLine:=by rw[MK];lia
theorem Ab {H:Hp}{p:Addr}(h:H p=none)(o:HO):A8 H (upd H p o):=λb u q=>by rw[Ag (Av q h)];exact q
theorem dT {p:Prop}[Decidable p](h:decide p=true):p:=Fk h
theorem dF {p:Prop}[Decidable p](h:¬decide p=true):¬p:=λz=>h (BU z)
def Z3 (K:Faa):Sp:=λvs H Q _=>∃(a:Addr) (ns:List Int) (k:Int),vs=[.ref a,.int k]/\A3 K H a (ns.map V.int)/\0<=k/\Q (.int (ns.getD k.toNat 0)) H
theorem Kp {ns:List Int}{k:Int}(h0:0<=k)(h:k<(ns.length:Int)):B1 (ns.map V.int) k=some (.int (ns.getD k.toNat 0)):=by
 have hk:k.toNat<ns.length:=by lia
 have ek:k=((k.toNat:Nat):Int):=by lia
 have q:B1 (ns.map V.int) ((k.toNat:Nat):Int)=some (.int (ns.getD k.toNat 0)):=BA (by rw[Bf,AE hk];simp[Bj,hk]);rw[←ek]at q;exact q
theorem aI {ns:List Int}{k:Int}(h:¬k<(ns.length:Int)):ns.getD k.toNat 0=0:=by rw[Bj,SN (by lia)];rfl
theorem CL {α:Type}{l:List α}{i:Nat}{c:α}(h:l[i]?=some c):l.take (i+1)=l.take i++[c]:=by
 rw[List.take_succ,h];rfl
theorem Dr {t u:TS}{D:Do}{σ:St}{H:Hp}(M:St->Hp->Prop)(hu:∀σ' H',M σ' H'->u D σ' H')(ht:(∀σ' H',M σ' H'->u D σ' H')->t {D with nx:=u D} σ H):FF t u D σ H:=ht hu
theorem Od {p:Prop}[Decidable p](h:p):(!decide p)=false:=by rw[BU h];rfl
theorem OZ {p:Prop}[Decidable p](h:¬p):(!decide p)=true:=by rw[C9 h];rfl
theorem Be {b:Bool}{A B:Prop}{v:Bool}(e:b=v)(h:if v=true then A else B):if b=true then A else B:=by rw[e];exact h
set_option genInjectivity true in
inductive Tr where
 |v (x:V)
 |lst (l:List Tr)
 |tup (l:List Tr)
mutual
inductive BE (K:Faa)(H:Hp):V->Tr->Prop
 |flat {x:V}:E4 x=true->BE K H x (.v x)
 |lst {p:Addr} {xs:List V} {l:List Tr}:A3 K H p xs->Cj K H xs l->BE K H (.ref p) (.lst l)
 |tup {p:Addr} {xs:List V} {l:List Tr}:A4 K H p xs->Cj K H xs l->BE K H (.ref p) (.tup l)
inductive Cj (K:Faa)(H:Hp):List V->List Tr->Prop
 |nil:Cj K H [] []
 |cons {x:V} {t:Tr} {xs:List V} {l:List Tr}:BE K H x t->Cj K H xs l->Cj K H (x::xs) (t::l)
end
mutual
def C5:Tr->Tr->Bool
 |.v x,.v y=>DT x y
 |.lst l,.lst m=>Ck l m
 |.tup l,.tup m=>Ck l m
 |_,_=>false
def Ck:List Tr->List Tr->Bool
 |[],[]=>true
 |x::l,y::m=>C5 x y&&Ck l m
 |_,_=>false
end
mutual
def Ct:Tr->Tr->Bool
 |.v _,.v _=>true
 |.lst l,.lst m=>EY l m
 |.tup l,.tup m=>EY l m
 |_,_=>false
def EY:List Tr->List Tr->Bool
 |x::l,y::m=>Ct x y&&EY l m
 |_,_=>true
end
mutual
def C3:Tr->Nat
 |.v _=>0
 |.lst l=>CB l+1
 |.tup l=>CB l+1
def CB:List Tr->Nat
 |[]=>0
 |x::l=>max (C3 x) (CB l)
end
theorem Zz {x:V}(h:E4 x=true):DT x x=true:=by
 cases x<;>first|rfl|(simp[DT];done)|(simp[E4]at h)
mutual
def G4:Tr->Bool
 |.v x=>E4 x
 |.lst l=>Gq l
 |.tup l=>Gq l
def Gq:List Tr->Bool
 |[]=>true
 |x::l=>G4 x&&Gq l
end
mutual
theorem GU:∀t:Tr,G4 t=true->C5 t t=true
 |.v x,h=>by rw[C5];exact Zz (by simpa[G4] using h)
 |.lst l,h=>by rw[C5];exact Nm l (by simpa[G4] using h)
 |.tup l,h=>by rw[C5];exact Nm l (by simpa[G4] using h)
theorem Nm:∀l:List Tr,Gq l=true->Ck l l=true
 |[],_=>by rw[Ck]
 |
  x::l,h=>by
  rw[Gq,DC]at h;rw[Ck,GU x h.1,Nm l h.2];rfl
end
mutual
theorem Ju:∀t:Tr,Ct t t=true
 |.v x=>by rw[Ct]
 |.lst l=>by rw[Ct];exact MP l
 |.tup l=>by rw[Ct];exact MP l
theorem MP:∀l:List Tr,EY l l=true
 |[]=>by simp[EY]
 |x::l=>by rw[EY,Ju x,MP l];rfl
end
mutual
theorem BE.ok {K:Faa}{H:Hp}:∀{x:V} {t:Tr},BE K H x t->G4 t=true
 |
  _,_,h=>by
  cases h with
  |flat h=>rw[G4];exact h
  |lst _ h=>rw[G4];exact h.ok
  |tup _ h=>rw[G4];exact h.ok
theorem Cj.ok {K:Faa}{H:Hp}:∀{xs:List V} {l:List Tr},Cj K H xs l->Gq l=true
 |
  _,_,h=>by
  cases h with
  |nil=>rw[Gq]
  |cons h r=>rw[Gq,h.ok,r.ok];rfl
end
theorem Cj.length {K:Faa}{H:Hp}:∀{xs:List V} {l:List Tr},Cj K H xs l->xs.length=l.length
 |
  _,_,h=>by
  cases h with
  |nil=>rfl
  |cons _ r=>simp[r.length]
theorem NR:∀{l m:List Tr},l.length≠m.length->Ck l m=false
 |[],[],h=>absurd rfl h
 |[],_::_,_=>by rw[Ck]<;>simp
 |_::_,[],_=>by rw[Ck]<;>simp
 |
  x::l,y::m,h=>by
  rw[Ck,NR (l:=l) (m:=m) (λe=>h (by simp[e])),Oy]
section
variable {X:Cx}{pins:List (Addr×Obj)}{σ:St}{H:Hp}{s:Shared}
mutual
theorem BE.inj (I:A5 X pins σ H s):∀{t t':Tr} {x:V},BE X.K H x t->BE X.K H x t'->t=t'
 |
  _,_,_,h,h'=>by
  cases h with
  |
   flat h=>
   cases h' with
   |flat _=>rfl
   |lst _ _=>cases h
   |tup _ _=>cases h
  |
   lst hq hr=>
   cases h' with
   |flat h=>cases h
   |
    lst hq' hr'=>
    have e:=I.list_inj hq hq';subst e;rw[Cj.inj I hr hr']
   |
    tup hq' hr'=>
    obtain⟨_,_,⟨o,n,e1,c1,_⟩,_⟩:=I.list hq;obtain⟨_,_,⟨o',e2,c2,_⟩,_⟩:=I.tuple hq';rw[e1]at e2;cases e2;rw[c1]at c2;simp at c2
  |
   tup hq hr=>
   cases h' with
   |flat h=>cases h
   |
    tup hq' hr'=>
    have e:=I.tuple_inj hq hq';subst e;rw[Cj.inj I hr hr']
   |
    lst hq' hr'=>
    obtain⟨_,_,⟨o,n,e1,c1,_⟩,_⟩:=I.list hq';obtain⟨_,_,⟨o',e2,c2,_⟩,_⟩:=I.tuple hq;rw[e1]at e2;cases e2;rw[c1]at c2;simp at c2
theorem Cj.inj (I:A5 X pins σ H s):∀{l l':List Tr} {xs:List V},Cj X.K H xs l->Cj X.K H xs l'->l=l'
 |
  _,_,_,h,h'=>by
  cases h with
  |
   nil=>
   cases h';rfl
  |
   cons h r=>
   cases h' with
   |cons h2 r2=>rw[BE.inj I h h2,Cj.inj I r r2]
end
theorem WL {α:Type}{e:Nat->Bool}{f:α->Bool}:∀{l:List α},(∀j x,l[j]?=some x->e j=f x)->(List.range l.length).all e=l.all f:=by
 intro l h;rw[GL];simp only[Ij,DA];constructor
 .intro q x hx;obtain⟨i,hi,hx⟩:=OC.mp hx;rw[←h i x (by rw[AE hi,hx])];exact q i hi
 .intro q i hi;rw[h i l[i] (AE hi)];exact q _ (Fh hi)
theorem Sr:∀{l m:List Tr},l.length=m.length->Ck l m=(l.zip m).all λp=>C5 p.1 p.2
 |[],[],_=>by rw[Ck];rfl
 |[],_::_,h=>by simp at h
 |_::_,[],h=>by simp at h
 |
  x::l,y::m,h=>by
  rw[Ck,Sr (l:=l) (m:=m) (by simpa using h)];rfl
theorem Cj.at {K:Faa}{H:Hp}:∀{xs:List V} {l:List Tr} {j:Nat} {t:Tr},Cj K H xs l->l[j]?=some t->∃x,xs[j]?=some x/\BE K H x t
 |_,_,_,_,.nil,h=>by simp at h
 |_,_,0,_,.cons h _,e=>by simp at e;subst e;exact⟨_,rfl,h⟩
 |
  _,_,j+1,_,.cons _ r,e=>by
  obtain⟨x,h1,h2⟩:=r.at (j:=j) (by simpa using e);exact⟨x,by simpa using h1,h2⟩
theorem JE:∀{l m:List Tr} {j:Nat} {t t':Tr},EY l m=true->l[j]?=some t->m[j]?=some t'->Ct t t'=true
 |[],_,_,_,_,_,h,_=>by simp at h
 |_::_,[],_,_,_,_,_,h=>by simp at h
 |
  x::l,y::m,0,t,t',h,e1,e2=>by
  simp at e1 e2;subst e1 e2;rw[EY,DC]at h;exact h.1
 |
  x::l,y::m,j+1,t,t',h,e1,e2=>by
  rw[EY,DC]at h;exact JE (j:=j) h.2 (by simpa using e1) (by simpa using e2)
theorem K5:∀{l:List Tr} {j:Nat} {t:Tr},l[j]?=some t->C3 t<=CB l
 |[],_,_,h=>by simp at h
 |x::l,0,t,h=>by simp at h;subst h;rw[CB];lia
 |
  x::l,j+1,t,h=>by
  have:=K5 (l:=l) (j:=j) (t:=t) (by simpa using h);rw[CB];lia
theorem M8 {A:Around}{l m:List Tr}{xs ys:List V}{its jts:List Value}(hr:Cj X.K H xs l)(hr':Cj X.K H ys m)(rv:Au xs its)(rv':Au ys jts)
  (ih:∀(j:Nat) (t t':Tr) (x y:V) (u v:Value),l[j]?=some t->m[j]?=some t'->BE X.K H x t->AG x u->BE X.K H y t'->AG y v->SeqAt.EqAt A.in1 s u v (C5 t t')) :
  ∀j (h1:j<its.toArray.size) (h2:j<jts.toArray.size),SeqAt.EqAt A.in1 s its.toArray[j] jts.toArray[j] (match l[j]?,m[j]? with|some t,some t'=>C5 t t'|_,_=>true):=by
 intro j h1 h2;have l1:=hr.length;have l2:=hr'.length;have l3:=rv.length;have l4:=rv'.length;rw[AZ]at h1 h2;obtain⟨t,ht⟩:∃t,l[j]?=some t:=⟨l[j]'(by lia),AE (by lia)⟩
 obtain⟨t',ht'⟩:∃t',m[j]?=some t':=⟨m[j]'(by lia),AE (by lia)⟩
 obtain⟨x,hx,hxt⟩:=hr.at ht;obtain⟨y,hy,hyt⟩:=hr'.at ht';obtain⟨u,hu,ru⟩:=rv.get hx;obtain⟨v,hv,rw'⟩:=rv'.get hy;rw[ht,ht'];have e1:its.toArray[j]=u:=by
  have:=AE (l:=its) (i:=j) h1;rw[hu]at this;simpa using(Cu this).symm
 have e2:jts.toArray[j]=v:=by
  have:=AE (l:=jts) (i:=j) h2;rw[hv]at this;simpa using(Cu this).symm
 rw[e1,e2];exact ih j t t' x y u v ht ht' hxt ru hyt rw'
theorem Rt {l m:List Tr}(h:l.length=m.length):(List.range l.length).all (λj=>match l[j]?,m[j]? with|some t,some t'=>C5 t t'|_,_=>true)=Ck l m:=by
 rw[Sr h];have e:l.length=(l.zip m).length:=by rw[List.length_zip];lia
 rw[e];refine WL λj p hp=>?_;obtain⟨h1,h2⟩:=List.getElem?_zip_eq_some.mp hp;rw[h1,h2]
theorem R4 {A:Around}{p q:Addr}{xs ys:List V}{l m:List Tr}(I:A5 X pins σ H s)(hu:A.units<cLine)(hq:A3 X.K H p xs)(hr:Cj X.K H xs l)(hq':A3 X.K H q ys)(hr':Cj X.K H ys m)
  (ih:∀(j:Nat) (t t':Tr) (x y:V) (u v:Value),l[j]?=some t->m[j]?=some t'->BE X.K H x t->AG x u->BE X.K H y t'->AG y v->SeqAt.EqAt A.in1 s u v (C5 t t')) :
  SeqAt.RcAt A s (.ref p) (.ref q) (Ck l m)/\SeqAt.RcNeAt A s (.ref p) (.ref q) (!Ck l m):=by
 obtain⟨its,rv,pl,_⟩:=I.list hq;obtain⟨jts,rv',pl',_⟩:=I.list hq';have l1:=hr.length;have l2:=hr'.length;have l3:=rv.length;have l4:=rv'.length;by_cases hl:l.length=m.length
 .have e:its.toArray.size=l.length:=by rw[AZ];lia
  have a:=SeqAt.RcAt.lists (A:=A) pl.isList pl'.isList (by rw[AZ,AZ];lia) hu (M8 hr hr' rv rv' ih);have b:=SeqAt.RcNeAt.lists (A:=A) pl.isList pl'.isList (by rw[AZ,AZ];lia) hu (M8 hr hr' rv rv' ih);rw[e,Rt hl]at a b;exact⟨a,b⟩
 .rw[NR hl];have hne:(its.toArray.size != jts.toArray.size)=true:=by
   rw[AZ,AZ];simp only[bne_iff_ne,ne_eq];lia
  exact⟨SeqAt.RcAt.lists_lengths pl.isList pl'.isList hne hu,SeqAt.RcNeAt.lists_lengths pl.isList pl'.isList hne hu⟩
theorem Pa {A:Around}{p q:Addr}{xs ys:List V}{l m:List Tr}(I:A5 X pins σ H s)(hu:A.units<cLine)(hq:A4 X.K H p xs)(hr:Cj X.K H xs l)(hq':A4 X.K H q ys)(hr':Cj X.K H ys m)
  (ih:∀(j:Nat) (t t':Tr) (x y:V) (u v:Value),l[j]?=some t->m[j]?=some t'->BE X.K H x t->AG x u->BE X.K H y t'->AG y v->SeqAt.EqAt A.in1 s u v (C5 t t')) :
  SeqAt.RcAt A s (.ref p) (.ref q) (Ck l m)/\SeqAt.RcNeAt A s (.ref p) (.ref q) (!Ck l m):=by
 obtain⟨its,rv,pl,_⟩:=I.tuple hq;obtain⟨jts,rv',pl',_⟩:=I.tuple hq';have l1:=hr.length;have l2:=hr'.length;have l3:=rv.length;have l4:=rv'.length;have a:=SeqAt.RcAt.tuples (A:=A) (show s.heap.IsTuple p its.toArray from pl) (show s.heap.IsTuple q jts.toArray from pl') hu (M8 hr hr' rv rv' ih);have b:=SeqAt.RcNeAt.tuples (A:=A) (show s.heap.IsTuple p its.toArray from pl) (show s.heap.IsTuple q jts.toArray from pl') hu (M8 hr hr' rv rv' ih);have e:((List.range (min its.toArray.size jts.toArray.size)).all (λj=>match l[j]?,m[j]? with|some t,some t'=>C5 t t'|_,_=>true)&&its.toArray.size==jts.toArray.size)=Ck l m:=by
  by_cases hl:l.length=m.length
  .have e1:min its.toArray.size jts.toArray.size=l.length:=by rw[AZ,AZ];lia
   have e2:(its.toArray.size==jts.toArray.size)=true:=by rw[AZ,AZ];simp;lia
   rw[e1,e2,Rt hl,Bool.and_true]
  .have e2:(its.toArray.size==jts.toArray.size)=false:=by rw[AZ,AZ];simp;lia
   rw[e2,NR hl,Oy]
 rw[e]at a b;exact⟨a,b⟩
theorem Ri (I:A5 X pins σ H s)(n:Nat):∀(A:Around) (t t':Tr) (x y:V) (u v:Value),C3 t<=n->A.units+n<cLine->Ct t t'=true->BE X.K H x t->AG x u->BE X.K H y t'->AG y v->SeqAt.EqAt A s u v (C5 t t'):=by
 induction n with
 |
  zero=>
  intro A t t' x y u v hd hu hs hx rx hy ry;cases hx with
  |
   flat fx=>
   cases hy with
   |flat fy=>rw[C5];exact N0 rx ry fx fy
   |lst _ _=>simp[Ct]at hs
   |tup _ _=>simp[Ct]at hs
  |lst _ _=>simp[C3]at hd
  |tup _ _=>simp[C3]at hd
 |
  succ n ih=>
  intro A t t' x y u v hd hu hs hx rx hy ry;cases hx with
  |
   flat fx=>
   cases hy with
   |flat fy=>rw[C5];exact N0 rx ry fx fy
   |lst _ _=>simp[Ct]at hs
   |tup _ _=>simp[Ct]at hs
  |
   @lst p xs l hq hr=>
   cases hy with
   |flat fy=>simp[Ct]at hs
   |tup _ _=>simp[Ct]at hs
   |
    @lst q ys m hq' hr'=>
    cases rx;cases ry;rw[C3]at hd;rw[Ct]at hs;by_cases e:p=q
    .subst e;have e1:=BE.inj I (BE.lst hq hr) (BE.lst hq' hr');rw[←e1,GU _ (BE.lst hq hr).ok];exact SeqAt.EqAt.same _
    .rw[C5];refine SeqAt.EqAt.of_refs e (R4 I (by lia) hq hr hq' hr' λj t t' x y u v h1 h2 h3 h4 h5 h6=>?_).1;exact ih A.in1 t t' x y u v (by have:=K5 h1;lia) (by show A.units+1+n<cLine;lia) (JE hs h1 h2) h3 h4 h5 h6
  |
   @tup p xs l hq hr=>
   cases hy with
   |flat fy=>simp[Ct]at hs
   |lst _ _=>simp[Ct]at hs
   |
    @tup q ys m hq' hr'=>
    cases rx;cases ry;rw[C3]at hd;rw[Ct]at hs;by_cases e:p=q
    .subst e;have e1:=BE.inj I (BE.tup hq hr) (BE.tup hq' hr');rw[←e1,GU _ (BE.tup hq hr).ok];exact SeqAt.EqAt.same _
    .rw[C5];refine SeqAt.EqAt.of_refs e (Pa I (by lia) hq hr hq' hr' λj t t' x y u v h1 h2 h3 h4 h5 h6=>?_).1;exact ih A.in1 t t' x y u v (by have:=K5 h1;lia) (by show A.units+1+n<cLine;lia) (JE hs h1 h2) h3 h4 h5 h6
end
section
variable {X:Cx}
def FB (K:Faa)(neg:Bool):R2:=λx y H Q=>∃t t',BE K H x t/\BE K H y t'/\(∃p,x = .ref p)/\(∃p,y = .ref p)/\Ct t t'=true/\C3 t<=60/\Q (.bl (if neg then !C5 t t' else C5 t t')) H
theorem S1 {neg:Bool}(hu:X.A.units+64<cLine):BI X (compareOp (if neg then .NotEq else .Eq)) (FB X.K neg):=by
 intro pins s σ H x y v u Q I rx ry h;obtain⟨t,t',hx,hy,⟨p,rfl⟩,⟨q,rfl⟩,hs,hd,q'⟩:=h;cases rx;cases ry;have done:∀l m,SeqAt.RcAt X.A s (.ref p) (.ref q) (Ck l m)/\SeqAt.RcNeAt X.A s (.ref p) (.ref q) (!Ck l m)->Q (.bl (if neg then !Ck l m else Ck l m)) H->
   wpAny (model X.prog X.w) X.A (compareOp (if neg then .NotEq else .Eq) (.ref p) (.ref q)) (EP X pins σ Q) X.xe s:=λl m hb hq=>by
  cases neg with
  |false=>exact hb.1 X.prog X.w X.xe _ ⟨.bl _,H,I,rfl,hq⟩
  |true=>exact hb.2 X.prog X.w X.xe _ ⟨.bl _,H,I,rfl,hq⟩
 cases hx with
 |flat fx=>cases fx
 |
  @lst _ xs l hq hr=>
  cases hy with
  |flat fy=>cases fy
  |tup _ _=>simp[Ct]at hs
  |
   @lst _ ys m hq' hr'=>
   rw[C3]at hd;rw[Ct]at hs;rw[C5]at q';refine done l m (R4 I (by lia) hq hr hq' hr' λj t t' x y u v h1 h2 h3 h4 h5 h6=>?_) q';exact Ri I 60 X.A.in1 t t' x y u v (by have:=K5 h1;lia) (by show X.A.units+1+60<cLine;lia) (JE hs h1 h2) h3 h4 h5 h6
 |
  @tup _ xs l hq hr=>
  cases hy with
  |flat fy=>cases fy
  |lst _ _=>simp[Ct]at hs
  |
   @tup _ ys m hq' hr'=>
   rw[C3]at hd;rw[Ct]at hs;rw[C5]at q';refine done l m (Pa I (by lia) hq hr hq' hr' λj t t' x y u v h1 h2 h3 h4 h5 h6=>?_) q';exact Ri I 60 X.A.in1 t t' x y u v (by have:=K5 h1;lia) (by show X.A.units+1+60<cLine;lia) (JE hs h1 h2) h3 h4 h5 h6
theorem Mg (hu:X.A.units+64<cLine):BI X (compareOp .Eq) (FB X.K false):=S1 (neg:=false) hu
theorem Nw (hu:X.A.units+64<cLine):BI X (compareOp .NotEq) (FB X.K true):=S1 (neg:=true) hu
theorem GD {A:Around}{k:Nat}(hr:Cq k A):A.units+64<cLine:=by have:=hr.un;lia
end
section
variable {X:Cx}
end
abbrev JH:Str:="abcdefghijklmnopqrstuvwxyz"
theorem aJ:Fm JH=(List.range 26).map (97 + ·):=by decide +kernel
def Oj (x:Int):Nat:=97+(x%26).toNat
theorem YT (x:Int):B1 (Fm JH) (x%26)=some (Oj x):=by
 have h0:=Eb x (show(26:Int)≠0 by decide);have h1:=Ey x (show(0:Int)<26 by decide);have e:x%26=(((x%26).toNat:Nat):Int):=by lia
 rw[e];refine BA ?_;rw[aJ,Bf,Fi (by lia)];rfl
theorem a9:JH.length<=sizeLine:=BD (by decide +kernel)
theorem S9 {α:Type}(l:List α){k:Int}(h:0<=k):IK l none (some k)=l.take k.toNat:=by
 unfold IK;have e:k=((k.toNat:Nat):Int):=by lia
 rw[HT.sIx_none,e,HT.sIx_nat,List.drop_zero,My];rw[show(((k.toNat:Nat):Int)).toNat=k.toNat by lia];by_cases h:k.toNat<=l.length
 .rw[Ec h]
 .rw[OD (by lia),Gg (by lia),Gg (by lia)]
theorem OY {α:Type}(l:List α){i j:Int}(hi:0<=i)(hj:0<=j)(hl:j<=(l.length:Int))(hij:i<=j):IK l (some i) (some j)=(l.drop i.toNat).take (j.toNat-i.toNat):=by
 unfold IK;have e1:i=((i.toNat:Nat):Int):=by lia
 have e2:j=((j.toNat:Nat):Int):=by lia
 rw[e1,e2,HT.sIx_nat,HT.sIx_nat];rw[show(((i.toNat:Nat):Int)).toNat=i.toNat by lia,show(((j.toNat:Nat):Int)).toNat=j.toNat by lia,Ec (by lia),Ec (by lia)]
theorem Zs {α:Type}(l:List α){i:Int}(hi:0<=i):IK l (some i) none=l.drop i.toNat:=by
 unfold IK;have e1:i=((i.toNat:Nat):Int):=by lia
 rw[e1,HT.sIx_nat,HT.sIx_none,show(((i.toNat:Nat):Int)).toNat=i.toNat by lia];by_cases h:i.toNat<=l.length
 .rw[Ec h,Gg (by rw[GN];lia)]
 .rw[OD (by lia),DO,List.take_zero,Mz (by lia)]
def Ug (C:Addr):Sp:=λvs H Q _=>∃(x dx:Addr) (v1 v2 v3 v4 v5 v6 v7:V),vs=[.ref x,v1,v2,v3,v4,v5,v6,v7]/\H x=some (.ins C dx [])/\∀H',(∀b o,H b=some o->b≠x->H' b=some o)->(∃dx,H' x=some (.ins C dx [("names",v1),("lows",v2),("highs",v3),("table",v4),("spots",v5),("term",v6),("path",v7)]))->Q .non H'
def XJ:Sp:=λvs H Q _=>∃(p1 p2:Addr) (xs ys:List Int) (m k:Nat),vs=[.ref p1,.ref p2,.int (m:Int)]/\H p1=some (.tup (xs.map V.int))/\H p2=some (.tup (ys.map V.int))/\m<=xs.length/\m<=ys.length/\m<=1000/\k<=m/\(∀e<k,xs.getD e 0=ys.getD e 0)/\(k<m->xs.getD k 0≠ys.getD k 0)/\Q (.int (k:Int)) H
def wo (H:Hp)(l:Addr):Hp:=λb=>if b=l then none else H b
theorem MW {H:Hp}{l:Addr}:A8 (wo H l) H:=λb o h=>by
 unfold wo at h;split at h
 .cases h
 .exact h
theorem FM {H H':Hp}{l:Addr}(e:A8 H H'):A8 (wo H l) (wo H' l):=λb o h=>by
 unfold wo at h ⊢;split at h
 .cases h
 .rename_i c;rw[AB c];exact e b o h
theorem Lm {H:Hp}{l:Addr}{o:HO}:wo (upd H l o) l=wo H l:=by
 funext b
 unfold wo;by_cases c:b=l
 .rw[Ay c,Ay c]
 .rw[AB c,AB c,Ag c]
theorem E8 {H:Hp}{l b:Addr}(h:b≠l):wo H l b=H b:=by unfold wo;rw[AB h]
theorem nodup_le {α:Type}[DecidableEq α]:∀{l k:List α},l.Nodup->(∀x∈l,x∈k)->l.length<=k.length
 |[],_,_,_=>Bh _
 |
  a::l,k,hn,hs=>by
  have ha:=hs a C7;have h2:=Jj.mp hn;have:=nodup_le (l:=l) (k:=k.erase a) h2.2 λx hx=>(List.mem_erase_of_ne (show x≠a from λe=>h2.1 (by rw[←e];exact hx))).mpr (hs x (Ce _ hx));rw[List.length_erase_of_mem ha]at this;have:0<k.length:=List.length_pos_of_mem ha;simp only[Bz];lia
theorem Qi {α:Type}(l:List α)(x:α)(m:List α){n:Int}(hn:n = -((m.length:Int)+1)):B1 (l++x::m) n=some x:=by
 unfold B1 DJ;have hl:(l++x::m).length=l.length+(m.length+1):=by rw[Ai];rfl
 rw[hl,AB (by lia),Ay (by lia)];show(l++x::m)[(n+((l.length+(m.length+1):Nat):Int)).toNat]?=some x;rw[show(n+((l.length+(m.length+1):Nat):Int)).toNat=l.length by lia,Cg (Ah _),DO];rfl
theorem TJ (l m:List V)(hm:0<m.length){n:Int}(hn:n = -(m.length:Int)):Ci (l++m) none (some n)=l:=by
 unfold Ci;have hl:(l++m).length=l.length+m.length:=Ai;have e1:HT.sIx (l++m).length 0 none=0:=rfl;have e2:HT.sIx (l++m).length (l++m).length (some n)=l.length:=by
  show(if n<0 then(n+((l++m).length:Int)).toNat else min n.toNat (l++m).length)=l.length;rw[hl,Ay (by lia)];lia
 rw[e1,e2,List.drop_zero,My,MC];rfl
theorem Y1 {tt:TT}{ta tb:TS}{D:Do}{σ:St}{H:Hp}(M:Hp->Prop)(hb:∀H',M H'->tb D σ H')(h:(∀H',M H'->tb D σ H')->GE tt ta tb D σ H):GE tt ta tb D σ H:=h hb
theorem Gs {α:Type}{l:List α}{n:Nat}(h:l.length=n+1):∃p x,l=p++[x]/\p.length=n:=by
 have hne:l≠[]:=λe=>by rw[e]at h;cases h
 exact⟨l.dropLast,l.getLast hne,(List.dropLast_concat_getLast hne).symm,by rw[List.length_dropLast];lia⟩
theorem K1 {H H2:Hp}{x dx C:Addr}(hx:H x=none)(hdx:H dx=none)(k:∀b o,(upd (upd H dx (.own x)) x (.ins C dx [])) b=some o->b≠x->H2 b=some o):A8 H H2:=λb o e=>by
 have n1:=Av e hx;have n2:=Av e hdx;exact k b o (by rw[Ag n1,Ag n2];exact e) n1
section
variable {X:Cx}{pins:List (Addr×Obj)}{σ:St}{H:Hp}{s:Shared}{h':Heap}
theorem A5.turnedL {t':Nat}{ch:List Addr}(I:A5 X pins σ H s)(k:∀b o,b∉ch->s.heap.get? b=some o->h'.get? b=some o)(hf:∀b∈ch,F6 X pins H b):A5 X pins σ H {s with heap:=h',toks:=t'}:=by
 have nit:∀b u,H b=some u->b∉ch:=λb u e z=>by rw[(hf b z).1]at e;cases e
 have hL:X.env.locals∉ch:=λz=>(hf _ z).2.1 rfl;refine I.step (g':=s.gens) (d':=s.drawn) (ch:=ch) (λb hb=>?_) (λb o _ _ hc e _=>k b o hc e) (λb o _ _ hc e _=>⟨o.slots,k b o hc e⟩) (λ_ _ _ _ n=>n)
  (λb o hc e=>⟨o,k b o hc e⟩) (λ_ _ e=>e) (λ_ _ _ e=>e) (λb ps e=>⟨#[],by rw[e];simp⟩) (λm hm=>?_) (λb u e=>?_) I.bare
 .obtain⟨f0,f1,f2,f3,f4,f5⟩:=hf b hb;exact⟨f3,f1,f4,f5⟩
 .obtain⟨o,es,ep,ho,r⟩:=hm;exact⟨o,es,ep,k _ o hL ho,r⟩
 .refine(I.hok b u e).stay (λc v hc q=>k c v ?_ q) (λ_ q=>q) λ_ _ q=>q;rcases hc with z|z
  .rw[z];exact nit b u e
  .exact nit c _ z
end
def Kl (K:Faa)(a:Addr):It:=
 ⟨λi H=>∃xs x,A3 K H a xs/\xs[i]?=some x,λi H v H'=>∃x T,(∀xs,A3 K H a xs->xs[i]?=some x)/\H T=none/\v = .ref T/\H'=upd H T (.tup [.int i,x]),λi H=>∃xs,A3 K H a xs/\xs.length<=i⟩
theorem Ue {P:Program}{w:World}{K:Faa}{elts:List Expr}{x1:Nat}{pos:Pos}(a e it:Addr)(hei:e≠it):Hw P w K (.Tuple elts x1 pos) (Kl K a) [e,it] e (λi h=>(∃old,IsEnum h e it i old)/\h.IsListIter it a i) where
 mem:=by simp
 obj:=λi h st b hb=>by
  obtain⟨⟨old,he⟩,hit⟩:=st;rcases Bb.mp hb with rfl|hb
  .exact⟨_,he,λv z=>by cases z⟩
  .have e:b=it:=by simpa using hb
   subst e;obtain⟨o,e,c,d⟩:=hit;exact⟨o,e,λv z=>by rw[d]at z;cases z⟩
 keep:=λi h h' st k=>by
  obtain⟨⟨old,he⟩,hit⟩:=st;exact⟨⟨old,k e (by simp) _ he⟩,hit.at λo e=>k it (by simp) o e⟩
 item:=by
  intro X hP hw hK hc i pins s σ H E I hf st hg;subst hP hw hK;obtain⟨xs,x,hq,hx⟩:=hg;obtain⟨its,rv,p,hz⟩:=I.list hq;obtain⟨u,hu,ru⟩:=rv.get hx;obtain⟨⟨old,he⟩,hit⟩:=st;refine wpAny_pyNext_enum_item he hit p.isList (x:=u) (by simpa using hu) hei λh1 ho hit' hT hsz hk=>⟨_,rfl,?_⟩
  refine wpAny_letOwnedTupleGo_enum ho λh2 he2 hs2=>?_;have hTn:H s.heap.objs.size=none:=I.hok.fresh (Ah _);have helt:e<s.heap.objs.size:=Bq he;have hilt:it<s.heap.objs.size:=by obtain⟨_,x,_⟩:=hit;exact Bq x
  have I1:A5 X pins σ (upd H s.heap.objs.size (.tup [.int i,x])) {s with heap:=s.heap.push {cls:=.type "tuple",data:=.seq #[.int i s.toks,u]},toks:=s.toks+1}:=I.laid (t':=s.toks+1) (o:=.tup [.int i,x]) (λb o e=>Bu _ e) (Ah _) ⟨Ap rfl,[.int i s.toks,u],.cons ⟨_,rfl⟩ (.cons ru .nil),EW.new _ _⟩;have I2:A5 X pins σ (upd H s.heap.objs.size (.tup [.int i,x])) {s with heap:=h2,toks:=s.toks+1}:=by
   refine A5.turnedL (s:={s with heap:=s.heap.push {cls:=.type "tuple",data:=.seq #[.int i s.toks,u]},toks:=s.toks+1}) (h':=h2) (ch:=[e,it]) (t':=s.toks+1) I1 (λb o hb q=>?_) (λb hb=>?_)
   .have nbe:b≠e:=λz=>hb (by simp[z]);have nbi:b≠it:=λz=>hb (by simp[z]);show h2.get? b=some o;rw[hs2.2 b nbe];rcases SO q with⟨rfl,rfl⟩|q
    .exact hT
    .exact hk b o nbe nbi q
   .obtain⟨f0,f1,f2,f3,f4,f5⟩:=hf b hb;have nb:b≠s.heap.objs.size:=by
     rcases Bb.mp hb with rfl|hb
     .exact C4 helt
     .have:b=it:=by simpa using hb
      subst this;exact C4 hilt
    exact⟨by rw[Ag nb];exact f0,f1,f2,f3,f4,f5⟩
  refine⟨.ref s.heap.objs.size,_,I2,rfl,⟨x,_,λys hy=>by rw[I.list_inj hy hq];exact hx,hTn,rfl,rfl⟩,⟨⟨_,by simpa using he2⟩,hit'.at λo y=>(hs2.2 it hei.symm).trans y⟩,λb hb=>?_⟩;obtain⟨f0,f1,f2,f3,f4,f5⟩:=hf b hb;have nb:b≠s.heap.objs.size:=by
   rcases Bb.mp hb with rfl|hb
   .exact C4 helt
   .have:b=it:=by simpa using hb
    subst this;exact C4 hilt
  rw[Ag nb];exact f0
 done:=by
  intro X hP hw hK hc i pins s σ H E I hf st hg;subst hP hw hK;obtain⟨xs,hq,hx⟩:=hg;obtain⟨its,rv,p,hz⟩:=I.list hq;obtain⟨⟨old,he⟩,hit⟩:=st;have hl:=rv.length;refine wpAny_pyNext_enum_end (I.ok.hd hc) he hit p.isList (by simp;lia) λh' eb=>⟨rfl,?_⟩
  exact I.turnedL (ch:=[e,it]) (t':=s.toks) (λb o hb q=>eb b o (λz=>hb (by simp[z])) q) hf
 self:=λ_ _ _ _ _ st h=>by
  obtain⟨⟨old,he⟩,_⟩:=st;exact OW he h
def YM (K:Faa)(ta:TA):TI:=fun σ H R=>ta σ H λvs H1=>∃a:Addr,vs=[.ref a]/\(∃xs,A3 K H1 a xs)/\R (Kl K a) H1
theorem Kw {X:Cx}{a:Expr}{ta:TA}{p pos:Pos}{elts:List Expr}{x1:Nat}{pos2:Pos}(hg:Gl X "enumerate")(hm:X.mg "enumerate"=none)(ha:PA X [a] ta)(hs:starEach [a] X.env=[(false,eval a X.env)]:=by rfl):PI X (.Tuple elts x1 pos2) (.Call (.Name "enumerate" p) [a] [] pos) (YM X.K ta):=by
 intro pins s σ H R I h;refine Call_ (FY I hg hm boot_enumerate (Ji (AA (ha pos pins s σ H _ I h) λus s1 zz=>?_) hs rfl));obtain⟨vs,H1,I1,r1,q1⟩:=zz;obtain⟨l,rfl,⟨xs,hq⟩,q⟩:=q1;cases r1 with
 |
  cons r rr=>
  cases rr;cases r;obtain⟨its,rv,pl,hz⟩:=I1.list hq;refine call_enumerate_list pl.isList λh' he hit hsz hk=>?_;refine OW he ?_;refine⟨_,[s1.heap.objs.size+1,s1.heap.objs.size],_,_,H1,rfl,I1.kept (t':=s1.toks) hk,Ue l _ _ (GK (Ig _)),⟨⟨_,he⟩,hit⟩,λb hb=>?_,q⟩;rcases Bb.mp hb with rfl|hb
  .exact I1.fpOk (GM _) (I1.hok.fresh (GM _))
  .have e:b=s1.heap.objs.size:=by simpa using hb
   subst e;exact I1.fpOk (Ah _) (I1.hok.fresh (Ah _))
theorem Jq {K:Faa}{a:Addr}{xs:List V}{g:TG}{tb:TS}{D:Do}{σ:St}{H:Hp}(Pv:Nat->St->Hp->Prop)(h0:Pv 0 σ H)(hl:∀i σ H,i<=xs.length->Pv i σ H->A3 K H a xs)
  (hs:∀i x T σ H,xs[i]?=some x->Pv i σ H->H T=none->g (.ref T) σ (upd H T (.tup [.int i,x])) fun σ2 H2=>tb {D with nx:=Pv (i+1),ct:=Pv (i+1),bk:=D.nx} σ2 H2) (hd:∀σ H,Pv xs.length σ H->D.nx σ H) :
  ∃W:Nat->Nat->St->Hp->Prop,(∃m,W 0 m σ H)/\∀i m σ H,W i m σ H->
   ((Kl K a).stop i H/\D.nx σ H)\/((Kl K a).go i H/\∃N:St->Hp->Prop,(∀σ' H',N σ' H'->∃m',m'<m/\W (i+1) m' σ' H')/\∀x H',(Kl K a).yld i H x H'->g x σ H' fun σ2 H2=>tb {D with nx:=N,ct:=N,bk:=D.nx} σ2 H2):=by
 refine⟨λi m σ H=>m=xs.length-i/\i<=xs.length/\Pv i σ H,⟨xs.length,by simp,Bh _,h0⟩,?_⟩;rintro i m σ H ⟨rfl,hi,p⟩;have q:=hl i σ H hi p;by_cases hlt:i<xs.length
 .refine .inr ⟨⟨xs,xs[i],q,AE hlt⟩,Pv (i+1),fun σ' H' p'=>⟨xs.length-(i+1),by lia,rfl,hlt,p'⟩,λv H' y=>?_⟩;obtain⟨x,T,hx,hT,rfl,rfl⟩:=y;exact hs i x T σ H (hx xs q) p hT
 .have e:i=xs.length:=by lia
  subst e;exact .inl ⟨⟨xs,q,Ah _⟩,hd σ H p⟩
theorem J1 {X:Cx}{e:Expr}{t u:TE}(h1:PE X e t)(h2:PE X e u):PE X e (fun σ H Q=>t σ H Q\/u σ H Q):=by
 intro pins s σ H Q I h;exact h.elim (h1 pins s σ H Q I) (h2 pins s σ H Q I)
end L2
namespace Bd
structure Bond where
 x:Nat
 y:Nat
 c:Int
structure Sv where
 v:Nat->Int
 p:Nat->Option Nat
 low:Option Nat
def Cy {α:Type}(f:Nat->α)(i:Nat)(a:α):Nat->α:=λj=>if j=i then a else f j
theorem E2 {α:Type}{f:Nat->α}{i:Nat}{a:α}:Cy f i a i=a:=Ay rfl
theorem Ep {α:Type}{f:Nat->α}{i j:Nat}{a:α}(h:j≠i):Cy f i a j=f j:=AB h
def IU (i:Nat)(b:Bond)(s:Sv):Sv:=if s.v b.x>s.v b.y+b.c then⟨Cy s.v b.x (s.v b.y+b.c),Cy s.p b.x (some i),some b.x⟩ else s
def rnd (B:List Bond):Nat->Sv->Sv
 |0,s=>s
 |
  k+1,s=>match B[k]? with
  |some b=>IU k b (rnd B k s)
  |none=>rnd B k s
def D9 (B:List Bond)(s:Sv):Sv:=rnd B B.length {s with low:=none}
def go (B:List Bond):Nat->Sv->Sv ⊕ Sv
 |0,s=>.inr s
 |
  k+1,s=>match (D9 B s).low with
  |none=>.inl (D9 B s)
  |some _=>go B k (D9 B s)
def st0:Sv:=⟨λ_=>0,λ_=>none,none⟩
def pb (B:List Bond)(p:Nat->Option Nat)(x:Nat):Bond:=match p x with
 |some i=>B.getD i ⟨0,0,0⟩
 |none=>⟨0,0,0⟩
def it (B:List Bond)(p:Nat->Option Nat):Nat->Nat->Nat
 |0,x=>x
 |k+1,x=>it B p k (pb B p x).y
def sm (B:List Bond)(p:Nat->Option Nat):Nat->Nat->Int
 |0,_=>0
 |k+1,x=>(pb B p x).c+sm B p k (pb B p x).y
theorem Ie (B:List Bond)(p:Nat->Option Nat)(k x:Nat):it B p (k+1) x=(pb B p (it B p k x)).y:=by
 induction k generalizing x with
 |zero=>rfl
 |succ k ih=>exact ih _
theorem EK (B:List Bond)(p:Nat->Option Nat)(j k x:Nat):it B p (j+k) x=it B p k (it B p j x):=by
 induction j generalizing x with
 |zero=>rw[FI];rfl
 |succ j ih=>rw[Nat.succ_add];exact ih _
theorem aB (B:List Bond)(p:Nat->Option Nat)(k x:Nat):sm B p (k+1) x=sm B p k x+(pb B p (it B p k x)).c:=by
 induction k generalizing x with
 |zero=>simp[sm,it]
 |succ k ih=>rw[sm,ih,sm,it];lia
def HS (B:List Bond)(p:Nat->Option Nat)(k x:Nat):Prop := ∀j<k,∃i,p (it B p j x)=some i
theorem HS.tail {B:List Bond}{p:Nat->Option Nat}{k x:Nat}(h:HS B p (k+1) x):HS B p k (pb B p x).y:=λj hj=>h (j+1) (by lia)
structure A5 (B:List Bond)(r j:Nat)(s:Sv)(last:Nat->Nat):Prop where
 le:∀x,last x<=r
 par:∀x i,s.p x=some i->∃b,B[i]?=some b/\b.x=x/\s.v b.y+b.c<=s.v x/\last x<=last b.y+1
 has:∀x,1<=last x->∃i,s.p x=some i
 ok1:∀k<j,∀b,B[k]?=some b->s.v b.x<=s.v b.y+b.c\/r<=last b.y
 ok2:∀k,j<=k->∀b,B[k]?=some b->s.v b.x<=s.v b.y+b.c\/r<=last b.y+1
 neg:∀k x,HS B s.p (k+1) x->it B s.p (k+1) x=x->sm B s.p (k+1) x<0
 lowN:s.low=none->∀x,last x+1<=r
 lowS:∀x,s.low=some x->last x=r
theorem FA {B:List Bond}{p:Nat->Option Nat}{x i:Nat}{b:Bond}(h:p x=some i)(e:B[i]?=some b):pb B p x=b:=by
 unfold pb;rw[h];simp only[];rw[Bj,e];rfl
theorem Ul {B:List Bond}{v:Nat->Int}{p:Nat->Option Nat}{i:Nat}{b:Bond}(hb:B[i]?=some b)(hlt:v b.x>v b.y+b.c)
  (par:∀x i,p x=some i->∃b,B[i]?=some b/\b.x=x/\v b.y+b.c<=v x) :
  ∀k x,HS B (Cy p b.x (some i)) k x->v (it B (Cy p b.x (some i)) k x)+sm B (Cy p b.x (some i)) k x<=v x/\
   ((it B (Cy p b.x (some i)) k x=it B p k x/\sm B (Cy p b.x (some i)) k x=sm B p k x/\HS B p k x)\/v (it B (Cy p b.x (some i)) k x)+sm B (Cy p b.x (some i)) k x<v x):=by
 intro k;induction k with
 |zero=>intro x _;exact⟨by simp[it,sm],.inl ⟨rfl,rfl,λj hj=>by lia⟩⟩
 |
  succ k ih=>
  intro x ha;obtain⟨l,hl⟩:=ha 0 (by lia);change Cy p b.x (some i) x=some l at hl;have ha':=ha.tail;by_cases hx:x=b.x
  .have e:pb B (Cy p b.x (some i)) x=b:=FA (by rw[hx];exact E2) hb;simp only[it,sm];rw[e]at ha' ⊢;obtain⟨h1,_⟩:=ih _ ha';subst hx;exact⟨by lia,.inr (by lia)⟩
  .have hp:Cy p b.x (some i) x=p x:=Ep hx;rw[hp]at hl;obtain⟨b',hb',hx',hv⟩:=par _ _ hl;have e:pb B (Cy p b.x (some i)) x=b':=FA (by rw[hp];exact hl) hb';have e2:pb B p x=b':=FA hl hb';simp only[it,sm];rw[e]at ha' ⊢;rw[e2];obtain⟨h1,h2⟩:=ih _ ha';refine⟨by lia,?_⟩;rcases h2 with⟨h2,h3,h4⟩|h2
   .refine .inl ⟨h2,by rw[h3],λj hj=>?_⟩;cases j with
    |zero=>exact⟨_,hl⟩
    |
     succ j=>
     show ∃i,p (it B p j (pb B p x).y)=some i;rw[e2];exact h4 j (by lia)
   .exact .inr (by lia)
theorem A5.step {B:List Bond}{r j:Nat}{s:Sv}{last:Nat->Nat}(h:A5 B r j s last){b:Bond}(hb:B[j]?=some b):∃last',A5 B r (j+1) (IU j b s) last':=by
 unfold IU;by_cases c:s.v b.x>s.v b.y+b.c
 .rw[Ay c];have hy:r<=last b.y+1:=by
   rcases h.ok2 j (Ah _) b hb with g|g
   .lia
   .exact g
  have hv:∀x,Cy s.v b.x (s.v b.y+b.c) x<=s.v x:=λx=>by
   by_cases e:x=b.x
   .rw[e,E2];lia
   .rw[Ep e];exact Jk _
  have hl:∀x,last x<=Cy last b.x r x:=λx=>by
   by_cases e:x=b.x
   .rw[e,E2];exact h.le _
   .rw[Ep e];exact Ah _
  refine⟨Cy last b.x r,⟨λx=>?_,λx i e=>?_,λx e=>?_,λk hk b' hb'=>?_,λk hk b' hb'=>?_,λk x ha e=>?_,λe=>?_,λx e=>?_⟩⟩
  .by_cases e:x=b.x
   .rw[e,E2];exact Ah _
   .rw[Ep e];exact h.le _
  .by_cases ex:x=b.x
   .subst ex;simp only[]at e ⊢;rw[E2]at e;cases e;refine⟨b,hb,rfl,?_,?_⟩
    .rw[E2];by_cases ey:b.y=b.x
     .rw[ey,E2];rw[ey]at c;lia
     .rw[Ep ey];exact Jk _
    .rw[E2];have:=hl b.y;lia
   .simp only[]at e ⊢;rw[Ep ex]at e;obtain⟨b',g1,g2,g3,g4⟩:=h.par x i e;refine⟨b',g1,g2,?_,?_⟩
    .rw[Ep ex];have:=hv b'.y;lia
    .rw[Ep ex];have:=hl b'.y;lia
  .simp only[];by_cases ex:x=b.x
   .rw[ex,E2];exact⟨_,rfl⟩
   .rw[Ep ex]at e ⊢;exact h.has x e
  .simp only[];by_cases ey:b'.y=b.x
   .right;rw[ey,E2];exact Ah _
   .by_cases ek:k=j
    .subst ek;rw[hb]at hb';cases hb';left;rw[E2,Ep ey];exact Jk _
    .rcases h.ok1 k (by lia) b' hb' with g|g
     .left;rw[Ep ey];have:=hv b'.x;lia
     .right;have:=hl b'.y;lia
  .simp only[];by_cases ey:b'.y=b.x
   .right;rw[ey,E2];lia
   .rcases h.ok2 k (by lia) b' hb' with g|g
    .left;rw[Ep ey];have:=hv b'.x;lia
    .right;have:=hl b'.y;lia
  .have:=Ul hb c (λx i e=>by obtain⟨b',g1,g2,g3,_⟩:=h.par x i e;exact⟨b',g1,g2,g3⟩) (k+1) x ha;simp only[]at e ⊢;rw[e]at this;obtain⟨_,⟨g1,g2,g3⟩|g⟩:=this
   .rw[g2];exact h.neg k x g3 g1.symm
   .lia
  .cases e
  .cases e;exact E2
 .rw[AB c];refine⟨last,h.le,h.par,h.has,λk hk b' hb'=>?_,λk hk=>h.ok2 k (by lia),h.neg,h.lowN,h.lowS⟩;by_cases ek:k=j
  .subst ek;rw[hb]at hb';cases hb';left;lia
  .exact h.ok1 k (by lia) b' hb'
theorem A5.rnd {B:List Bond}{r:Nat}{s:Sv}{last:Nat->Nat}(h:A5 B r 0 s last):∀k,k<=B.length->∃last',A5 B r k (Bd.rnd B k s) last'
 |0,_=>⟨last,h⟩
 |
  k+1,hk=>by
  obtain⟨l1,h1⟩:=A5.rnd h k (by lia);have e:B[k]?=some B[k]:=AE (by lia);unfold Bd.rnd;rw[e];exact h1.step e
theorem A5.next {B:List Bond}{r:Nat}{s:Sv}{last:Nat->Nat}(h:A5 B r B.length s last):A5 B (r+1) 0 {s with low:=none} last:=
 ⟨λx=>by have:=h.le x;lia,h.par,h.has,λk hk=>by lia,λk _ b hb=>by
  have:=h.ok1 k (Aw.mp hb).1 b hb;rcases this with g|g
  .exact .inl g
  .right;lia,h.neg,λ_ x=>by have:=h.le x;lia,λx e=>by cases e⟩
theorem A5.start (B:List Bond):A5 B 1 0 {st0 with low:=none} (λ_=>0):=
 ⟨λ_=>Bh _,λx i e=>(by cases e),λx e=>(by lia),λk hk b hb=>(by lia),λk hk b hb=>.inr (Ah _),λk x ha=>(by obtain⟨i,hi⟩:=ha 0 (by lia);cases hi),λ_ x=>Ah _,λx e=>(by cases e)⟩
theorem A5.holds {B:List Bond}{r:Nat}{s:Sv}{last:Nat->Nat}(h:A5 B r B.length s last)(e:s.low=none):∀b∈B,s.v b.x<=s.v b.y+b.c:=λb hb=>by
 obtain⟨k,hk,rfl⟩:=OC.mp hb;rcases h.ok1 k hk _ (AE hk) with g|g
 .exact g
 .have:=h.lowN e B[k].y;lia
theorem Pz {B:List Bond}:∀{k r:Nat} {s:Sv} {last:Nat->Nat},A5 B r 0 {s with low:=none} last->∀{s'},go B k s = .inl s'->∀b∈B,s'.v b.x<=s'.v b.y+b.c
 |0,r,s,last,h,s',e=>by cases e
 |
  k+1,r,s,last,h,s',e=>by
  obtain⟨l1,h1⟩:=h.rnd B.length (Ah _);change A5 B r B.length (D9 B s) l1 at h1;unfold go at e;split at e
  .rename_i c;cases e;exact h1.holds c
  .exact Pz h1.next e
theorem QN {B:List Bond}:∀{k r:Nat} {s:Sv} {last:Nat->Nat},A5 B r 0 {s with low:=none} last->∀{s'},go B (k+1) s = .inr s'->∃last x,A5 B (r+k) B.length s' last/\s'.low=some x
 |
  k,r,s,last,h,s',e=>by
  obtain⟨l1,h1⟩:=h.rnd B.length (Ah _);change A5 B r B.length (D9 B s) l1 at h1;unfold go at e;split at e
  .cases e
  .rename_i x c;cases k with
   |zero=>cases e;exact⟨l1,x,h1,c⟩
   |
    succ k=>
    obtain⟨l2,x2,g1,g2⟩:=QN (k:=k) h1.next e;exact⟨l2,x2,by rw[show r+(k+1)=r+1+k by lia];exact g1,g2⟩
theorem nodup_le {α:Type}[DecidableEq α]:∀{l k:List α},l.Nodup->(∀x∈l,x∈k)->l.length<=k.length
 |[],_,_,_=>Bh _
 |
  a::l,k,hn,hs=>by
  have ha:=hs a C7;have h2:=Jj.mp hn;have:=nodup_le (l:=l) (k:=k.erase a) h2.2 λx hx=>(List.mem_erase_of_ne (show x≠a from λe=>h2.1 (by rw[←e];exact hx))).mpr (hs x (Ce _ hx));rw[List.length_erase_of_mem ha]at this;have:0<k.length:=List.length_pos_of_mem ha;simp only[Bz];lia
theorem WY {n:Nat}{u:Nat->Nat}(h:∀i,i<=n->u i<n):∃i j,i<j/\j<=n/\u i=u j:=by
 apply Classical.byContradiction;intro c;have hn:((List.range (n+1)).map u).Nodup:=by
  rw[List.nodup_iff_pairwise_ne,SQ];refine(SR (n:=n+1)).imp_of_mem fun{i j} hi hj hij e=>c ⟨i,j,hij,?_,e⟩;have:=DA.mp hj;lia
 have:=nodup_le hn (k:=List.range n) λx hx=>by
  obtain⟨i,hi,rfl⟩:=Dl.mp hx;have:=DA.mp hi;exact DA.mpr (h i (by lia))
 simp at this;lia
theorem least {P:Nat->Prop}:∀n,P n->∃m,m<=n/\P m/\∀k<m,¬P k:=by
 intro n;induction n using Nat.strongRecOn with
 |
  ind n ih=>
  intro h;by_cases c:∃k,k<n/\P k
  .obtain⟨k,hk,pk⟩:=c;obtain⟨m,h1,h2,h3⟩:=ih k hk pk;exact⟨m,by lia,h2,h3⟩
  .exact⟨n,Ah _,h,λk hk pk=>c ⟨k,hk,pk⟩⟩
structure He (n:Nat)(B:List Bond)(p:Nat->Option Nat)(x0 m:Nat):Prop where
 walk:∀j<n,∃i b,p (it B p j x0)=some i/\B[i]?=some b/\b.x=it B p j x0
 lt:∀k,k<=n->it B p k x0<n
 pos:0<m
 le:m<=n
 back:it B p m (it B p n x0)=it B p n x0
 least:∀k,0<k->k<m->it B p k (it B p n x0)≠it B p n x0
 alive:∀k,∃i b,p (it B p k (it B p n x0))=some i/\B[i]?=some b/\b.x=it B p k (it B p n x0)
 neg:sm B p m (it B p n x0)<0
theorem A5.ring {B:List Bond}{n:Nat}{s:Sv}{last:Nat->Nat}{x0:Nat}(hn:0<n)(h:A5 B n B.length s last)(e:s.low=some x0)(hB:∀b∈B,b.x<n/\b.y<n):∃m,He n B s.p x0 m:=by
 have hl:∀k,k<=n->n<=last (it B s.p k x0)+k:=by
  intro k;induction k with
  |zero=>intro _;have:=h.lowS _ e;show n<=last x0+0;lia
  |
   succ k ih=>
   intro hk;have:=ih (by lia);obtain⟨i,hi⟩:=h.has (it B s.p k x0) (by lia);obtain⟨b,g1,g2,g3,g4⟩:=h.par _ _ hi;rw[Ie,FA hi g1];lia
 have hw:HS B s.p n x0:=λj hj=>h.has _ (by have:=hl j (by lia);lia);have hstep:∀x i,s.p x=some i->x<n/\it B s.p 1 x<n:=λx i hi=>by
  obtain⟨b,g1,g2,_⟩:=h.par x i hi;have:=hB b (B0 g1);show x<n/\(pb B s.p x).y<n;rw[FA hi g1];exact⟨g2▸this.1,this.2⟩
 have hlt:∀k,k<=n->it B s.p k x0<n:=λk hk=>by
  by_cases c:k<n
  .obtain⟨i,hi⟩:=hw k c;exact(hstep _ _ hi).1
  .obtain⟨i,hi⟩:=hw (n-1) (by lia);have:=(hstep _ _ hi).2;rw[show k=(n-1)+1 by lia,EK];exact this
 obtain⟨i,j,hij,hj,eij⟩:=WY (u:=λk=>it B s.p k x0) hlt;change it B s.p i x0=it B s.p j x0 at eij;have hper:it B s.p (j-i) (it B s.p n x0)=it B s.p n x0:=by
  have e1:it B s.p n x0=it B s.p (n-i) (it B s.p i x0):=by rw[←EK];congr 1;lia
  rw[e1,←EK,Ii,EK];congr 1;rw[←EK,show i+(j-i)=j by lia,eij]
 obtain⟨m,hm1,⟨hm2,hm3⟩,hm4⟩:=least (P:=λm=>0<m/\it B s.p m (it B s.p n x0)=it B s.p n x0) (j-i) ⟨by lia,hper⟩;have hP:∀q,it B s.p (q*(j-i)) (it B s.p n x0)=it B s.p n x0:=λq=>by
  induction q with
  |zero=>rw[Nat.zero_mul];rfl
  |succ q ih=>rw[Mx,EK,ih];exact hper
 have hback:it B s.p n x0=it B s.p (n-(j-i)) x0:=by
  have e1:it B s.p n x0=it B s.p (n-j) (it B s.p j x0):=by rw[←EK];congr 1;lia
  rw[e1,←eij,←EK];congr 1;lia
 have hat:∀k,∃l,l<n/\it B s.p k (it B s.p n x0)=it B s.p l x0:=λk=>by
  have hp:0<j-i:=by lia
  have hm:=Nat.mod_lt k hp;refine⟨n-(j-i)+k%(j-i),by lia,?_⟩;have e1:it B s.p k (it B s.p n x0)=it B s.p (k%(j-i)) (it B s.p n x0):=by
   have:=Nat.div_add_mod k (j-i)
   conv=>lhs;rw[←this,Nat.mul_comm,EK,hP]
  rw[e1,hback,←EK]
 have hal:∀k,∃i b,s.p (it B s.p k (it B s.p n x0))=some i/\B[i]?=some b/\b.x=it B s.p k (it B s.p n x0):=λk=>by
  obtain⟨l,hl1,hl2⟩:=hat k;obtain⟨i,hi⟩:=hw l hl1;rw[hl2];obtain⟨b,g1,g2,_⟩:=h.par _ _ hi;exact⟨i,b,hi,g1,g2⟩
 refine⟨m,λj hj=>(by obtain⟨i,hi⟩:=hw j hj;obtain⟨b,g1,g2,_⟩:=h.par _ _ hi;exact⟨i,b,hi,g1,g2⟩),hlt,hm2,by lia,hm3,λk k1 k2 e=>hm4 k k2 ⟨k1,e⟩,hal,?_⟩;obtain⟨m',rfl⟩:∃m',m=m'+1:=⟨m-1,by lia⟩
 exact h.neg m' _ (λj _=>by obtain⟨i,b,g,_⟩:=hal j;exact⟨i,g⟩) hm3
def DW (B:List Bond)(p:Nat->Option Nat)(s m:Nat):List Nat:=(List.range m).map λk=>(p (it B p k s)).getD 0
def K2 (B:List Bond)(p:Nat->Option Nat)(s:Nat):Nat->Nat->List Nat
 |0,_=>[]
 |f+1,x=>if x=s then[] else(p x).getD 0::K2 B p s f (pb B p x).y
theorem Pd {B:List Bond}{p:Nat->Option Nat}{s m:Nat}(hb:it B p m s=s)(hl:∀k,0<k->k<m->it B p k s≠s):∀(f j:Nat),0<j->j<=m->m-j<=f->K2 B p s f (it B p j s)=(List.range (m-j)).map λk=>(p (it B p (j+k) s)).getD 0
 |0,j,h0,h1,h2=>by rw[show m-j=0 by lia];rfl
 |
  f+1,j,h0,h1,h2=>by
  unfold K2;by_cases c:j=m
  .subst c;rw[Ay hb,DO];rfl
  .rw[AB (hl j h0 (by lia)),←Ie,Pd hb hl f (j+1) (by lia) (by lia) (by lia)];rw[show m-j=(m-(j+1))+1 by lia,SS,Cf,GQ,OE];congr 1;refine OF λk _=>?_;show(p (it B p (j+1+k) s)).getD 0=(p (it B p (j+(k+1)) s)).getD 0;rw[show j+1+k=j+(k+1) by lia]
def bd0:Bond:=⟨0,0,0⟩
def sumC (B:List Bond):List Nat->Int
 |[]=>0
 |i::R=>(B.getD i bd0).c+sumC B R
theorem VP (B:List Bond)(R S:List Nat):sumC B (R++S)=sumC B R+sumC B S:=by
 induction R with
 |nil=>simp[sumC]
 |cons i R ih=>rw[List.cons_append,sumC,sumC,ih];lia
def WF (n:Nat)(B:List Bond):Prop := ∀b∈B,b.x<n/\b.y<n
def Holds (f:Nat->Int)(B:List Bond):Prop := ∀b∈B,f b.x-f b.y<=b.c
structure RingOk (B:List Bond)(R:List Nat)(u:Nat->Nat):Prop where
 pos:0<R.length
 nd:R.Nodup
 bond:∀k i,R[k]?=some i->∃b,B[i]?=some b/\b.x=u k/\b.y=u (k+1)
 back:u R.length=u 0
 neg:sumC B R<0
def ringOf (n:Nat)(B:List Bond)(s:Sv):List Nat:=
 (s.p (it B s.p n (s.low.getD 0))).getD 0::K2 B s.p (it B s.p n (s.low.getD 0)) n (pb B s.p (it B s.p n (s.low.getD 0))).y
theorem Sw {B:List Bond}{p:Nat->Option Nat}{e:Nat}(h:∀k,∃i b,p (it B p k e)=some i/\B[i]?=some b/\b.x=it B p k e):∀m,sumC B (DW B p e m)=sm B p m e
 |0=>rfl
 |
  m+1=>by
  have ih:=Sw h m;obtain⟨i,b,h1,h2,h3⟩:=h m;unfold DW at ih ⊢;rw[GR,Bv,VP,ih,aB,FA h1 h2];show _+(sumC B [(p (it B p m e)).getD 0])=_;rw[h1];show _+((B.getD i bd0).c+0)=_;rw[Bj,h2];simp
theorem He.eq {n:Nat}{B:List Bond}{s:Sv}{x0 m:Nat}(r:He n B s.p x0 m)(e:s.low=some x0):ringOf n B s=DW B s.p (it B s.p n x0) m:=by
 unfold ringOf;rw[e];simp only[SU];have:=Pd r.back r.least n 1 (by lia) r.pos (by have:=r.le;lia);rw[Ie]at this;change K2 B s.p (it B s.p n x0) n (pb B s.p (it B s.p n x0)).y=_ at this;rw[this];unfold DW;obtain⟨m',hm⟩:∃m',m=m'+1:=⟨m-1,by have:=r.pos;lia⟩
 subst hm;rw[SS,Cf,GQ];congr 1;refine OF λk _=>?_;show _=(s.p (it B s.p (k+1) (it B s.p n x0))).getD 0;rw[Ii 1 k]
theorem He.ok {n:Nat}{B:List Bond}{s:Sv}{x0 m:Nat}(r:He n B s.p x0 m)(e:s.low=some x0):RingOk B (ringOf n B s) (λk=>it B s.p k (it B s.p n x0)):=by
 rw[r.eq e];have hlen:(DW B s.p (it B s.p n x0) m).length=m:=by unfold DW;rw[Af,C8]
 refine⟨by rw[hlen];exact r.pos,?_,λk i hk=>?_,?_,?_⟩
 .unfold DW;rw[List.nodup_iff_pairwise_ne,SQ];refine(SR (n:=m)).imp_of_mem fun{i j} hi hj hij ee=>?_;have hi:=DA.mp hi;have hj:=DA.mp hj;obtain⟨i1,b1,g1,g2,g3⟩:=r.alive i;obtain⟨i2,b2,k1,k2,k3⟩:=r.alive j;rw[g1,k1]at ee;simp only[SU]at ee;subst ee;rw[g2]at k2;cases k2;have hij2:it B s.p i (it B s.p n x0)=it B s.p j (it B s.p n x0):=g3.symm.trans k3;have:it B s.p (m-j+i) (it B s.p n x0)=it B s.p n x0:=by
   rw[Ii,EK,hij2,←EK,show j+(m-j)=m by lia];exact r.back
  exact r.least (m-j+i) (by lia) (by lia) this
 .unfold DW at hk;rw[Bf]at hk;have hlt:k<m:=by
   cases c:(List.range m)[k]? with
   |none=>rw[c]at hk;cases hk
   |some z=>have:=(Aw.mp c).1;simpa using this
  rw[Fi hlt]at hk;obtain⟨i1,b1,g1,g2,g3⟩:=r.alive k;simp only[SV,g1,SU,Option.some.injEq]at hk;subst hk;refine⟨b1,g2,g3,?_⟩;show b1.y=it B s.p (k+1) (it B s.p n x0);rw[Ie,FA g1 g2]
 .rw[hlen];exact r.back
 .rw[Sw r.alive];exact r.neg
theorem go_ok {n:Nat}{B:List Bond}(hn:0<n)(w:WF n B):(∃s,go B n st0 = .inl s/\Holds (λi=>s.v i-s.v 0) B)\/∃s x0 m,go B n st0 = .inr s/\s.low=some x0/\He n B s.p x0 m:=by
 cases c:go B n st0 with
 |
  inl s=>
  refine .inl ⟨s,rfl,λb hb=>?_⟩;have:=Pz (A5.start B) c b hb;simp only[];lia
 |
  inr s=>
  obtain⟨k,rfl⟩:∃k,n=k+1:=⟨n-1,by lia⟩
  obtain⟨last,x,h1,h2⟩:=QN (A5.start B) c;rw[Ii]at h1;obtain⟨m,hm⟩:=h1.ring hn h2 w;exact .inr ⟨s,x,m,rfl,h2,hm⟩
end Bd
namespace L2
open PySem PySem.Spec PyProof.Rows Bd
section
variable {es:List Expr}{env:Env}{p:Pos}
theorem B3 {c:Const}{n:Nat}:starEach (.Constant c n p::es) env=(false,eval (.Constant c n p) env)::starEach es env:=rfl
theorem Bg {x:Str}:starEach (.Name x p::es) env=(false,eval (.Name x p) env)::starEach es env:=rfl
theorem Ek {a b:Expr}{o:Operator}:starEach (.BinOp a o b p::es) env=(false,eval (.BinOp a o b p) env)::starEach es env:=rfl
theorem E5 {f:Expr}{as:List Expr}{ks:List Keyword}:starEach (.Call f as ks p::es) env=(false,eval (.Call f as ks p) env)::starEach es env:=rfl
theorem DR {a b:Expr}:starEach (.Subscript a b p::es) env=(false,eval (.Subscript a b p) env)::starEach es env:=rfl
theorem Jz {o:UnaryOp}{a:Expr}:starEach (.UnaryOp o a p::es) env=(false,eval (.UnaryOp o a p) env)::starEach es env:=rfl
theorem RO {a:Expr}{x:Str}:starEach (.Attribute a x p::es) env=(false,eval (.Attribute a x p) env)::starEach es env:=rfl
end
@[irreducible] def FQ (X:Cx) (es:List Expr) (t:TA):Prop:=PA X es t
section
variable {X:Cx}{e:Expr}{es:List Expr}{te:TE}{t:TA}{pos:Pos}
theorem BG:FQ X [] HP:=by unfold FQ;exact A2
theorem Ac (ha:PE X e te)(hr:FQ X es t)(hs:starEach (e::es) X.env=(false,eval e X.env)::starEach es X.env):FQ X (e::es) (KU te t):=by unfold FQ at *;exact A0 ha hr hs
theorem RI (h:FQ X es t):PE X (.List es pos) (P6 t):=by unfold FQ at h;exact BO h
theorem BJ {x1:Nat}(h:FQ X es t):PE X (.Tuple es x1 pos) (Ss t):=by unfold FQ at h;exact BX h
end
def Kg:Option Nat->V
 |none=>.non
 |some i=>.int (i:Int)
def rl (n:Nat)(f:Nat->V):List V:=(List.range n).map f
def vl (n:Nat)(f:Nat->Int):List V:=rl n λi=>.int (f i)
def pl (n:Nat)(p:Nat->Option Nat):List V:=rl n λi=>Kg (p i)
theorem J4 (n:Nat)(f:Nat->V):(rl n f).length=n:=by unfold rl;rw[Af,C8]
theorem JG (n:Nat)(f:Nat->Int):(vl n f).length=n:=J4 _ _
theorem Zx (n:Nat)(f:Nat->Option Nat):(pl n f).length=n:=J4 _ _
theorem Ld {n x:Nat}{f:Nat->V}(h:x<n):(rl n f)[x]?=some (f x):=by unfold rl;rw[Bf,Fi h];rfl
theorem P2 {n x:Nat}{f:Nat->V}(h:x<n):B1 (rl n f) (x:Int)=some (f x):=BA (Ld h)
theorem Nj {n x:Nat}{f:Nat->Int}(h:x<n):B1 (vl n f) (x:Int)=some (.int (f x)):=P2 h
theorem Nx {n x:Nat}{f:Nat->Option Nat}(h:x<n):B1 (pl n f) (x:Int)=some (Kg (f x)):=P2 h
theorem Pf {n x:Nat}(h:x<n):DJ n (x:Int)=some x:=by
 unfold DJ;rw[Ay (by lia),Ay (by lia)];rfl
theorem RA {n x:Nat}{f:Nat->V}{a:V}:(rl n f).set x a=rl n (Cy f x a):=by
 refine List.ext_getElem? λk=>?_;rw[List.getElem?_set];by_cases hk:k<n
 .rw[Ld hk,Ld hk,J4];by_cases e:x=k
  .subst e;rw[Ay rfl,Ay hk,E2]
  .rw[AB e,Ep (Ne.symm e)]
 .have h1:(rl n f)[k]?=none:=SN (by rw[J4];lia);have h2:(rl n (Cy f x a))[k]?=none:=SN (by rw[J4];lia);rw[h1,h2,J4];by_cases e:x=k
  .subst e;rw[Ay rfl,AB hk]
  .rw[AB e]
theorem VA {n x:Nat}{f:Nat->Int}{a:Int}:(vl n f).set x (.int a)=vl n (Cy f x a):=by
 unfold vl;rw[RA];congr 1
 funext j
 unfold Cy;split<;>rfl
theorem aH {n x:Nat}{f:Nat->Option Nat}{a:Nat}:(pl n f).set x (.int (a:Int))=pl n (Cy f x (some a)):=by
 unfold pl;rw[RA];congr 1
 funext j
 unfold Cy;split<;>rfl
theorem Qx (n:Nat)(a:V):(List.replicate n [a]).flatten=rl n λ_=>a:=by
 unfold rl;induction n with
 |zero=>rfl
 |succ n ih=>rw[SW,List.flatten_concat,ih,GR,Bv];rfl
theorem WB {L:List Int}{i:Int}(h0:0<=i)(h1:i<(L.length:Int)):∃z∈L,B1 (L.map V.int) i=some (.int z):=by
 have e:L[i.toNat]?=some L[i.toNat]:=AE (by lia);refine⟨L[i.toNat],Fh _,?_⟩;have h:B1 (L.map V.int) ((i.toNat:Nat):Int)=some (.int L[i.toNat]):=BA (by rw[Bf,e];rfl)
 rwa [OG h0]at h
theorem NG {L:List Int}{i:Int}(n:Nat)(hn:L.length=n)(h0:0<=i)(h1:i<(n:Int)):∃z∈L,B1 (L.map V.int) i=some (.int z):=WB h0 (by rw[hn];exact h1)
theorem JX {c:TT}{tb:TS}{D:Do}{σ:St}{H:Hp}(k:Nat)(Pv:Nat->St->Hp->Prop)(h0:Pv 0 σ H)
  (hs:∀i σ H,i<=k->Pv i σ H->c σ H λb H1=>if b=true then i<k/\tb {D with nx:=Pv (i+1),ct:=Pv (i+1),bk:=D.nx} σ H1 else D.nx σ H1)
  (mono:∀σ H Q Q',(∀b H1,Q b H1->Q' b H1)->c σ H Q->c σ H Q'):O5 c tb D σ H:=by
 refine⟨λm σ H=>∃i,i<=k/\m=k-i/\Pv i σ H,⟨_,0,Bh _,rfl,h0⟩,?_⟩;rintro m σ H ⟨i,hi,rfl,p⟩;refine mono σ H _ _ (λb H1 q=>?_) (hs i σ H hi p);cases b with
 |true=>exact⟨Pv (i+1),fun σ' H' p'=>⟨k-(i+1),by have:=q.1;lia,i+1,by have:=q.1;lia,rfl,p'⟩,q.2⟩
 |false=>exact q
def D0 (R:List Nat):List V:=(R.map λi=>((i:Nat):Int)).map V.int
theorem Ly (R:List Nat):(D0 R).length=R.length:=by unfold D0;rw[Af,Af]
theorem VR {R:List Nat}{k i:Nat}(h:R[k]?=some i):(D0 R)[k]?=some (.int (i:Int)):=by unfold D0;rw[Bf,Bf,h];rfl
theorem ak (R:List Nat)(i:Nat):D0 R++[.int (i:Int)]=D0 (R++[i]):=by unfold D0;rw[Bv,Bv];rfl
def KQ (H:Hp)(v:V)(b:Bond):Prop := ∃t,v = .ref t/\H t=some (.tup [.int (b.x:Int),.int (b.y:Int),.int b.c])
def IC (H:Hp)(vs:List V)(B:List Bond):Prop:=vs.length=B.length/\∀(i:Nat) (v:V) (b:Bond),vs[i]?=some v->B[i]?=some b->KQ H v b
def Hf (H:Hp)(l:Addr)(B:List Bond):Prop := ∃vs,H l=some (.lst vs)/\IC H vs B
theorem KQ.over {H H':Hp}{v:V}{b:Bond}(h:KQ H v b)(e:A8 H H'):KQ H' v b:=by
 obtain⟨t,h1,h2⟩:=h;exact⟨t,h1,e _ _ h2⟩
theorem IC.over {H H':Hp}{vs:List V}{B:List Bond}(h:IC H vs B)(e:A8 H H'):IC H' vs B:=⟨h.1,λi v b x y=>(h.2 i v b x y).over e⟩
theorem Hf.over {H H':Hp}{l:Addr}{B:List Bond}(h:Hf H l B)(e:A8 H H'):Hf H' l B:=by
 obtain⟨vs,h1,h2⟩:=h;exact⟨vs,e _ _ h1,h2.over e⟩
def NM (H H':Hp)(v l:Addr):Prop := ∀a o,H a=some o->a≠v->a≠l->H' a=some o
def FC (n:Nat)(B:List Bond):V×List V:=match go B n st0 with
 |.inl s=>(.str "values",vl n λi=>s.v i-s.v 0)
 |.inr s=>(.str "ring",D0 (ringOf n B s))
theorem IC.get {H:Hp}{vs:List V}{B:List Bond}(h:IC H vs B){i:Nat}{b:Bond}(hb:B[i]?=some b):∃t,B1 vs (i:Int)=some (.ref t)/\H t=some (.tup [.int (b.x:Int),.int (b.y:Int),.int b.c]):=by
 have hi:i<vs.length:=by rw[h.1];exact(Aw.mp hb).1
 obtain⟨t,e,ht⟩:=h.2 i vs[i] b (AE hi) hb;exact⟨t,(BA (AE hi)).trans (by rw[e]),ht⟩
theorem bu (i:Nat)(f:Nat->Int):vl (i+1) f=vl i f++[.int (f i)]:=by unfold vl rl;rw[GR,Bv];rfl
theorem VY (n:Nat)(f:Nat->Int):vl n f=((List.range n).map f).map V.int:=by unfold vl rl;rw[GQ];rfl
def Zf:Sp:=λvs H Q _=>∃(b v l:Addr) (B:List Bond) (n:Nat) (s:Sv),vs=[.ref b,.ref v,.ref l]/\b≠v/\b≠l/\v≠l/\Hf H b B/\WF n B/\H v=some (.lst (vl n s.v))/\H l=some (.lst (pl n s.p))/\
 ∀H',NM H H' v l->H' v=some (.lst (vl n (D9 B s).v))->H' l=some (.lst (pl n (D9 B s).p))->Q (Kg (D9 B s).low) H'
def VQ:Sp:=λvs H Q _=>∃(n:Nat) (b l:Addr) (B:List Bond) (s:Sv) (x0 m:Nat),vs=[.int (n:Int),.ref b,.ref l,.int (x0:Int)]/\Hf H b B/\B.length<=1000/\n<=1000/\H l=some (.lst (pl n s.p))/\s.low=some x0/\He n B s.p x0 m/\WF n B/\
 ∀(r:Addr) (H':Hp),A8 H H'->H r=none->H' r=some (.lst (D0 (ringOf n B s)))->Q (.ref r) H'
def ZE:Sp:=λvs H Q _=>∃(n:Nat) (b:Addr) (B:List Bond),vs=[.int (n:Int),.ref b]/\Hf H b B/\WF n B/\0<n/\n<=1000/\B.length<=1000/\
 ∀(t l:Addr) (H':Hp),A8 H H'->H l=none->H' t=some (.tup [(FC n B).1,.ref l])->H' l=some (.lst (FC n B).2)->Q (.ref t) H'
end L2
namespace Bd
end Bd
namespace L2
open PySem PySem.Spec PyProof.Rows
section
open Bd
theorem Pu {tt:TT}{ta tb:TS}{D:Do}{σ:St}{H:Hp}(M:Hp->Prop)(ha:∀H',M H'->ta D σ H')(h:(∀H',M H'->ta D σ H')->GE tt ta tb D σ H):GE tt ta tb D σ H:=h ha
theorem S5:∀{ns:List Int} {its:List Value},Au (ns.map V.int) its->IntsAre its ns
 |[],_,.nil=>.nil
 |n::ns,_,.cons ⟨t,h⟩ r=>by subst h;exact .cons n t (S5 r)
end
section
open Bd
end
def Oo (C:Addr)(fs:List Str):Sp:=λas H Q _=>∃(x dx:Addr) (vs:List V),as = .ref x::vs/\vs.length=fs.length/\H x=some (.ins C dx [])/\∀H',(∀b o,H b=some o->b≠x->H' b=some o)->(∃dx,H' x=some (.ins C dx (fs.zip vs)))->Q .non H'
structure Cs where
 n:Addr
 v:Addr
 c:Addr
 j:Addr
def Qd:Sp:=λvs H Q _=>∃x:V,vs=[x]/\∀(r:Addr) (H':Hp),A8 H H'->H' r=some (.lst [])->Q (.ref r) H'
def Sl (C:Addr):Sp:=λvs H Q _=>∃(x dx:Addr) (z:Str) (v:V),vs=[.ref x]/\H x=some (.ins C dx [("table",.str z),("spots",v)])/\∀(t r:Addr) (H':Hp),A8 H H'->H' t=some (.tup [.str z,v])->H' r=some (.lst [.ref t])->Q (.ref r) H'
theorem A3.updI {K:Faa}{H:Hp}{p x C dx:Addr}{fs:List (Str×V)}{ys:List V}{o:HO}(h:A3 K H p ys)(hx:H x=some (.ins C dx fs)):A3 K (upd H x o) p ys:=by
 rcases h with(h|⟨ob,h⟩)|h
 .refine .inl (.inl ?_);rw[Ag (λe=>by rw[e,hx]at h;cases h)];exact h
 .refine .inl (.inr ⟨ob,?_⟩);rw[Ag (λe=>by rw[e,hx]at h;cases h)];exact h
 .exact .inr h
def Xy (K:Faa)(C:Addr):Sp:=λvs H Q _=>∃(x dx:Addr) (sz:V) (p:Addr) (ys:List V),vs=[.ref x,sz,.ref p]/\H x=some (.ins C dx [])/\A3 K H p ys/\∀(l:Addr) (H':Hp),H l=none->(∀b o,H b=some o->b≠x->H' b=some o)->H' l=some (.lst ys)->(∃dx,H' x=some (.ins C dx [("size",sz),("deeds",.ref l)]))->Q .non H'
end L2
namespace PySem
open Builtin
open AutoSeq1 (wpAny_loadPart')
end PySem
namespace L2
open PySem PySem.Spec PyProof.Rows
section
variable {X:Cx}
end
section
open Bd
abbrev CS:=List (Str×Addr)
inductive CK (c:Cs)(H:Hp):Nat->V->CS->Prop
 |num {x dx:Addr} (i:Int):H x=some (.ins c.n dx [("n",.int i)])->CK c H 1 (.ref x) []
 |val {x dx:Addr} (z:Str):H x=some (.ins c.v dx [("name",.str z)])->CK c H 1 (.ref x) []
 |cel {x dx p:Addr} (z:Str):H x=some (.ins c.c dx [("table",.str z),("spots",.ref p)])->CK c H 1 (.ref x) [(z,p)]
 |joi {x dx:Addr} {l r:V} {m n:Nat} {rs us:CS} (z:Str):H x=some (.ins c.j dx [("sign",.str z),("left",l),("right",r)])->CK c H m l rs->CK c H n r us->CK c H (m+n) (.ref x) (rs++us)
theorem CK.over {c:Cs}{H H':Hp}(e:A8 H H'){n:Nat}{x:V}{rs:CS}(h:CK c H n x rs):CK c H' n x rs:=by
 induction h with
 |num i h=>exact .num i (e _ _ h)
 |val z h=>exact .val z (e _ _ h)
 |cel z h=>exact .cel z (e _ _ h)
 |joi z h _ _ a b=>exact .joi z (e _ _ h) a b
theorem CK.pos {c:Cs}{H:Hp}{n:Nat}{x:V}{rs:CS}(h:CK c H n x rs):1<=n/\rs.length<=n:=by
 induction h with
 |num i h=>exact⟨Ah _,Bh _⟩
 |val z h=>exact⟨Ah _,Bh _⟩
 |cel z h=>exact⟨Ah _,Ah _⟩
 |joi z h _ _ a b=>exact⟨by lia,by rw[Ai];lia⟩
def DN (H:Hp)(f:Str×Addr->List V)(ys:List V)(rs:CS):Prop:=ys.length=rs.length/\∀(i:Nat) (y:V) (r:Str×Addr),ys[i]?=some y->rs[i]?=some r->∃t,y = .ref t/\H t=some (.tup (f r))
theorem DN.over {H H':Hp}{f:Str×Addr->List V}{ys:List V}{rs:CS}(h:DN H f ys rs)(e:A8 H H'):DN H' f ys rs:=⟨h.1,λi y r a b=>by obtain⟨t,x,z⟩:=h.2 i y r a b;exact⟨t,x,e _ _ z⟩⟩
theorem DN.nil {H:Hp}{f:Str×Addr->List V}:DN H f [] []:=⟨rfl,λi y r a=>by simp at a⟩
theorem DN.one {H:Hp}{f:Str×Addr->List V}{t:Addr}{r:Str×Addr}(h:H t=some (.tup (f r))):DN H f [.ref t] [r]:=⟨rfl,λi y r' a b=>by
 cases i with
 |zero=>cases a;cases b;exact⟨t,rfl,h⟩
 |succ i=>simp at a⟩
theorem DN.app {H:Hp}{f:Str×Addr->List V}{ys zs:List V}{rs us:CS}(h:DN H f ys rs)(g:DN H f zs us):DN H f (ys++zs) (rs++us):=by
 refine⟨by rw[Ai,Ai,h.1,g.1],λi x c hx hc=>?_⟩;by_cases hi:i<ys.length
 .rw[Cw hi]at hx;rw[Cw (by rw[←h.1];exact hi)]at hc;exact h.2 i x c hx hc
 .rw[Cg (by lia)]at hx;rw[Cg (by rw[←h.1];lia),←h.1]at hc;exact g.2 _ x c hx hc
def Qz (r:Str×Addr):List V:=[.str r.1,.ref r.2]
def NS (c:Cs)(n:Nat):Sp:=λvs H Q _=>∃(x dx:Addr) (z:Str) (l r:V) (m k:Nat) (rs us:CS),vs=[.ref x]/\H x=some (.ins c.j dx [("sign",.str z),("left",l),("right",r)])/\CK c H m l rs/\CK c H k r us/\m+k<=n+1/\n<=100/\∀(p:Addr) (ys:List V) (H':Hp),A8 H H'->H' p=some (.lst ys)->DN H' Qz ys (rs++us)->Q (.ref p) H'
theorem dS {x y:Str}(h:x≠y):decide (V.str x=V.str y)=false:=C9 λe=>h (V.str.inj e)
theorem N8 {K:Faa}{a:Addr}{xs:List V}{ρ:List (Option Nat)}{g:TG}{tt:TT}{te:TE}{σ:St}{H:Hp}{Q:VK}(Pv:Nat->List V->Hp->Prop)(h0:Pv 0 [] H)(hlen:xs.length<=sizeLine)(hl:∀i ys H,i<=xs.length->Pv i ys H->A3 K H a xs/\ys.length<=i)
  (hs:∀i x ys H,xs[i]?=some x->Pv i ys H->g x (C1 ρ σ) H fun σ2 H3=>IM ρ σ σ2/\tt σ2 H3 λok H4=>if ok=true then te σ2 H4 λv H5=>Pv (i+1) (ys++[v]) H5 else Pv (i+1) ys H4)
  (hd:∀ys H,Pv xs.length ys H->∀p,H p=none->Q (.ref p) (upd H p (.lst ys))):HW ρ g tt te σ Q (Hb K a) H:=by
 refine⟨λi m ys H=>m=xs.length-i/\i<=xs.length/\Pv i ys H,⟨_,rfl,Bh _,h0⟩,?_⟩;rintro i m ys H ⟨rfl,hi,p⟩;obtain⟨hq,hy⟩:=hl i ys H hi p;by_cases hlt:i<xs.length
 .refine .inr ⟨⟨xs,xs[i],hq,by simp[hlt]⟩,by lia,Pv (i+1),λys' H'' p'=>⟨xs.length-(i+1),by lia,rfl,hlt,p'⟩,λx H' y=>?_⟩;obtain⟨e,y2⟩:=y;subst e;exact hs i x ys _ (y2 xs hq) p
 .have e:i=xs.length:=by lia
  subst e;exact .inl ⟨⟨xs,hq,Ah _⟩,by lia,hd ys H p⟩
def NX (fl:Bool)(r:Str×Addr):List V:=[.bl fl,.str r.1,.ref r.2]
def Jd (c:Cs)(C:Addr)(H:Hp)(v:V)(z:Str)(p:Addr)(m:Nat)(rs:CS):Prop := ∃(d dx:Addr) (v1 v2 v3 x v7:V),v = .ref d/\H d=some (.ins C dx [("names",v1),("lows",v2),("highs",v3),("table",.str z),("spots",.ref p),("term",x),("path",v7)])/\CK c H m x rs
theorem Jd.over {c:Cs}{C:Addr}{H H':Hp}{v:V}{z:Str}{p:Addr}{m:Nat}{rs:CS}(h:Jd c C H v z p m rs)(e:A8 H H'):Jd c C H' v z p m rs:=by
 obtain⟨d,dx,v1,v2,v3,x,v7,rfl,h1,h2⟩:=h;exact⟨d,dx,v1,v2,v3,x,v7,rfl,e _ _ h1,h2.over e⟩
def Oe (H:Hp)(l:Addr)(z:Str)(p:Addr)(rs:CS):Prop := ∃(t:Addr) (ys:List V),H l=some (.lst (.ref t::ys))/\H t=some (.tup (NX true (z,p)))/\DN H (NX false) ys rs
def UO (c:Cs)(C:Addr):Sp:=λvs H Q _=>∃(v:V) (z:Str) (p:Addr) (m:Nat) (rs:CS),vs=[v]/\Jd c C H v z p m rs/\m<=100/\∀(l:Addr) (H':Hp),A8 H H'->H l=none->Oe H' l z p rs->Q (.ref l) H'
end
theorem U1 {M:Model}{A:Around}{E:Value->Shared->Prop}{s:Shared}{β:Type}{f:Nat->β->Sem (ForInStep β)}{n:Nat}{b:β}{Q:β->Shared->Prop}(I:Nat->β->Shared->Prop)(h:I 0 b s)
  (turn:∀i b s,i<n->I i b s->wpAny M A (f i b) (λr s'=>match r with|.yield b'=>I (i+1) b' s'|.done b'=>Q b' s') E s) (fin:∀b s,I n b s->Q b s):wpAny M A (forIn [:n] b f) Q E s:=by
 rw[Std.Legacy.Range.forIn_eq_forIn_range'];have key:∀(k i:Nat) (b:β) (s:Shared),i+k=n->I i b s->wpAny M A (forIn (List.range' i k) b f) Q E s:=by
  intro k;induction k with
  |zero=>intro i b s e hi;rw[List.range'_zero,List.forIn_nil];exact AV (fin _ _ (by rw[←e];exact hi))
  |
   succ k ih=>
   intro i b s e hi;rw[GS,OB];refine As (Ee (turn i b s (by lia) hi) (λr s' hr=>?_) λ_ _ x=>x);cases r with
   |done b'=>exact AV hr
   |yield b'=>exact ih (i+1) b' s' (by lia) hr
 have e:(Std.Legacy.Range.size [:n])=n:=by simp[Std.Legacy.Range.size]
 rw[e];exact key n 0 b s (by lia) h
section
open PySem.SeqAt
open PySem.AutoSeq1 (wpAny_loadPart')
open PySem.MeetsSeq PySem.MeetsSeq2 PySem.MeetsSeq3
theorem Vv (l:Addr)(items:Array Value)(n:Nat)(dd:Option Addr)(sl:Array (Option Value))(x:Value)(e:Value->Bool)(j:Nat)(hj:j<items.size)(hit:e items[j]=true)(hno:∀m (hm:m<items.size),m<j->e items[m]=false) :
  Meets (Builtin.«tuple.index» ⟨[.ref l,x],[]⟩)
   (λA R s=>s.heap.get? l=some {cls:=.type "tuple",dict:=dd,data:=.seq items n,slots:=sl}/\(∀y,y∈items->EqAt A.in1 s y x (e y))/\R (.ok (.ret (.int j s.toks))) {s with toks:=s.toks+1}):=
 .of_wp λprog w A R s h=>by
  obtain⟨hp,g,d,tk,os⟩:=s;obtain⟨hl,he,h⟩:=h
  wp_walk using wpAny_loadPart' hl
  refine U1 (n:=min items.size items.size) (b:=(none,())) (f:=λi _=>match items[i]? with
   |
    some y=>do
    let q ←eqBool y x
    if q=true then do
     let r ←retInt i
     pure (ForInStep.done (some r,()))
    else pure (ForInStep.yield (none,()))
   |_=>pure (ForInStep.yield (none,()))) (λi b s'=>i<=j/\b.1=none/\s'=⟨hp,g,d,tk,os⟩) ⟨Bh _,rfl,rfl⟩ (λi b s' hi hI=>?_) (λb s' hI=>?_)
  .obtain⟨hij,hb,rfl⟩:=hI;have hlt:i<items.size:=by lia
   have ei:items[i]?=some items[i]:=SX hlt;simp only[ei];refine As (he _ (Array.getElem_mem hlt) prog w _ _ ?_);by_cases c:i=j
   .subst c;rw[hit]
    wp_walk
    exact⟨_,rfl,h⟩
   .rw[hno i hlt (by lia)]
    wp_walk
    exact⟨by lia,rfl,rfl⟩
  .obtain⟨hij,_,_⟩:=hI;lia
end
def XN (z:Str):Value->Bool
 |.str y _=>y==z
 |_=>false
theorem aU {zs:List Str}{its:List Value}(r:Au (zs.map V.str) its){i:Nat}{u:Value}(h:its[i]?=some u):∃z t,zs[i]?=some z/\u = .str z t:=by
 cases e:(zs.map V.str)[i]? with
 |none=>rw[r.none_of e]at h;cases h
 |
  some v=>
  obtain⟨u',h',ru⟩:=r.get e;rw[h]at h';cases h';rw[Bf]at e;cases ez:zs[i]? with
  |none=>rw[ez]at e;cases e
  |
   some z=>
   rw[ez]at e;cases e;obtain⟨t,ht⟩:=(show ∃t,u=Value.str z t from ru)
   exact⟨z,t,rfl,ht⟩
def Tu (K:Faa):V->List V->Hp->VK->Prop:=λx vs H Q=>∃(p:Addr) (zs:List Str) (z:Str) (j:Nat),x = .ref p/\vs=[.str z]/\A4 K H p (zs.map V.str)/\zs[j]?=some z/\(∀m<j,zs[m]?≠some z)/\Q (.int (j:Int)) H
theorem Xp {X:Cx}:Iy X "tuple.index" (Tu X.K):=by
 intro pins s σ H x vs v us Q I rx rv h;obtain⟨p,zs,z,j,rfl,rfl,hq,hj,hno,q⟩:=h;cases rx;obtain⟨u,rfl,ru⟩:=F7 rv;obtain⟨tk,rfl⟩:=(show ∃t,u=Value.str z t from ru)
 obtain⟨its,r,⟨o,e,hc,n,hd⟩,hz⟩:=I.tuple hq;have hl:=r.length;rw[Af]at hl;have hjl:j<its.length:=by have:=(Aw.mp hj).1;lia
 obtain⟨cls,dd,data,sl⟩:=o;simp only at hc hd;subst hc hd;have at':∀m (hm:m<its.toArray.size),∃y t,zs[m]?=some y/\its.toArray[m] = .str y t:=λm hm=>by
  have hm':m<its.length:=by simpa using hm
  obtain⟨y,t,h1,h2⟩:=aU r (i:=m) (u:=its[m]) (AE hm');exact⟨y,t,h1,by simpa using h2⟩
 refine Io PySem.F.slot_tuple_index ⟨_,e,rfl⟩ PySem.F.entry_tuple_index (PySem.F.args_tuple_index_2 _ _) (Vv p its.toArray n dd sl (.str z tk) (XN z) j (by simpa using hjl) ?_ ?_) ⟨e,λy hy=>?_,?_⟩
 .obtain⟨y,t,h1,h2⟩:=at' j (by simpa using hjl);rw[hj]at h1;cases h1;rw[h2];exact Tb z
 .intro m hm hmj;obtain⟨y,t,h1,h2⟩:=at' m hm;rw[h2];have:y≠z:=λe=>hno m hmj (by rw[h1,e]);exact MI.mpr this
 .obtain⟨m,hm,rfl⟩:=Array.mem_iff_getElem.mp hy;obtain⟨y,t,h1,h2⟩:=at' m hm;rw[h2];exact PySem.SeqAt.EqAt.str_str y t z tk
 .exact⟨.int (j:Int),H,I.tok _,⟨_,rfl⟩,q⟩
def Ys (r:V->List V->Hp->VK->Prop)(to:TE)(t:TA):TE:=fun σ H Q=>to σ H λx H1=>(∃p xs,x = .ref p/\H1 p=some (.tup xs))/\t σ H1 λxs H2=>r x xs H2 Q
theorem VG {X:Cx}{pins:List (Addr×Obj)}{σ:St}{H:Hp}{s:Shared}{p:Addr}{xs:List V}(I:A5 X pins σ H s)(h:H p=some (.tup xs)):s.TypeIs (.ref p) "tuple"/\∀a,Value.ref p = .ref a->∃ob,s.heap.get? a=some ob/\ob.dict=none:=by
 obtain⟨_,its,_,o,e,c,_,d⟩:=(show CM X.prog X.w H s.heap p (.tup xs) from I.hok p _ h)
 exact⟨⟨o,e,c⟩,λa z=>by cases z;exact⟨o,e,d⟩⟩
theorem aN {X:Cx}{o e:Expr}{es:List Expr}{to:TE}{t:TA}{name:Str}{apos cpos:Pos}{id:String}{r:V->List V->Hp->VK->Prop}(slot:Slot "tuple" name id)(hty:typeOf (.builtin id)=pure (.type "method_descriptor"))(hm:Iy X id r)(ho:PE X o to)(ha:PA X (e::es) t)
  (hbase:attributeBase o name X.env (eval o X.env)=eval o X.env:=by rfl)
  (hfew:((backTo cpos (starEach (e::es) X.env)).all (λx=>!x.1)&&(backToKw cpos (keywordEach [] X.env)).all (λx=>x.1.isSome)&&decide ((e::es).length+([]:List Keyword).length+(if([]:List Keyword).isEmpty then 0 else 1)<30))=true:=by rfl)
  (hline:(apos.endLine==cpos.line)=true:=by rfl) (hs:starEach (e::es) X.env=(false,eval e X.env)::starEach es X.env:=by rfl) (hplain:(backTo cpos (starEach es X.env)).any (·.1)=false:=by rfl) :
  PE X (.Call (.Attribute o name apos) (e::es) [] cpos) (Ys r to t):=by
 intro pins s σ H Q I h;refine wpAny_Call_method_late hbase hfew hline rfl (AA (ho pins s σ H _ I h) λv s1 hx=>?_);obtain⟨x,H1,I1,r1,⟨p,xs,rfl,hp⟩,q1⟩:=hx;cases r1;obtain⟨h1,h2⟩:=VG I1 hp;refine⟨"tuple",id,PySem.F.plainAttrs_tuple,slot,hty,h1,h2,?_⟩;have hA:=ha cpos pins s1 σ H1 _ I1 q1;rw[hs]at hA ⊢;refine Calls.callWith_builtin (by show(false||(backTo cpos (starEach es X.env)).any (·.1))=false;rw[hplain]<;>rfl) (Calls.evalArgs_plain ?_);exact AA hA λus s2 hy=>by
  obtain⟨vs,H2,I2,r2,q2⟩:=hy;exact hm pins s2 σ H2 (.ref p) vs (.ref p) us Q I2 rfl r2 q2
def EB (n:Nat):List V:=(List.range n).map λi:Nat=>V.int (i:Int)
def YF (ta:TA):TE:=fun σ H Q=>ta σ H λvs H1=>∃n:Nat,vs=[.int (n:Int)]/\n<=1000000/\∀l,H1 l=none->Q (.ref l) (upd H1 l (.lst (EB n)))
theorem aD {n:Nat}{acc:Array Value}(h:ItemsOf (λi v=>∃t,v = .int (0+(i:Int)*1) t) acc n):Au (EB n) acc.toList:=by
 have key:∀(k:Nat) (l:List Value),(∀(j:Nat) (v:Value),l[j]?=some v->∃t,v=Value.int ((k+j:Nat):Int) t)->Au ((List.range' k l.length).map λi:Nat=>V.int (i:Int)) l:=by
  intro k l;induction l generalizing k with
  |nil=>intro _;exact .nil
  |
   cons x l ih=>
   intro hl;rw[Bz,GS,Cf];obtain⟨t,ht⟩:=hl 0 x rfl;refine .cons ⟨t,by rw[ht];rfl⟩ (ih (k+1) λj v hj=>?_);obtain⟨t',ht'⟩:=hl (j+1) v (by simpa using hj);exact⟨t',by rw[ht'];congr 1;lia⟩
 have hl:acc.toList.length=n:=by simpa using h.1
 have:=key 0 acc.toList λj v hj=>by
  obtain⟨t,ht⟩:=h.2 j v (by simpa using hj);exact⟨t,by rw[ht];congr 1;lia⟩
 rw[hl]at this;unfold EB;rw[OH];exact this
theorem M4 {X:Cx}{a:Expr}{ta:TA}{p p2 pos pos2:Pos}(hc:X.calm=true)(hgl:Gl X "list")(hml:X.mg "list"=none)(hg:Gl X "range")(hm:X.mg "range"=none)(ha:PA X [a] ta)
  (hs:starEach [a] X.env=[(false,eval a X.env)]:=by rfl):PE X (.Call (.Name "list" p) [.Call (.Name "range" p2) [a] [] pos2] [] pos) (YF ta):=by
 intro pins s σ H Q I h;refine ML (FY I hgl hml GW ?_ (by decide) (by decide));refine Ji ?_ rfl rfl;show wpAny _ _ (spliced ((false,eval (.Call (.Name "range" p2) [a] [] pos2) X.env)::backTo pos (starEach [] X.env))) _ _ s;refine Calls.spliced_cons ?_;refine Call_ (FY I hg hm boot_range (Ji (AA (ha pos2 pins s σ H _ I h) λus s1 hx=>?_) hs rfl));obtain⟨vs,H1,I1,r1,n,e,hn,q⟩:=hx;subst e;obtain⟨u,rfl,ru⟩:=F7 r1;obtain⟨t,rfl⟩:=(show ∃t,u=Value.int (n:Int) t from ru)
 refine call_range_1 ?_;refine Calls.spliced_nil ?_;have p62:(2:Int) ^ 62=4611686018427387904:=by decide
 refine call_list_range (n:=n) (I1.ok.hd hc) (IsRange.new ..) (small_one (by decide) (by decide) (by lia) (by lia)) (by rw[rangeSize_one];split<;>lia) (by lia) λh' tk acc c' hk hl hi=>?_;have hsz:(s1.heap.push {cls:=.type "range",data:=.fields #[.int 0 s1.toks,.int (n:Int) t,.int 1 (s1.toks+1)]}).objs.size=s1.heap.objs.size+1:=Kx ..;have hf:H1 (s1.heap.objs.size+1)=none:=I1.hok.fresh (GM _);have hul:(EB n).length<=sizeLine:=by unfold EB;rw[Af,C8];exact BD hn
 change h'.get? (s1.heap.push {cls:=.type "range",data:=.fields #[.int 0 s1.toks,.int (n:Int) t,.int 1 (s1.toks+1)]}).objs.size=_ at hl;rw[hsz]at hl;refine⟨.ref (s1.heap.objs.size+1),upd H1 (s1.heap.objs.size+1) (.lst (EB n)),I1.laid (t':=tk) (o:=.lst (EB n)) (λb o e=>hk b o (Bu _ e)) (GM _) ⟨hul,acc.toList,c',aD hi,by simpa using hl⟩,?_,q _ hf⟩;show Value.ref _=Value.ref _;rw[←hsz]
def EM (zs:List Str)(z:Str)(first u:Int):Prop:=(z=""/\u=0)\/(z≠""/\∃j:Nat,zs[j]?=some z/\(∀m<j,zs[m]?≠some z)/\u=first+(j:Int))
def YR:Sp:=λvs H Q _=>∃(t nm:Addr) (z:Str) (n first:Int) (zs:List Str) (u:Int),vs=[.ref t,.ref nm,.int first]/\H t=some (.tup [.str z,.int n])/\H nm=some (.tup (zs.map V.str))/\EM zs z first u/\Q (.int u) H
section
variable {prog:Program}{w:World}{A:Around}{E:Value->Shared->Prop}{s:Shared}
theorem Q1 {it t:Addr}{k:Nat}{its:Array Value}{Q:Value->Shared->Prop}(a:s.heap.IsTupleIter it t k)(b:s.heap.IsTuple t its)
  (q:wpAny (model prog w) A.in1 (match its[k]? with
   |some x=>do setField (.ref it) 1 (rawInt (k+1));ret x
   |none=>do rule (toString "tuple_iterator.__next__"++toString ".end");setField (.ref it) 0 .none;Builtin.SmallTypes.stopIteration) (λfin s'=>∃v,fin = .done (.ret v)/\Q v s') E s) :
  wpAny (model prog w) A (Builtin.SmallTypes.nextOf (.ref it)) Q E s:=by
 have ty:=a.typeIs;obtain⟨o,g,c,d⟩:=a;obtain⟨o2,g2,-,n2,d2⟩:=b;unfold Builtin.SmallTypes.nextOf;apply As;apply wpAny_callSpecial?_slot (name:=Str.ofString "__next__") ty F.slot_tuple_iterator_next;refine OV F.slot_tuple_iterator_next ty F.entry_tuple_iterator_next ?_ (F.args_tuple_iterator_next_1 _);unfold Builtin.«tuple_iterator.__next__»
 wp_walk using Im g d (x:=.ref t) rfl
 rw[d];apply AV;apply AV;apply As;apply MN g2 d2;rw[show Int.toNat (k:Int)=k from rfl];refine Ee q (λfin s' zz=>?_) λ_ _ z=>z;obtain⟨v,e,z⟩:=zz;exact⟨v,e,AV z⟩
theorem XR {it t:Addr}{k:Nat}{its:Array Value}{x:Value}{Q:Value->Shared->Prop}(a:s.heap.IsTupleIter it t k)(b:s.heap.IsTuple t its)(hx:its[k]?=some x)
  (q:∀h',h'.IsTupleIter it t (k+1)->Heap.SameBut it s.heap h'->Q x {s with heap:=h'}):wpAny (model prog w) A (Builtin.SmallTypes.nextOf (.ref it)) Q E s:=by
 apply Q1 a b;obtain⟨o,g,c,d⟩:=a;rw[hx];apply As;apply wpAny_setField g d (by simp);apply AV;refine⟨x,rfl,q _ ⟨_,Heap.get?_update_self _ g ?_,?_,?_⟩ (Heap.SameBut.update ..)⟩
 .exact Obj.isFreed_of_fields (Obj.data_mapFields d _)
 .exact(Obj.cls_mapFields ..).trans c
 .rw[Obj.data_mapFields d];rfl
theorem aM {it t:Addr}{k:Nat}{its:Array Value}{Q:Value->Shared->Prop}(hh:A.handled=none)(a:s.heap.IsTupleIter it t k)(b:s.heap.IsTuple t its)(hx:its[k]?=none)
  (q:∀h' e,Heap.ExtBut it s.heap h'->(∃o,h'.get? e=some o/\o.cls = .type "StopIteration")->E (.ref e) {s with heap:=h'}):wpAny (model prog w) A (Builtin.SmallTypes.nextOf (.ref it)) Q E s:=by
 apply Q1 a b;obtain⟨o,g,c,d⟩:=a;rw[hx];apply As;apply wpAny_rule;apply As;apply wpAny_setField g d (by simp);have h1:A.in1.handled=none:=hh
 wp_walk
 unfold raiseNew;apply As;apply wpAny_handled;rw[h1];show wpAny _ _ (throw _) _ _ _;apply wpAny_throw;exact q _ _ (((Heap.SameBut.update ..).extBut.push _).push _) ⟨_,CT _ rfl,rfl⟩
theorem J7 (hh:A.handled=none)(it t:Addr)(ne:t≠it)(its:Array Value):Draws prog w A it [it,t] its.size (λi v=>its[i]?=some v) (λi h=>h.IsTupleIter it t i/\h.IsTuple t its) where
 live:=λ_ _ ⟨⟨o,g,_⟩,_⟩=>⟨o,g⟩
 frame:=λ_ _ _ ⟨⟨o,g,r⟩,⟨o2,g2,r2⟩⟩ k=>⟨⟨o,k it (by simp) o g,r⟩,⟨o2,k t (by simp) o2 g2,r2⟩⟩
 item:=λi s Q E lt ⟨a,b⟩ q=>XR a b (SX lt) λh' a' sb=>q _ h' s.toks (SX lt) ⟨a',b.extBut sb.extBut ne⟩ sb
 done:=λs Q E ⟨a,b⟩ q=>aM hh a b (by simp) q
end
structure ZA (z TI TO i1 i2:Addr)(f g:List Addr):Prop where
 zf:z∉f
 zg:z∉g
 of:TO∉f
 og:TO∉g
 nf:i2∉f
 ng:i1∉g
 Iz:TI≠z
 Oz:TO≠z
 az:i1≠z
 bz:i2≠z
 IO:TI≠TO
 Ia:TI≠i1
 Ib:TI≠i2
 Oa:TO≠i1
 Ob:TO≠i2
theorem mv {prog:Program}{w:World}{A:Around}{it:Addr}{f:List Addr}{n:Nat}{P:Nat->Value->Prop}{S:Nat->Heap->Prop}(D:Draws prog w A it f n P S){k:Nat}{h h':Heap}{a:Addr}(st:S k h)(b:Heap.ExtBut a h h')(na:a∉f):S k h':=
 D.frame k h h' st λc hc o e=>b c o (λq=>na (q▸hc)) e
section
variable {prog:Program}{w:World}{A:Around}{E:Value->Shared->Prop}{s:Shared}
theorem UE {z TI TO i1 i2:Addr}{f g:List Addr}{m n k:Nat}{P R:Nat->Value->Prop}{S T:Nat->Heap->Prop}(Z:ZA z TI TO i1 i2 f g)(D1:Draws prog w A i1 f m P S)(D2:Draws prog w A i2 g n R T){a b:Value}{Q:Value->Shared->Prop}
  (hz:IsZip s.heap z TI TO .none) (hI:IsPair s.heap TI (.ref i1) (.ref i2)) (hO:IsPair s.heap TO a b) (s1:S k s.heap) (s2:T k s.heap) (le1:k<=m) (le2:k<=n)
  (q:k<m->k<n->∀x y h' tk,P k x->R k y->IsZip h' z TI TO (rawInt s.heap.objs.size)->IsPair h' TO x y->S (k+1) h'->T (k+1) h'->IsPair h' s.heap.objs.size x y->
   (∀c o,c≠z->c≠TO->c≠i1->c≠i2->s.heap.get? c=some o->h'.get? c=some o)->Q (.ref s.heap.objs.size) {s with heap:=h',toks:=tk})
  (qe:(k=m\/k=n)->∀h' e tk,(∀c o,c≠z->c≠TO->c≠i1->c≠i2->s.heap.get? c=some o->h'.get? c=some o)->(∃o,h'.get? e=some o/\o.cls = .type "StopIteration")->E (.ref e) {s with heap:=h',toks:=tk}) :
  wpAny (model prog w) A (Builtin.«zip.__next__» ⟨[.ref z],[]⟩) (λfin s'=>∃v,fin = .done (.ret v)/\Q v s') E s:=by
 change wpAny _ _ (field (.ref z) 2>>=_) _ _ _;apply As;apply Im hz rfl (x:=.bool false) rfl;change wpAny _ _ (field (.ref z) 3>>=_) _ _ _;apply As;apply Im hz rfl (x:=.ref TI) rfl;apply As;apply MN hI rfl;change wpAny _ _ (Builtin.SmallTypes.ownedTupleIsFree (.ref z)>>=_) _ _ _;apply As;unfold Builtin.SmallTypes.ownedTupleIsFree;apply As;apply Im hz rfl (x:=.none) rfl;apply AV;simp only[if_true];apply As;apply wpAny_rule;apply As;apply Im hz rfl (x:=.ref TO) rfl;apply As;apply MO hz (by simp);intro hA zA bA;have zA':IsZip hA z TI TO .ellipsis:=zA;clear zA;have oA:IsPair hA TO a b:=bA.extBut _ _ Z.Oz hO;have sA:=mv D1 s1 bA.extBut Z.zf;have tA:=mv D2 s2 bA.extBut Z.zg;apply As;simp only[List.zipIdx_cons,List.zipIdx_nil,OB,List.forIn_nil];apply As;apply As;apply wpAny_onRaise;change wpAny _ _ (Builtin.SmallTypes.nextOf (.ref i1)>>=_) _ _ _;apply As;rcases Nat.lt_or_eq_of_le le1 with l1|rfl;rotate_left
 .apply D1.done _ _ _ sA;rintro h' e kp ⟨o,ge,ce⟩;have z':IsZip h' z TI TO .ellipsis:=kp _ _ Z.az.symm zA';have ne:e≠z:=λq=>by subst q;rw[z']at ge;cases ge;simp at ce
  apply MO z' (by simp);intro h2 _ b2;exact qe (.inl rfl) h2 e s.toks (λc o c1 _ c3 _ x=>b2.extBut _ _ c1 (kp _ _ c3 (bA.extBut _ _ c1 x))) ⟨o,b2.extBut _ _ ne ge,ce⟩
 apply D1.item k _ _ _ l1 sA;intro x hB t1 px sB bB;apply AV;have oB:IsPair hB TO a b:=bB.extBut _ _ Z.Oa oA;have zB:IsZip hB z TI TO .ellipsis:=bB.extBut _ _ Z.az.symm zA';have tB:=mv D2 tA bB.extBut Z.ng;apply As;apply MN oB rfl;apply As;apply wpAny_updateSeq_pair oB;intro hC oC bC;have oC':IsPair hC TO x b:=oC;clear oC;have zC:IsZip hC z TI TO .ellipsis:=bC.extBut _ _ Z.Oz.symm zB;have sC:=mv D1 sB bC.extBut Z.of;have tC:=mv D2 tB bC.extBut Z.og;apply As;apply wpAny_letGo;apply AV;apply As;apply As;apply wpAny_onRaise;change wpAny _ _ (Builtin.SmallTypes.nextOf (.ref i2)>>=_) _ _ _;apply As;have upC:∀c o,c≠z->c≠TO->c≠i1->s.heap.get? c=some o->hC.get? c=some o:=λc o c1 c2 c3 e=>bC.extBut _ _ c2 (bB.extBut _ _ c3 (bA.extBut _ _ c1 e));rcases Nat.lt_or_eq_of_le le2 with l2|rfl;rotate_left
 .apply D2.done _ _ _ tC;rintro h' e kp ⟨o,ge,ce⟩;have z':IsZip h' z TI TO .ellipsis:=kp _ _ Z.bz.symm zC;have ne:e≠z:=λq=>by subst q;rw[z']at ge;cases ge;simp at ce
  apply MO z' (by simp);intro h2 _ b2;exact qe (.inr rfl) h2 e t1 (λc o c1 c2 c3 c4 x=>b2.extBut _ _ c1 (kp _ _ c4 (upC c o c1 c2 c3 x))) ⟨o,b2.extBut _ _ ne ge,ce⟩
 apply D2.item k _ _ _ l2 tC;intro y hD t2 py tD bD;apply AV;have oD:IsPair hD TO x b:=bD.extBut _ _ Z.Ob oC';have zD:IsZip hD z TI TO .ellipsis:=bD.extBut _ _ Z.bz.symm zC;have sD:=mv D1 sC bD.extBut Z.nf;apply As;apply MN oD rfl;apply As;apply wpAny_updateSeq_pair oD;intro hE oE bE;have oE':IsPair hE TO x y:=oE;clear oE;have zE:IsZip hE z TI TO .ellipsis:=bE.extBut _ _ Z.Oz.symm zD;have sE:=mv D1 sD bE.extBut Z.of;have tE:=mv D2 tD bE.extBut Z.og;have upE:∀c o,c≠z->c≠TO->c≠i1->c≠i2->s.heap.get? c=some o->hE.get? c=some o:=λc o c1 c2 c3 c4 e=>bE.extBut _ _ c2 (bD.extBut _ _ c4 (upC c o c1 c2 c3 e));have sz:hE.objs.size=s.heap.objs.size:=by rw[bE.1,bD.1,bC.1,bB.1,bA.1]
 apply As;apply wpAny_letGo;apply AV;apply AV;apply As;apply MN oE' rfl;apply As;refine wpAny_newTuple ?_;change wpAny _ _ (Builtin.SmallTypes.ownedTupleHandOut (.ref z) (.ref hE.objs.size)>>=_) _ _ _;apply As;unfold Builtin.SmallTypes.ownedTupleHandOut;have zF:IsZip (hE.push {cls:=.type "tuple",data:=.seq #[x,y]}) z TI TO .ellipsis:=Bu _ zE;have pF:IsPair (hE.push {cls:=.type "tuple",data:=.seq #[x,y]}) hE.objs.size x y:=CT _ rfl;apply As;apply MO zF (by simp);intro hG zG bG;have zG':IsZip hG z TI TO (rawInt hE.objs.size):=zG;clear zG;apply MO zG' (by simp);intro hH zH bH;have zH':IsZip hH z TI TO (rawInt hE.objs.size):=zH;clear zH;have far:hE.objs.size≠z:=GK (Bq zE);have up:Heap.ExtBut z hE hH:=λc o c1 e=>bH.extBut _ _ c1 (bG.extBut _ _ c1 (Bu _ e));have pH:IsPair hH hE.objs.size x y:=bH.extBut _ _ far (bG.extBut _ _ far pF);apply AV;refine⟨_,rfl,?_⟩;have:=q l1 l2 x y hH t2 px py (by rw[←sz];exact zH') (up _ _ Z.Oz oE') (mv D1 sE up Z.zf) (mv D2 tE up Z.zg) (by rw[←sz];exact pH) λc o c1 c2 c3 c4 e=>up c o c1 (upE c o c1 c2 c3 c4 e);rw[←sz]at this;exact this
theorem Sf {z TI TO i1 i2:Addr}{f g:List Addr}{m n k:Nat}{P R:Nat->Value->Prop}{S T:Nat->Heap->Prop}(Z:ZA z TI TO i1 i2 f g)(D1:Draws prog w A.in1 i1 f m P S)(D2:Draws prog w A.in1 i2 g n R T){a b:Value}{Q:Option Value->Shared->Prop}
  (hz:IsZip s.heap z TI TO .none) (hI:IsPair s.heap TI (.ref i1) (.ref i2)) (hO:IsPair s.heap TO a b) (s1:S k s.heap) (s2:T k s.heap) (le1:k<=m) (le2:k<=n)
  (q:k<m->k<n->∀x y h' tk,P k x->R k y->IsZip h' z TI TO (rawInt s.heap.objs.size)->IsPair h' TO x y->S (k+1) h'->T (k+1) h'->IsPair h' s.heap.objs.size x y->
   (∀c o,c≠z->c≠TO->c≠i1->c≠i2->s.heap.get? c=some o->h'.get? c=some o)->Q (some (.ref s.heap.objs.size)) {s with heap:=h',toks:=tk})
  (qe:(k=m\/k=n)->∀h' tk,(∀c o,c≠z->c≠TO->c≠i1->c≠i2->s.heap.get? c=some o->h'.get? c=some o)->Q none {s with heap:=h',toks:=tk}) :
  wpAny (model prog w) A (pyNext (.ref z)) Q E s:=by
 have ty:s.TypeIs (.ref z) "zip":=⟨_,hz,rfl⟩
 unfold pyNext;apply As;apply wpAny_attempt;apply wpAny_callSpecial?_slot (name:=Str.ofString "__next__") ty F.slot_zip_next;refine OV F.slot_zip_next ty F.entry_zip_next (UE Z D1 D2 hz hI hO s1 s2 le1 le2 ?_ ?_) (F.args_zip_next_1 _)
 .intro l1 l2 x y h' tk a1 a2 a3 a4 a5 a6 a7 a8;exact AV (q l1 l2 x y h' tk a1 a2 a3 a4 a5 a6 a7 a8)
 .rintro l h' e tk kp ⟨o,ge,ce⟩;exact As (wpAny_isInstance (T:="StopIteration") (b:=true) ⟨o,ge,ce⟩ isSubtype_stop (AV (qe l h' tk kp)))
end
def IG (K:Faa)(a b:Addr):It:=
 ⟨λi H=>∃xs ys x y,A4 K H a xs/\A4 K H b ys/\xs[i]?=some x/\ys[i]?=some y,λi H v H'=>∃x y T,(∀xs,A4 K H a xs->xs[i]?=some x)/\(∀ys,A4 K H b ys->ys[i]?=some y)/\H T=none/\v = .ref T/\H'=upd H T (.tup [x,y]),
  λi H=>∃xs ys,A4 K H a xs/\A4 K H b ys/\i<=xs.length/\i<=ys.length/\(i=xs.length\/i=ys.length)⟩
theorem X5 {P:Program}{w:World}{K:Faa}{elts:List Expr}{x1:Nat}{pos:Pos}(a b z TI TO i1 i2:Addr)(D:ZA z TI TO i1 i2 [i1,a] [i2,b])(na:a≠i1)(nb:b≠i2) :
  Hw P w K (.Tuple elts x1 pos) (IG K a b) [z,TI,TO,i1,i2] z (λi h=>IsZip h z TI TO .none/\IsPair h TI (.ref i1) (.ref i2)/\(∃p q,IsPair h TO p q)/\h.IsTupleIter i1 a i/\h.IsTupleIter i2 b i) where
 mem:=by simp
 obj:=λi h st c hc=>by
  obtain⟨hz,hTI,⟨p,q,hTO⟩,h1,h2⟩:=st;simp only[Bb,Ez,or_false]at hc;rcases hc with rfl|rfl|rfl|rfl|rfl
  .exact⟨_,hz,λv z=>by cases z⟩
  .exact⟨_,hTI,λv z=>by cases z⟩
  .exact⟨_,hTO,λv z=>by cases z⟩
  .obtain⟨o,e,c,d⟩:=h1;exact⟨o,e,λv z=>by rw[d]at z;cases z⟩
  .obtain⟨o,e,c,d⟩:=h2;exact⟨o,e,λv z=>by rw[d]at z;cases z⟩
 keep:=λi h h' st k=>by
  obtain⟨hz,hTI,⟨p,q,hTO⟩,h1,h2⟩:=st;exact⟨k z (by simp) _ hz,k TI (by simp) _ hTI,⟨p,q,k TO (by simp) _ hTO⟩,h1.at λo e=>k i1 (by simp) o e,h2.at λo e=>k i2 (by simp) o e⟩
 item:=by
  intro X hP hw hK hc i pins s σ H E I hf st hg;subst hP hw hK;obtain⟨xs,ys,x,y,hq1,hq2,hx,hy⟩:=hg;obtain⟨its1,rv1,p1,_⟩:=I.tuple hq1;obtain⟨its2,rv2,p2,_⟩:=I.tuple hq2;obtain⟨hz,hTI,⟨pa,qa,hTO⟩,h1,h2⟩:=st;have p1':s.heap.IsTuple a its1.toArray:=p1;have p2':s.heap.IsTuple b its2.toArray:=p2;have l1:=rv1.length;have l2:=rv2.length;obtain⟨b1,_⟩:=Aw.1 hx;obtain⟨b2,_⟩:=Aw.1 hy;have hn:X.A.in1.handled=none:=I.ok.hd hc;have d1:=J7 (prog:=X.prog) (w:=X.w) hn i1 a na its1.toArray;have d2:=J7 (prog:=X.prog) (w:=X.w) hn i2 b nb its2.toArray;refine Sf (k:=i) D d1 d2 hz hTI hTO ⟨h1,p1'⟩ ⟨h2,p2'⟩ (by simp;lia) (by simp;lia) (λ_ _ u v hh tk hu hv hz' hTO' h1' h2' hT hk=>⟨_,rfl,?_⟩) λq=>absurd q (by simp;lia);obtain⟨u',hu',ru⟩:=rv1.get hx;obtain⟨v',hv',rv⟩:=rv2.get hy;have eu:u'=u:=by simpa[hu'] using hu
  have ev:v'=v:=by simpa[hv'] using hv
  subst eu ev;refine wpAny_letOwnedTupleGo_zip hz' λh3 hz3 hs3=>?_;have hTn:H s.heap.objs.size=none:=I.hok.fresh (Ah _);have lts:∀c∈[z,TI,TO,i1,i2],c<s.heap.objs.size:=λc hc=>by
   simp only[Bb,Ez,or_false]at hc;rcases hc with rfl|rfl|rfl|rfl|rfl
   .exact Bq hz
   .exact Bq hTI
   .exact Bq hTO
   .obtain⟨_,e,_⟩:=h1;exact Bq e
   .obtain⟨_,e,_⟩:=h2;exact Bq e
  have I1:A5 X pins σ (upd H s.heap.objs.size (.tup [x,y])) {s with heap:=s.heap.push {cls:=.type "tuple",data:=.seq #[u',v']}}:=I.laid (t':=s.toks) (o:=.tup [x,y]) (λb o e=>Bu _ e) (Ah _) ⟨Ap rfl,[u',v'],.cons ru (.cons rv .nil),EW.new _ _⟩;have I2:A5 X pins σ (upd H s.heap.objs.size (.tup [x,y])) {s with heap:=h3,toks:=tk}:=by
   refine A5.turnedL (s:={s with heap:=s.heap.push {cls:=.type "tuple",data:=.seq #[u',v']}}) (h':=h3) (ch:=[z,TI,TO,i1,i2]) (t':=tk) I1 (λb o hb q=>?_) (λb hb=>?_)
   .simp only[Bb,Ez,or_false,not_or]at hb;obtain⟨n1,n2,n3,n4,n5⟩:=hb;show h3.get? b=some o;rw[hs3.2 b n1];rcases SO q with⟨rfl,rfl⟩|q
    .exact hT
    .exact hk b o n1 n3 n4 n5 q
   .obtain⟨f0,f1,f2,f3,f4,f5⟩:=hf b hb;exact⟨by rw[Ag (C4 (lts b hb))];exact f0,f1,f2,f3,f4,f5⟩
  have k3:∀c,c≠z->∀o,hh.get? c=some o->h3.get? c=some o:=λc hc o e=>(hs3.2 c hc).trans e;refine⟨.ref s.heap.objs.size,_,I2,rfl,⟨x,y,_,λzs hy=>by rw[I.tuple_inj hy hq1];exact hx,λzs hy'=>by rw[I.tuple_inj hy' hq2];exact hy,hTn,rfl,rfl⟩,⟨hz3,k3 TI D.Iz _ (hk TI _ D.Iz D.IO D.Ia D.Ib hTI),⟨u',v',k3 TO D.Oz _ hTO'⟩,h1'.1.at (k3 i1 D.az),h2'.1.at (k3 i2 D.bz)⟩,λb hb=>?_⟩;rw[Ag (C4 (lts b hb))];exact(hf b hb).1
 done:=by
  intro X hP hw hK hc i pins s σ H E I hf st hg;subst hP hw hK;obtain⟨xs,ys,hq1,hq2,b1,b2,hl⟩:=hg;obtain⟨its1,rv1,p1,_⟩:=I.tuple hq1;obtain⟨its2,rv2,p2,_⟩:=I.tuple hq2;obtain⟨hz,hTI,⟨pa,qa,hTO⟩,h1,h2⟩:=st;have p1':s.heap.IsTuple a its1.toArray:=p1;have p2':s.heap.IsTuple b its2.toArray:=p2;have l1:=rv1.length;have l2:=rv2.length;have hn:X.A.in1.handled=none:=I.ok.hd hc;have d1:=J7 (prog:=X.prog) (w:=X.w) hn i1 a na its1.toArray;have d2:=J7 (prog:=X.prog) (w:=X.w) hn i2 b nb its2.toArray;refine Sf (k:=i) D d1 d2 hz hTI hTO ⟨h1,p1'⟩ ⟨h2,p2'⟩ (by simp;lia) (by simp;lia) (λe1 e2=>absurd e2 (by simp at e1 ⊢;lia)) λ_ h' tk hk=>⟨rfl,?_⟩
  refine I.turnedL (ch:=[z,TI,TO,i1,i2]) (t':=tk) (λb o hb q=>?_) hf;simp only[Bb,Ez,or_false,not_or]at hb;obtain⟨n1,n2,n3,n4,n5⟩:=hb;exact hk b o n1 n3 n4 n5 q
 self:=λ_ _ _ _ _ st h=>by
  obtain⟨hz,_⟩:=st;exact wpAny_pyIter_zip hz h
theorem Xu (a b:Addr)(xs ys:Array Value) :
  Meets (Builtin.«zip.__new__» ⟨[.type "zip",.ref a,.ref b],[]⟩) (λ_ R s=>s.heap.IsTuple a xs/\s.heap.IsTuple b ys/\
   ∀h',IsZip h' (s.heap.objs.size+4) (s.heap.objs.size+2) (s.heap.objs.size+3) .none->IsPair h' (s.heap.objs.size+2) (.ref s.heap.objs.size) (.ref (s.heap.objs.size+1))->IsPair h' (s.heap.objs.size+3) .none .none->
    h'.IsTupleIter s.heap.objs.size a 0->h'.IsTupleIter (s.heap.objs.size+1) b 0->(∀c o,s.heap.get? c=some o->h'.get? c=some o)->R (.ok (.ret (.ref (s.heap.objs.size+4)))) {s with heap:=h'}):=
 .of_wp λprog w A R s h=>by
  obtain⟨hp,g,d,tk,os⟩:=s;obtain⟨t1,t2,h⟩:=h;have hs:=sub_zip;have u1:Heap.IsTuple (Shared.heap ⟨hp,g,d,tk,os⟩) a xs:=t1;have u2:Heap.IsTuple (Shared.heap ⟨hp.push {cls:=.type "tuple_iterator",data:=.fields #[.ref a,.int 0 0]},g,d,tk,os⟩) b ys:=Heap.IsTuple.push t2 _
  wp_walk using MJ u1,MJ u2
  refine⟨_,rfl,?_⟩;have key:∀(n1 n2 n3 n4:Nat) (h':Heap),n1=hp.objs.size+1->n2=hp.objs.size+2->n3=hp.objs.size+3->n4=hp.objs.size+4->IsZip h' n4 n2 n3 .none->IsPair h' n2 (.ref hp.objs.size) (.ref n1)->IsPair h' n3 .none .none->
    h'.IsTupleIter hp.objs.size a 0->h'.IsTupleIter n1 b 0->(∀c o,hp.get? c=some o->h'.get? c=some o)->R (.ok (.ret (.ref n4))) ⟨h',g,d,tk,os⟩:=by
   rintro _ _ _ _ h' rfl rfl rfl rfl;exact h h'
  refine key (hp.push {cls:=.type "tuple_iterator",data:=.fields #[.ref a,.int 0 0]}).objs.size _ _ _ _ ?e1 ?e2 ?e3 ?e4 (CT _ rfl) ?g5 ?g6 ?g7 ?g8 ?g9
  case g5=>exact Bu _ (Bu _ (CT _ rfl))
  case g6=>exact Bu _ (CT _ rfl)
  case g7=>exact⟨_,Bu _ (Bu _ (Bu _ (Bu _ (CT _ rfl)))),rfl,rfl⟩
  case g8=>exact⟨_,Bu _ (Bu _ (Bu _ (CT _ rfl))),rfl,rfl⟩
  case g9=>exact λc o e=>Bu _ (Bu _ (Bu _ (Bu _ (Bu _ e))))
  all_goals simp only[Kx]
def WI (K:Faa)(ta:TA):TI:=fun σ H R=>ta σ H λvs H1=>∃a b:Addr,vs=[.ref a,.ref b]/\(∃xs,A4 K H1 a xs)/\(∃ys,A4 K H1 b ys)/\R (IG K a b) H1
theorem QI {X:Cx}{a b:Expr}{ta:TA}{p pos:Pos}{elts:List Expr}{x1:Nat}{pos2:Pos}(hg:Gl X "zip")(hm:X.mg "zip"=none)(ha:PA X [a,b] ta)(hs:starEach [a,b] X.env=[(false,eval a X.env),(false,eval b X.env)]:=by rfl)(hs2:starEach [b] X.env=[(false,eval b X.env)]:=by rfl) :
  PI X (.Tuple elts x1 pos2) (.Call (.Name "zip" p) [a,b] [] pos) (WI X.K ta):=by
 intro pins s σ H R I h;refine Call_ (FY I hg hm boot_zip (Ji (AA (ha pos pins s σ H _ I h) λus s1 zz=>?_) (by rw[hs,hs2]) (by rw[hs2];rfl)));obtain⟨vs,H1,I1,r1,q1⟩:=zz;obtain⟨l1,l2,rfl,⟨xs,hq1⟩,⟨ys,hq2⟩,q⟩:=q1;cases r1 with
 |
  cons r rr=>
  cases rr with
  |
   cons r' rr=>
   cases rr;cases r;cases r';obtain⟨its1,rv1,p1,_⟩:=I1.tuple hq1;obtain⟨its2,rv2,p2,_⟩:=I1.tuple hq2;have lt1:l1<s1.heap.objs.size:=p1.lt;have lt2:l2<s1.heap.objs.size:=p2.lt;refine callType_new F.called_zip (by decide) (F.typeCall_zip_2 _ _) (F.newCall_zip_2 _ _) (λobj=>F.args_object_init_3 obj _ _) F.entry_zip_new (Xu l1 l2 its1.toArray its2.toArray) ⟨p1,p2,λh' hz hTI hTO h1 h2 hk=>⟨⟨_,hz,rfl⟩,?_⟩⟩;refine wpAny_pyIter_zip hz ?_;refine⟨_,[s1.heap.objs.size+4,s1.heap.objs.size+2,s1.heap.objs.size+3,s1.heap.objs.size,s1.heap.objs.size+1],_,_,H1,rfl,I1.kept (t':=s1.toks) hk,X5 l1 l2 _ _ _ _ _ ⟨?_,?_,?_,?_,?_,?_,?_,?_,?_,?_,?_,?_,?_,?_,?_⟩ ?_ ?_,⟨hz,hTI,⟨_,_,hTO⟩,h1,h2⟩,λb hb=>?_,q⟩
   case refine_18=>
    simp only[Bb,Ez,or_false]at hb;have hb':s1.heap.objs.size<=b:=by
     rcases hb with rfl|rfl|rfl|rfl|rfl
     .exact Fj _ 4
     .exact Fj _ 2
     .exact Fj _ 3
     .exact Ah _
     .exact Fj _ 1
    exact I1.fpOk hb' (I1.hok.fresh hb')
   all_goals first
    |exact C4 lt1
    |exact C4 (Cv lt2 (Fj _ _))
    |(show(_:Nat)≠_;lia)
    |(
      simp only[Bb,Ez,or_false,not_or];exact⟨by show(_:Nat)≠_;lia,by first
       |exact GK lt1
       |exact GK lt2
       |exact GK (Cv lt1 (Fj _ _))
       |exact GK (Cv lt2 (Fj _ _))⟩)
theorem Zt {K:Faa}{a b:Addr}{xs ys:List V}{g:TG}{tb:TS}{D:Do}{σ:St}{H:Hp}(hlen:xs.length=ys.length)(Pv:Nat->St->Hp->Prop)(h0:Pv 0 σ H)(hl:∀i σ H,i<=xs.length->Pv i σ H->A4 K H a xs/\A4 K H b ys)
  (hs:∀i x y T σ H,xs[i]?=some x->ys[i]?=some y->Pv i σ H->H T=none->g (.ref T) σ (upd H T (.tup [x,y])) fun σ2 H2=>tb {D with nx:=Pv (i+1),ct:=Pv (i+1),bk:=D.nx} σ2 H2) (hd:∀σ H,Pv xs.length σ H->D.nx σ H) :
  ∃W:Nat->Nat->St->Hp->Prop,(∃m,W 0 m σ H)/\∀i m σ H,W i m σ H->
   ((IG K a b).stop i H/\D.nx σ H)\/((IG K a b).go i H/\∃N:St->Hp->Prop,(∀σ' H',N σ' H'->∃m',m'<m/\W (i+1) m' σ' H')/\∀x H',(IG K a b).yld i H x H'->g x σ H' fun σ2 H2=>tb {D with nx:=N,ct:=N,bk:=D.nx} σ2 H2):=by
 refine⟨λi m σ H=>m=xs.length-i/\i<=xs.length/\Pv i σ H,⟨xs.length,by simp,Bh _,h0⟩,?_⟩;rintro i m σ H ⟨rfl,hi,p⟩;obtain⟨q1,q2⟩:=hl i σ H hi p;by_cases hlt:i<xs.length
 .refine .inr ⟨⟨xs,ys,xs[i],ys[i],q1,q2,AE hlt,AE (by lia)⟩,Pv (i+1),fun σ' H' p'=>⟨xs.length-(i+1),by lia,rfl,hlt,p'⟩,λv H' yy=>?_⟩;obtain⟨x,y,T,hx,hy,hT,rfl,rfl⟩:=yy;exact hs i x y T σ H (hx xs q1) (hy ys q2) p hT
 .have e:i=xs.length:=by lia
  subst e;exact .inl ⟨⟨xs,ys,q1,q2,Ah _,by lia,.inl rfl⟩,hd σ H p⟩
def JV (K:Faa)(a:Addr):It:=
 ⟨λi H=>∃xs x,A4 K H a xs/\xs[i]?=some x,λi H v H'=>∃x T,(∀xs,A4 K H a xs->xs[i]?=some x)/\H T=none/\v = .ref T/\H'=upd H T (.tup [.int i,x]),λi H=>∃xs,A4 K H a xs/\xs.length=i⟩
theorem XD {P:Program}{w:World}{K:Faa}{elts:List Expr}{x1:Nat}{pos:Pos}(a e it:Addr)(hei:e≠it)(na:a≠it)(ne:e≠a):Hw P w K (.Tuple elts x1 pos) (JV K a) [e,it] e (λi h=>(∃old,IsEnum h e it i old)/\h.IsTupleIter it a i) where
 mem:=by simp
 obj:=λi h st b hb=>by
  obtain⟨⟨old,he⟩,hit⟩:=st;rcases Bb.mp hb with rfl|hb
  .exact⟨_,he,λv z=>by cases z⟩
  .have e:b=it:=by simpa using hb
   subst e;obtain⟨o,e,c,d⟩:=hit;exact⟨o,e,λv z=>by rw[d]at z;cases z⟩
 keep:=λi h h' st k=>by
  obtain⟨⟨old,he⟩,hit⟩:=st;exact⟨⟨old,k e (by simp) _ he⟩,hit.at λo e=>k it (by simp) o e⟩
 item:=by
  intro X hP hw hK hc i pins s σ H E I hf st hg;subst hP hw hK;obtain⟨xs,x,hq,hx⟩:=hg;obtain⟨its,rv,p,hz⟩:=I.tuple hq;obtain⟨u,hu,ru⟩:=rv.get hx;obtain⟨⟨old,he⟩,hit⟩:=st;have p':s.heap.IsTuple a its.toArray:=p;have hn:X.A.in1.handled=none:=I.ok.hd hc;have d1:=J7 (prog:=X.prog) (w:=X.w) hn it a na its.toArray;have l1:=rv.length;obtain⟨b1,_⟩:=Aw.1 hx;refine wpAny_pyNext_enum_itemD d1 he ⟨hit,p'⟩ (by simp;lia) hei (by simp[hei,ne]) λu' h1 tk hu' ho hit' hT hsz hk=>⟨_,rfl,?_⟩
  have eu:u=u':=by simpa[hu] using hu'
  subst eu;refine wpAny_letOwnedTupleGo_enum ho λh2 he2 hs2=>?_;have hTn:H s.heap.objs.size=none:=I.hok.fresh (Ah _);have helt:e<s.heap.objs.size:=Bq he;have hilt:it<s.heap.objs.size:=by obtain⟨_,x,_⟩:=hit;exact Bq x
  have I1:A5 X pins σ (upd H s.heap.objs.size (.tup [.int i,x])) {s with heap:=s.heap.push {cls:=.type "tuple",data:=.seq #[.int i tk,u]},toks:=tk+1}:=I.laid (t':=tk+1) (o:=.tup [.int i,x]) (λb o e=>Bu _ e) (Ah _) ⟨Ap rfl,[.int i tk,u],.cons ⟨_,rfl⟩ (.cons ru .nil),EW.new _ _⟩;have I2:A5 X pins σ (upd H s.heap.objs.size (.tup [.int i,x])) {s with heap:=h2,toks:=tk+1}:=by
   refine A5.turnedL (s:={s with heap:=s.heap.push {cls:=.type "tuple",data:=.seq #[.int i tk,u]},toks:=tk+1}) (h':=h2) (ch:=[e,it]) (t':=tk+1) I1 (λb o hb q=>?_) (λb hb=>?_)
   .have nbe:b≠e:=λz=>hb (by simp[z]);have nbi:b≠it:=λz=>hb (by simp[z]);show h2.get? b=some o;rw[hs2.2 b nbe];rcases SO q with⟨rfl,rfl⟩|q
    .exact hT
    .exact hk b o nbe nbi q
   .obtain⟨f0,f1,f2,f3,f4,f5⟩:=hf b hb;have nb:b≠s.heap.objs.size:=by
     rcases Bb.mp hb with rfl|hb
     .exact C4 helt
     .have:b=it:=by simpa using hb
      subst this;exact C4 hilt
    exact⟨by rw[Ag nb];exact f0,f1,f2,f3,f4,f5⟩
  refine⟨.ref s.heap.objs.size,_,I2,rfl,⟨x,_,λys hy=>by rw[I.tuple_inj hy hq];exact hx,hTn,rfl,rfl⟩,⟨⟨_,by simpa using he2⟩,hit'.1.at λo y=>(hs2.2 it hei.symm).trans y⟩,λb hb=>?_⟩;obtain⟨f0,f1,f2,f3,f4,f5⟩:=hf b hb;have nb:b≠s.heap.objs.size:=by
   rcases Bb.mp hb with rfl|hb
   .exact C4 helt
   .have:b=it:=by simpa using hb
    subst this;exact C4 hilt
  rw[Ag nb];exact f0
 done:=by
  intro X hP hw hK hc i pins s σ H E I hf st hg;subst hP hw hK;obtain⟨xs,hq,hx⟩:=hg;obtain⟨its,rv,p,hz⟩:=I.tuple hq;obtain⟨⟨old,he⟩,hit⟩:=st;have p':s.heap.IsTuple a its.toArray:=p;have hn:X.A.in1.handled=none:=I.ok.hd hc;have d1:=J7 (prog:=X.prog) (w:=X.w) hn it a na its.toArray;have hl:=rv.length;have e1:its.toArray.size=i:=by simp;lia
  refine wpAny_pyNext_enum_endD d1 he ⟨by rw[e1];exact hit,p'⟩ λh' eb=>⟨rfl,?_⟩
  exact I.turnedL (ch:=[e,it]) (t':=s.toks) (λb o hb q=>eb b o (λz=>hb (by simp[z])) q) hf
 self:=λ_ _ _ _ _ st h=>by
  obtain⟨⟨old,he⟩,_⟩:=st;exact OW he h
theorem Yo (l:Addr)(items:Array Value)(n:Nat)(dd:Option Addr)(sl:Array (Option Value)) :
  Meets (Builtin.«enumerate.__new__» ⟨[.type "enumerate",.ref l],[]⟩) (λ_ R s=>s.heap.get? l=some {cls:=.type "tuple",dict:=dd,data:=.seq items n,slots:=sl}/\
   ∀h',IsEnum h' (s.heap.objs.size+1) s.heap.objs.size 0 .none->h'.IsTupleIter s.heap.objs.size l 0->(∀c o,s.heap.get? c=some o->h'.get? c=some o)->R (.ok (.ret (.ref (s.heap.objs.size+1)))) {s with heap:=h'}):=
 .of_wp λprog w A R s h=>by
  obtain⟨hp,g,d,tk,os⟩:=s;obtain⟨hl,h⟩:=h;have hsub:=sub_enumerate;have hL:Heap.IsTuple (Shared.heap ⟨hp,g,d,tk,os⟩) l items:=⟨_,hl,rfl,n,rfl⟩
  have key:∀(n1:Nat) (h':Heap),n1=hp.objs.size+1->IsEnum h' n1 hp.objs.size 0 .none->h'.IsTupleIter hp.objs.size l 0->(∀c o,hp.get? c=some o->h'.get? c=some o)->R (.ok (.ret (.ref n1))) ⟨h',g,d,tk,os⟩:=by
   rintro _ h' rfl;exact h h'
  wp_walk using AutoSeq1.wpAny_loadPart' hl
  apply wpAny_stack_any;intro st;apply AV;have fin:R (.ok (.ret (.ref (hp.push {cls:=.type "tuple_iterator",data:=.fields #[.ref l,.int 0 0]}).objs.size))) ⟨(hp.push {cls:=.type "tuple_iterator",data:=.fields #[.ref l,.int 0 0]}).push {cls:=.type "enumerate",data:=.fields #[.none,.bool false,.ref hp.objs.size,rawInt 0,.none,.none]},g,d,tk,os⟩:=
   key _ _ (by simp only[Kx]) (CT _ rfl) ⟨_,Bu _ (CT _ rfl),rfl,rfl⟩ λc o e=>Bu _ (Bu _ e)
  split
  .rename_i c _ _ _ _ _;cases (c==Value.type "enumerate")
   all_goals
    wp_walk using AutoSeq1.wpAny_loadPart' hl,MJ hL
    exact⟨_,rfl,fin⟩
  .wp_walk using AutoSeq1.wpAny_loadPart' hl,MJ hL
   exact⟨_,rfl,fin⟩
def UV (K:Faa)(ta:TA):TI:=fun σ H R=>ta σ H λvs H1=>∃a:Addr,vs=[.ref a]/\(∃xs,A4 K H1 a xs)/\R (JV K a) H1
theorem QB {X:Cx}{a:Expr}{ta:TA}{p pos:Pos}{elts:List Expr}{x1:Nat}{pos2:Pos}(hg:Gl X "enumerate")(hm:X.mg "enumerate"=none)(ha:PA X [a] ta)(hs:starEach [a] X.env=[(false,eval a X.env)]:=by rfl):PI X (.Tuple elts x1 pos2) (.Call (.Name "enumerate" p) [a] [] pos) (UV X.K ta):=by
 intro pins s σ H R I h;refine Call_ (FY I hg hm boot_enumerate (Ji (AA (ha pos pins s σ H _ I h) λus s1 zz=>?_) hs rfl));obtain⟨vs,H1,I1,r1,q1⟩:=zz;obtain⟨l,rfl,⟨xs,hq⟩,q⟩:=q1;cases r1 with
 |
  cons r rr=>
  cases rr;cases r;obtain⟨its,rv,pl,hz⟩:=I1.tuple hq;have lt1:l<s1.heap.objs.size:=pl.lt;obtain⟨⟨c,dct,dt,sl⟩,hl,hc,n,hd⟩:=pl;have hc':c = .type "tuple":=hc;have hd':dt = .seq its.toArray n:=hd;subst hc' hd';refine callType_new F.called_enumerate (by decide) (F.typeCall_enumerate_1 _) (F.newCall_enumerate_1 _) (λobj=>F.args_object_init_2 obj _) F.entry_enumerate_new (Yo l its.toArray n dct sl) ⟨hl,λh' he hit hk=>⟨⟨_,he,rfl⟩,?_⟩⟩;refine OW he ?_;refine⟨_,[s1.heap.objs.size+1,s1.heap.objs.size],_,_,H1,rfl,I1.kept (t':=s1.toks) hk,XD l _ _ (GK (Ig _)) (C4 lt1) (GK (Cv lt1 (Fj _ _))),⟨⟨_,he⟩,hit⟩,λb hb=>?_,q⟩;rcases Bb.mp hb with rfl|hb
  .exact I1.fpOk (GM _) (I1.hok.fresh (GM _))
  .have e:b=s1.heap.objs.size:=by simpa using hb
   subst e;exact I1.fpOk (Ah _) (I1.hok.fresh (Ah _))
theorem Rw {K:Faa}{a:Addr}{xs:List V}{g:TG}{tb:TS}{D:Do}{σ:St}{H:Hp}(Pv:Nat->St->Hp->Prop)(h0:Pv 0 σ H)(hl:∀i σ H,i<=xs.length->Pv i σ H->A4 K H a xs)
  (hs:∀i x T σ H,xs[i]?=some x->Pv i σ H->H T=none->g (.ref T) σ (upd H T (.tup [.int i,x])) fun σ2 H2=>tb {D with nx:=Pv (i+1),ct:=Pv (i+1),bk:=D.nx} σ2 H2) (hd:∀σ H,Pv xs.length σ H->D.nx σ H) :
  ∃W:Nat->Nat->St->Hp->Prop,(∃m,W 0 m σ H)/\∀i m σ H,W i m σ H->
   ((JV K a).stop i H/\D.nx σ H)\/((JV K a).go i H/\∃N:St->Hp->Prop,(∀σ' H',N σ' H'->∃m',m'<m/\W (i+1) m' σ' H')/\∀x H',(JV K a).yld i H x H'->g x σ H' fun σ2 H2=>tb {D with nx:=N,ct:=N,bk:=D.nx} σ2 H2):=by
 refine⟨λi m σ H=>m=xs.length-i/\i<=xs.length/\Pv i σ H,⟨xs.length,by simp,Bh _,h0⟩,?_⟩;rintro i m σ H ⟨rfl,hi,p⟩;have q:=hl i σ H hi p;by_cases hlt:i<xs.length
 .refine .inr ⟨⟨xs,xs[i],q,AE hlt⟩,Pv (i+1),fun σ' H' p'=>⟨xs.length-(i+1),by lia,rfl,hlt,p'⟩,λv H' y=>?_⟩;obtain⟨x,T,hx,hT,rfl,rfl⟩:=y;exact hs i x T σ H (hx xs q) p hT
 .have e:i=xs.length:=by lia
  subst e;exact .inl ⟨⟨xs,q,rfl⟩,hd σ H p⟩
abbrev AQ:=Int×Int×Int
def Bk (H:Hp)(ys:List V)(B:List AQ):Prop:=ys.length=B.length/\∀(i:Nat) (y:V) (b:AQ),ys[i]?=some y->B[i]?=some b->∃t,y = .ref t/\H t=some (.tup [.int b.1,.int b.2.1,.int b.2.2])
theorem Bk.over {H H':Hp}{ys:List V}{B:List AQ}(h:Bk H ys B)(e:A8 H H'):Bk H' ys B:=⟨h.1,λi y b p q=>by obtain⟨t,x,z⟩:=h.2 i y b p q;exact⟨t,x,e _ _ z⟩⟩
theorem Bk.nil {H:Hp}:Bk H [] []:=⟨rfl,λi y b p=>by simp at p⟩
theorem Bk.snoc {H:Hp}{ys:List V}{B:List AQ}{t:Addr}{b:AQ}(h:Bk H ys B)(ht:H t=some (.tup [.int b.1,.int b.2.1,.int b.2.2])):Bk H (ys++[.ref t]) (B++[b]):=by
 refine⟨by rw[Ai,Ai,h.1];rfl,λi y c p q=>?_⟩;by_cases l:i<ys.length
 .rw[Cw l]at p;rw[Cw (by rw[←h.1];exact l)]at q;exact h.2 i y c p q
 .have hi:i=ys.length:=by
   have:=(Aw.mp p).1;rw[Ai,Bc]at this;lia
  subst hi;rw[Cg (Ah _),DO]at p;rw[h.1,Cg (Ah _),DO]at q;cases p;cases q;exact⟨t,rfl,ht⟩
theorem Bk.get {H:Hp}{ys:List V}{B:List AQ}{i:Nat}{b:AQ}(h:Bk H ys B)(hb:B[i]?=some b):∃t,ys[i]?=some (.ref t)/\H t=some (.tup [.int b.1,.int b.2.1,.int b.2.2]):=by
 have hi:i<ys.length:=by rw[h.1];exact(Aw.mp hb).1
 obtain⟨t,e,ht⟩:=h.2 i _ b (AE hi) hb;exact⟨t,by rw[AE hi,e],ht⟩
theorem Bk.upd {H:Hp}{ys zs xs:List V}{B:List AQ}{l:Addr}(h:Bk H ys B)(hl:H l=some (.lst zs)):Bk (upd H l (.lst xs)) ys B:=⟨h.1,λi y b p q=>by
 obtain⟨t,x,z⟩:=h.2 i y b p q;exact⟨t,x,by rw[Ag (Fn z hl (by intro z;cases z))];exact z⟩⟩
def Di (H:Hp)(p:Addr)(m:Nat)(z:Nat->Str)(n:Nat->Int):Prop := ∃xs:List V,H p=some (.tup xs)/\xs.length=m/\∀(i:Nat) (x:V),xs[i]?=some x->∃t,x = .ref t/\H t=some (.tup [.str (z i),.int (n i)])
theorem Di.over {H H':Hp}{p:Addr}{m:Nat}{z:Nat->Str}{n:Nat->Int}(h:Di H p m z n)(e:A8 H H'):Di H' p m z n:=by
 obtain⟨xs,h1,h2,h3⟩:=h;exact⟨xs,e _ _ h1,h2,λi x hx=>by obtain⟨t,a,b⟩:=h3 i x hx;exact⟨t,a,e _ _ b⟩⟩
def DI (F G:Nat->AQ):Nat->List AQ
 |0=>[]
 |n+1=>DI F G n++[F n]++[G n]
theorem F2 (F G:Nat->AQ)(n:Nat):(DI F G n).length=2*n:=by
 induction n with
 |zero=>rfl
 |succ n ih=>rw[DI,Ai,Ai,ih];simp only[Bc];lia
def YU:Sp:=λvs H Q _=>∃(sp nm ot nm2:Addr) (f s:Int) (m:Nat) (z1 z2:Nat->Str) (n1 n2 u w:Nat->Int) (zs zs2:List Str),vs=[.ref sp,.ref nm,.int f,.ref ot,.ref nm2,.int s]/\m<=100/\Di H sp m z1 n1/\Di H ot m z2 n2/\H nm=some (.tup (zs.map V.str))/\H nm2=some (.tup (zs2.map V.str))/\(∀i<m,EM zs (z1 i) f (u i))/\(∀i<m,EM zs2 (z2 i) s (w i))/\∀(r:Addr) (ys:List V) (H':Hp),A8 H H'->H' r=some (.lst ys)->Bk H' ys (DI (λi=>(u i,w i,n2 i-n1 i)) (λi=>(w i,u i,n1 i-n2 i)) m)->Q (.ref r) H'
def W5:R2:=λx y H Q=>∃(a b:Addr) (xs ys:List V),x = .ref a/\y = .ref b/\H a=some (.tup xs)/\H b=some (.tup ys)/\xs.length+ys.length<=sizeLine/\∀(p:Addr) (H':Hp),A8 H H'->H' p=some (.tup (xs++ys))->Q (.ref p) H'
theorem L8 {X:Cx}:BI X (binaryOp .Add) W5:=by
 intro pins s σ H x y v u Q I rx ry h;obtain⟨a,b,xs,ys,rfl,rfl,ha,hb,hz,q⟩:=h;by_cases c:xs=[]
 .subst c;cases rx;cases ry;obtain⟨its,r1,p1,_⟩:=I.tuple (A4.of ha);obtain⟨its2,r2,p2,_⟩:=I.tuple (A4.of hb);obtain⟨⟨cls,dd,data,sl⟩,ho,hc,n,hd⟩:=id p1;obtain⟨⟨cls2,dd2,data2,sl2⟩,ho2,hc2,n2,hd2⟩:=id p2;simp only at hc hd hc2 hd2;subst hc hd hc2 hd2;have e:its=[]:=r1.nil_iff.mpr rfl;exact concat_meets ⟨_,ho,rfl⟩ ⟨_,ho2,rfl⟩ T9 seq_tuple_add SI SJ (SK _ _)
   (tuple_addW0 a b its.toArray its2.toArray n n2 dd dd2 sl sl2 (by simp[e])) ⟨ho,ho2,.ref b,H,I,rfl,q b H (A8.refl _) hb⟩
 .refine Xl pins s σ H (.ref a) (.ref b) v u Q I rx ry ⟨a,b,xs,ys,rfl,rfl,A4.of ha,A4.of hb,c,hz,λz=>?_,λz p hp=>?_⟩
  .subst z;exact q a H (A8.refl _) (by rw[CV];exact ha)
  .exact q p _ (Ab hp _) A7
end L2
namespace Fo
set_option genInjectivity true in
inductive F (W:Type) where
 |nil:F W
 |leaf (k:Int) (pl:List (Int×Int)) (rest:F W):F W
 |node (cut:Bool) (way:W) (sub rest:F W):F W
structure Bo (W:Type) where
 k:Int
 sh:Nat
 ways:List (Bool×W)
 pl:List (Int×Int)
variable {W L:Type}
def HeadSh (B:List (Bo W))(d:Nat):Prop := ∀c,B.head?=some c->c.sh=d
def Is:F W->List (Bo W)->Nat->Prop
 |.nil,B,_=>B=[]
 |.leaf k pl rest,B,d=>∃b B',B=b::B'/\b.k=k/\b.pl=pl/\b.ways.length=d/\HeadSh B' d/\Is rest B' d
 |.node cut way sub rest,B,d=>∃b G B',B=(b::G)++B'/\b.ways[d]?=some (cut,way)/\(∀c∈G,d<c.sh)/\HeadSh B' d/\Is sub (b::G) (d+1)/\Is rest B' d
section
variable (hdr:Nat->Bool->W->L)(dl:Nat->Int->List (Int×Int)->L)
def shownF:F W->Nat->List L
 |.nil,_=>[]
 |.leaf k pl rest,d=>dl d k pl::shownF rest d
 |.node c w sub rest,d=>hdr d c w::(shownF sub (d+1)++shownF rest d)
def hdrs:Nat->List (Bool×W)->List L
 |_,[]=>[]
 |e,w::ws=>hdr e w.1 w.2::hdrs (e+1) ws
def lin (b:Bo W)(e:Nat):List L:=hdrs hdr e (b.ways.drop e)++[dl b.ways.length b.k b.pl]
def lins (B:List (Bo W)):List L:=B.flatMap λc=>lin hdr dl c c.sh
def MX:List (Bo W)->Nat->List L
 |[],_=>[]
 |b::B,d=>lin hdr dl b d++lins hdr dl B
theorem lines_head {B:List (Bo W)}{d:Nat}(h:HeadSh B d):MX hdr dl B d=lins hdr dl B:=by
 cases B with
 |nil=>rfl
 |
  cons b B=>
  have:=h b rfl;subst this;rfl
theorem shown_lines:∀(f:F W) (B:List (Bo W)) (d:Nat),Is f B d->shownF hdr dl f d=MX hdr dl B d
 |.nil,B,d,h=>by cases (show B=[] from h);rfl
 |
  .leaf k pl rest,B,d,h=>by
  obtain⟨b,B',rfl,rfl,rfl,hl,hh,hr⟩:=h;have ih:=shown_lines rest B' d hr;rw[lines_head hdr dl hh]at ih;show dl d b.k b.pl::shownF hdr dl rest d=lin hdr dl b d++lins hdr dl B';rw[ih];unfold lin;rw[Mz (Ot hl),hl];rfl
 |
  .node c w sub rest,B,d,h=>by
  obtain⟨b,G,B',rfl,hw,hG,hh,hs,hr⟩:=h;have i1:=shown_lines sub (b::G) (d+1) hs;have i2:=shown_lines rest B' d hr;rw[lines_head hdr dl hh]at i2;show hdr d c w::(shownF hdr dl sub (d+1)++shownF hdr dl rest d)=lin hdr dl b d++lins hdr dl (G++B');rw[i1,i2];have hd:b.ways.drop d=(c,w)::b.ways.drop (d+1):=by
   obtain⟨hl,e⟩:=Aw.mp hw;rw[GT hl,e]
  unfold MX lin lins;rw[hd,SY];simp[hdrs]
end
structure Ok (B:List (Bo W)):Prop where
 sh:∀b∈B,b.sh<=b.ways.length
 ln:∀(i:Nat) (b c:Bo W),B[i]?=some b->B[i+1]?=some c->c.sh<=b.ways.length/\c.ways.take c.sh=b.ways.take c.sh
structure En where
 k:Int
 pl:List (Int×Int)
 path:List Int
def deedsF:F W->List Int->Nat->List En
 |.nil,_,_=>[]
 |.leaf k pl rest,p,j=>⟨k,pl,p++[(j:Int)]⟩::deedsF rest p (j+1)
 |.node _ _ sub rest,p,j=>deedsF sub (p++[(j:Int)]) 0++deedsF rest p (j+1)
theorem deeds_map:∀(f:F W) (B:List (Bo W)) (d:Nat) (p:List Int) (j:Nat),Is f B d->(deedsF f p j).map (λe=>(e.k,e.pl))=B.map λb=>(b.k,b.pl)
 |.nil,B,d,p,j,h=>by cases (show B=[] from h);rfl
 |
  .leaf k pl rest,B,d,p,j,h=>by
  obtain⟨b,B',rfl,rfl,rfl,hl,hh,hr⟩:=h;show(b.k,b.pl)::_=(b.k,b.pl)::_;rw[deeds_map rest B' d p (j+1) hr]
 |
  .node c w sub rest,B,d,p,j,h=>by
  obtain⟨b,G,B',rfl,hw,hG,hh,hs,hr⟩:=h;show List.map _ (deedsF sub (p++[(j:Int)]) 0++deedsF rest p (j+1))=_;rw[Bv,deeds_map sub (b::G) (d+1) _ _ hs,deeds_map rest B' d p (j+1) hr,←Bv]
theorem deeds_len {f:F W}{B:List (Bo W)}{d:Nat}(p:List Int)(j:Nat)(h:Is f B d):(deedsF f p j).length=B.length:=by
 have:=congrArg List.length (deeds_map f B d p j h)
 rwa [Af,Af]at this
theorem Iv:∀(f:F W) (p:List Int) (j:Nat) (e:En),e∈deedsF f p j->∃(i:Nat) (q:List Int),j<=i/\e.path=p++(i:Int)::q
 |.nil,p,j,e,h=>by cases h
 |
  .leaf k pl rest,p,j,e,h=>by
  rcases Bb.mp h with rfl|h
  .exact⟨j,[],Ah _,rfl⟩
  .obtain⟨i,q,h1,h2⟩:=Iv rest p (j+1) e h;exact⟨i,q,by lia,h2⟩
 |
  .node c w sub rest,p,j,e,h=>by
  rcases CG.mp h with h|h
  .obtain⟨i,q,h1,h2⟩:=Iv sub (p++[(j:Int)]) 0 e h;exact⟨j,(i:Int)::q,Ah _,by rw[h2];simp⟩
  .obtain⟨i,q,h1,h2⟩:=Iv rest p (j+1) e h;exact⟨i,q,by lia,h2⟩
def Sep (x y:List Int)(n:Nat):Prop := ∃(c:List Int) (i j:Int) (q r:List Int),x=c++i::q/\y=c++j::r/\c.length=n/\i<j
def Least (B:List (Bo W))(i1 i2 m:Nat):Prop:=(∃j c,i1<j/\j<=i2/\B[j]?=some c/\c.sh=m)/\∀j c,i1<j->j<=i2->B[j]?=some c->m<=c.sh
theorem Re {x y:En}{p:List Int}{i j:Nat}{q r:List Int}(hx:x.path=p++(i:Int)::q)(hy:y.path=p++(j:Int)::r)(h:i<j):Sep x.path y.path p.length:=⟨p,i,j,q,r,hx,hy,rfl,by lia⟩
theorem deeds_sep:∀(f:F W) (B:List (Bo W)) (d:Nat) (p:List Int) (j i1 i2 m:Nat) (x y:En),Is f B d->(∀i c,B[i+1]?=some c->d<=c.sh)->i1<i2->(deedsF f p j)[i1]?=some x->(deedsF f p j)[i2]?=some y->Least B i1 i2 m->d<=m/\Sep x.path y.path (p.length+(m-d))
 |.nil,B,d,p,j,i1,i2,m,x,y,h,hs,hi,hx,hy,hm=>by simp[deedsF]at hx
 |
  .leaf k pl rest,B,d,p,j,i1,i2,m,x,y,h,hs,hi,hx,hy,hm=>by
  obtain⟨b,B',rfl,rfl,rfl,hl,hh,hr⟩:=h;have hs':∀i c,B'[i+1]?=some c->d<=c.sh:=λi c hc=>hs (i+1) c (by simpa using hc);obtain⟨i2,rfl⟩:∃n,i2=n+1:=⟨i2-1,by lia⟩
  change(⟨b.k,b.pl,p++[(j:Int)]⟩::deedsF rest p (j+1))[i1]?=some x at hx;change(⟨b.k,b.pl,p++[(j:Int)]⟩::deedsF rest p (j+1))[i2+1]?=some y at hy;rw[Gh]at hy;cases i1 with
  |
   zero=>
   rw[List.getElem?_cons_zero]at hx;cases hx;obtain⟨n,r,h1,h2⟩:=Iv rest p (j+1) y (B0 hy);have hB:0<B'.length:=by
    have:=deeds_len p (j+1) hr;have:=(Aw.mp hy).1;lia
   have h0:B'[0]?=some B'[0]:=AE hB;have hd:(B'[0]).sh=d:=hh _ (by rw[SZ];exact h0);have m1:m<=d:=by
    have:=hm.2 1 B'[0] (by lia) (by lia) (by simpa using h0);lia
   have m2:d<=m:=by
    obtain⟨⟨j',c,a1,a2,a3,a4⟩,_⟩:=hm;have:=hs (j'-1) c (by rw[show j'-1+1=j' by lia];exact a3);lia
   refine⟨m2,?_⟩;rw[show p.length+(m-d)=p.length by lia];exact Re (x:=⟨b.k,b.pl,p++[(j:Int)]⟩) (y:=y) (q:=[]) rfl h2 (by lia)
  |
   succ i1=>
   rw[Gh]at hx;refine deeds_sep rest B' d p (j+1) i1 i2 m x y hr hs' (by lia) hx hy ?_;obtain⟨⟨j',c,a1,a2,a3,a4⟩,a5⟩:=hm;obtain⟨j',rfl⟩:∃n,j'=n+1:=⟨j'-1,by lia⟩
   refine⟨⟨j',c,by lia,by lia,by simpa using a3,a4⟩,λj'' c' b1 b2 b3=>a5 (j''+1) c' (by lia) (by lia) (by simpa using b3)⟩
 |
  .node c w sub rest,B,d,p,j,i1,i2,m,x,y,h,hs,hi,hx,hy,hm=>by
  obtain⟨b,G,B',rfl,hw,hG,hh,hsub,hr⟩:=h;have l1:=deeds_len (p++[(j:Int)]) 0 hsub;have l2:=deeds_len p (j+1) hr;change(deedsF sub (p++[(j:Int)]) 0++deedsF rest p (j+1))[i1]?=some x at hx;change(deedsF sub (p++[(j:Int)]) 0++deedsF rest p (j+1))[i2]?=some y at hy;have hs':∀i c,B'[i+1]?=some c->d<=c.sh:=λi c hc=>hs ((b::G).length+i) c (by
   rw[Cg (by lia),show(b::G).length+i+1-(b::G).length=i+1 by lia];exact hc)
  by_cases c2:i2<(b::G).length
  .rw[Cw (by lia)]at hx hy;have g:Least (b::G) i1 i2 m:=by
    obtain⟨⟨j',c',a1,a2,a3,a4⟩,a5⟩:=hm;rw[Cw (by lia)]at a3;exact⟨⟨j',c',a1,a2,a3,a4⟩,λj'' c'' b1 b2 b3=>a5 j'' c'' b1 b2 (by rw[Cw (by lia)];exact b3)⟩
   obtain⟨q1,q2⟩:=deeds_sep sub (b::G) (d+1) (p++[(j:Int)]) 0 i1 i2 m x y hsub (λi c hc=>hG c (by
    rw[Gh]at hc;exact B0 hc)) hi hx hy g
   refine⟨by lia,?_⟩;rw[Ai,Bc]at q2
   rwa [show p.length+(m-d)=p.length+1+(m-(d+1)) by lia]
  .rw[Cg (by lia)]at hy;by_cases c1:i1<(b::G).length
   .rw[Cw (by lia)]at hx;obtain⟨n,r,h1,h2⟩:=Iv rest p (j+1) y (B0 hy);obtain⟨n',r',h1',h2'⟩:=Iv sub (p++[(j:Int)]) 0 x (B0 hx);have hB:0<B'.length:=by
     have:=(Aw.mp hy).1;lia
    have h0:B'[0]?=some B'[0]:=AE hB;have hd:(B'[0]).sh=d:=hh _ (by rw[SZ];exact h0);have m1:m<=d:=by
     have:=hm.2 (b::G).length B'[0] (by lia) (by lia) (by rw[Cg (by lia),DO];exact h0);lia
    have m2:d<=m:=by
     obtain⟨⟨j',c',a1,a2,a3,a4⟩,_⟩:=hm;have:=hs (j'-1) c' (by rw[show j'-1+1=j' by lia];exact a3);lia
    refine⟨m2,?_⟩;rw[show p.length+(m-d)=p.length by lia];exact Re (x:=x) (y:=y) (i:=j) (q:=(n':Int)::r') (by rw[h2'];simp) h2 (by lia)
   .rw[Cg (by lia)]at hx;rw[l1]at hx hy;refine deeds_sep rest B' d p (j+1) (i1-(b::G).length) (i2-(b::G).length) m x y hr hs' (by lia) hx hy ?_;obtain⟨⟨j',c',a1,a2,a3,a4⟩,a5⟩:=hm;rw[Cg (by lia)]at a3;refine⟨⟨j'-(b::G).length,c',by lia,by lia,a3,a4⟩,λj'' c'' b1 b2 b3=>a5 (j''+(b::G).length) c'' (by lia) (by lia) ?_⟩;rw[Cg (by lia),show j''+(b::G).length-(b::G).length=j'' by lia];exact b3
set_option genInjectivity true in
inductive NJ (W:Type) where
 |deed (k:Int) (pl:List (Int×Int)):NJ W
 |sweep (cut:Bool) (way:W) (sub:F W):NJ W
def itm:F W->Nat->Option (NJ W)
 |.nil,_=>none
 |.leaf k pl _,0=>some (.deed k pl)
 |.leaf _ _ rest,n+1=>itm rest n
 |.node c w sub _,0=>some (.sweep c w sub)
 |.node _ _ _ rest,n+1=>itm rest n
def Down:F W->List Nat->List (Bool×W)->Prop
 |_,[],_=>False
 |f,r::rs,ws=>(∃k pl,itm f r=some (.deed k pl)/\rs=[]/\ws=[])\/(∃c w sub ws',itm f r=some (.sweep c w sub)/\ws=(c,w)::ws'/\Down sub rs ws')
theorem deeds_down:∀(f:F W) (B:List (Bo W)) (d:Nat) (p:List Int) (j i:Nat) (e:En) (b:Bo W),Is f B d->(∀i c,B[i+1]?=some c->d<=c.sh)->Ok B->(∀b∈B,d<=b.ways.length)->(deedsF f p j)[i]?=some e->B[i]?=some b->
  ∃(r:Nat) (rs:List Nat),e.path=p++((j+r:Nat):Int)::rs.map (λn:Nat=>(n:Int))/\Down f (r::rs) (b.ways.drop d)
 |.nil,B,d,p,j,i,e,b,h,hs,hk,hd,he,hb=>by simp[deedsF]at he
 |
  .leaf k pl rest,B,d,p,j,i,e,b,h,hs,hk,hd,he,hb=>by
  obtain⟨b0,B',rfl,rfl,rfl,hl,hh,hr⟩:=h;change(⟨b0.k,b0.pl,p++[(j:Int)]⟩::deedsF rest p (j+1))[i]?=some e at he;cases i with
  |
   zero=>
   rw[List.getElem?_cons_zero]at he hb;cases he;cases hb;exact⟨0,[],rfl,.inl ⟨_,_,rfl,rfl,Mz (Ot hl)⟩⟩
  |
   succ i=>
   rw[Gh]at he hb;obtain⟨r,rs,h1,h2⟩:=deeds_down rest B' d p (j+1) i e b hr (λi c hc=>hs (i+1) c (by simpa using hc)) ⟨λb hb=>hk.sh b (Ce _ hb),λi b c h1 h2=>hk.ln (i+1) b c (by simpa using h1) (by simpa using h2)⟩ (λb hb=>hd b (Ce _ hb)) he hb;exact⟨r+1,rs,by rw[h1,show j+1+r=j+(r+1) by lia],h2⟩
 |
  .node c w sub rest,B,d,p,j,i,e,b,h,hs,hk,hd,he,hb=>by
  obtain⟨b0,G,B',rfl,hw,hG,hh,hsub,hr⟩:=h;have l1:=deeds_len (p++[(j:Int)]) 0 hsub;change(deedsF sub (p++[(j:Int)]) 0++deedsF rest p (j+1))[i]?=some e at he;by_cases ci:i<(b0::G).length
  .rw[Cw (by lia)]at he hb;have key:∀(n:Nat) (b:Bo W),(b0::G)[n]?=some b->b.ways[d]?=some (c,w):=by
    intro n;induction n with
    |zero=>intro b hb;cases hb;exact hw
    |
     succ n ih=>
     intro b hb;have hn:n<(b0::G).length:=by have:=(Aw.mp hb).1;lia
     have e1:(b0::G)[n]?=some (b0::G)[n]:=AE hn;have hp:=ih _ e1;have hg:d<b.sh:=hG b (by rw[Gh]at hb;exact B0 hb);have:=(hk.ln n _ b (by rw[Cw hn];exact e1) (by rw[Cw (Aw.mp hb).1];exact hb)).2;have h2:=congrArg (λl:List (Bool×W)=>l[d]?) this;simp only[Ih hg]at h2;rw[h2];exact hp
   have hb':=key i b hb;obtain⟨hl,eb⟩:=Aw.mp hb';obtain⟨r,rs,h1,h2⟩:=deeds_down sub (b0::G) (d+1) (p++[(j:Int)]) 0 i e b hsub (λi c hc=>hG c (by rw[Gh]at hc;exact B0 hc)) ⟨λb hb=>hk.sh b (CN _ hb),λi b c h1 h2=>hk.ln i b c (by rw[Cw (Aw.mp h1).1];exact h1) (by rw[Cw (Aw.mp h2).1];exact h2)⟩ (λb hb=>by
    obtain⟨n,hn⟩:=ES.mp hb;obtain⟨z,_⟩:=Aw.mp (key n b hn);lia) he hb
   refine⟨0,r::rs,by rw[h1];simp,.inr ⟨c,w,sub,b.ways.drop (d+1),rfl,?_,h2⟩⟩;rw[GT hl,eb]
  .rw[Cg (by lia)]at he hb;rw[l1]at he;obtain⟨r,rs,h1,h2⟩:=deeds_down rest B' d p (j+1) (i-(b0::G).length) e b hr (λi c hc=>hs ((b0::G).length+i) c (by
    rw[Cg (by lia),show(b0::G).length+i+1-(b0::G).length=i+1 by lia];exact hc)) ⟨λb hb=>hk.sh b (CU _ hb),λi b c h1 h2=>hk.ln (i+(b0::G).length) b c (by
     rw[Cg (by lia),OI];exact h1) (by
     rw[Cg (by lia),show i+(b0::G).length+1-(b0::G).length=i+1 by lia];exact h2)⟩ (λb hb=>hd b (CU _ hb)) he hb
   exact⟨r+1,rs,by rw[h1,show j+1+r=j+(r+1) by lia],h2⟩
end Fo
namespace Fo
variable {W L:Type}
def app:F W->F W->F W
 |.nil,g=>g
 |.leaf k pl r,g=>.leaf k pl (app r g)
 |.node c w s r,g=>.node c w s (app r g)
theorem HeadSh.app {B C:List (Bo W)}{d:Nat}(h:HeadSh B d)(g:HeadSh C d):HeadSh (B++C) d:=by
 cases B with
 |nil=>exact g
 |cons b B=>exact h
theorem Is.app:∀(f g:F W) (B C:List (Bo W)) (d:Nat),Is f B d->Is g C d->HeadSh C d->Is (app f g) (B++C) d
 |.nil,g,B,C,d,hf,hg,hh=>by cases (show B=[] from hf);exact hg
 |
  .leaf k pl r,g,B,C,d,hf,hg,hh=>by
  obtain⟨b,B',rfl,h1,h2,h3,h4,h5⟩:=hf;exact⟨b,B'++C,rfl,h1,h2,h3,h4.app hh,Is.app r g B' C d h5 hg hh⟩
 |
  .node c w s r,g,B,C,d,hf,hg,hh=>by
  obtain⟨b,G,B',rfl,h1,h2,h3,h4,h5⟩:=hf;exact⟨b,G,B'++C,by simp,h1,h2,h3.app hh,h4,Is.app r g B' C d h5 hg hh⟩
theorem Is.leaf1 {b:Bo W}{d:Nat}(h:b.ways.length=d):Is (.leaf b.k b.pl .nil) [b] d:=⟨b,[],rfl,rfl,rfl,h,(λc hc=>by cases hc),rfl⟩
theorem Is.node1 {b:Bo W}{G:List (Bo W)}{d:Nat}{s:F W}{c:Bool}{w:W}(hw:b.ways[d]?=some (c,w))(hG:∀c∈G,d<c.sh)(hs:Is s (b::G) (d+1)):Is (.node c w s .nil) (b::G) d:=⟨b,G,[],by simp,hw,hG,(λc hc=>by cases hc),hs,rfl⟩
end Fo
namespace L2
open PySem PySem.Spec PyProof.Rows
def Am {α:Type}(R:V->α->Prop)(xs:List V)(as:List α):Prop:=xs.length=as.length/\∀(i:Nat) (x:V) (a:α),xs[i]?=some x->as[i]?=some a->R x a
theorem Am.nil {α:Type}{R:V->α->Prop}:Am R [] []:=⟨rfl,λi x a h=>by simp at h⟩
theorem Am.mono {α:Type}{R S:V->α->Prop}{xs:List V}{as:List α}(h:Am R xs as)(m:∀x a,R x a->S x a):Am S xs as:=⟨h.1,λi x a p q=>m _ _ (h.2 i x a p q)⟩
theorem Am.get {α:Type}{R:V->α->Prop}{xs:List V}{as:List α}{i:Nat}{a:α}(h:Am R xs as)(ha:as[i]?=some a):∃x,xs[i]?=some x/\R x a:=by
 have hi:i<xs.length:=by rw[h.1];exact(Aw.mp ha).1
 exact⟨_,AE hi,h.2 i _ a (AE hi) ha⟩
theorem Am.get' {α:Type}{R:V->α->Prop}{xs:List V}{as:List α}{i:Nat}{x:V}(h:Am R xs as)(hx:xs[i]?=some x):∃a,as[i]?=some a/\R x a:=by
 have hi:i<as.length:=by rw[←h.1];exact(Aw.mp hx).1
 exact⟨_,AE hi,h.2 i x _ hx (AE hi)⟩
theorem Am.app {α:Type}{R:V->α->Prop}{xs ys:List V}{as bs:List α}(h:Am R xs as)(g:Am R ys bs):Am R (xs++ys) (as++bs):=by
 refine⟨by rw[Ai,Ai,h.1,g.1],λi x a p q=>?_⟩;by_cases l:i<xs.length
 .rw[Cw l]at p;rw[Cw (by rw[←h.1];exact l)]at q;exact h.2 i x a p q
 .rw[Cg (by lia)]at p;rw[Cg (by have:=h.1;lia)]at q;rw[h.1]at p;exact g.2 _ x a p q
theorem Am.one {α:Type}{R:V->α->Prop}{x:V}{a:α}(h:R x a):Am R [x] [a]:=⟨rfl,λi y b p q=>by
 cases i with
 |zero=>cases p;cases q;exact h
 |succ i=>simp at p⟩
theorem Am.snoc {α:Type}{R:V->α->Prop}{xs:List V}{as:List α}{x:V}{a:α}(h:Am R xs as)(g:R x a):Am R (xs++[x]) (as++[a]):=h.app (.one g)
theorem Am.cons {α:Type}{R:V->α->Prop}{xs:List V}{as:List α}{x:V}{a:α}(g:R x a)(h:Am R xs as):Am R (x::xs) (a::as):=Am.app (.one g) h
theorem Am.drop {α:Type}{R:V->α->Prop}{xs:List V}{as:List α}(h:Am R xs as)(n:Nat):Am R (xs.drop n) (as.drop n):=⟨by rw[GN,GN,h.1],λi x a p q=>by
 rw[MD]at p q;exact h.2 _ x a p q⟩
theorem Am.take {α:Type}{R:V->α->Prop}{xs:List V}{as:List α}(h:Am R xs as)(n:Nat):Am R (xs.take n) (as.take n):=⟨by rw[BQ,BQ,h.1],λi x a p q=>by
 by_cases l:i<n
 .rw[Ih l]at p q;exact h.2 _ x a p q
 .rw[List.getElem?_take_eq_none (by lia)]at p;cases p⟩
abbrev FN:=Bool×Str
abbrev B6:=Fo.Bo Str
abbrev B8:=Fo.F Str
def Lq (H:Hp)(x:V)(w:FN):Prop := ∃t,x = .ref t/\H t=some (.tup [.bl w.1,.str w.2])
def Fp (H:Hp)(x:V)(p:Int×Int):Prop := ∃t,x = .ref t/\H t=some (.tup [.int p.1,.int p.2])
theorem Lq.over {H H':Hp}{x:V}{w:FN}(h:Lq H x w)(e:A8 H H'):Lq H' x w:=by obtain⟨t,a,b⟩:=h;exact⟨t,a,e _ _ b⟩
theorem Fp.over {H H':Hp}{x:V}{p:Int×Int}(h:Fp H x p)(e:A8 H H'):Fp H' x p:=by obtain⟨t,a,b⟩:=h;exact⟨t,a,e _ _ b⟩
def JK (H:Hp)(l:Addr)(ws:List FN):Prop := ∃xs,H l=some (.lst xs)/\Am (Lq H) xs ws
def Kb (H:Hp)(l:Addr)(ps:List (Int×Int)):Prop := ∃xs,H l=some (.lst xs)/\Am (Fp H) xs ps
def EJ (H:Hp)(l:Addr)(ps:List (Int×Int)):Prop := ∃xs,H l=some (.tup xs)/\Am (Fp H) xs ps
theorem JK.over {H H':Hp}{l:Addr}{ws:List FN}(h:JK H l ws)(e:A8 H H'):JK H' l ws:=by obtain⟨xs,a,b⟩:=h;exact⟨xs,e _ _ a,b.mono λx w p=>p.over e⟩
theorem Kb.over {H H':Hp}{l:Addr}{ps:List (Int×Int)}(h:Kb H l ps)(e:A8 H H'):Kb H' l ps:=by obtain⟨xs,a,b⟩:=h;exact⟨xs,e _ _ a,b.mono λx w p=>p.over e⟩
theorem EJ.over {H H':Hp}{l:Addr}{ps:List (Int×Int)}(h:EJ H l ps)(e:A8 H H'):EJ H' l ps:=by obtain⟨xs,a,b⟩:=h;exact⟨xs,e _ _ a,b.mono λx w p=>p.over e⟩
def AR (H:Hp):List V->B8->Prop
 |xs,.nil=>xs=[]
 |xs,.leaf k pl rest=>∃t p ys,xs = .ref t::ys/\H t=some (.tup [.str "deed",.int k,.ref p])/\EJ H p pl/\AR H ys rest
 |xs,.node c w sub rest=>∃t p zs ys,xs = .ref t::ys/\H t=some (.tup [.str "sweep",.bl c,.str w,.ref p])/\H p=some (.tup zs)/\AR H zs sub/\AR H ys rest
theorem AR.over {H H':Hp}(e:A8 H H'):∀{f:B8} {xs:List V},AR H xs f->AR H' xs f
 |.nil,xs,h=>h
 |
  .leaf k pl rest,xs,h=>by
  obtain⟨t,p,ys,a,b,c,d⟩:=h;exact⟨t,p,ys,a,e _ _ b,c.over e,AR.over e d⟩
 |
  .node c w sub rest,xs,h=>by
  obtain⟨t,p,zs,ys,a,b,c,d,g⟩:=h;exact⟨t,p,zs,ys,a,e _ _ b,e _ _ c,AR.over e d,AR.over e g⟩
def DS (H:Hp)(p:Addr)(f:B8):Prop := ∃xs,H p=some (.tup xs)/\AR H xs f
theorem DS.over {H H':Hp}{p:Addr}{f:B8}(h:DS H p f)(e:A8 H H'):DS H' p f:=by obtain⟨xs,a,b⟩:=h;exact⟨xs,e _ _ a,AR.over e b⟩
def TK (H H':Hp):Prop := ∀(b:Addr) (xs:List V),H b=some (.tup xs)->H' b=some (.tup xs)
theorem TK.trans {H H' H'':Hp}(a:TK H H')(b:TK H' H''):TK H H'':=λx xs h=>b x xs (a x xs h)
theorem A8.tk {H H':Hp}(e:A8 H H'):TK H H':=λb xs h=>e b _ h
theorem TK.upd {H:Hp}{l:Addr}{xs:List V}{o:HO}(hl:H l=some (.lst xs)):TK H (upd H l o):=λb ys hb=>by
 rw[Ag (Fn hb hl (by intro z;cases z))];exact hb
theorem Fp.tk {H H':Hp}{x:V}{w:Int×Int}(h:Fp H x w)(e:TK H H'):Fp H' x w:=by obtain⟨t,a,b⟩:=h;exact⟨t,a,e _ _ b⟩
theorem EJ.tk {H H':Hp}{l:Addr}{ps:List (Int×Int)}(h:EJ H l ps)(e:TK H H'):EJ H' l ps:=by obtain⟨xs,a,b⟩:=h;exact⟨xs,e _ _ a,b.mono λx w p=>p.tk e⟩
theorem AR.tk {H H':Hp}(e:TK H H'):∀{f:B8} {xs:List V},AR H xs f->AR H' xs f
 |.nil,xs,h=>h
 |
  .leaf k pl rest,xs,h=>by
  obtain⟨t,p,ys,a,b,c,d⟩:=h;exact⟨t,p,ys,a,e _ _ b,c.tk e,AR.tk e d⟩
 |
  .node c w sub rest,xs,h=>by
  obtain⟨t,p,zs,ys,a,b,c,d,g⟩:=h;exact⟨t,p,zs,ys,a,e _ _ b,e _ _ c,AR.tk e d,AR.tk e g⟩
theorem AR.app {H:Hp}:∀{f g:B8} {xs ys:List V},AR H xs f->AR H ys g->AR H (xs++ys) (Fo.app f g)
 |.nil,g,xs,ys,h,k=>by cases (show xs=[] from h);exact k
 |
  .leaf k pl rest,g,xs,ys,h,hg=>by
  obtain⟨t,p,zs,rfl,b,c,d⟩:=h;exact⟨t,p,zs++ys,rfl,b,c,AR.app d hg⟩
 |
  .node c w sub rest,g,xs,ys,h,hg=>by
  obtain⟨t,p,zs,us,rfl,b,c,d,k⟩:=h;exact⟨t,p,zs,us++ys,rfl,b,c,d,AR.app k hg⟩
def Ic:List Str:=["up","down","any"]
structure Lz (b:B6):Prop where
 len:b.ways.length<=6
 pll:b.pl.length=b.ways.length
 shl:b.sh<=b.ways.length
 wy:∀w∈b.ways,w.2∈Ic
 k0:0<=b.k
 k5:b.k<=5
 pr:∀p∈b.pl,0<=p.1/\p.1<=2/\-200000000000000000<=p.2/\p.2<=200000000000000000
def WA:Sp:=λvs H Q _=>∃c k:Int,vs=[.int c,.int k]/\∀m:Int,0<=m->Q (.int m) H
structure JC (B:List B6):Prop where
 ok:Fo.Ok B
 fst:∀b,B.head?=some b->b.sh=0
 all:∀b∈B,Lz b
 len:B.length<=6
structure FT (B:List B6)(d n:Nat):Prop where
 ok:Fo.Ok B
 sh:∀i c,B[i+1]?=some c->d<=c.sh
 lo:∀b∈B,d<=b.ways.length
 hi:∀b∈B,b.ways.length<=d+n
 pl:∀b∈B,b.pl.length<=6
 len:B.length<=6
theorem FT.of {B:List B6}(h:JC B):FT B 0 6:=⟨h.ok,λ_ _ _=>Bh _,λ_ _=>Bh _,λb hb=>by have:=(h.all b hb).len;lia,λb hb=>by have:=h.all b hb;have:=this.pll;have:=(h.all b hb).len;lia,h.len⟩
theorem Ua {B:List B6}(h:Fo.Ok B)(i j:Nat):Fo.Ok ((B.drop i).take j):=by
 refine⟨λb hb=>h.sh b (List.mem_of_mem_drop (MF hb)),λn b c h1 h2=>?_⟩;have l2:=(Aw.mp h2).1;rw[BQ]at l2;rw[Ih (by lia),MD]at h1 h2;exact h.ln (i+n) b c h1 h2
theorem FT.group {B:List B6}{d n at' m:Nat}{b:B6}(h:FT B d (n+1))(hb:B[at']?=some b)(hd:b.ways.length≠d)(hm:at'<m)(hG:∀i c,at'<i->i<m->B[i]?=some c->d<c.sh):FT ((B.drop at').take (m-at')) (d+1) n:=by
 have mem:∀c∈(B.drop at').take (m-at'),c∈B:=λc hc=>List.mem_of_mem_drop (MF hc);refine⟨Ua h.ok _ _,λi c hc=>?_,λc hc=>?_,λc hc=>by have:=h.hi c (mem c hc);lia,λc hc=>h.pl c (mem c hc),?_⟩
 .have l2:=(Aw.mp hc).1;rw[BQ]at l2;rw[Ih (by lia),MD]at hc;exact hG (at'+(i+1)) c (by lia) (by lia) hc
 .obtain⟨i,hi⟩:=ES.mp hc;have l2:=(Aw.mp hi).1;rw[BQ]at l2;rw[Ih (by lia),MD]at hi;by_cases z:i=0
  .subst z;rw[OE,hb]at hi;cases hi;have:=h.lo b (B0 hb);lia
  .have:=hG (at'+i) c (by lia) (by lia) hi;have:=h.ok.sh c (mem c hc);lia
 .have:=h.len;rw[BQ,GN];lia
def SA (d:Nat):Str:=U0 (List.replicate d 32)
def G8 (d:Nat)(c:Bool)(w:Str):Str:=SA d++(if c=true then("cut ":Str) else"whole ")++w
def aj (p:Int×Int):Str:=if p.2<0 then Str.ofString (toString p.1)++Str.ofString (toString p.2) else Str.ofString (toString p.1)++"+"++Str.ofString (toString p.2)
def Hv (d:Nat)(k:Int)(pl:List (Int×Int)):Str:=SA d++"deed "++Txt.join " " (Str.ofString (toString k)::pl.map aj)
theorem YV (x y:Str):(x++y).length=x.length+y.length:=by rw[←LA,X0,Ai,LA,LA]
def Vd (p:Int×Int):Prop:=0<=p.1/\p.1<=2/\-200000000000000000<=p.2/\p.2<=200000000000000000
theorem Ve {w:Str}(h:w∈Ic):w.length<=4:=by
 have:∀w∈Ic,w.length<=4:=by decide +kernel
 exact this w h
def JP:B8->Prop
 |.nil=>True
 |.leaf k pl rest=>(0<=k/\k<=5/\pl.length<=6/\∀p∈pl,Vd p)/\JP rest
 |.node _ w sub rest=>w.length<=4/\JP sub/\JP rest
def Cp:B8->Nat
 |.nil=>1
 |.leaf _ _ rest=>Cp rest
 |.node _ _ sub rest=>max (1+Cp sub) (Cp rest)
theorem IA:∀f:B8,1<=Cp f
 |.nil=>Ah _
 |.leaf _ _ rest=>IA rest
 |.node _ _ sub rest=>by have:=IA sub;unfold Cp;lia
theorem Hz:∀(f:B8) (B:List B6) (d n:Nat),Fo.Is f B d->(∀b∈B,b.ways.length<=d+n)->Cp f<=n+1
 |.nil,B,d,n,h,hn=>by unfold Cp;lia
 |
  .leaf k pl rest,B,d,n,h,hn=>by
  obtain⟨b,B',rfl,_,_,_,_,h5⟩:=h;exact Hz rest B' d n h5 λb hb=>hn b (Ce _ hb)
 |
  .node c w sub rest,B,d,n,h,hn=>by
  obtain⟨b,G,B',rfl,h1,h2,h3,h4,h5⟩:=h;have:=Hz rest B' d n h5 λb hb=>hn b (CU _ hb);have l:=(Aw.mp h1).1;have l2:=hn b (CN _ C7);obtain⟨n,rfl⟩:∃m,n=m+1:=⟨n-1,by lia⟩
  have:=Hz sub (b::G) (d+1) n h4 λb hb=>by have:=hn b (CN _ hb);lia
  unfold Cp;lia
theorem LO:∀(f:B8) (B:List B6) (d:Nat),Fo.Is f B d->(∀b∈B,Lz b)->JP f
 |.nil,B,d,h,hn=>True.intro
 |
  .leaf k pl rest,B,d,h,hn=>by
  obtain⟨b,B',rfl,rfl,rfl,_,_,h5⟩:=h;have g:=hn b C7;refine⟨⟨g.k0,g.k5,by have:=g.pll;have:=g.len;lia,g.pr⟩,LO rest B' d h5 λb hb=>hn b (Ce _ hb)⟩
 |
  .node c w sub rest,B,d,h,hn=>by
  obtain⟨b,G,B',rfl,h1,h2,h3,h4,h5⟩:=h;have g:=hn b (CN _ C7);exact⟨Ve (g.wy (c,w) (B0 h1)),LO sub _ _ h4 λb hb=>hn b (CN _ hb),LO rest _ _ h5 λb hb=>hn b (CU _ hb)⟩
abbrev Md:=Fo.shownF (W:=Str) G8 Hv
theorem UL (e:Nat)(ws:List FN):(Fo.hdrs (W:=Str) G8 e ws).length=ws.length:=by
 induction ws generalizing e with
 |nil=>rfl
 |cons w ws ih=>show(Fo.hdrs (W:=Str) G8 (e+1) ws).length+1=_;rw[ih];rfl
theorem Tg {B:List B6}(h:∀b∈B,Lz b):(Fo.lins G8 Hv B).length<=7*B.length:=by
 unfold Fo.lins;induction B with
 |nil=>exact Bh _
 |
  cons b B ih=>
  rw[List.flatMap_cons,Ai,Bz];have:=ih λc hc=>h c (Ce _ hc);have g:=(h b C7).len;have:(Fo.lin G8 Hv b b.sh).length<=7:=by
   unfold Fo.lin;rw[Ai,UL,GN,Bc];lia
  lia
theorem Tz {f:B8}{B:List B6}(h:Fo.Is f B 0)(g:JC B):Md f 0=Fo.lins G8 Hv B/\(Md f 0).length<=42/\JP f/\Cp f<=7:=by
 have e:Md f 0=Fo.lins G8 Hv B:=by rw[Md,Fo.shown_lines G8 Hv f B 0 h,Fo.lines_head G8 Hv (λc hc=>g.fst c hc)]
 have:=Tg g.all;have:=g.len;exact⟨e,by rw[e];lia,LO f B 0 h g.all,Hz f B 0 6 h λb hb=>by have:=(g.all b hb).len;lia⟩
def ME (t:TE):Prop := ∀(σ:St) (H:Hp) (Q Q':VK),(∀v H1,Q v H1->Q' v H1)->t σ H Q->t σ H Q'
def MT (t:TT):Prop := ∀σ H Q Q',(∀b H1,Q b H1->Q' b H1)->t σ H Q->t σ H Q'
def MA (t:TA):Prop := ∀σ H Q Q',(∀b H1,Q b H1->Q' b H1)->t σ H Q->t σ H Q'
def MR (r:R2):Prop := ∀(x y:V) (H:Hp) (Q Q':VK),(∀v H1,Q v H1->Q' v H1)->r x y H Q->r x y H Q'
def MB (r:List V->Hp->VK->Prop):Prop := ∀(vs:List V) (H:Hp) (Q Q':VK),(∀v H1,Q v H1->Q' v H1)->r vs H Q->r vs H Q'
theorem ME.var (i:Nat):ME (O0 i):=fun σ H Q Q' hq zz=>by obtain⟨v,h,k⟩:=zz;exact⟨v,h,hq _ _ k⟩
theorem ME.c (v:V):ME (tC v):=fun σ H Q Q' hq h=>hq _ _ h
theorem ME.op {r:R2}{a b:TE}(hr:MR r)(ha:ME a)(hb:ME b):ME (Ks r a b):=fun σ H Q Q' hq h=>ha _ _ _ _ (λx H1 k=>hb _ _ _ _ (λy H2 k=>hr _ _ _ _ _ hq k) k) h
theorem ME.cb {r:List V->Hp->VK->Prop}{t:TA}(hr:MB r)(h:MA t):ME (Nh r t):=fun σ H Q Q' hq k=>h _ _ _ _ (λxs H1 m=>hr _ _ _ _ hq m) k
theorem MA.nil:MA HP:=fun σ H Q Q' hq h=>hq _ _ h
theorem MA.cons {t:TE}{u:TA}(ht:ME t)(hu:MA u):MA (KU t u):=fun σ H Q Q' hq h=>ht _ _ _ _ (λx H1 k=>hu _ _ _ _ (λxs H2 m=>hq _ _ m) k) h
theorem MT.test {t:TE}(h:ME t):MT (QP t):=fun σ H Q Q' hq k=>h _ _ _ _ (λx H1 ⟨b,e,m⟩=>⟨b,e,hq _ _ m⟩) k
theorem MT.and {t u:TT}(h:MT t)(g:MT u):MT (PK t u):=fun σ H Q Q' hq k=>h _ _ _ _ (λc H1 m=>by
 cases c with
 |true=>exact g _ _ _ _ hq m
 |false=>exact hq _ _ m) k
theorem MR.i0 (g:Int->Int->V):MR (Gd g):=λx y H Q Q' hq zz=>by obtain⟨i,j,a,b,d⟩:=zz;exact⟨i,j,a,b,hq _ _ d⟩
theorem MR.eqX (K:Faa)(n:Bool):MR (FB K n):=λx y H Q Q' hq zz=>by obtain⟨t,u,a,b,c,d,e,f,g⟩:=zz;exact⟨t,u,a,b,c,d,e,f,hq _ _ g⟩
theorem MR.ixL (K:Faa):MR (Ka K):=λx y H Q Q' hq zz=>by obtain⟨p,xs,i,v,a,b,c,d,e⟩:=zz;exact⟨p,xs,i,v,a,b,c,d,hq _ _ e⟩
theorem MR.ixT (K:Faa):MR (Fv K):=λx y H Q Q' hq zz=>by obtain⟨p,xs,i,v,a,b,c,d,e⟩:=zz;exact⟨p,xs,i,v,a,b,c,d,hq _ _ e⟩
theorem MB.len {P R:Hp->Addr->List V->Prop}:MB (λxs H Q=>∃p ys,xs=[V.ref p]/\(P H p ys\/R H p ys)/\Q (V.int (ys.length:Int)) H):=λvs H Q Q' hq zz=>by obtain⟨p,ys,a,b,c⟩:=zz;exact⟨p,ys,a,b,hq _ _ c⟩
theorem Hk {K:Faa}{H:Hp}:∀L:List Int,Cj K H (L.map V.int) (L.map λi=>Tr.v (.int i))
 |[]=>.nil
 |x::L=>.cons (.flat rfl) (Hk L)
theorem LY:∀L:List Int,CB (L.map λi=>Tr.v (.int i))=0
 |[]=>rfl
 |x::L=>by rw[Cf,CB,LY L];rfl
theorem Vn:∀{f:B8} {d:Nat},Fo.Is f [] d->f = .nil
 |.nil,d,h=>rfl
 |.leaf k pl r,d,h=>by obtain⟨b,B',e,_⟩:=h;cases e
 |.node c w s r,d,h=>by obtain⟨b,G,B',e,_⟩:=h;simp at e
theorem S3 {f g:B8}{B C:List B6}{d:Nat}(hf:Fo.Is f B d)(hg:Fo.Is g C d)(hh:B≠[]->Fo.HeadSh C d):Fo.Is (Fo.app f g) (B++C) d:=by
 by_cases c:B=[]
 .subst c;rw[Vn hf];exact hg
 .exact Fo.Is.app f g B C d hf hg (hh c)
theorem WU {α:Type}(B:List α){i m:Nat}(h:i<=m):B.take i++(B.drop i).take (m-i)=B.take m:=by
 have:B.take i=(B.take m).take i:=by rw[MG,Ec h]
 rw[←List.drop_take,this,List.take_append_drop]
theorem Ni {v:V}{i:Nat}{b:TS}{D:Do}{σ:St}{H:Hp}(h:b D (σ.set i (some v)) H):FF (Jt (tC v) (Aq i)) b D σ H:=h
theorem N1:∀{rs:List Nat} {f:B8} {ws:List FN},Fo.Down f rs ws->rs.length=ws.length+1
 |[],f,ws,h=>h.elim
 |
  r::rs,f,ws,h=>by
  rcases h with⟨k,pl,_,rfl,rfl⟩|⟨c,w,sub,ws',_,rfl,h⟩
  .rfl
  .rw[Bz,Bz,N1 h]
theorem NV {H:Hp}:∀{f:B8} {r:Nat} {xs:List V} {c:Bool} {w:Str} {sub:B8},AR H xs f->Fo.itm f r=some (.sweep c w sub)->∃t p zs,xs[r]?=some (.ref t)/\H t=some (.tup [.str "sweep",.bl c,.str w,.ref p])/\H p=some (.tup zs)/\AR H zs sub
 |.nil,r,xs,c,w,sub,h,e=>by cases e
 |.leaf k pl rest,0,xs,c,w,sub,h,e=>by cases e
 |
  .leaf k pl rest,r+1,xs,c,w,sub,h,e=>by
  obtain⟨t,p,ys,rfl,_,_,hr⟩:=h;obtain⟨t',p',zs,a,b⟩:=NV (r:=r) hr e;exact⟨t',p',zs,by simpa using a,b⟩
 |
  .node c' w' s rest,0,xs,c,w,sub,h,e=>by
  obtain⟨t,p,zs,ys,rfl,a,b,d,_⟩:=h;cases e;exact⟨t,p,zs,rfl,a,b,d⟩
 |
  .node c' w' s rest,r+1,xs,c,w,sub,h,e=>by
  obtain⟨t,p,zs,ys,rfl,_,_,_,hr⟩:=h;obtain⟨t',p',zs',a,b⟩:=NV (r:=r) hr e;exact⟨t',p',zs',by simpa using a,b⟩
def Gj (H:Hp)(x:V)(e:Fo.En):Prop := ∃t pl pt cu,x = .ref t/\H t=some (.tup [.int e.k,.ref pl,.ref pt,.ref cu])/\EJ H pl e.pl/\H pt=some (.tup (e.path.map V.int))
theorem Gj.tk {H H':Hp}{x:V}{e:Fo.En}(h:Gj H x e)(k:TK H H'):Gj H' x e:=by obtain⟨t,pl,pt,cu,a,b,c,d⟩:=h;exact⟨t,pl,pt,cu,a,k _ _ b,c.tk k,k _ _ d⟩
theorem Gj.over {H H':Hp}{x:V}{e:Fo.En}(h:Gj H x e)(k:A8 H H'):Gj H' x e:=h.tk (A8.tk k)
def PY (n:Nat):Sp:=λvs H Q _=>∃(it pa cu:Addr) (f:B8) (P:List Int) (cs:List V),vs=[.ref it,.ref pa,.ref cu]/\DS H it f/\H pa=some (.tup (P.map V.int))/\H cu=some (.tup cs)/\Cp f<=n/\P.length+n<=100/\cs.length+n<=100/\(Fo.deedsF f P 0).length<=1000/\∀(r:Addr) (ys:List V) (H':Hp),A8 H H'->H' r=some (.lst ys)->Am (Gj H') ys (Fo.deedsF f P 0)->Q (.ref r) H'
def VN:Sp:=λvs H Q _=>∃(p:Addr) (k:Int) (f:B8) (i:Nat) (e:Fo.En),vs=[.ref p,.int k]/\DS H p f/\Cp f<=7/\(Fo.deedsF f [] 0).length<=1000/\(Fo.deedsF f [] 0)[i]?=some e/\e.k=k/\(∀j e',j<i->(Fo.deedsF f [] 0)[j]?=some e'->e'.k≠k)/\∀(r pt pl:Addr) (H':Hp),A8 H H'->H' r=some (.tup [.ref pt,.ref pl])->H' pt=some (.tup (e.path.map V.int))->EJ H' pl e.pl->Q (.ref r) H'
structure Rb where
 way:FN
 p:Int×Int
 q:Int×Int
def JS (H:Hp)(x:V)(r:Rb):Prop := ∃t pt a b,x = .ref t/\H t=some (.tup [.ref pt,.bl r.way.1,.str r.way.2,.ref a,.ref b])/\H a=some (.tup [.int r.p.1,.int r.p.2])/\H b=some (.tup [.int r.q.1,.int r.q.2])
theorem JS.tk {H H':Hp}{x:V}{r:Rb}(h:JS H x r)(k:TK H H'):JS H' x r:=by obtain⟨t,pt,a,b,c,d,e,f⟩:=h;exact⟨t,pt,a,b,c,k _ _ d,k _ _ e,k _ _ f⟩
def Hq (B:List B6)(i j s:Nat):Prop:=(i=j/\∃b,B[i]?=some b/\s=b.ways.length)\/(i<j/\Fo.Least B i j s)\/(j<i/\Fo.Least B j i s)
def Dt (b c:B6)(s:Nat):List Rb:=(List.range s).map λe=>⟨b.ways.getD e (false,""),b.pl.getD e (0,0),c.pl.getD e (0,0)⟩
def GY (H:Hp)(p:Addr)(B:List B6):Prop := ∃f,DS H p f/\Fo.Is f B 0/\JC B/\(B.map (·.k)).Nodup
theorem GY.over {H H':Hp}{p:Addr}{B:List B6}(h:GY H p B)(e:A8 H H'):GY H' p B:=by obtain⟨f,a,b⟩:=h;exact⟨f,a.over e,b⟩
def ZR:Sp:=λvs H Q _=>∃(p:Addr) (B:List B6) (i j s:Nat) (b c:B6),vs=[.ref p,.int b.k,.int c.k]/\GY H p B/\B[i]?=some b/\B[j]?=some c/\Hq B i j s/\∀(r:Addr) (ys:List V) (H':Hp),A8 H H'->H r=none->H' r=some (.lst ys)->Am (JS H') ys (Dt b c s)->s<=b.ways.length/\s<=c.ways.length->Q (.ref r) H'
theorem K3 {f:B8}{B:List B6}{i:Nat}{b:B6}(h:Fo.Is f B 0)(hb:B[i]?=some b):∃e,(Fo.deedsF f [] 0)[i]?=some e/\e.k=b.k/\e.pl=b.pl:=by
 have l:=Fo.deeds_len [] 0 h;have hi:i<(Fo.deedsF f [] 0).length:=by rw[l];exact(Aw.mp hb).1
 have m:=congrArg (λl:List (Int×List (Int×Int))=>l[i]?) (Fo.deeds_map f B 0 [] 0 h);simp only[Bf,AE hi,hb,SV]at m;have m:=Cu m;exact⟨_,AE hi,congrArg Prod.fst m,congrArg Prod.snd m⟩
theorem KP {f:B8}{B:List B6}{i:Nat}{b:B6}(h:Fo.Is f B 0)(nd:(B.map (·.k)).Nodup)(hb:B[i]?=some b)(j:Nat)(e':Fo.En)(hj:j<i)(he:(Fo.deedsF f [] 0)[j]?=some e'):e'.k≠b.k:=λz=>by
 have l:=Fo.deeds_len [] 0 h;have hjl:j<B.length:=by have:=(Aw.mp he).1;lia
 obtain⟨e'',g1,g2,_⟩:=K3 h (AE hjl);rw[he]at g1;cases g1;obtain⟨l1,a1⟩:=Aw.mp hb;exact MH.mp nd j i (by rw[Af];exact hjl) (by rw[Af];exact l1) hj (by rw[List.getElem_map,List.getElem_map,a1,←z,g2])
theorem UY {f:B8}{B:List B6}{i j s:Nat}{b c:B6}{x y:Fo.En}(h:Fo.Is f B 0)(g:JC B)(hb:B[i]?=some b)(hc:B[j]?=some c)(hx:(Fo.deedsF f [] 0)[i]?=some x)(hy:(Fo.deedsF f [] 0)[j]?=some y)(hm:Hq B i j s) :
  s<=b.ways.length/\s<=c.ways.length/\(∀e<s,x.path.getD e 0=y.path.getD e 0)/\(s<b.ways.length->s<c.ways.length->x.path.getD s 0≠y.path.getD s 0)/\x.path.length=b.ways.length+1/\y.path.length=c.ways.length+1:=by
 have zero:∀i c,B[i+1]?=some c->0<=c.sh:=λ_ _ _=>Bh _;obtain⟨r1,rs1,e1,d1⟩:=Fo.deeds_down f B 0 [] 0 i x b h zero g.ok (λ_ _=>Bh _) hx hb;obtain⟨r2,rs2,e2,d2⟩:=Fo.deeds_down f B 0 [] 0 j y c h zero g.ok (λ_ _=>Bh _) hy hc;have l1:=N1 d1;have l2:=N1 d2;rw[List.drop_zero]at l1 l2;have x1:x.path.length=b.ways.length+1:=by rw[e1,KA,Bz,Af,←l1];rfl
 have y1:y.path.length=c.ways.length+1:=by rw[e2,KA,Bz,Af,←l2];rfl
 have sep:∀{u v:List Int} {n:Nat},Fo.Sep u v n->n<u.length/\n<v.length/\(∀e<n,u.getD e 0=v.getD e 0)/\u.getD n 0≠v.getD n 0:=fun{u v n} hs=>by
  obtain⟨cc,a,b,q,r,rfl,rfl,rfl,hab⟩:=hs;refine⟨by simp,by simp,λe he=>?_,?_⟩
  .rw[Bj,Bj,Cw he,Cw he]
  .rw[Bj,Bj,Cg (Ah _),Cg (Ah _),DO];show a≠b;lia
 rcases hm with⟨rfl,b',hb',rfl⟩|⟨hij,hl⟩|⟨hij,hl⟩
 .rw[hb]at hb' hc;cases hb';cases hc;rw[hx]at hy;cases hy;exact⟨Ah _,Ah _,λ_ _=>rfl,λz=>by lia,x1,y1⟩
 .obtain⟨_,hs⟩:=Fo.deeds_sep f B 0 [] 0 i j s x y h zero hij hx hy hl;obtain⟨a1,a2,a3,a4⟩:=sep hs;simp only[Ky,FI,My]at a1 a2 a3 a4;exact⟨by lia,by lia,a3,λ_ _=>a4,x1,y1⟩
 .obtain⟨_,hs⟩:=Fo.deeds_sep f B 0 [] 0 j i s y x h zero hij hy hx hl;obtain⟨a1,a2,a3,a4⟩:=sep hs;simp only[Ky,FI,My]at a1 a2 a3 a4;exact⟨by lia,by lia,λe he=>(a3 e he).symm,λ_ _ z=>a4 z.symm,x1,y1⟩
def VV (C:Addr)(H:Hp)(v:V)(n:Int):Prop := ∃(d dx nm:Addr) (xs:List V) (v2 v3 v4 v5 v6 v7:V),v = .ref d/\H d=some (.ins C dx [("names",.ref nm),("lows",v2),("highs",v3),("table",v4),("spots",v5),("term",v6),("path",v7)])/\H nm=some (.tup xs)/\(xs.length:Int)=n
def QY (CP CD:Addr)(H:Hp)(pr:Addr)(D:List Int):Prop := ∃(dx dl:Addr) (v1:V) (xs:List V),H pr=some (.ins CP dx [("size",v1),("deeds",.ref dl)])/\H dl=some (.lst xs)/\Am (VV CD H) xs D
def Dp (beh:Int)(level:Nat)(side:Str)(e:Nat)(r:Rb):List AQ:=
 (if e<level/\r.way.1=false then[(1+r.p.1,beh+r.q.1,r.q.2-r.p.2),(beh+r.q.1,1+r.p.1,-(r.q.2-r.p.2))] else[])++(if e=level/\side="more" then[(beh+r.q.1,1+r.p.1,-(r.q.2-r.p.2)-1)] else[])++(if e=level/\side="less" then[(1+r.p.1,beh+r.q.1,r.q.2-r.p.2-1)] else[])
def Dc (beh:Int)(level:Nat)(side:Str):Nat->List Rb->List AQ
 |_,[]=>[]
 |e,r::R=>Dp beh level side e r++Dc beh level side (e+1) R
theorem LS (beh:Int)(level:Nat)(side:Str):∀(R:List Rb) (e:Nat) (r:Rb),Dc beh level side e (R++[r])=Dc beh level side e R++Dp beh level side (e+R.length) r
 |[],e,r=>by simp[Dc]
 |
  x::R,e,r=>by
  show Dp beh level side e x++Dc beh level side (e+1) (R++[r])=Dp beh level side e x++Dc beh level side (e+1) R++Dp beh level side (e+(R.length+1)) r;rw[LS beh level side R (e+1) r,D6,show e+1+R.length=e+(R.length+1) by lia]
theorem Yl (beh:Int)(level:Nat)(side:Str)(e:Nat)(r:Rb):(Dp beh level side e r).length<=4:=by
 unfold Dp;rw[Ai,Ai];split<;>split<;>split<;>simp
theorem Sb (beh:Int)(level:Nat)(side:Str):∀(R:List Rb) (e:Nat),(Dc beh level side e R).length<=4*R.length
 |[],e=>Bh _
 |
  x::R,e=>by
  show(Dp beh level side e x++Dc beh level side (e+1) R).length<=_;rw[Ai,Bz];have:=Yl beh level side e x;have:=Sb beh level side R (e+1);lia
theorem IY (b c:B6)(s:Nat):(Dt b c s).length=s:=by unfold Dt;rw[Af,C8]
theorem UK (b c:B6)(s:Nat):Dt b c (s+1)=Dt b c s++[⟨b.ways.getD s (false,""),b.pl.getD s (0,0),c.pl.getD s (0,0)⟩]:=by unfold Dt;rw[GR,Bv];rfl
def bF (CP CD:Addr):Sp:=λvs H Q _=>∃(pr p:Addr) (B:List B6) (D:List Int) (i j s level:Nat) (side:Str) (b c:B6),vs=[.ref pr,.ref p,.int b.k,.int c.k,.int (level:Int),.str side]/\QY CP CD H pr D/\GY H p B/\B[i]?=some b/\B[j]?=some c/\Hq B i j s/\b.k.toNat<D.length/\∀(r:Addr) (ys:List V) (H':Hp),A8 H H'->H' r=some (.lst ys)->Bk H' ys (Dc (1+D.getD b.k.toNat 0) level side 0 (Dt b c s))->Q (.ref r) H'
theorem Tq {B:List B6}{i j:Nat}(hi:i<B.length)(hj:j<B.length):∃s,Hq B i j s:=by
 have low:∀(i j:Nat),i<j->j<B.length->∃s,Fo.Least B i j s:=λi j hij hj=>by
  have:∀n,i<n->n<=j->∃s,Fo.Least B i n s:=by
   intro n;induction n with
   |zero=>intro h;lia
   |
    succ n ih=>
    intro h1 h2;have Bn:B[n+1]?=some B[n+1]:=AE (by lia);by_cases c:i<n
    .obtain⟨s,⟨k,b,k1,k2,k3,k4⟩,k5⟩:=ih c (by lia);by_cases d:(B[n+1]).sh<s
     .refine⟨(B[n+1]).sh,⟨n+1,_,h1,Ah _,Bn,rfl⟩,λm c' m1 m2 m3=>?_⟩;by_cases z:m=n+1
      .subst z;rw[Bn]at m3;cases m3;exact Ah _
      .have:=k5 m c' m1 (by lia) m3;lia
     .refine⟨s,⟨k,b,k1,by lia,k3,k4⟩,λm c' m1 m2 m3=>?_⟩;by_cases z:m=n+1
      .subst z;rw[Bn]at m3;cases m3;lia
      .exact k5 m c' m1 (by lia) m3
    .have:i=n:=by lia
     subst this;refine⟨(B[i+1]).sh,⟨i+1,_,h1,Ah _,Bn,rfl⟩,λm c' m1 m2 m3=>?_⟩;have:m=i+1:=by lia
     subst this;rw[Bn]at m3;cases m3;exact Ah _
  exact this j hij (Ah _)
 rcases OJ i j with c|c|c
 .obtain⟨s,h⟩:=low i j c hj;exact⟨s,.inr (.inl ⟨c,h⟩)⟩
 .exact⟨_,.inl ⟨c,_,AE hi,rfl⟩⟩
 .obtain⟨s,h⟩:=low j i c hi;exact⟨s,.inr (.inr ⟨c,h⟩)⟩
abbrev Sd:=Nat×Str
def Hx (H:Hp)(x:V)(q:Sd):Prop := ∃t,x = .ref t/\H t=some (.tup [.int (q.1:Int),.str q.2])
theorem Hx.tk {H H':Hp}{x:V}{q:Sd}(h:Hx H x q)(k:TK H H'):Hx H' x q:=by obtain⟨t,a,b⟩:=h;exact⟨t,a,k _ _ b⟩
def Gz (w:Str)(e:Nat):List Sd:=(if w≠"up" then[((e,("less":Str)):Sd)] else[])++(if w≠"down" then[((e,("more":Str)):Sd)] else[])
def FG (b:B6):Nat->List Sd
 |0=>[]
 |e+1=>FG b e++Gz (b.ways.getD e (false,"")).2 e
def EH (b:B6)(i j s:Nat):List Sd:=FG b s++(if j<i then[((s,("text":Str)):Sd)] else[])
theorem JN (b:B6):∀e:Nat,(FG b e).length<=2*e
 |0=>Ah _
 |
  e+1=>by
  show(FG b e++Gz _ e).length<=_;rw[Ai];have:=JN b e;have:(Gz (b.ways.getD e (false,"")).2 e).length<=2:=by
   unfold Gz;rw[Ai];split<;>split<;>simp
  lia
end L2
namespace HT
open PySem PySem.Spec PyProof.Rows L2
section
variable {prog:Program}{w:World}{A:Around}{E:Value->Shared->Prop}{s:Shared}
theorem getItem_tuple_all {t sl:Addr}{items:Array Value}{vl vu:Value}{lo hi:Option Int}{Q:Value->Shared->Prop}(ht:IsTup s.heap t items)(hs:s.heap.IsSliceOf sl vl vu .none)(pl:IsPart vl lo)(pu:IsPart vu hi)
  (hw:sIx items.size 0 lo=0/\sIx items.size items.size hi=items.size) (h:Q (.ref t) s):wpAny (model prog w) A (getItem (.ref t) (.ref sl)) Q E s:=by
 obtain⟨os,hos,hcs,hds⟩:=id hs;have hTs:s.TypeIs (.ref sl) "slice":=⟨os,hos,hcs⟩
 unfold getItem
 try with_reducible refine KC ?_
 first|refine As (AV ?_)|skip
 refine As (wpAny_sequenceKey ht.typeIs (by decide) ?_);refine As (wpAny_callSpecial?_slot (name:=Str.ofString "__getitem__") ht.typeIs Ov
  (OV Ov ht.typeIs entry_tuple_getitem ?_ (args_tuple_getitem _ _)))
 show wpAny _ _ (Builtin.Tuple.tupleItemsOf (.ref t)>>=_) _ _ s;refine As (tupleItemsOf_ ht ?_);refine As (wpAny_typeOf hTs ?_);rw[Ay (by decide)];refine As (Ql hs pl pu ?_);have hyes:(((sIx items.size 0 lo:Nat):Int)==0&&(1:Int)==1&&(sIx items.size items.size hi-sIx items.size 0 lo)==items.size)=true:=by
  rw[hw.1,hw.2];simp
 show wpAny _ _ (if(((sIx items.size 0 lo:Nat):Int)==0&&(1:Int)==1&&(sIx items.size items.size hi-sIx items.size 0 lo)==items.size)=true then _ else _) _ _ s;rw[Ay hyes];show wpAny _ _ (Builtin.Tuple.tupleIsExact (.ref t)>>=_) _ _ s;unfold Builtin.Tuple.tupleIsExact;refine As (As (wpAny_typeOf ht.typeIs (AV ?_)));rw[Ay (by decide)]
 wp_walk
 first
  |exact⟨_,rfl,AV h⟩
  |exact AV ⟨_,rfl,AV h⟩
end
end HT
namespace L2
open PySem PySem.Spec PyProof.Rows
def RY:V->Option Int->Option Int->Hp->VK->Prop:=λx lo hi H Q=>∃(a:Addr) (xs:List V),x = .ref a/\H a=some (.tup xs)/\∀(p:Addr) (H':Hp),A8 H H'->H' p=some (.tup (Ci xs lo hi))->Q (.ref p) H'
theorem JQ {X:Cx}:Lh X RY:=by
 intro pins s σ H x v vl vu lo hi sl Q I rx hs pl pu h;obtain⟨a,xs,rfl,ha,q⟩:=h;by_cases c:HT.sIx xs.length 0 lo=0/\HT.sIx xs.length xs.length hi=xs.length
 .cases rx;obtain⟨its,r,ht,hz⟩:=I.tuple (A4.of ha);have hlen:its.toArray.size=xs.length:=by rw[AZ];exact r.length.symm
  refine⟨"tuple",_,PyProof.Rows.slot_tuple_getitem.lookup,ht.typeIs,?_⟩;refine HT.getItem_tuple_all ht hs pl pu (by rw[hlen];exact c) ⟨.ref a,H,I,rfl,q a H (A8.refl _) ?_⟩;have:Ci xs lo hi=xs:=by
   unfold Ci;rw[c.1,c.2];simp
  rw[this];exact ha
 .exact To pins s σ H (.ref a) v vl vu lo hi sl Q I rx hs pl pu ⟨a,xs,rfl,A4.of ha,c,λp hp=>q p _ (Ab hp _) A7⟩
theorem Me {H:Hp}{bo r:Addr}{zs:List V}{L:List AQ}{x y z:Int}(hb:H bo=some (.lst zs))(ht:Bk H zs L)(hr:H r=none) :
  (upd (upd H r (.tup [.int x,.int y,.int z])) bo (.lst (zs++[.ref r]))) bo=some (.lst (zs++[.ref r]))/\Bk (upd (upd H r (.tup [.int x,.int y,.int z])) bo (.lst (zs++[.ref r]))) (zs++[.ref r]) (L++[(x,y,z)])/\∀a o,a≠bo->H a=some o->(upd (upd H r (.tup [.int x,.int y,.int z])) bo (.lst (zs++[.ref r]))) a=some o:=by
 have s1:=Ab hr (.tup [.int x,.int y,.int z]);have nr:r≠bo:=λz=>by rw[z,hb]at hr;cases hr
 refine⟨A7,((ht.over s1).upd (s1 _ _ hb)).snoc (t:=r) (b:=(x,y,z)) (by rw[Ag nr];exact A7),λa o ha h=>by rw[Ag ha];exact s1 _ _ h⟩
def Ku (b:AQ):Tr:=.tup [.v (.int b.1),.v (.int b.2.1),.v (.int b.2.2)]
theorem Qf {K:Faa}{H:Hp}:∀{ys:List V} {B:List AQ},Bk H ys B->Cj K H ys (B.map Ku)
 |[],[],_=>.nil
 |[],p::P,h=>by have:=h.1;cases this
 |y::ys,[],h=>by have:=h.1;cases this
 |
  y::ys,b::B,h=>by
  obtain⟨t,rfl,ht⟩:=h.2 0 y b rfl rfl;exact .cons (.tup (A4.of ht) (.cons (.flat rfl) (.cons (.flat rfl) (.cons (.flat rfl) .nil)))) (Qf ⟨OK h.1,λi x a p q=>h.2 (i+1) x a (by simpa using p) (by simpa using q)⟩)
theorem RE:∀B:List AQ,CB (B.map Ku)<=1
 |[]=>Bh _
 |
  b::B=>by
  rw[Cf,CB];have:=RE B;have:C3 (Ku b)=1:=by simp[Ku,C3,CB]
  lia
theorem Bk.app {H:Hp}{ys zs:List V}{B C:List AQ}(h:Bk H ys B)(g:Bk H zs C):Bk H (ys++zs) (B++C):=by
 have a:Am (λx (b:AQ)=>∃t,x = .ref t/\H t=some (.tup [.int b.1,.int b.2.1,.int b.2.2])) ys B:=⟨h.1,λi x b p q=>h.2 i x b p q⟩
 have c:Am (λx (b:AQ)=>∃t,x = .ref t/\H t=some (.tup [.int b.1,.int b.2.1,.int b.2.2])) zs C:=⟨g.1,λi x b p q=>g.2 i x b p q⟩
 have:=a.app c;exact⟨this.1,λi x b p q=>this.2 i x b p q⟩
set_option genInjectivity true in
inductive Tw where
 |n (i:Int)
 |v (z:Str)
 |c (z:Str) (sp:List (Str×Int))
 |j (z:Str) (l r:Tw)
def nS (i:Int):Str:=Str.ofString (toString i)
def Xv (s:Str×Int):Str:=if s.1="" then nS s.2 else if s.2=0 then s.1 else if 0<s.2 then s.1++"+"++nS s.2 else s.1++nS s.2
def Xs (s:Str×Int):Str:="["++Xv s++"]"
def QQ (z:Str)(sp:List (Str×Int)):Str:=z++Txt.join "" (sp.map Xs)
def R8 (b:Bool)(x:Str):Str:=if b=true then"("++x++")" else x
def hz (z:Str):Nat:=if z="*" then 2 else 1
namespace Tw
def Ro:Tw->Nat
 |.j z _ _=>hz z
 |_=>3
def wr:Tw->Str
 |.n i=>nS i
 |.v z=>z
 |.c z sp=>QQ z sp
 |.j z l r=>R8 (decide (Ro l<hz z)) (wr l)++z++R8 (decide (Ro r<=hz z)) (wr r)
end Tw
def DG (H:Hp)(x:V)(s:Str×Int):Prop := ∃t,x = .ref t/\H t=some (.tup [.str s.1,.int s.2])
theorem DG.tk {H H':Hp}{x:V}{s:Str×Int}(k:TK H H')(h:DG H x s):DG H' x s:=by obtain⟨t,e,h⟩:=h;exact⟨t,e,k _ _ h⟩
theorem KF {ys:List V}{x:V}:(ys++[x])[(ys++[x]).length-1]?=some x/\(ys++[x]).dropLast=ys:=by
 refine⟨?_,List.dropLast_concat⟩;rw[Ai,Bc,OI,Cg (Ah _),DO];rfl
section
variable {prog:Program}{w:World}{A:Around}{E:Value->Shared->Prop}{s:Shared}
end
section
variable {prog:Program}{w:World}{A:Around}{E:Value->Shared->Prop}{s:Shared}
end
section
variable {prog:Program}{w:World}{A:Around}{E:Value->Shared->Prop}{s:Shared}
end
section
variable {prog:Program}{w:World}{A:Around}{E:Value->Shared->Prop}{s:Shared}
end
end L2
namespace Pw
structure Dd (T S:Type) where
 loops:List T
 path:List Int
 txt:S
variable {T S:Type}
def Sh (a b:Dd T S)(c:Nat):Prop:=c<=a.loops.length/\c<=b.loops.length/\a.loops.take c=b.loops.take c/\a.path.take c=b.path.take c/\a.path.getD c 0≠b.path.getD c 0
set_option genInjectivity true in
inductive Fs where
 |nil:Fs
 |leaf (k:Nat) (rest:Fs):Fs
 |node (k:Nat) (sub rest:Fs):Fs
def CC (d:Nat):List (Dd T S)->Prop
 |[]=>True
 |[a]=>d<=a.loops.length
 |a::b::ds=>(∃c,d<=c/\Sh a b c)/\CC d (b::ds)
theorem CC.le {d:Nat}:∀{ds:List (Dd T S)},CC d ds->∀a∈ds,d<=a.loops.length
 |[],_,a,ha=>by cases ha
 |[b],h,a,ha=>by rw[Dm.mp ha];exact h
 |
  b::e::ds,h,a,ha=>by
  obtain⟨⟨c,h1,h2⟩,h3⟩:=h;rcases Bb.mp ha with rfl|ha
  .have:=h2.1;lia
  .exact CC.le h3 a ha
theorem CC.right {d:Nat}:∀{ds es:List (Dd T S)},CC d (ds++es)->CC d es
 |[],es,h=>h
 |[a],[],h=>True.intro
 |[a],b::es,h=>h.2
 |a::b::ds,es,h=>CC.right (ds:=b::ds) h.2
theorem CC.left {d:Nat}:∀{ds es:List (Dd T S)},CC d (ds++es)->CC d ds
 |[],es,h=>True.intro
 |[a],[],h=>h
 |
  [a],b::es,h=>by
  obtain⟨c,h1,h2⟩:=h.1;have:=h2.1;show d<=a.loops.length;lia
 |a::b::ds,es,h=>⟨h.1,CC.left (ds:=b::ds) h.2⟩
theorem CC.up {d:Nat}{v:Int}:∀{ds:List (Dd T S)},CC d ds->(∀a∈ds,a.path.getD d 0=v)->(∀a,ds.head?=some a->d<a.loops.length)->CC (d+1) ds/\∀a b ds',ds=a::b::ds'->∃c,d+1<=c/\Sh a b c
 |[],h,hv,hl=>⟨True.intro,λa b ds' e=>by cases e⟩
 |[a],h,hv,hl=>⟨hl a rfl,λa b ds' e=>by cases e⟩
 |
  a::b::ds,h,hv,hl=>by
  obtain⟨⟨c,h1,h2⟩,h3⟩:=h;have hc:d+1<=c:=by
   rcases Nat.eq_or_lt_of_le h1 with e|e
   .subst e;exact absurd ((hv a C7).trans (hv b (Ce _ C7)).symm) h2.2.2.2.2
   .exact e
  have up:=CC.up (v:=v) h3 (λx hx=>hv x (Ce _ hx)) (λx hx=>by cases hx;have:=h2.2.1;lia);exact⟨⟨⟨c,hc,h2⟩,up.1⟩,λa' b' ds' e=>by cases e;exact⟨c,hc,h2⟩⟩
def IsF (D:Nat->Option (Dd T S)):Fs->List Nat->Nat->Prop
 |.nil,ns,_=>ns=[]
 |.leaf k rest,ns,d=>∃ns' a,ns=k::ns'/\D k=some a/\a.loops.length=d/\IsF D rest ns' d
 |.node k sub rest,ns,d=>∃g ns' a,ns=k::g++ns'/\D k=some a/\d<a.loops.length/\(∀x∈g,∀b,D x=some b->b.path.getD d 0=a.path.getD d 0)/\(∀x b,ns'.head?=some x->D x=some b->b.path.getD d 0≠a.path.getD d 0)/\IsF D sub (k::g) (d+1)/\IsF D rest ns' d
inductive Got (D:Nat->Option (Dd T S)):List Nat->List (Dd T S)->Prop
 |nil:Got D [] []
 |cons {k:Nat} {a:Dd T S} {ns:List Nat} {ds:List (Dd T S)}:D k=some a->Got D ns ds->Got D (k::ns) (a::ds)
theorem Got.split {D:Nat->Option (Dd T S)}:∀{ns ms:List Nat} {ds:List (Dd T S)},Got D (ns++ms) ds->∃ds1 ds2,ds=ds1++ds2/\Got D ns ds1/\Got D ms ds2
 |[],ms,ds,h=>⟨[],ds,rfl,.nil,h⟩
 |
  k::ns,ms,ds,h=>by
  cases h with
  |
   cons h1 h2=>
   obtain⟨ds1,ds2,rfl,h3,h4⟩:=Got.split h2;exact⟨_::ds1,ds2,rfl,.cons h1 h3,h4⟩
theorem Got.mem {D:Nat->Option (Dd T S)}{ns:List Nat}{ds:List (Dd T S)}(h:Got D ns ds):∀a∈ds,∃k∈ns,D k=some a:=by
 induction h with
 |nil=>intro a ha;cases ha
 |
  cons h1 h2 ih=>
  intro a ha;rcases Bb.mp ha with rfl|ha
  .exact⟨_,C7,h1⟩
  .obtain⟨k,hk,h⟩:=ih a ha;exact⟨k,Ce _ hk,h⟩
theorem Got.head {D:Nat->Option (Dd T S)}{ns:List Nat}{ds:List (Dd T S)}{b:Dd T S}(h:Got D ns ds)(hb:ds.head?=some b):∃k,ns.head?=some k/\D k=some b:=by
 cases h with
 |nil=>cases hb
 |cons h1 h2=>cases hb;exact⟨_,rfl,h1⟩
theorem Got.find {D:Nat->Option (Dd T S)}{ns:List Nat}{ds:List (Dd T S)}(h:Got D ns ds){k:Nat}(hk:k∈ns):∃a∈ds,D k=some a:=by
 induction h with
 |nil=>cases hk
 |
  cons h1 h2 ih=>
  rcases Bb.mp hk with rfl|hk
  .exact⟨_,C7,h1⟩
  .obtain⟨a,ha,e⟩:=ih hk;exact⟨a,Ce _ ha,e⟩
end Pw
namespace L2
open PySem PySem.Spec PyProof.Rows
structure DP where
 nm:Str
 lo:Str×Int
 hi:Str×Int
structure Dw where
 loops:List DP
 tbl:Str
 sp:List (Str×Int)
 tm:Tw
 path:List Int
def Dw.txt (D:Dw):Str:=QQ D.tbl D.sp++" = "++D.tm.wr
def Dw.dd (D:Dw):Pw.Dd DP Str:=⟨D.loops,D.path,D.txt⟩
def getD (Ds:List Dw):Nat->Option (Pw.Dd DP Str):=λk=>Ds[k]?.map Dw.dd
def Cb (Ds:List Dw)(d k:Nat):Int:=match Ds[k]? with
 |some D=>D.path.getD d 0
 |none=>0
inductive Cz (Ds:List Dw)(d:Nat):List Nat->List (List Nat)->Prop
 |nil:Cz Ds d [] []
 |cons {k:Nat} {g ns:List Nat} {G:List (List Nat)}:(∀x∈g,Cb Ds d x=Cb Ds d k)->(∀y,ns.head?=some y->Cb Ds d y≠Cb Ds d k)->Cz Ds d ns G->Cz Ds d (k::g++ns) ((k::g)::G)
def De (g:List Nat):List V:=g.map λk:Nat=>V.int (k:Int)
def IX (H:Hp)(x:V)(g:List Nat):Prop := ∃l,x = .ref l/\H l=some (.lst (De g))
theorem IX.over {H H':Hp}{x:V}{g:List Nat}(e:A8 H H')(h:IX H x g):IX H' x g:=by obtain⟨l,r,h⟩:=h;exact⟨l,r,e _ _ h⟩
inductive GP (Ds:List Dw)(d:Nat):List Nat->List (List Nat)->Prop
 |nil:GP Ds d [] []
 |new {ns:List Nat} {G:List (List Nat)} {k:Nat}:GP Ds d ns G->(∀g h,G.getLast?=some g->g.head?=some h->Cb Ds d h≠Cb Ds d k)->GP Ds d (ns++[k]) (G++[[k]])
 |more {ns:List Nat} {G:List (List Nat)} {h k:Nat} {g:List Nat}:GP Ds d ns (G++[h::g])->Cb Ds d h=Cb Ds d k->GP Ds d (ns++[k]) (G++[h::g++[k]])
theorem Cz.snocG {Ds:List Dw}{d k:Nat}:∀{ns:List Nat} {G:List (List Nat)},Cz Ds d ns G->(∀g h,G.getLast?=some g->g.head?=some h->Cb Ds d h≠Cb Ds d k)->Cz Ds d (ns++[k]) (G++[[k]])
 |_,_,.nil,_=>.cons (g:=[]) (ns:=[]) (λx hx=>by cases hx) (λy hy=>by cases hy) .nil
 |
  _,_,.cons (k:=k0) (g:=g0) (ns:=ns') (G:=G') h1 h2 h3,hd=>by
  cases h3 with
  |
   nil=>
   have hk:=hd (k0::g0) k0 rfl rfl;have:=Cz.cons (Ds:=Ds) (d:=d) (k:=k0) (g:=g0) (ns:=[k]++[]) (G:=[[k]]) h1 (λy hy=>by cases hy;exact hk.symm) (.cons (g:=[]) (λx hx=>by cases hx) (λy hy=>by cases hy) .nil);simpa using this
  |
   @cons k1 g1 ns1 G1 a1 a2 a3=>
   have ih:=Cz.snocG (Cz.cons a1 a2 a3) (λg h hg hh=>hd g h (by rw[List.getLast?_cons_cons];exact hg) hh);have:=Cz.cons (Ds:=Ds) (d:=d) (k:=k0) (g:=g0) h1 (ns:=k1::g1++ns1++[k]) (λy hy=>h2 y (by simpa using hy)) ih;simpa using this
theorem Cz.more {Ds:List Dw}{d k:Nat}:∀{G:List (List Nat)} {ns:List Nat} {h:Nat} {g:List Nat},Cz Ds d ns (G++[h::g])->Cb Ds d h=Cb Ds d k->Cz Ds d (ns++[k]) (G++[h::g++[k]])
 |
  [],_,h,g,i,e=>by
  cases i with
  |
   @cons _ _ ns' _ h1 h2 h3=>
   cases h3;have:=Cz.cons (Ds:=Ds) (d:=d) (k:=h) (g:=g++[k]) (ns:=[]) (G:=[]) (λx hx=>by
    rcases CG.mp hx with hx|hx
    .exact h1 x hx
    .rw[Dm.mp hx];exact e.symm) (λy hy=>by cases hy) .nil
   simpa using this
 |
  g1::G,_,h,g,i,e=>by
  cases i with
  |
   @cons k1 g1' ns' _ h1 h2 h3=>
   have ih:=Cz.more (G:=G) h3 e;have hne:ns'≠[]:=by
    intro z;subst z;have h3:Cz Ds d [] (G++[h::g]):=h3;generalize hG:G++[h::g]=GG at h3;generalize hn:([]:List Nat)=nn at h3;cases h3 with
    |nil=>simp at hG
    |cons _ _ _=>simp at hn
   have:=Cz.cons (Ds:=Ds) (d:=d) (k:=k1) (g:=g1') (ns:=ns'++[k]) h1 (λy hy=>h2 y (by
    cases ns' with
    |nil=>exact absurd rfl hne
    |cons a b=>exact hy)) ih
   simpa using this
theorem GP.isG {Ds:List Dw}{d:Nat}{ns:List Nat}{G:List (List Nat)}(h:GP Ds d ns G):Cz Ds d ns G:=by
 induction h with
 |nil=>exact .nil
 |new _ h ih=>exact ih.snocG h
 |more _ h ih=>exact ih.more h
def CI (H:Hp):Pw.Fs->List V->Prop
 |.nil,xs=>xs=[]
 |.leaf k rest,xs=>∃t xs',xs = .ref t::xs'/\H t=some (.tup [.int (k:Int),.non])/\CI H rest xs'
 |.node k sub rest,xs=>∃t l ys xs',xs = .ref t::xs'/\H t=some (.tup [.int (k:Int),.ref l])/\H l=some (.lst ys)/\CI H sub ys/\CI H rest xs'
theorem CI.over {H H':Hp}(e:A8 H H'):∀{f:Pw.Fs} {xs:List V},CI H f xs->CI H' f xs
 |.nil,xs,h=>h
 |.leaf k rest,xs,h=>by obtain⟨t,xs',r,h0,h1⟩:=h;exact⟨t,xs',r,e _ _ h0,CI.over e h1⟩
 |.node k sub rest,xs,h=>by obtain⟨t,l,ys,xs',r,h0,h1,h2,h3⟩:=h;exact⟨t,l,ys,xs',r,e _ _ h0,e _ _ h1,CI.over e h2,CI.over e h3⟩
def FW:Pw.Fs->Pw.Fs->Pw.Fs
 |.nil,g=>g
 |.leaf k r,g=>.leaf k (FW r g)
 |.node k s r,g=>.node k s (FW r g)
theorem CI.app {H:Hp}:∀{f g:Pw.Fs} {xs ys:List V},CI H f xs->CI H g ys->CI H (FW f g) (xs++ys)
 |.nil,g,xs,ys,h,h'=>by have h:xs=[]:=h;subst h;exact h'
 |
  .leaf k rest,g,xs,ys,h,h'=>by
  obtain⟨t,xs',rfl,h0,h1⟩:=h;exact⟨t,xs'++ys,rfl,h0,CI.app h1 h'⟩
 |
  .node k sub rest,g,xs,ys,h,h'=>by
  obtain⟨t,l,zs,xs',rfl,h0,h1,h2,h3⟩:=h;exact⟨t,l,zs,xs'++ys,rfl,h0,h1,h2,CI.app h3 h'⟩
def CJ:Pw.Fs->Nat
 |.nil=>0
 |.leaf _ r=>max 1 (CJ r)
 |.node _ s r=>max (CJ s+1) (CJ r)
theorem Lx {D:Nat->Option (Pw.Dd DP Str)}{d:Nat}:∀{f g:Pw.Fs} {ns ms:List Nat},Pw.IsF D f ns d->Pw.IsF D g ms d->(∀x y a b,ns.getLast?=some x->ms.head?=some y->D x=some a->D y=some b->a.path.getD d 0≠b.path.getD d 0)->(∀x∈ns,∃a,D x=some a)->Pw.IsF D (FW f g) (ns++ms) d
 |.nil,g,ns,ms,h,h',_,_=>by have h:ns=[]:=h;subst h;exact h'
 |
  .leaf k rest,g,ns,ms,h,h',hd,hm=>by
  obtain⟨ns',a,rfl,h0,h1,h2⟩:=h;refine⟨ns'++ms,a,rfl,h0,h1,Lx h2 h' (λx y a b hx=>?_) λx hx=>hm x (Ce _ hx)⟩;cases ns' with
  |nil=>cases hx
  |cons z zs=>exact hd x y a b (by rw[List.getLast?_cons_cons];exact hx)
 |
  .node k sub rest,g,ns,ms,h,h',hd,hm=>by
  obtain⟨g',ns',a,rfl,h0,h1,h2,h3,h4,h5⟩:=h;refine⟨g',ns'++ms,a,by rw[D6],h0,h1,h2,?_,h4,Lx h5 h' (λx y a b hx=>?_) λx hx=>hm x (CU _ hx)⟩
  .intro x b hx hb;cases ns' with
   |cons z zs=>exact h3 x b hx hb
   |
    nil=>
    obtain⟨last,hl⟩:∃last,(k::g'++[]).getLast?=some last:=⟨_,List.getLast?_eq_some_getLast (by simp)⟩
    have hmem:last∈k::g':=by have:=List.mem_of_getLast? hl;simpa using this
    obtain⟨al,hal⟩:=hm last (by simpa using hmem);have h6:=hd last x al b hl hx hal hb;have e:al.path.getD d 0=a.path.getD d 0:=by
     rcases Bb.mp hmem with z|z
     .subst z;rw[h0]at hal;cases hal;rfl
     .exact h2 last z al hal
    rw[e]at h6;exact h6.symm
  .cases ns' with
   |nil=>cases hx
   |cons z zs=>exact hd x y a b (by rw[T1];rw[hx];rfl)
theorem Mc:∀f g:Pw.Fs,CJ (FW f g)<=max (CJ f) (CJ g)
 |.nil,g=>Nat.le_max_right _ _
 |
  .leaf k r,g=>by
  have:=Mc r g;show max 1 (CJ (FW r g))<=max (max 1 (CJ r)) (CJ g);lia
 |
  .node k s r,g=>by
  have:=Mc r g;show max (CJ s+1) (CJ (FW r g))<=max (max (CJ s+1) (CJ r)) (CJ g);lia
def nw (H H':Hp):Hp:=λb=>match H b with
 |none=>H' b
 |some _=>none
def FV (H H':Hp)(it:Addr):Hp:=λb=>if b=it then none else nw H H' b
theorem Le {H H':Hp}{b:Addr}{o:HO}(h:nw H H' b=some o):H b=none/\H' b=some o:=by
 unfold nw at h;cases e:H b with
 |none=>rw[e]at h;exact⟨rfl,h⟩
 |some _=>rw[e]at h;cases h
theorem Ny {H H':Hp}{b:Addr}{o:HO}(h:H b=none)(h':H' b=some o):nw H H' b=some o:=by
 unfold nw;rw[h];exact h'
theorem TU {H H':Hp}:A8 (nw H H') H':=λb o h=>(Le h).2
theorem Sz {H H':Hp}{it b:Addr}{o:HO}(h:FV H H' it b=some o):b≠it/\H b=none/\H' b=some o:=by
 unfold FV at h;split at h
 .cases h
 .rename_i c;exact⟨c,Le h⟩
theorem Kt {H H':Hp}{it b:Addr}{o:HO}(h:H b=none)(c:b≠it)(h':H' b=some o):FV H H' it b=some o:=by
 unfold FV;rw[AB c];exact Ny h h'
theorem Oh {H H1 H2:Hp}{it:Addr}(k:∀b o,b≠it->H1 b=some o->H2 b=some o):A8 (FV H H1 it) (FV H H2 it):=λb o h=>by
 obtain⟨c,h0,h1⟩:=Sz h;exact Kt h0 c (k b o c h1)
theorem V2 {H H':Hp}{it:Addr}:A8 (FV H H' it) (nw H H'):=λb o h=>by
 obtain⟨c,h0,h1⟩:=Sz h;exact Ny h0 h1
theorem bf {H H2 H3:Hp}{it:Addr}{o':HO}(e:A8 H H2)(hi:H2 it=some o'):A8 (nw H2 H3) (FV H H3 it):=λb o h=>by
 obtain⟨h0,h1⟩:=Le h;exact Kt (e.free h0) (Av hi h0).symm h1
def Rr (H:Hp)(gl:Addr)(G:List (List Nat)):Prop := ∃xs,H gl=some (.lst xs)/\Am (IX H) xs G
theorem getD_some {Ds:List Dw}{k:Nat}{D:Dw}(h:Ds[k]?=some D):getD Ds k=some D.dd:=by unfold getD;rw[h];rfl
theorem HM {Ds:List Dw}{k:Nat}{a:Pw.Dd DP Str}(h:getD Ds k=some a):∃D,Ds[k]?=some D/\D.dd=a:=by
 unfold getD at h;exact Ik.mp h
theorem FE {Ds:List Dw}{d k:Nat}{D:Dw}(h:Ds[k]?=some D):Cb Ds d k=D.path.getD d 0:=by unfold Cb;rw[h]
theorem Vo {Ds:List Dw}:Pw.Got (getD Ds) (List.range Ds.length) (Ds.map Dw.dd):=by
 have:∀(es fs:List Dw),fs++es=Ds->Pw.Got (getD Ds) (List.range' fs.length es.length) (es.map Dw.dd):=by
  intro es;induction es with
  |nil=>intro fs e;exact .nil
  |
   cons D es ih=>
   intro fs e;have h:=ih (fs++[D]) (by rw[D6];exact e);rw[Ai]at h;refine .cons (getD_some ?_) h;rw[←e,Cg (Ah _),DO];rfl
 have:=this Ds [] rfl;rw[OH];exact this
def Fx (H:Hp)(a b:Addr):Hp:=λx=>if x=a\/x=b then none else H x
theorem b9 {H:Hp}{a b:Addr}:A8 (Fx H a b) H:=λx o h=>by
 unfold Fx at h;split at h
 .cases h
 .exact h
theorem WS {H:Hp}{a b:Addr}{o:HO}:Fx (upd H b o) a b=Fx H a b:=by
 funext x
 unfold Fx;by_cases c:x=a\/x=b
 .rw[Ay c,Ay c]
 .rw[AB c,AB c,Ag λz=>c (.inr z)]
theorem ZH {H:Hp}{a b x:Addr}{o:HO}(h:H x=some o)(h1:x≠a)(h2:x≠b):Fx H a b x=some o:=by
 unfold Fx;rw[AB (λz=>z.elim h1 h2)];exact h
def Gy (H0 H:Hp)(gl:Addr)(xs:List V)(G:List (List Nat)):Prop:=(xs=[]/\G=[])\/∃(xs':List V) (l:Addr) (G':List (List Nat)) (h:Nat) (g:List Nat),xs=xs'++[.ref l]/\G=G'++[h::g]/\Am (IX (Fx H gl l)) xs' G'/\H l=some (.lst (De (h::g)))/\l≠gl/\H0 l=none
theorem Gy.len {H0 H:Hp}{gl:Addr}{xs:List V}{G:List (List Nat)}(h:Gy H0 H gl xs G):xs.length=G.length:=by
 rcases h with⟨rfl,rfl⟩|⟨xs',l,G',h,g,rfl,rfl,ha,_⟩
 .rfl
 .rw[Ai,Ai,ha.1];rfl
theorem Gy.all {H0 H:Hp}{gl:Addr}{xs:List V}{G:List (List Nat)}(h:Gy H0 H gl xs G)(hg:H gl=some (.lst xs)):Rr H gl G:=by
 refine⟨xs,hg,?_⟩;rcases h with⟨rfl,rfl⟩|⟨xs',l,G',h,g,rfl,rfl,ha,hl,_⟩
 .exact .nil
 .exact(ha.mono λx g z=>z.over b9).snoc ⟨l,rfl,hl⟩
theorem Gy.new {H0 H:Hp}{gl l:Addr}{xs:List V}{G:List (List Nat)}{k:Nat}(h:Gy H0 H gl xs G)(hg:H gl=some (.lst xs))(hl:H l=none)(hl0:H0 l=none):Gy H0 (upd (upd H l (.lst [V.int (k:Int)])) gl (.lst (xs++[.ref l]))) gl (xs++[.ref l]) (G++[[k]]):=by
 have nlg:l≠gl:=(Av hg hl).symm;refine .inr ⟨xs,l,G,k,[],rfl,rfl,?_,by rw[Ag nlg];exact A7,nlg,hl0⟩;have keep:∀{x:Addr} {g:List Nat},x≠gl->H x=some (.lst (De g))->IX (Fx (upd (upd H l (.lst [V.int (k:Int)])) gl (.lst (xs++[.ref l]))) gl l) (.ref x) g:=fun{x g} hx h=>by
  have nx:=Av h hl;exact⟨x,rfl,ZH (by rw[Ag hx,Ag nx];exact h) hx nx⟩
 rcases h with⟨rfl,rfl⟩|⟨xs',l',G',h,g,rfl,rfl,ha,hl',nl',_⟩
 .exact .nil
 .refine(ha.mono λx g z=>?_).snoc (keep nl' hl');obtain⟨y,rfl,hy⟩:=z;unfold Fx at hy;split at hy
  .cases hy
  .rename_i c;exact keep (λz=>c (.inl z)) hy
theorem Cz.mem {Ds:List Dw}{d:Nat}{ns:List Nat}{G:List (List Nat)}(h:Cz Ds d ns G):∀g∈G,∀x∈g,x∈ns:=by
 induction h with
 |nil=>intro g hg;cases hg
 |
  cons h1 h2 h3 ih=>
  intro g hg x hx;rcases Bb.mp hg with rfl|hg
  .exact CN _ hx
  .exact CU _ (ih g hg x hx)
theorem Cz.glen {Ds:List Dw}{d:Nat}{ns:List Nat}{G:List (List Nat)}(h:Cz Ds d ns G):∀g∈G,g.length<=ns.length:=by
 induction h with
 |nil=>intro g hg;cases hg
 |
  cons h1 h2 h3 ih=>
  intro g hg;rw[Ai];rcases Bb.mp hg with rfl|hg
  .lia
  .have:=ih g hg;lia
theorem Yj (z:Str)(l:List Str):Hm (.str z) (l.map V.str)=decide (z∈l):=by
 unfold Hm;induction l with
 |nil=>rfl
 |
  cons y l ih=>
  rw[Cf,List.any_cons,ih];have e:DT (.str y) (.str z)=decide (z=y):=by
   show(y==z)=_;rw[GL];simp only[Il,Ta];exact⟨λe=>e.symm,λe=>e.symm⟩
  rw[e,GL];simp
def NL (H H':Hp):Prop := ∀b o,H b=some o->(∀xs,o≠.lst xs)->H' b=some o
theorem NL.tk {H H':Hp}(h:NL H H'):TK H H':=λb xs hb=>h b _ hb (λ_ z=>by cases z)
theorem NL.upd {H:Hp}{l:Addr}{xs:List V}{o:HO}(hl:H l=some (.lst xs)):NL H (upd H l o):=λb ob hb hn=>by
 rw[Ag (λz=>by rw[z,hl]at hb;cases hb;exact hn _ rfl)];exact hb
end L2
namespace Pm
variable {S:Type}[DecidableEq S]
structure T4 (S:Type) where
 k:Nat
 a:Nat
 b:Bool
 z:S
def tk3 (k:Nat):Nat->List (Bool×S)->List (T4 S)
 |_,[]=>[]
 |a,t::L=>⟨k,a,t.1,t.2⟩::tk3 k (a+1) L
def all3:Nat->List (List (Bool×S))->List (T4 S)
 |_,[]=>[]
 |k,L::Ls=>tk3 k 0 L++all3 (k+1) Ls
theorem tk3_len (k:Nat):∀(a:Nat) (L:List (Bool×S)),(tk3 k a L).length=L.length
 |_,[]=>rfl
 |a,t::L=>by show(tk3 k (a+1) L).length+1=L.length+1;rw[tk3_len]
theorem tk3_snoc (k:Nat):∀(a:Nat) (L:List (Bool×S)) (t:Bool×S),tk3 k a (L++[t])=tk3 k a L++[⟨k,a+L.length,t.1,t.2⟩]
 |_,[],t=>rfl
 |
  a,u::L,t=>by
  show _::tk3 k (a+1) (L++[t])=_::(tk3 k (a+1) L++_);rw[tk3_snoc,show a+1+L.length=a+(u::L).length by rw[Bz];lia]
theorem all3_snoc:∀(k:Nat) (Ls:List (List (Bool×S))) (L:List (Bool×S)),all3 k (Ls++[L])=all3 k Ls++tk3 (k+Ls.length) 0 L
 |k,[],L=>by show tk3 k 0 L++[]=[]++tk3 (k+0) 0 L;rw[CV,KA,OE]
 |
  k,M::Ls,L=>by
  show tk3 k 0 M++all3 (k+1) (Ls++[L])=tk3 k 0 M++all3 (k+1) Ls++_;rw[all3_snoc,D6,show k+1+Ls.length=k+(M::Ls).length by rw[Bz];lia]
theorem all3_len:∀(k:Nat) (Ls:List (List (Bool×S))) (c:Nat),(∀L∈Ls,L.length<=c)->(all3 k Ls).length<=c*Ls.length
 |_,[],c,_=>Bh _
 |
  k,L::Ls,c,h=>by
  have h1:=all3_len (k+1) Ls c λx hx=>h x (Ce _ hx);have h2:=h L C7;show(tk3 k 0 L++all3 (k+1) Ls).length<=_;rw[Ai,tk3_len,Bz,Nat.mul_succ];lia
abbrev Q4:=Nat×Nat×Nat×Nat
def ok (x y:T4 S):Bool:=decide (x.z=y.z)&&(x.b||y.b)
def in1 (x:T4 S)(T:List (T4 S)):List Q4:=(T.filter (ok x)).map λy=>(x.k,x.a,y.k,y.a)
def mtF (U T:List (T4 S)):List Q4:=(U.map λx=>in1 x T).flatten
def mt (T:List (T4 S)):List Q4:=mtF T T
theorem in1_snoc (x y:T4 S)(T:List (T4 S)):in1 x (T++[y])=in1 x T++if ok x y=true then[(x.k,x.a,y.k,y.a)] else[]:=by
 unfold in1;rw[List.filter_append,Bv];by_cases c:ok x y=true
 .rw[Ay c,List.filter_cons_of_pos c];rfl
 .rw[AB c,List.filter_cons_of_neg c];rfl
theorem mtF_snoc (U T:List (T4 S))(x:T4 S):mtF (U++[x]) T=mtF U T++in1 x T:=by
 unfold mtF;rw[Bv,List.flatten_append];show _++(in1 x T++[])=_;rw[CV]
theorem in1_len (x:T4 S)(T:List (T4 S)):(in1 x T).length<=T.length:=by
 unfold in1;rw[Af];exact List.length_filter_le _ _
theorem mtF_len (T:List (T4 S)):∀U:List (T4 S),(mtF U T).length<=U.length*T.length
 |[]=>Bh _
 |
  x::U=>by
  have h1:=mtF_len T U;have h2:=in1_len x T;show(in1 x T++mtF U T).length<=_;rw[Ai,Bz,Mx];lia
theorem pref_ex (f g:Nat->Int):∀m:Nat,∃k,k<=m/\(∀e<k,f e=g e)/\(k<m->f k≠g k)
 |0=>⟨0,Ah _,λe he=>absurd he (OL _),λh=>absurd h (OL _)⟩
 |
  m+1=>by
  obtain⟨k,h1,h2,h3⟩:=pref_ex f g m;by_cases c:k<m
  .exact⟨k,by lia,h2,λ_=>h3 c⟩
  .have e:k=m:=by lia
   subst e;by_cases d:f k=g k
   .exact⟨k+1,Ah _,λe he=>by
    by_cases c2:e=k
    .rw[c2];exact d
    .exact h2 e (by lia),λh=>absurd h (Ea _)⟩
   .exact⟨k,by lia,h2,λ_=>d⟩
end Pm
namespace L2
open PySem PySem.Spec PyProof.Rows
structure R5 where
 n:Nat
 path:List Int
 z:Str
 p:Addr
 m:Nat
 rs:CS
def EN (R:R5):List (Bool×Str):=(true,R.z)::R.rs.map λr=>(false,r.1)
structure R5.Ok (R:R5):Prop where
 n3:R.n<=3
 pl:R.path.length=R.n+1
 ms:R.m<=30
 rl:R.rs.length<=R.m
theorem S2 {R:R5}(h:R.Ok):(EN R).length<=31:=by
 unfold EN;rw[Bz,Af];have:=h.rl;have:=h.ms;lia
theorem CK.nl {c:Cs}{H H':Hp}(e:NL H H'){n:Nat}{x:V}{rs:CS}(h:CK c H n x rs):CK c H' n x rs:=by
 induction h with
 |num i h=>exact .num i (e _ _ h (λ_ z=>by cases z))
 |val z h=>exact .val z (e _ _ h (λ_ z=>by cases z))
 |cel z h=>exact .cel z (e _ _ h (λ_ z=>by cases z))
 |joi z h _ _ a b=>exact .joi z (e _ _ h (λ_ z=>by cases z)) a b
def ER (c:Cs)(C:Addr)(H:Hp)(v:V)(R:R5):Prop := ∃(d dx nm pt:Addr) (v2 v3 x:V) (ys:List V),v = .ref d/\H d=some (.ins C dx [("names",.ref nm),("lows",v2),("highs",v3),("table",.str R.z),("spots",.ref R.p),("term",x),("path",.ref pt)])/\H nm=some (.tup ys)/\ys.length=R.n/\H pt=some (.tup (R.path.map V.int))/\CK c H R.m x R.rs
theorem ER.nl {c:Cs}{C:Addr}{H H':Hp}{v:V}{R:R5}(h:ER c C H v R)(e:NL H H'):ER c C H' v R:=by
 obtain⟨d,dx,nm,pt,v2,v3,x,ys,a,b,f,g,k,l⟩:=h;exact⟨d,dx,nm,pt,v2,v3,x,ys,a,e _ _ b (λ_ z=>by cases z),e _ _ f (λ_ z=>by cases z),g,e _ _ k (λ_ z=>by cases z),l.nl e⟩
theorem A8.nl {H H':Hp}(e:A8 H H'):NL H H':=λb o h _=>e b o h
theorem ER.over {c:Cs}{C:Addr}{H H':Hp}{v:V}{R:R5}(h:ER c C H v R)(e:A8 H H'):ER c C H' v R:=h.nl e.nl
theorem ER.tm {c:Cs}{C:Addr}{H:Hp}{v:V}{R:R5}(h:ER c C H v R):Jd c C H v R.z R.p R.m R.rs:=by
 obtain⟨d,dx,nm,pt,v2,v3,x,ys,a,b,f,g,k,l⟩:=h;exact⟨d,dx,_,_,_,x,_,a,b,l⟩
def Gp (CP C:Addr)(c:Cs)(H:Hp)(v:V)(Rs:List R5):Prop := ∃(x dx dl:Addr) (sz:V) (xs:List V),v = .ref x/\H x=some (.ins CP dx [("size",sz),("deeds",.ref dl)])/\H dl=some (.lst xs)/\Am (ER c C H) xs Rs
theorem Gp.over {CP C:Addr}{c:Cs}{H H':Hp}{v:V}{Rs:List R5}(h:Gp CP C c H v Rs)(e:A8 H H'):Gp CP C c H' v Rs:=by obtain⟨x,dx,dl,sz,xs,a,b,d,f⟩:=h;exact⟨x,dx,dl,sz,xs,a,e _ _ b,e _ _ d,f.mono λ_ _ z=>z.over e⟩
def PN (H:Hp)(y:V)(b:Bool×Str):Prop := ∃u p,y = .ref u/\H u=some (.tup [.bl b.1,.str b.2,.ref p])
theorem bx {H:Hp}{f:Str×Addr->List V}(hf:∀r,f r=[.bl false,.str r.1,.ref r.2]){ys:List V}{rs:CS}(h:DN H f ys rs):Am (PN H) ys (rs.map λr=>(false,r.1)):=by
 refine⟨by rw[Af];exact h.1,λi x a hx ha=>?_⟩;rw[Bf]at ha;cases hr:rs[i]? with
 |none=>rw[hr]at ha;cases ha
 |
  some r=>
  rw[hr]at ha;cases ha;obtain⟨t,rfl,ht⟩:=h.2 i x r hx hr;rw[hf]at ht;exact⟨t,r.2,rfl,ht⟩
theorem Wr {H:Hp}{l:Addr}{R:R5}(h:Oe H l R.z R.p R.rs):∃xs,H l=some (.lst xs)/\Am (PN H) xs (EN R):=by
 obtain⟨t,ys,h1,h2,h3⟩:=h;exact⟨_,h1,.cons ⟨t,R.p,rfl,h2⟩ (bx (λ_=>rfl) h3)⟩
abbrev T5:=Pm.T4 Str
def FO (H:Hp)(y:V)(x:T5):Prop := ∃t u p,y = .ref t/\H t=some (.tup [.int (x.k:Int),.int (x.a:Int),.ref u])/\H u=some (.tup [.bl x.b,.str x.z,.ref p])
theorem FO.tk {H H':Hp}{y:V}{x:T5}(h:FO H y x)(e:TK H H'):FO H' y x:=by obtain⟨t,u,p,a,b,c⟩:=h;exact⟨t,u,p,a,e _ _ b,e _ _ c⟩
theorem FO.over {H H':Hp}{y:V}{x:T5}(h:FO H y x)(e:A8 H H'):FO H' y x:=h.tk (A8.tk e)
abbrev Ca (Rs:List R5):List T5:=Pm.all3 0 (Rs.map EN)
theorem KH {Rs:List R5}(h:∀R∈Rs,R.Ok)(n:Rs.length<=6):(Ca Rs).length<=186:=by
 have:=Pm.all3_len 0 (Rs.map EN) 31 λL hL=>by
  obtain⟨R,hR,rfl⟩:=Dl.mp hL;exact S2 (h R hR)
 rw[Af]at this;have h2:31*Rs.length<=31*6:=Nat.mul_le_mul_left _ n;show(Pm.all3 0 (Rs.map EN)).length<=186;lia
def Te (CP C:Addr)(c:Cs):Sp:=λvs H Q _=>∃(v:V) (Rs:List R5),vs=[v]/\Gp CP C c H v Rs/\(∀R∈Rs,R.Ok)/\Rs.length<=6/\∀(r:Addr) (ys:List V) (H':Hp),A8 H H'->H r=none->H' r=some (.lst ys)->Am (FO H') ys (Ca Rs)->Q (.ref r) H'
def Fz (H:Hp)(y:V)(q:Pm.Q4):Prop := ∃t,y = .ref t/\H t=some (.tup [.int (q.1:Int),.int (q.2.1:Int),.int (q.2.2.1:Int),.int (q.2.2.2:Int)])
theorem Fz.tk {H H':Hp}{y:V}{x:Pm.Q4}(h:Fz H y x)(e:TK H H'):Fz H' y x:=by obtain⟨t,a,b⟩:=h;exact⟨t,a,e _ _ b⟩
theorem Fz.over {H H':Hp}{y:V}{x:Pm.Q4}(h:Fz H y x)(e:A8 H H'):Fz H' y x:=h.tk (A8.tk e)
def XA (H:Hp)(l:Addr)(L:List Pm.Q4):Prop := ∃ys,H l=some (.lst ys)/\Am (Fz H) ys L
theorem Rm {T:List T5}(h:T.length<=186):(Pm.mt T).length<=34596:=Ex (Pm.mtF_len T T) (Nat.mul_le_mul h h)
def Z4 (CP C:Addr)(c:Cs):Sp:=λvs H Q _=>∃(v:V) (Rs:List R5),vs=[v]/\Gp CP C c H v Rs/\(∀R∈Rs,R.Ok)/\Rs.length<=6/\∀(r:Addr) (H':Hp),A8 H H'->H r=none->XA H' r (Pm.mt (Ca Rs))->Q (.ref r) H'
theorem Si {K:Faa}{H:Hp}{x y:Addr}{t:Tr}{Q:VK}(hx:BE K H (.ref x) t)(hy:BE K H (.ref y) t)(hd:C3 t<=60)(h:Q (.bl false) H):FB K true (.ref x) (.ref y) H Q:=by
 refine⟨t,t,hx,hy,⟨_,rfl⟩,⟨_,rfl⟩,Ju t,hd,?_⟩;rw[GU t hx.ok];exact h
theorem aG {K:Faa}{H:Hp}{x y:Addr}{t:Tr}{Q:VK}(hx:BE K H (.ref x) t)(hy:BE K H (.ref y) t)(hd:C3 t<=60)(h:Q (.bl true) H):FB K false (.ref x) (.ref y) H Q:=by
 refine⟨t,t,hx,hy,⟨_,rfl⟩,⟨_,rfl⟩,Ju t,hd,?_⟩;rw[show(if false=true then !C5 t t else C5 t t)=true from GU t hx.ok];exact h
def Et (R S:R5)(k:Nat):Prop:=k<=R.n/\k<=S.n/\(∀e<k,R.path.getD e 0=S.path.getD e 0)/\(k<min R.n S.n->R.path.getD k 0≠S.path.getD k 0)
theorem MS (R S:R5):∃k,Et R S k:=by
 obtain⟨k,h1,h2,h3⟩:=Pm.pref_ex (λe=>R.path.getD e 0) (λe=>S.path.getD e 0) (min R.n S.n);exact⟨k,by lia,by lia,h2,h3⟩
def Va (C:Addr)(c:Cs):Sp:=λvs H Q _=>∃(x y:V) (R S:R5) (k:Nat),vs=[x,y]/\ER c C H x R/\ER c C H y S/\R.Ok/\S.Ok/\Et R S k/\Q (.int (k:Int)) H
def Dj (k l s:Nat):Nat:=if k<l then s+1 else s
def ZN (CP C:Addr)(c:Cs):Sp:=λvs H Q _=>∃(v:V) (Rs:List R5) (k l s:Nat) (R S:R5),vs=[v,.int (k:Int),.int (l:Int)]/\Gp CP C c H v Rs/\(∀R∈Rs,R.Ok)/\Rs[k]?=some R/\Rs[l]?=some S/\Et R S s/\∀(r:Addr) (H':Hp),A8 H H'->H r=none->H' r=some (.lst ((List.range (Dj k l s)).map λi:Nat=>V.int (i:Int)))->Q (.ref r) H'
structure Lp where
 nm:Str
 lz:Str
 ln:Int
 hz:Str
 hn:Int
 ab:Int
 tn:Int
def Bs (S:List Lp)(z:Str):Prop:=z=""\/∃r∈S,z=r.nm
def AD (S:List Lp):List Str:=S.map (·.nm)
theorem Ye {S:List Lp}{i:Nat}{z:Str}(h:Bs (S.take i) z):z=""\/∃j:Nat,j<i/\(AD S)[j]?=some z:=by
 rcases h with h|⟨r,hr,rfl⟩
 .exact .inl h
 .obtain⟨j,hj⟩:=ES.mp hr;have l:=(Aw.mp hj).1;rw[BQ]at l;rw[Ih (by lia)]at hj;exact .inr ⟨j,by lia,by unfold AD;rw[Bf,hj];rfl⟩
theorem PZ {zs:List Str}{j:Nat}{z:Str}(nd:zs.Nodup)(ne:∀z∈zs,z≠"")(h:zs[j]?=some z)(first:Int):EM zs z first (first+(j:Int)):=by
 refine .inr ⟨ne z (B0 h),j,h,λm hm e=>?_,rfl⟩;obtain⟨l1,e1⟩:=Aw.mp h;obtain⟨l2,e2⟩:=Aw.mp e;exact MH.mp nd m j l2 l1 hm (by rw[e1,e2])
def BV (zs:List Str)(W:List Int)(i:Nat)(z:Str)(b:Int):Prop:=(z=""/\b=0)\/(z≠""/\∃j:Nat,j<i/\zs[j]?=some z/\b=W.getD j 0)
def Oq (zs:List Str)(lz hz:Nat->Str)(ln hn:Nat->Int)(W:List Int)(i:Nat):Prop := ∃b b':Int,BV zs W i (lz i) b/\BV zs W i (hz i) b'/\b+ln i<=W.getD i 0/\W.getD i 0<=b'+hn i
def NC (zs:List Str)(lz:Nat->Str)(m:Nat):Prop := ∀i<m,lz i=""\/(lz i≠""/\∃j:Nat,j<i/\zs[j]?=some (lz i))
def GF (first:Int)(W:List Int)(x:Int):Int:=if x=0 then 0 else W.getD (x-first).toNat 0
def Se (first:Int)(W:List Int)(x:Int):Prop:=x=0\/∃j:Nat,j<W.length/\x=first+(j:Int)
def Mr (first:Int)(W:List Int)(b:AQ):Bool:=decide (GF first W b.1-GF first W b.2.1<=b.2.2)
def EF (first:Int)(u ln:Nat->Int)(i:Nat):AQ:=(u i,first+(i:Int),-(ln i))
def EC (first:Int)(w hn:Nat->Int)(i:Nat):AQ:=(first+(i:Int),w i,hn i)
def WD (C:Addr):Sp:=λvs H Q _=>∃(d dx nm lo hi:Addr) (v4 v5 v6 v7:V) (first:Int) (zs:List Str) (lz hz:Nat->Str) (ln hn u w:Nat->Int),vs=[.ref d,.int first]/\H d=some (.ins C dx [("names",.ref nm),("lows",.ref lo),("highs",.ref hi),("table",v4),("spots",v5),("term",v6),("path",v7)])/\H nm=some (.tup (zs.map V.str))/\Di H lo zs.length lz ln/\Di H hi zs.length hz hn/\zs.length<=100/\(∀i<zs.length,EM zs (lz i) first (u i))/\(∀i<zs.length,EM zs (hz i) first (w i))/\∀(r:Addr) (ys:List V) (H':Hp),A8 H H'->H' r=some (.lst ys)->Bk H' ys (DI (EF first u ln) (EC first w hn) zs.length)->Q (.ref r) H'
theorem PU:∀P:List (Int×Int),CB (P.map λp=>Tr.tup [.v (.int p.1),.v (.int p.2)])<=1
 |[]=>Bh _
 |
  p::P=>by
  rw[Cf,CB];have:=PU P;have:C3 (Tr.tup [.v (.int p.1),.v (.int p.2)])=1:=by simp[C3,CB]
  lia
theorem BV.inj {zs:List Str}{W:List Int}{b b':Int}{i:Nat}{z:Str}(nd:zs.Nodup)(h:BV zs W i z b)(g:BV zs W i z b'):b=b':=by
 rcases h with⟨h,rfl⟩|⟨h,j,h1,h2,rfl⟩<;>rcases g with⟨g,rfl⟩|⟨g,k,g1,g2,rfl⟩
 .rfl
 .exact absurd h g
 .exact absurd g h
 .obtain⟨l1,e1⟩:=Aw.mp h2;obtain⟨l2,e2⟩:=Aw.mp g2;have:j=k:=by
   rcases OJ j k with c|c|c
   .exact absurd (by rw[e1,e2]) (MH.mp nd j k l1 l2 c)
   .exact c
   .exact absurd (by rw[e1,e2]) (MH.mp nd k j l2 l1 c)
  rw[this]
end L2
namespace PySem
open Builtin
open AutoSeq1 (wpAny_loadPart')
end PySem
namespace L2
open PySem PySem.Spec PyProof.Rows
def UB (zs:List Str)(lz:Nat->Str)(first:Int)(u:Nat->Int)(i:Nat):Prop:=(lz i=""/\u i=0)\/(lz i≠""/\∃j:Nat,j<i/\zs[j]?=some (lz i)/\u i=first+(j:Int))
theorem Uc {F G:Nat->AQ}{m:Nat}{b:AQ}(h:b∈DI F G m):∃i,i<m/\(b=F i\/b=G i):=by
 induction m with
 |zero=>cases h
 |
  succ m ih=>
  rw[DI]at h;rcases CG.mp h with h|h
  .rcases CG.mp h with h|h
   .obtain⟨i,hi,e⟩:=ih h;exact⟨i,by lia,e⟩
   .rw[Dm]at h;exact⟨m,by lia,.inl h⟩
  .rw[Dm]at h;exact⟨m,by lia,.inr h⟩
theorem K7 {F G:Nat->AQ}{p:AQ->Bool}{m:Nat}:(DI F G m).all p=true↔∀i<m,p (F i)=true/\p (G i)=true:=by
 induction m with
 |zero=>exact⟨λ_ i hi=>by lia,λ_=>rfl⟩
 |
  succ m ih=>
  rw[DI,Jl,Jl,DC,DC,ih];simp only[List.all_cons,List.all_nil,Bool.and_true];constructor
  .rintro ⟨⟨h,h1⟩,h2⟩ i hi;by_cases c:i<m
   .exact h i c
   .have:i=m:=by lia
    subst this;exact⟨h1,h2⟩
  .intro h;exact⟨⟨λi hi=>h i (by lia),(h m (by lia)).1⟩,(h m (by lia)).2⟩
theorem RV {zs:List Str}{lz:Nat->Str}{first:Int}{u:Nat->Int}{i:Nat}{W:List Int}(h:UB zs lz first u i)(hi:i<W.length):Se first W (u i):=by
 rcases h with⟨_,e⟩|⟨_,j,h1,_,e⟩
 .exact .inl e
 .exact .inr ⟨j,by lia,e⟩
theorem LC {zs:List Str}{lz:Nat->Str}{first:Int}{u:Nat->Int}{i:Nat}{W:List Int}(f1:1<=first)(h:UB zs lz first u i):BV zs W i (lz i) (GF first W (u i)):=by
 unfold GF;rcases h with⟨a,e⟩|⟨a,j,h1,h2,e⟩
 .rw[e,Ay rfl];exact .inl ⟨a,rfl⟩
 .rw[e,AB (by lia),show(first+(j:Int)-first).toNat=j by lia];exact .inr ⟨a,j,h1,h2,rfl⟩
theorem Gw {zs:List Str}{lz:Nat->Str}{first:Int}{u:Nat->Int}{i:Nat}(nd:zs.Nodup)(ne:∀z∈zs,z≠"")(h:UB zs lz first u i):EM zs (lz i) first (u i):=by
 rcases h with⟨a,e⟩|⟨a,j,h1,h2,e⟩
 .exact .inl ⟨a,e⟩
 .rw[e];exact PZ nd ne h2 first
theorem KL {zs:List Str}{lz:Nat->Str}{m:Nat}(h:NC zs lz m)(first:Int):∃u:Nat->Int,∀i<m,UB zs lz first u i:=by
 have ex:∀i,i<m->∃v:Int,(lz i=""/\v=0)\/(lz i≠""/\∃j:Nat,j<i/\zs[j]?=some (lz i)/\v=first+(j:Int)):=λi hi=>by
  rcases h i hi with a|⟨a,j,h1,h2⟩
  .exact⟨0,.inl ⟨a,rfl⟩⟩
  .exact⟨first+(j:Int),.inr ⟨a,j,h1,h2,rfl⟩⟩
 refine⟨λi=>if h:i<m then(ex i h).choose else 0,λi hi=>?_⟩;unfold UB;simp only[dif_pos hi];exact(ex i hi).choose_spec
theorem U4 {zs:List Str}{lz hz:Nat->Str}{ln hn u w:Nat->Int}{W:List Int}{first:Int}{m:Nat}(nd:zs.Nodup)(f1:1<=first)(hu:∀i<m,UB zs lz first u i)(hw:∀i<m,UB zs hz first w i):(DI (EF first u ln) (EC first w hn) m).all (Mr first W)=true↔∀i<m,Oq zs lz hz ln hn W i:=by
 rw[K7];have own:∀i:Nat,GF first W (first+(i:Int))=W.getD i 0:=λi=>by
  unfold GF;rw[AB (by lia),show(first+(i:Int)-first).toNat=i by lia]
 constructor
 .intro h i hi;obtain⟨h1,h2⟩:=h i hi;have h1:=Fk h1;have h2:=Fk h2;simp only[EF,EC,own]at h1 h2;exact⟨_,_,LC f1 (hu i hi),LC f1 (hw i hi),by lia,by lia⟩
 .intro h i hi;obtain⟨b,b',h1,h2,h3,h4⟩:=h i hi;have e1:=BV.inj nd h1 (LC f1 (hu i hi));have e2:=BV.inj nd h2 (LC f1 (hw i hi));subst e1 e2;constructor
  .refine BU ?_;simp only[EF,own];lia
  .refine BU ?_;simp only[EC,own];lia
def Ej (S:List Lp)(i:Nat):Str:=((S[i]?).map (·.lz)).getD ""
def Eu (S:List Lp)(i:Nat):Str:=((S[i]?).map (·.hz)).getD ""
def G5 (S:List Lp)(i:Nat):Int:=((S[i]?).map (·.ln)).getD 0
def Ge (S:List Lp)(i:Nat):Int:=((S[i]?).map (·.hn)).getD 0
end L2
namespace Tn
open Pw
variable {T S:Type}
end Tn
namespace L2
open PySem PySem.Spec PyProof.Rows
def J5 (C:Addr)(H:Hp)(x:V)(D:Dw):Prop := ∃(p dx nm lo hi pt:Addr) (v4 v5 v6:V) (ls hs:List V),x = .ref p/\H p=some (.ins C dx [("names",.ref nm),("lows",.ref lo),("highs",.ref hi),("table",v4),("spots",v5),("term",v6),("path",.ref pt)])/\H nm=some (.tup (D.loops.map λt=>V.str t.nm))/\H lo=some (.tup ls)/\Am (λv t=>DG H v (DP.lo t)) ls D.loops/\H hi=some (.tup hs)/\Am (λv t=>DG H v (DP.hi t)) hs D.loops/\H pt=some (.tup (D.path.map V.int))
theorem J5.over {C:Addr}{H H':Hp}{x:V}{D:Dw}(h:J5 C H x D)(e:A8 H H'):J5 C H' x D:=by
 obtain⟨p,dx,nm,lo,hi,pt,v4,v5,v6,ls,hs,r,h0,h1,h2,h3,h4,h5,h6⟩:=h;exact⟨p,dx,nm,lo,hi,pt,v4,v5,v6,ls,hs,r,e _ _ h0,e _ _ h1,e _ _ h2,h3.mono λ_ _ z=>z.tk (A8.tk e),e _ _ h4,h5.mono λ_ _ z=>z.tk (A8.tk e),e _ _ h6⟩
def Fb (C:Addr)(H:Hp)(l:Addr)(Ds:List Dw):Prop := ∃xs,H l=some (.lst xs)/\Am (J5 C H) xs Ds
theorem Fb.over {C:Addr}{H H':Hp}{l:Addr}{Ds:List Dw}(h:Fb C H l Ds)(e:A8 H H'):Fb C H' l Ds:=by
 obtain⟨xs,h1,h2⟩:=h;exact⟨xs,e _ _ h1,h2.mono λ_ _ z=>z.over e⟩
def IZ (D:Dw):List Str:=D.loops.map DP.nm
structure NW (D:Dw):Prop where
 ll:D.loops.length<=3
 pl:D.path.length=D.loops.length+1
 nd:(IZ D).Nodup
 bs:∀(e:Nat) (t:DP),D.loops[e]?=some t->(t.lo.1=("":Str)\/t.lo.1∈(IZ D).take e)/\(t.hi.1=("":Str)\/t.hi.1∈(IZ D).take e)
def N4 (Ds:List Dw)(d:Nat)(ns:List Nat):Prop := ∀k∈ns,∃D,Ds[k]?=some D/\NW D/\d<=D.loops.length
def Xe (C:Addr):Sp:=λvs H Q _=>∃(dl nl:Addr) (d:Nat) (Ds:List Dw) (ns:List Nat),vs=[.ref dl,.ref nl,.int (d:Int)]/\Fb C H dl Ds/\H nl=some (.lst (De ns))/\N4 Ds d ns/\ns.length<=10/\∀(gl:Addr) (H':Hp) (G:List (List Nat)),A8 H H'->H gl=none->Rr H' gl G->Cz Ds d ns G->Q (.ref gl) H'
def Rk (C:Addr)(n:Nat):Sp:=λvs H Q _=>∃(dl nl:Addr) (d:Nat) (Ds:List Dw) (ns:List Nat) (ds:List (Pw.Dd DP Str)),vs=[.ref dl,.ref nl,.int (d:Int)]/\Fb C H dl Ds/\H nl=some (.lst (De ns))/\N4 Ds d ns/\ns.length<=10/\Pw.Got (getD Ds) ns ds/\Pw.CC d ds/\d<=3/\4<=d+n/\∀(r:Addr) (H':Hp) (f:Pw.Fs) (xs:List V),A8 H H'->H r=none->H' r=some (.lst xs)->CI (nw H H') f xs->Pw.IsF (getD Ds) f ns d->CJ f<=n->xs.length<=ns.length->Q (.ref r) H'
def Nt (Ds:List Dw):Prop:=(∀D∈Ds,NW D)/\Ds.length<=10/\Pw.CC 0 (Ds.map Dw.dd)
def XI (C:Addr):Sp:=λvs H Q _=>∃(dl:Addr) (Ds:List Dw),vs=[.ref dl]/\Fb C H dl Ds/\Nt Ds/\∀(r:Addr) (H':Hp) (f:Pw.Fs) (xs:List V),A8 H H'->H r=none->H' r=some (.lst xs)->CI (nw H H') f xs->Pw.IsF (getD Ds) f (List.range Ds.length) 0->CJ f<=4->xs.length<=10->Q (.ref r) H'
theorem aX {H H1 H':Hp}(e:A8 H H1):A8 (nw H1 H') (nw H H'):=λb o h=>by
 obtain⟨h0,h1⟩:=Le h;exact Ny (e.free h0) h1
def Bt (l:Addr)(H H':Hp):Prop := ∀b o,b≠l->H b=some o->H' b=some o
theorem Bt.tk {l:Addr}{H H':Hp}{xs:List V}(h:Bt l H H')(hl:H l=some (.lst xs)):TK H H':=λb ys hb=>h b _ (λe=>by rw[e,hl]at hb;cases hb) hb
theorem Bt.trans {l:Addr}{H H1 H2:Hp}(a:Bt l H H1)(b:Bt l H1 H2):Bt l H H2:=λc o n h=>b c o n (a c o n h)
theorem Bt.same {l:Addr}{H H':Hp}(e:A8 H H'):Bt l H H':=λb o _ h=>e b o h
theorem Bt.put {l:Addr}{H:Hp}{o:HO}:Bt l H (upd H l o):=λb o n h=>by rw[Ag n];exact h
structure R3 where
 S:List Lp
 path:List Int
 z:Str
 p:Addr
 m:Nat
 rs:CS
def Hs (R R':R3):Prop := ∃e,e<=R.S.length/\e<=R'.S.length/\R.S.take e=R'.S.take e/\R.path.take e=R'.path.take e/\R.path.getD e 0<R'.path.getD e 0
theorem Mn {l m:List Int}{j:Nat}(h:j<l.length):(l++m).getD j 0=l.getD j 0:=by
 rw[Bj,Cw h,←Bj]
theorem Kr {l m:List Int}{x:Int}:(l++x::m).getD l.length 0=x:=by
 rw[Bj,Cg (Ah _),DO];rfl
def Fu (q:Lp):DP:=⟨q.nm,(q.lz,q.ln),(q.hz,q.hn)⟩
def R3.dw (R:R3):Dw:=⟨R.S.map Fu,"",[],.n 0,R.path⟩
theorem Q7:∀{Rs:List R3},Rs.Pairwise Hs->Pw.CC 0 ((Rs.map R3.dw).map Dw.dd)
 |[],_=>True.intro
 |[a],_=>Bh _
 |
  a::b::l,h=>by
  obtain⟨h1,h2⟩:=T2.mp h;obtain⟨e,e1,e2,e3,e4,e5⟩:=h1 b C7;refine⟨⟨e,Bh _,?_,?_,?_,e4,by show a.path.getD e 0≠b.path.getD e 0;lia⟩,Q7 h2⟩
  .show e<=(a.S.map Fu).length;rw[Af];exact e1
  .show e<=(b.S.map Fu).length;rw[Af];exact e2
  .show(a.S.map Fu).take e=(b.S.map Fu).take e;rw[←OM,←OM,e3]
theorem Qh {α β:Type}{P:V->β->Prop}{f:α->β}{xs:List V}{as:List α}(h:Am (λv q=>P v (f q)) xs as):Am P xs (as.map f):=by
 refine⟨by rw[Af];exact h.1,λi x b hx hb=>?_⟩;rw[Bf]at hb;cases ha:as[i]? with
 |none=>rw[ha]at hb;cases hb
 |
  some q=>
  rw[ha]at hb;cases hb;exact h.2 i x q hx ha
def PC (Z:Str->Prop)(H:Hp)(vs:List V):Prop := ∀v∈vs,∃(t:Addr) (z:Str) (n:Int),v = .ref t/\H t=some (.tup [.str z,.int n])/\Z z
def R9 (Z:Str->Prop)(n:Nat)(H:Hp)(p:Addr):Prop := ∃xs,H p=some (.tup xs)/\xs.length=n/\n<=3/\PC Z H xs
def Gc (Z:Str->Prop)(M:Str->Int->Prop)(H:Hp)(r:Str×Addr):Prop := ∃n:Nat,M r.1 (n:Int)/\R9 Z n H r.2
def R3.tch (R:R3):CS:=(R.z,R.p)::R.rs
def CW (c:Cs)(C:Addr)(H:Hp)(v:V)(R:R3):Prop := ∃(d dx nm lo hi pt:Addr) (x:V) (ls hs:List V),v = .ref d/\H d=some (.ins C dx [("names",.ref nm),("lows",.ref lo),("highs",.ref hi),("table",.str R.z),("spots",.ref R.p),("term",x),("path",.ref pt)])/\H nm=some (.tup ((AD R.S).map V.str))/\H lo=some (.tup ls)/\Am (λv q=>DG H v (q.lz,q.ln)) ls R.S/\H hi=some (.tup hs)/\Am (λv q=>DG H v (q.hz,q.hn)) hs R.S/\H pt=some (.tup (R.path.map V.int))/\CK c H R.m x R.rs
theorem CW.over {c:Cs}{C:Addr}{H H':Hp}{v:V}{R:R3}(h:CW c C H v R)(e:A8 H H'):CW c C H' v R:=by
 obtain⟨d,dx,nm,lo,hi,pt,x,ls,hs,a,b,f,g,i,j,k,l,m⟩:=h;have tk:=A8.tk e;exact⟨d,dx,nm,lo,hi,pt,x,ls,hs,a,e _ _ b,e _ _ f,e _ _ g,i.mono λ_ _ z=>z.tk tk,e _ _ j,k.mono λ_ _ z=>z.tk tk,e _ _ l,m.over e⟩
def R3.r5 (R:R3):R5:=⟨R.S.length,R.path,R.z,R.p,R.m,R.rs⟩
theorem EU (S:List Lp):(AD S).length=S.length:=by unfold AD;rw[Af]
theorem CW.d5 {c:Cs}{C:Addr}{H:Hp}{v:V}{R:R3}(h:CW c C H v R):ER c C H v R.r5:=by
 obtain⟨d,dx,nm,lo,hi,pt,x,ls,hs,a,b,f,g,i,j,k,l,m⟩:=h;exact⟨d,dx,nm,pt,_,_,x,_,a,b,f,by rw[Af,EU];rfl,l,m⟩
theorem Q8 {H:Hp}{p:Addr}{ls:List V}{S:List Lp}{f:Lp->Str×Int}(h:H p=some (.tup ls))(a:Am (λv q=>DG H v (f q)) ls S):Di H p S.length (λi=>((S[i]?).map λq=>(f q).1).getD "") (λi=>((S[i]?).map λq=>(f q).2).getD 0):=by
 refine⟨ls,h,a.1,λi x hx=>?_⟩;obtain⟨q,hq,t,e,ht⟩:=a.get' hx;refine⟨t,e,?_⟩;dsimp only;rw[hq];exact ht
theorem Pe {H:Hp}{p:Addr}{ls:List V}{S:List Lp}(h:H p=some (.tup ls))(a:Am (λv q=>DG H v (q.lz,q.ln)) ls S):Di H p S.length (Ej S) (G5 S):=Q8 (f:=λq=>(q.lz,q.ln)) h a
theorem RH {H:Hp}{p:Addr}{ls:List V}{S:List Lp}(h:H p=some (.tup ls))(a:Am (λv q=>DG H v (q.hz,q.hn)) ls S):Di H p S.length (Eu S) (Ge S):=Q8 (f:=λq=>(q.hz,q.hn)) h a
theorem OX {H:Hp}{l:Addr}{z:Str}{p:Addr}{rs:CS}(h:Oe H l z p rs){a:Nat}{r:Str×Addr}(ha:((z,p)::rs)[a]?=some r):∃(xs:List V) (t:Addr) (fl:Bool),H l=some (.lst xs)/\B1 xs (a:Int)=some (.ref t)/\H t=some (.tup [.bl fl,.str r.1,.ref r.2]):=by
 obtain⟨t,ys,h1,h2,h3,h4⟩:=h;cases a with
 |
  zero=>
  cases ha;exact⟨_,t,true,h1,BA (j:=0) rfl,h2⟩
 |
  succ a=>
  rw[Gh]at ha;have hl:=(Aw.mp ha).1;have hy:ys[a]?=some ys[a]:=AE (by lia);obtain⟨u,e,hu⟩:=h4 a _ r hy ha;exact⟨_,u,false,h1,BA (j:=a+1) (by rw[Gh,hy,e]),hu⟩
theorem PX {k:Nat}:∀{a:Nat} {L:List (Bool×Str)} {x:T5},x∈Pm.tk3 k a L->x.k=k/\∃j,x.a=a+j/\L[j]?=some (x.b,x.z)
 |_,[],x,h=>by cases h
 |
  a,t::L,x,h=>by
  rcases Bb.mp h with rfl|h
  .exact⟨rfl,0,rfl,rfl⟩
  .obtain⟨e,j,e1,e2⟩:=PX h;exact⟨e,j+1,by lia,e2⟩
theorem Nz:∀{k:Nat} {Ls:List (List (Bool×Str))} {x:T5},x∈Pm.all3 k Ls->∃i L,x.k=k+i/\Ls[i]?=some L/\L[x.a]?=some (x.b,x.z)
 |_,[],x,h=>by cases h
 |
  k,L::Ls,x,h=>by
  rcases CG.mp h with h|h
  .obtain⟨e,j,e1,e2⟩:=PX h;exact⟨0,L,e,rfl,by rw[e1,FI];exact e2⟩
  .obtain⟨i,L',e,e1,e2⟩:=Nz h;exact⟨i+1,L',by lia,e1,e2⟩
theorem S7 {Rs:List R3}{x:T5}(h:x∈Ca (Rs.map R3.r5)):∃R r,Rs[x.k]?=some R/\R.tch[x.a]?=some r/\r.1=x.z:=by
 obtain⟨i,L,e,e1,e2⟩:=Nz h;rw[FI]at e;rw[GQ,Bf]at e1;cases hR:Rs[i]? with
 |none=>rw[hR]at e1;cases e1
 |
  some R=>
  rw[hR]at e1;cases e1;refine⟨R,?_⟩;have et:EN R.r5=(true,R.z)::R.rs.map λr=>(false,r.1):=rfl;have e2:((true,R.z)::R.rs.map λr=>(false,r.1))[x.a]?=some (x.b,x.z):=e2;rw[e];cases ha:x.a with
  |
   zero=>
   rw[ha]at e2;exact⟨_,hR,rfl,congrArg Prod.snd (Cu e2)⟩
  |
   succ a=>
   rw[ha,Gh,Bf]at e2;cases hr:R.rs[a]? with
   |none=>rw[hr]at e2;cases e2
   |
    some r=>
    rw[hr]at e2;exact⟨r,hR,by unfold R3.tch;rw[Gh];exact hr,congrArg Prod.snd (Cu e2)⟩
theorem Xf {Rs:List R3}{q:Pm.Q4}(h:q∈Pm.mt (Ca (Rs.map R3.r5))):∃R r R' r',Rs[q.1]?=some R/\R.tch[q.2.1]?=some r/\Rs[q.2.2.1]?=some R'/\R'.tch[q.2.2.2]?=some r'/\r.1=r'.1:=by
 unfold Pm.mt Pm.mtF at h;obtain⟨l,hl,hq⟩:=List.mem_flatten.mp h;obtain⟨x,hx,rfl⟩:=Dl.mp hl;unfold Pm.in1 at hq;obtain⟨y,hy,rfl⟩:=Dl.mp hq;obtain⟨hy,ok⟩:=Os.mp hy;obtain⟨R,r,a,b,c⟩:=S7 hx;obtain⟨R',r',a',b',c'⟩:=S7 hy;unfold Pm.ok at ok;exact⟨R,r,R',r',a,b,a',b',by rw[c,c'];exact Fk (DC _ _▸ok).1⟩
theorem RC:∀A B:List Int,EY (A.map λi=>Tr.v (.int i)) (B.map λi=>Tr.v (.int i))=true
 |[],[]=>rfl
 |[],_::_=>rfl
 |_::_,[]=>rfl
 |a::A,b::B=>by rw[Cf,Cf,EY,RC A B,Ct];rfl
theorem Sg:∀A B:List Int,Ck (A.map λi=>Tr.v (.int i)) (B.map λi=>Tr.v (.int i))=decide (A=B)
 |[],[]=>rfl
 |[],b::B=>by rw[Cf,Gf,Ck,C9 (by intro h;cases h)]<;>simp
 |a::A,[]=>by rw[Cf,Gf,Ck,C9 (by intro h;cases h)]<;>simp
 |
  a::A,b::B=>by
  rw[Cf,Cf,Ck,Sg A B,C5];by_cases c:a=b
  .subst c;by_cases d:A=B
   .subst d;simp[DT]
   .simp[d,DT]
  .simp[c,DT]
def NU (R:R3)(W:List Int):Prop := ∀i<R.S.length,Oq (AD R.S) (Ej R.S) (Eu R.S) (G5 R.S) (Ge R.S) W i
structure Cd where
 m:Nat
 s:Nat
 u:Nat->Int
 w:Nat->Int
 u':Nat->Int
 w':Nat->Int
 z1:Nat->Str
 z2:Nat->Str
 n1:Nat->Int
 n2:Nat->Int
 x1:Nat->Int
 x2:Nat->Int
structure F9 (R R':R3)(D:Cd):Prop where
 m3:D.m<=3
 hx1:∀i<D.m,EM (AD R.S) (D.z1 i) 1 (D.x1 i)
 hx2:∀i<D.m,EM (AD R'.S) (D.z2 i) (1+(R.S.length:Int)) (D.x2 i)
 hu:∀i<R.S.length,UB (AD R.S) (Ej R.S) 1 D.u i
 hw:∀i<R.S.length,UB (AD R.S) (Eu R.S) 1 D.w i
 hu':∀i<R'.S.length,UB (AD R'.S) (Ej R'.S) (1+(R.S.length:Int)) D.u' i
 hw':∀i<R'.S.length,UB (AD R'.S) (Eu R'.S) (1+(R.S.length:Int)) D.w' i
 pf:Et R.r5 R'.r5 D.s
def Ha (S:List Lp)(first:Int)(u w:Nat->Int):List AQ:=DI (EF first u (G5 S)) (EC first w (Ge S)) S.length
def Je (D:Cd):List AQ:=DI (λi=>(D.x1 i,D.x2 i,D.n2 i-D.n1 i)) (λi=>(D.x2 i,D.x1 i,D.n1 i-D.n2 i)) D.m
def HL (behind:Int)(n:Nat):List AQ:=DI (λe=>(1+(e:Int),behind+(e:Int),0)) (λe=>(behind+(e:Int),1+(e:Int),0)) n
def G7 (s case:Nat)(behind:Int):List AQ:=HL behind case++if case<s then[(1+(case:Int),behind+(case:Int),-1)] else[]
def E9 (R R':R3)(D:Cd)(case:Nat):List AQ:=Ha R.S 1 D.u D.w++Ha R'.S (1+(R.S.length:Int)) D.u' D.w'++Je D++G7 D.s case (1+(R.S.length:Int))
def hU (U:List Int)(b:AQ):Bool:=decide (U.getD b.1.toNat 0-U.getD b.2.1.toNat 0<=b.2.2)
def Fy (U:List Int)(b:AQ):Prop:=0<=b.1/\b.1<(U.length:Int)/\0<=b.2.1/\b.2.1<(U.length:Int)
def Zo:Sp:=λvs H Q _=>∃(s case:Nat) (behind:Int),vs=[.int (s:Int),.int (case:Int),.int behind]/\case<=100/\∀(r:Addr) (ys:List V) (H':Hp),A8 H H'->H' r=some (.lst ys)->Bk H' ys (G7 s case behind)->Q (.ref r) H'
theorem IQ (S:List Lp)(first:Int)(u w:Nat->Int):(Ha S first u w).length=2*S.length:=F2 _ _ _
theorem Xc {R R':R3}{D:Cd}{case:Nat}(h:R.S.length<=3)(h':R'.S.length<=3)(m3:D.m<=3)(c:case<=3):(E9 R R' D case).length<=100:=by
 unfold E9 G7;rw[Ai,Ai,Ai,Ai,IQ,IQ];have h1:(Je D).length=2*D.m:=F2 _ _ _;have h2:(HL (1+(R.S.length:Int)) case).length=2*case:=F2 _ _ _
 have h3:(if case<D.s then[(1+(case:Int),1+(R.S.length:Int)+(case:Int),(-1:Int))] else[]).length<=1:=by split<;>simp
 lia
theorem N9 {U W:List Int}{first x:Int}(f1:1<=first)(h0:U.getD 0 0=0)(h:∀j:Nat,j<W.length->U.getD (first+(j:Int)).toNat 0=W.getD j 0)(k:Se first W x):U.getD x.toNat 0=GF first W x:=by
 unfold GF;rcases k with rfl|⟨j,hj,rfl⟩
 .rw[Ay rfl];exact h0
 .rw[AB (by lia),h j hj,show(first+(j:Int)-first).toNat=j by lia]
theorem R7 {S:List Lp}{U W:List Int}{first:Int}{u w:Nat->Int}(f1:1<=first)(h0:U.getD 0 0=0)(h:∀j:Nat,j<W.length->U.getD (first+(j:Int)).toNat 0=W.getD j 0)(wl:W.length=S.length)(nd:(AD S).Nodup)(hu:∀i<S.length,UB (AD S) (Ej S) first u i)(hw:∀i<S.length,UB (AD S) (Eu S) first w i):(Ha S first u w).all (hU U)=true↔∀i<S.length,Oq (AD S) (Ej S) (Eu S) (G5 S) (Ge S) W i:=by
 rw[←U4 (W:=W) (ln:=G5 S) (hn:=Ge S) nd f1 hu hw];unfold Ha;rw[K7,K7];have key:∀i<S.length,hU U (EF first u (G5 S) i)=Mr first W (EF first u (G5 S) i)/\hU U (EC first w (Ge S) i)=Mr first W (EC first w (Ge S) i):=λi hi=>by
  have k1:=N9 f1 h0 h (RV (W:=W) (hu i hi) (by lia));have k2:=N9 f1 h0 h (RV (W:=W) (hw i hi) (by lia));have k3:=N9 f1 h0 h (x:=first+(i:Int)) (.inr ⟨i,by lia,rfl⟩);unfold hU Mr EF EC;dsimp only;rw[k1,k2,k3];exact⟨rfl,rfl⟩
 exact⟨λg i hi=>by rw[←(key i hi).1,←(key i hi).2];exact g i hi,λg i hi=>by rw[(key i hi).1,(key i hi).2];exact g i hi⟩
theorem Vu {U:List Int}{behind:Int}{n:Nat}:(HL behind n).all (hU U)=true↔∀e<n,U.getD (1+(e:Int)).toNat 0=U.getD (behind+(e:Int)).toNat 0:=by
 unfold HL;rw[K7];unfold hU;constructor
 .intro h e he;obtain⟨a,b⟩:=h e he;have a:=Fk a;have b:=Fk b;dsimp only at a b;lia
 .intro h e he;have:=h e he;exact⟨BU (by dsimp only;lia),BU (by dsimp only;lia)⟩
theorem YL {U:List Int}{D:Cd}:(Je D).all (hU U)=true↔∀i<D.m,U.getD (D.x1 i).toNat 0+D.n1 i=U.getD (D.x2 i).toNat 0+D.n2 i:=by
 unfold Je;rw[K7];unfold hU;constructor
 .intro h e he;obtain⟨a,b⟩:=h e he;have a:=Fk a;have b:=Fk b;dsimp only at a b;lia
 .intro h e he;have:=h e he;exact⟨BU (by dsimp only;lia),BU (by dsimp only;lia)⟩
def Dg (W W':List Int):List Int:=0::(W++W')
theorem Hr {W W':List Int}{j:Nat}(h:j<W.length):(Dg W W').getD (1+(j:Int)).toNat 0=W.getD j 0:=by
 rw[show(1+(j:Int)).toNat=j+1 by lia];show(W++W').getD j 0=_;rw[Bj,Bj,Cw h]
theorem GV {W W':List Int}{j:Nat}:(Dg W W').getD (1+(W.length:Int)+(j:Int)).toNat 0=W'.getD j 0:=by
 rw[show(1+(W.length:Int)+(j:Int)).toNat=(W.length+j)+1 by lia];show(W++W').getD (W.length+j) 0=_;rw[Bj,Bj,Cg (by lia),show W.length+j-W.length=j by lia]
theorem IS {zs:List Str}{z:Str}{first x:Int}{n:Nat}(f1:1<=first)(h:EM zs z first x)(l:zs.length<=n):0<=x/\x<first+(n:Int):=by
 rcases h with⟨_,rfl⟩|⟨_,j,hj,_,rfl⟩
 .lia
 .have:=(Aw.mp hj).1;lia
theorem Lw {F G:Nat->AQ}{m:Nat}{U:List Int}(h:∀i<m,Fy U (F i)/\Fy U (G i)):∀b∈DI F G m,Fy U b:=λb hb=>by
 obtain⟨i,hi,e|e⟩:=Uc hb
 .rw[e];exact(h i hi).1
 .rw[e];exact(h i hi).2
theorem S4 {Z:Str->Prop}{n:Nat}{H:Hp}{p:Addr}(h:R9 Z n H p):∃(z:Nat->Str) (k:Nat->Int),Di H p n z k/\∀i<n,Z (z i):=by
 obtain⟨xs,a,b,c,d⟩:=h;have ex:∀i:Nat,∃y:Str×Int,∀x,xs[i]?=some x->(∃t,x = .ref t/\H t=some (.tup [.str y.1,.int y.2]))/\Z y.1:=λi=>by
  cases hx:xs[i]? with
  |none=>exact⟨("",0),λx h=>by cases h⟩
  |
   some v=>
   obtain⟨t,z,k,e,ht,hz⟩:=d v (B0 hx);exact⟨(z,k),λx h=>by cases h;exact⟨⟨t,e,ht⟩,hz⟩⟩
 refine⟨λi=>(ex i).choose.1,λi=>(ex i).choose.2,⟨xs,a,b,λi x hx=>((ex i).choose_spec x hx).1⟩,λi hi=>?_⟩;exact((ex i).choose_spec _ (AE (by lia))).2
theorem Bk.tk {H H':Hp}{ys:List V}{B:List AQ}(h:Bk H ys B)(e:TK H H'):Bk H' ys B:=⟨h.1,λi y b p q=>by obtain⟨t,x,z⟩:=h.2 i y b p q;exact⟨t,x,e _ _ z⟩⟩
theorem CW.tm {c:Cs}{C:Addr}{H:Hp}{v:V}{R:R3}(h:CW c C H v R):Jd c C H v R.z R.p R.m R.rs:=by
 obtain⟨d,dx,nm,lo,hi,pt,x,ls,hs,a,b,f,g,i,j,k,l,m⟩:=h;exact⟨d,dx,_,_,_,x,_,a,b,m⟩
section
variable {X:Cx}{pins:List (Addr×Obj)}{s:Shared}{σ:St}{H:Hp}
end
theorem au {K:Faa}{a b:Addr}{xs ys:List V}{ρ:List (Option Nat)}{g:TG}{tt:TT}{te:TE}{σ:St}{H:Hp}{Q:VK}(hlen:xs.length=ys.length)(Pv:Nat->List V->Hp->Prop)(h0:Pv 0 [] H)(hsz:xs.length<=sizeLine)(hl:∀i zs H,i<=xs.length->Pv i zs H->A4 K H a xs/\A4 K H b ys/\zs.length<=i)
  (hs:∀i x y T zs H,xs[i]?=some x->ys[i]?=some y->Pv i zs H->H T=none->g (.ref T) (C1 ρ σ) (upd H T (.tup [x,y])) fun σ2 H3=>IM ρ σ σ2/\tt σ2 H3 λok H4=>if ok=true then te σ2 H4 λv H5=>Pv (i+1) (zs++[v]) H5 else Pv (i+1) zs H4)
  (hd:∀zs H,Pv xs.length zs H->∀p,H p=none->Q (.ref p) (upd H p (.lst zs))):HW ρ g tt te σ Q (IG K a b) H:=by
 refine⟨λi m zs H=>m=xs.length-i/\i<=xs.length/\Pv i zs H,⟨_,rfl,Bh _,h0⟩,?_⟩;rintro i m zs H ⟨rfl,hi,p⟩;obtain⟨q1,q2,hz⟩:=hl i zs H hi p;by_cases hlt:i<xs.length
 .refine .inr ⟨⟨xs,ys,xs[i],ys[i],q1,q2,AE hlt,AE (by lia)⟩,by lia,Pv (i+1),λys' H'' p'=>⟨xs.length-(i+1),by lia,rfl,hlt,p'⟩,λv H' yy=>?_⟩;obtain⟨x,y,T,hx,hy,hT,rfl,rfl⟩:=yy;exact hs i x y T zs H (hx xs q1) (hy ys q2) p hT
 .have:i=xs.length:=by lia
  subst this;exact .inl ⟨⟨xs,ys,q1,q2,Ah _,by lia,.inl rfl⟩,by lia,hd zs H p⟩
def Qc:V->Bool
 |.int _=>true
 |.str _=>true
 |.bl _=>true
 |_=>false
mutual
def D5 (H:Hp):Tr->V->Prop
 |.v y,x=>x=y/\Qc y=true
 |.tup l,x=>∃p xs,x = .ref p/\H p=some (.tup xs)/\Cn H l xs
 |.lst _,_=>False
def Cn (H:Hp):List Tr->List V->Prop
 |[],xs=>xs=[]
 |t::l,xs=>∃x xs',xs=x::xs'/\D5 H t x/\Cn H l xs'
end
end L2
namespace Fo
variable {W:Type}
end Fo
namespace PySem
open PySem.Spec PyProof.Rows
open AutoSeq1 (wpAny_loadPart')
end PySem
namespace L2
open PySem PySem.Spec PyProof.Rows
end L2
namespace HU
open PySem PySem.Spec
section
variable {prog:Program}{w:World}{A:Around}{E:Value->Shared->Prop}{s:Shared}
end
end HU
namespace L2
open PySem PySem.Spec PyProof.Rows
mutual
theorem D5.tr {K:Faa}{H:Hp}:∀{t:Tr} {x:V},D5 H t x->BE K H x t
 |
  .v y,x,h=>by
  rw[D5]at h;obtain⟨rfl,h⟩:=h;exact .flat (by cases x<;>first|rfl|cases h)
 |
  .tup l,x,h=>by
  rw[D5]at h;obtain⟨p,xs,rfl,h0,h1⟩:=h;exact .tup (A4.of h0) (Cn.tr h1)
 |.lst l,x,h=>by rw[D5]at h;exact h.elim
theorem Cn.tr {K:Faa}{H:Hp}:∀{l:List Tr} {xs:List V},Cn H l xs->Cj K H xs l
 |[],xs,h=>by rw[Cn]at h;subst h;exact .nil
 |
  t::l,xs,h=>by
  rw[Cn]at h;obtain⟨x,xs',rfl,h0,h1⟩:=h;exact .cons (D5.tr h0) (Cn.tr h1)
end
def JD (P:List (Int×Int)):Tr:=.tup (P.map λp=>Tr.tup [.v (.int p.1),.v (.int p.2)])
theorem Rj {α:Type}{H:Hp}{R:V->α->Prop}{g:α->Tr}(h:∀x a,R x a->D5 H (g a) x):∀{ys:List V} {P:List α},Am R ys P->Cn H (P.map g) ys
 |[],[],_=>by rw[Gf,Cn]
 |[],p::P,z=>by have:=z.1;cases this
 |y::ys,[],z=>by have:=z.1;cases this
 |
  y::ys,p::P,z=>by
  rw[Cf,Cn];exact⟨y,ys,rfl,h y p (z.2 0 y p rfl rfl),Rj h ⟨OK z.1,λi x a p q=>z.2 (i+1) x a (by simpa using p) (by simpa using q)⟩⟩
theorem Ur {H:Hp}{t:Addr}{P:List (Int×Int)}(h:EJ H t P):D5 H (JD P) (.ref t):=by
 obtain⟨xs,h0,h1⟩:=h;rw[JD,D5];refine⟨t,xs,rfl,h0,Rj (λx a z=>?_) h1⟩;obtain⟨u,rfl,hu⟩:=z;rw[D5];refine⟨u,_,rfl,hu,?_⟩;rw[Cn];refine⟨_,_,rfl,by rw[D5];exact⟨rfl,rfl⟩,?_⟩;rw[Cn];refine⟨_,_,rfl,by rw[D5];exact⟨rfl,rfl⟩,?_⟩;rw[Cn]
theorem VO (P:List (Int×Int)):C3 (JD P)<=2:=by
 rw[JD,C3];have:=PU P;lia
theorem Xk {K:Faa}{H:Hp}{x y:Addr}{t:Tr}{Q:VK}(hx:BE K H (.ref x) t)(hy:BE K H (.ref y) t)(hd:C3 t<=60)(h:Q (.bl true) H):FB K false (.ref x) (.ref y) H Q:=by
 refine⟨t,t,hx,hy,⟨_,rfl⟩,⟨_,rfl⟩,Ju t,hd,?_⟩;rw[show(if false=true then !C5 t t else C5 t t)=true from GU t hx.ok];exact h
end L2
namespace Fo
variable {W:Type}
theorem QE {d:Nat}:∀(G G2 B B2:List (Bo W)),G++B=G2++B2->(∀c∈G,d<c.sh)->(∀c∈G2,d<c.sh)->HeadSh B d->HeadSh B2 d->G=G2/\B=B2
 |[],[],B,B2,e,_,_,_,_=>⟨rfl,e⟩
 |
  [],c::G2,B,B2,e,_,h2,hB,_=>by
  have h:=h2 c C7;have:c.sh=d:=hB c (by have e:B=c::(G2++B2):=e;rw[e];rfl);lia
 |
  c::G,[],B,B2,e,h1,_,_,hB=>by
  have h:=h1 c C7;have:c.sh=d:=hB c (by have e:c::(G++B)=B2:=e;rw[←e];rfl);lia
 |
  c::G,c2::G2,B,B2,e,h1,h2,hB,hB2=>by
  have e:c::(G++B)=c2::(G2++B2):=e;obtain⟨e1,e2⟩:=Jm e;obtain⟨r1,r2⟩:=QE G G2 B B2 e2 (λx hx=>h1 x (Ce _ hx)) (λx hx=>h2 x (Ce _ hx)) hB hB2;exact⟨by rw[e1,r1],r2⟩
theorem is_one:∀(f g:F W) (B:List (Bo W)) (d:Nat),Is f B d->Is g B d->f=g
 |.nil,.nil,B,d,_,_=>rfl
 |
  .nil,.leaf k pl r,B,d,hf,hg=>by
  obtain⟨b,B',e,_⟩:=hg;have hf:B=[]:=hf;rw[hf]at e;cases e
 |
  .nil,.node c w s r,B,d,hf,hg=>by
  obtain⟨b,G,B',e,_⟩:=hg;have hf:B=[]:=hf;rw[hf]at e;cases e
 |
  .leaf k pl r,.nil,B,d,hf,hg=>by
  obtain⟨b,B',e,_⟩:=hf;have hg:B=[]:=hg;rw[hg]at e;cases e
 |
  .leaf k pl r,.leaf k2 pl2 r2,B,d,hf,hg=>by
  obtain⟨b,B',rfl,rfl,rfl,_,_,h5⟩:=hf;obtain⟨b2,B2,e,rfl,rfl,_,_,g5⟩:=hg;obtain⟨rfl,rfl⟩:=Jm e;rw[is_one r r2 _ d h5 g5]
 |
  .leaf k pl r,.node c w s r2,B,d,hf,hg=>by
  obtain⟨b,B',rfl,_,_,hl,_,_⟩:=hf;obtain⟨b2,G,B2,e,hw,_⟩:=hg;have e:b::B'=b2::(G++B2):=e;obtain⟨rfl,_⟩:=Jm e;have:=(Aw.mp hw).1;lia
 |
  .node c w s r,.nil,B,d,hf,hg=>by
  obtain⟨b,G,B',e,_⟩:=hf;have hg:B=[]:=hg;rw[hg]at e;cases e
 |
  .node c w s r2,.leaf k pl r,B,d,hg,hf=>by
  obtain⟨b,B',rfl,_,_,hl,_,_⟩:=hf;obtain⟨b2,G,B2,e,hw,_⟩:=hg;have e:b::B'=b2::(G++B2):=e;obtain⟨rfl,_⟩:=Jm e;have:=(Aw.mp hw).1;lia
 |
  .node c w s r,.node c2 w2 s2 r2,B,d,hf,hg=>by
  obtain⟨b,G,B',rfl,hw,hG,hh,hs,hr⟩:=hf;obtain⟨b2,G2,B2,e,hw2,hG2,hh2,hs2,hr2⟩:=hg;have e:b::(G++B')=b2::(G2++B2):=e;obtain⟨rfl,e'⟩:=Jm e;obtain⟨rfl,rfl⟩:=QE G G2 B' B2 e' hG hG2 hh hh2;rw[hw]at hw2;obtain⟨rfl,rfl⟩:=Prod.mk.inj (Cu hw2);rw[is_one s s2 _ _ hs hs2,is_one r r2 _ _ hr hr2]
def ownP (m:Nat):List (Int×Int):=(List.range m).map λe:Nat=>((e:Int),0)
def ownF (up:W)(m:Nat->Nat):Pw.Fs->F W
 |.nil=>.nil
 |.leaf k rest=>.leaf (k:Int) (ownP (m k)) (ownF up m rest)
 |.node _ sub rest=>.node false up (ownF up m sub) (ownF up m rest)
def ownB (up:W)(m sh:Nat->Nat)(k:Nat):Bo W:=⟨(k:Int),sh k,List.replicate (m k) (false,up),ownP (m k)⟩
structure Row {T S:Type}(D:Nat->Option (Pw.Dd T S))(m sh:Nat->Nat)(n:Nat):Prop where
 ml:∀k a,k<n->D k=some a->a.loops.length=m k
 has:∀k,k<n->∃a,D k=some a
 shl:∀k,k+1<n->sh (k+1)<=m k
 same:∀k a b,k+1<n->D k=some a->D (k+1)=some b->(∀e<sh (k+1),b.path.getD e 0=a.path.getD e 0)/\b.path.getD (sh (k+1)) 0≠a.path.getD (sh (k+1)) 0
theorem Pi {i n k:Nat}{g ns:List Nat}(h:List.range' i n=k::g++ns):k=i/\g=List.range' (i+1) g.length/\ns=List.range' (i+1+g.length) ns.length/\n=1+g.length+ns.length:=by
 have l:=congrArg List.length h;rw[List.length_range',Ai,Bz]at l;have e:n=1+(g.length+ns.length):=by lia
 rw[e,←T3,←T3]at h;have h:i::(List.range' (i+1) g.length++List.range' (i+1+g.length) ns.length)=k::(g++ns):=h;obtain⟨h1,h2⟩:=Jm h;obtain⟨h3,h4⟩:=List.append_inj h2 (by rw[List.length_range']);exact⟨h1.symm,h3.symm,h4.symm,by lia⟩
theorem own_is {T S:Type}{up:W}{D:Nat->Option (Pw.Dd T S)}{m sh:Nat->Nat}{N:Nat}(R:Row D m sh N):∀(f:Pw.Fs) (i n d:Nat),i+n<=N->Pw.IsF D f (List.range' i n) d->(∀k,i<k->k<i+n->d<=sh k)->Is (ownF up m f) ((List.range' i n).map (ownB up m sh)) d
 |
  .nil,i,n,d,hn,h,hd=>by
  have h:List.range' i n=[]:=h;rw[h];rfl
 |
  .leaf k rest,i,n,d,hn,h,hd=>by
  obtain⟨ns',a,e,ha,hl,hr⟩:=h;obtain⟨rfl,_,e2,e3⟩:=Pi (g:=[]) (ns:=ns') e;rw[Ky,OE]at e2 e3;rw[e2]at hr;have mk:=R.ml k a (by lia) ha;have ih:=own_is (up:=up) R rest (k+1) ns'.length d (by lia) hr (λx h1 h2=>hd x (by lia) (by lia));refine⟨ownB up m sh k,(List.range' (k+1) ns'.length).map (ownB up m sh),?_,rfl,rfl,?_,λc hc=>?_,ih⟩
  .rw[e3,Ii 1,GS];rfl
  .show(List.replicate (m k) (false,up)).length=d;rw[DB,←mk,hl]
  .cases hx:ns'.length with
   |zero=>rw[hx]at hc;cases hc
   |
    succ x=>
    rw[hx,GS]at hc;cases hc;show sh (k+1)=d;have:=R.shl k (by lia);have:=hd (k+1) (by lia) (by lia);lia
 |
  .node k sub rest,i,n,d,hn,h,hd=>by
  obtain⟨g,ns',a,e,ha,hl,hg,hh,hs,hr⟩:=h;obtain⟨rfl,e1,e2,e3⟩:=Pi e;generalize hgl:g.length=gl at e1 e2 e3;have kg:k::g=List.range' k (gl+1):=by rw[e1,GS]
  rw[kg]at hs;rw[e2]at hr;have mk:=R.ml k a (by lia) ha;have pd:∀x b,k<=x->x<k+1+gl->D x=some b->b.path.getD d 0=a.path.getD d 0:=λx b h1 h2 hb=>by
   rcases Ed k x with c|c
   .exact hg x (by rw[e1];exact List.mem_range'_1.mpr ⟨by lia,by lia⟩) b hb
   .have:x=k:=by lia
    subst this;rw[ha]at hb;cases hb;rfl
  have shg:∀x,k<x->x<k+1+gl->d<sh x:=λx h1 h2=>by
   obtain⟨y,rfl⟩:∃y,x=y+1:=⟨x-1,by lia⟩
   obtain⟨b,hb⟩:=R.has y (by lia);obtain⟨c,hc⟩:=R.has (y+1) (by lia);have q:=(R.same y b c (by lia) hb hc).2;have:=hd (y+1) (by lia) (by lia);rcases Ed d (sh (y+1)) with z|z
   .exact z
   .have:sh (y+1)=d:=by lia
    rw[this,pd (y+1) c (by lia) (by lia) hc,pd y b (by lia) (by lia) hb]at q;exact absurd rfl q
  have i1:=own_is (up:=up) R sub k (gl+1) (d+1) (by lia) hs (λx h1 h2=>shg x h1 (by lia));have i2:=own_is (up:=up) R rest (k+1+gl) ns'.length d (by lia) hr (λx h1 h2=>hd x (by lia) (by lia));rw[GS]at i1;refine⟨ownB up m sh k,(List.range' (k+1) gl).map (ownB up m sh),(List.range' (k+1+gl) ns'.length).map (ownB up m sh),?_,?_,λc hc=>?_,λc hc=>?_,i1,i2⟩
  .rw[e3,Nat.add_assoc,Ii 1,GS,←T3,Cf,Bv];rfl
  .show(List.replicate (m k) (false,up))[d]?=some (false,up);rw[Ou,Ay (by lia)]
  .obtain⟨x,hx,rfl⟩:=Dl.mp hc;obtain⟨h1,h2⟩:=List.mem_range'_1.mp hx;exact shg x (by lia) (by lia)
  .cases hx:ns'.length with
   |zero=>rw[hx]at hc;cases hc
   |
    succ y=>
    rw[hx,GS]at hc;cases hc;show sh (k+1+gl)=d;obtain⟨b,hb⟩:=R.has (k+gl) (by lia);obtain⟨c,hc⟩:=R.has (k+1+gl) (by lia);have hne:=hh (k+1+gl) c (by rw[e2,hx,GS];rfl) hc;have hd':=hd (k+1+gl) (by lia) (by lia);rcases Ed d (sh (k+1+gl)) with z|z
    .exfalso;have e4:k+1+gl=k+gl+1:=by lia
     rw[e4]at hc z;have q:=(R.same (k+gl) b c (by lia) hb hc).1 d z;rw[pd (k+gl) b (by lia) (by lia) hb]at q;exact hne q
    .lia
end Fo
namespace L2
open PySem PySem.Spec PyProof.Rows
section
variable {X:Cx}
theorem Y8 (hc:X.calm=true):EL X (.builtin "any") (λxs H Q=>∃(p:Addr) (bs:List Bool),xs=[.ref p]/\A3 X.K H p (bs.map V.bl)/\Q (.bl (bs.any id)) H):=by
 intro pins s σ H xs us Q I r h;obtain⟨p,bs,rfl,hq,q⟩:=h;obtain⟨u,rfl,ru⟩:=F7 r;cases ru;obtain⟨its,rv,pl,hz⟩:=I.list hq;have hne:p≠s.heap.objs.size:=by
  obtain⟨o,n,e,_⟩:=pl;exact C4 (Bq e)
 have hl:=rv.length;refine call_any_walk (T8 pl.isList ⟨s.heap.objs.size,_,_,its.toArray.size,_,_,λi=>bs.getD i false,rfl,Walks.list (A:=X.A.in1) (show X.A.in1.handled=none from I.ok.hd hc) s.heap.objs.size p hne its.toArray,⟨⟨_,CT _ rfl,rfl,rfl⟩,(pl.isList).push _⟩,?_,λh' tk kk=>?_⟩)
 .intro i v s' Q' E hv hq';have hv':its[i]?=some v:=by simpa using hv
  have hb:∃b,bs[i]?=some b/\v = .bool b:=by
   cases e:(bs.map V.bl)[i]? with
   |
    none=>
    have:=rv.none_of e;rw[hv']at this;cases this
   |
    some y=>
    obtain⟨u,hu,ru⟩:=rv.get e;rw[hv']at hu;cases hu;rw[Bf]at e;cases eb:bs[i]? with
    |none=>rw[eb]at e;cases e
    |
     some b=>
     rw[eb]at e;cases e;exact⟨b,rfl,ru⟩
  obtain⟨b,hb,rfl⟩:=hb;refine Jo ?_;have hq2:Q' ((bs[i]?).getD false) s':=hq';rw[hb]at hq2;exact hq2
 .have e:((List.range its.toArray.size).any λi=>bs.getD i false)=bs.any id:=by
   have el:its.toArray.size=bs.length:=by rw[AZ,←hl,Af]
   rw[el];rw[GL];simp only[SM,DA];constructor
   .rintro ⟨i,hi,h⟩;refine⟨bs[i],Fh hi,?_⟩;rw[Bj,AE hi]at h;exact h
   .rintro ⟨b,hb,h⟩;obtain⟨i,hi,e⟩:=OC.mp hb;refine⟨i,hi,?_⟩;rw[Bj,AE hi,e];exact h
  rw[e];refine⟨.bl (bs.any id),H,I.kept (t':=tk) λb o eb=>kk b o ?_ (Bu _ eb),rfl,q⟩;intro z;have z':b=s.heap.objs.size:=by simpa using z
  exact absurd (Bq eb) (by rw[z'];exact Ea _)
theorem Qs:∀{its:List Value} {ns:List Int},IntsAre its ns->Au (ns.map V.int) its
 |_,_,.nil=>.nil
 |_,_,.cons n t r=>.cons ⟨t,rfl⟩ (Qs r)
def Wa (K:Faa):List V->Hp->VK->Prop:=λxs H Q=>∃(p:Addr) (ns:List Int),xs=[.ref p]/\A3 K H p (ns.map V.int)/\ns.length<64/\∀(l:Addr) (ns':List Int),H l=none->ns'.Perm ns->ns'.Pairwise (·<=·)->Q (.ref l) (upd H l (.lst (ns'.map V.int)))
theorem Rx:EL X (.builtin "sorted") (Wa X.K):=by
 intro pins s σ H xs us Q I r h;obtain⟨p,ns,rfl,hq,h64,q⟩:=h;obtain⟨u,rfl,ru⟩:=F7 r;cases ru;obtain⟨its,rv,pl,hz⟩:=I.list hq;have hl:=rv.length;rw[Af]at hl;refine sorted_ints pl.isList (S5 rv) (by lia) λout ns' a1 a2 a3=>?_;obtain⟨e,he⟩:=sortedAll_at s.heap its out;have nl:=a2.length_eq;have hle:s.heap.objs.size<=s.heap.objs.size+1:=GM _;obtain⟨out⟩:=out;exact⟨.ref (s.heap.objs.size+1),_,I.laid (t':=s.toks) (o:=.lst (ns'.map V.int)) (λb o e=>sortedAll_old e) hle ⟨BD (by rw[Af];lia),out,e,Qs a1,he⟩,rfl,q _ ns' (I.hok.fresh hle) a2 a3⟩
end
def BP (Ds:List Dw)(k:Nat):Nat:=match Ds[k]? with
 |some D=>D.loops.length
 |none=>0
theorem KJ {Ds:List Dw}{k:Nat}{D:Dw}(h:Ds[k]?=some D):BP Ds k=D.loops.length:=by unfold BP;rw[h]
abbrev Hj (Ds:List Dw)(f:Pw.Fs):B8:=Fo.ownF ("up":Str) (BP Ds) f
def Jf (Ds:List Dw):Pw.Fs->Prop
 |.nil=>True
 |.leaf k r=>(∃D,Ds[k]?=some D)/\Jf Ds r
 |.node _ s r=>Jf Ds s/\Jf Ds r
def DF:Pw.Fs->Nat
 |.nil=>0
 |.leaf _ r=>DF r+1
 |.node _ s r=>DF s+DF r+1
theorem N5 {H:Hp}:∀{f:Pw.Fs} {xs:List V},CI H f xs->xs.length<=DF f
 |.nil,xs,h=>by have h:xs=[]:=h;subst h;exact Ah _
 |
  .leaf k r,xs,h=>by
  obtain⟨t,xs',rfl,_,h1⟩:=h;have:=N5 h1;show xs'.length+1<=DF r+1;lia
 |
  .node k s r,xs,h=>by
  obtain⟨t,l,ys,xs',rfl,_,_,_,h1⟩:=h;have:=N5 h1;show xs'.length+1<=DF s+DF r+1;lia
theorem M6 {W:Type}:∀(f g h:Fo.F W),Fo.app (Fo.app f g) h=Fo.app f (Fo.app g h)
 |.nil,g,h=>rfl
 |.leaf k pl r,g,h=>by show Fo.F.leaf k pl _=_;rw[M6 r g h];rfl
 |.node c w s r,g,h=>by show Fo.F.node c w s _=_;rw[M6 r g h];rfl
theorem Om {W:Type}:∀(f:Fo.F W),Fo.app f .nil=f
 |.nil=>rfl
 |.leaf k pl r=>by show Fo.F.leaf k pl (Fo.app r .nil)=_;rw[Om r]
 |.node c w s r=>by show Fo.F.node c w s (Fo.app r .nil)=_;rw[Om r]
theorem P7 (m i:Nat)(h:i<m):(Fo.ownP m).take (i+1)=(Fo.ownP m).take i++[((i:Int),0)]:=by
 refine CL ?_;unfold Fo.ownP;rw[Bf,Fi h];rfl
theorem Ir (m:Nat):(Fo.ownP m).length=m:=by unfold Fo.ownP;rw[Af,C8]
def J8:B8->Prop
 |.nil=>True
 |.leaf _ _ r=>J8 r
 |.node _ _ s r=>s≠.nil/\J8 s/\J8 r
theorem Mq:∀(f:B8) (B:List B6) (d:Nat),Fo.Is f B d->J8 f
 |.nil,B,d,h=>True.intro
 |
  .leaf k pl r,B,d,h=>by
  obtain⟨b,B',rfl,_,_,_,_,h5⟩:=h;exact Mq r B' d h5
 |
  .node c w s r,B,d,h=>by
  obtain⟨b,G,B',rfl,_,_,_,h4,h5⟩:=h;refine⟨λz=>?_,Mq s _ _ h4,Mq r _ _ h5⟩;rw[z]at h4;have h4:b::G=[]:=h4;cases h4
def DM:B8->Nat
 |.nil=>0
 |.leaf _ _ r=>DM r+1
 |.node _ _ s r=>DM s+DM r+1
theorem ND {H:Hp}:∀{f:B8} {xs:List V},AR H xs f->xs.length<=DM f
 |.nil,xs,h=>by have h:xs=[]:=h;subst h;exact Ah _
 |
  .leaf k pl r,xs,h=>by
  obtain⟨t,p,ys,rfl,_,_,h1⟩:=h;have:=ND h1;show ys.length+1<=DM r+1;lia
 |
  .node c w s r,xs,h=>by
  obtain⟨t,p,zs,ys,rfl,_,_,_,h1⟩:=h;have:=ND h1;show ys.length+1<=DM s+DM r+1;lia
def Qm (n:Nat):Sp:=λvs H Q _=>∃(p:Addr) (f:B8),vs=[.ref p]/\DS H p f/\Cp f<=n/\J8 f/\DM f<=1000/\n<=20/\∀H',A8 H H'->Q (.bl false) H'
def Du:B8->List Tr
 |.nil=>[]
 |.leaf k pl r=>.tup [.v (.str "deed"),.v (.int k),JD pl]::Du r
 |.node c w s r=>.tup [.v (.str "sweep"),.v (.bl c),.v (.str w),.tup (Du s)]::Du r
theorem JY {H:Hp}{y:V}(h:Qc y=true):D5 H (.v y) y:=by rw[D5];exact⟨rfl,h⟩
theorem M1 {H:Hp}:∀{f:B8} {xs:List V},AR H xs f->Cn H (Du f) xs
 |.nil,xs,h=>by have h:xs=[]:=h;subst h;rw[Du,Cn]
 |
  .leaf k pl r,xs,h=>by
  obtain⟨t,p,ys,rfl,h0,h1,h2⟩:=h;rw[Du,Cn];refine⟨_,_,rfl,?_,M1 h2⟩;rw[D5];refine⟨t,_,rfl,h0,?_⟩;rw[Cn];refine⟨_,_,rfl,JY rfl,?_⟩;rw[Cn];refine⟨_,_,rfl,JY rfl,?_⟩;rw[Cn];exact⟨_,_,rfl,Ur h1,by rw[Cn]⟩
 |
  .node c w s r,xs,h=>by
  obtain⟨t,p,zs,ys,rfl,h0,h1,h2,h3⟩:=h;rw[Du,Cn];refine⟨_,_,rfl,?_,M1 h3⟩;rw[D5];refine⟨t,_,rfl,h0,?_⟩;rw[Cn];refine⟨_,_,rfl,JY rfl,?_⟩;rw[Cn];refine⟨_,_,rfl,JY rfl,?_⟩;rw[Cn];refine⟨_,_,rfl,JY rfl,?_⟩;rw[Cn];refine⟨_,_,rfl,?_,by rw[Cn]⟩;rw[D5];exact⟨p,zs,rfl,h1,M1 h2⟩
theorem JO {H:Hp}{p:Addr}{f:B8}(h:DS H p f):D5 H (.tup (Du f)) (.ref p):=by
 obtain⟨xs,h0,h1⟩:=h;rw[D5];exact⟨p,xs,rfl,h0,M1 h1⟩
theorem Kh:∀f:B8,CB (Du f)<=2*Cp f+1
 |.nil=>by rw[Du,CB];lia
 |
  .leaf k pl r=>by
  have h1:=Kh r;have h2:=VO pl;have h3:=IA r;rw[Du,CB];simp only[C3,CB];show _<=2*Cp r+1;lia
 |
  .node c w s r=>by
  have h1:=Kh r;have h2:=Kh s;rw[Du,CB];simp only[C3,CB];unfold Cp;lia
def CA:B8->List Int->Nat->List Bool->List (Fo.En×List Bool)
 |.nil,_,_,_=>[]
 |.leaf k pl rest,p,j,cs=>(⟨k,pl,p++[(j:Int)]⟩,cs)::CA rest p (j+1) cs
 |.node c _ sub rest,p,j,cs=>CA sub (p++[(j:Int)]) 0 (cs++[c])++CA rest p (j+1) cs
def Gu (H:Hp)(x:V)(e:Fo.En×List Bool):Prop := ∃t pl pt cu,x = .ref t/\H t=some (.tup [.int e.1.k,.ref pl,.ref pt,.ref cu])/\EJ H pl e.1.pl/\H cu=some (.tup (e.2.map V.bl))
theorem Gu.tk {H H':Hp}{x:V}{e:Fo.En×List Bool}(h:Gu H x e)(k:TK H H'):Gu H' x e:=by obtain⟨t,pl,pt,cu,a,b,c,d⟩:=h;exact⟨t,pl,pt,cu,a,k _ _ b,c.tk k,k _ _ d⟩
theorem Gu.over {H H':Hp}{x:V}{e:Fo.En×List Bool}(h:Gu H x e)(k:A8 H H'):Gu H' x e:=h.tk (A8.tk k)
def S0 (n:Nat):Sp:=λvs H Q _=>∃(it pa cu:Addr) (f:B8) (P:List Int) (cs:List Bool),vs=[.ref it,.ref pa,.ref cu]/\DS H it f/\H pa=some (.tup (P.map V.int))/\H cu=some (.tup (cs.map V.bl))/\Cp f<=n/\P.length+n<=100/\cs.length+n<=100/\(CA f P 0 cs).length<=1000/\∀(r:Addr) (ys:List V) (H':Hp),A8 H H'->H' r=some (.lst ys)->Am (Gu H') ys (CA f P 0 cs)->Q (.ref r) H'
def Oi (b:B6):Prop:=b.sh<=b.ways.length/\∀w∈b.ways,w.1=false
theorem Kf:∀(f:B8) (B:List B6) (d:Nat) (p:List Int) (j:Nat) (cs:List Bool),Fo.Is f B d->(∀b∈B,Oi b)->(CA f p j cs).map (λe=>(e.1.k,e.1.pl,e.2))=B.map λb=>(b.k,b.pl,cs++List.replicate (b.ways.length-d) false)
 |
  .nil,B,d,p,j,cs,h,_=>by
  have h:B=[]:=h;subst h;rfl
 |
  .leaf k pl rest,B,d,p,j,cs,h,hB=>by
  obtain⟨b,B',rfl,rfl,rfl,hl,_,hr⟩:=h;have ih:=Kf rest B' d p (j+1) cs hr λb hb=>hB b (Ce _ hb);show(b.k,b.pl,cs)::_=(b.k,b.pl,cs++List.replicate (b.ways.length-d) false)::_;rw[ih,show b.ways.length-d=0 by lia];simp
 |
  .node c w sub rest,B,d,p,j,cs,h,hB=>by
  obtain⟨b,G,B',rfl,hw,hG,_,hs,hr⟩:=h;have i1:=Kf sub (b::G) (d+1) (p++[(j:Int)]) 0 (cs++[c]) hs λb hb=>hB b (CN _ hb);have i2:=Kf rest B' d p (j+1) cs hr λb hb=>hB b (CU _ hb);have hc:c=false:=(hB b (CN _ C7)).2 (c,w) (B0 hw);subst hc;show List.map _ (CA sub (p++[(j:Int)]) 0 (cs++[false])++CA rest p (j+1) cs)=_;rw[Bv,i1,i2,Bv];congr 1;refine OF λx hx=>?_;have lx:d<x.ways.length:=by
   rcases Bb.mp hx with rfl|hx'
   .exact(Aw.mp hw).1
   .have:=hG x hx';have:=(hB x (CN _ hx)).1;lia
  rw[show x.ways.length-d=(x.ways.length-(d+1))+1 by lia,Kz,D6];rfl
theorem SD {f:B8}{B:List B6}{d:Nat}{p:List Int}{j:Nat}{cs:List Bool}(h:Fo.Is f B d)(hB:∀b∈B,Oi b):(CA f p j cs).length=B.length:=by
 have:=congrArg List.length (Kf f B d p j cs h hB)
 rwa [Af,Af]at this
theorem Lg:∀(f:B8) (B:List B6) (d n:Nat),Fo.Is f B d->(∀b∈B,b.ways.length<=d+n)->DM f<=(n+1)*B.length
 |.nil,B,d,n,h,_=>Bh _
 |
  .leaf k pl rest,B,d,n,h,hn=>by
  obtain⟨b,B',rfl,_,_,_,_,hr⟩:=h;have:=Lg rest B' d n hr λb hb=>hn b (Ce _ hb);show DM rest+1<=(n+1)*(B'.length+1);rw[ON];lia
 |
  .node c w sub rest,B,d,n,h,hn=>by
  obtain⟨b,G,B',rfl,hw,_,_,hs,hr⟩:=h;have l:=(Aw.mp hw).1;have l2:=hn b (CN _ C7);obtain⟨n,rfl⟩:∃m,n=m+1:=⟨n-1,by lia⟩
  have i1:=Lg sub (b::G) (d+1) n hs λb hb=>by have:=hn b (CN _ hb);lia
  have i2:=Lg rest B' d (n+1) hr λb hb=>hn b (CU _ hb);show DM sub+DM rest+1<=(n+1+1)*((b::G)++B').length;rw[Ai,ON];have e:(n+1+1)*(b::G).length=(n+1)*(b::G).length+(b::G).length:=Mx _ _;rw[e,Bz]at *;lia
theorem N2:∀{l m:List Int},l.Perm m->l.Pairwise (·<=·)->m.Pairwise (·<=·)->l=m
 |[],m,h,_,_=>(List.nil_perm.mp h).symm
 |a::l,[],h,_,_=>by cases h.length_eq
 |
  a::l,b::m,h,h1,h2=>by
  obtain⟨a1,a2⟩:=T2.mp h1;obtain⟨b1,b2⟩:=T2.mp h2;have e:a=b:=by
   have hb:b∈a::l:=h.symm.subset C7;have ha:a∈b::m:=h.subset C7;rcases Bb.mp hb with z|z
   .exact z.symm
   .rcases Bb.mp ha with y|y
    .exact y
    .have:=a1 b z;have:=b1 a y;lia
  subst e;rw[N2 (List.Perm.cons_inv h) a2 b2]
def BM (n:Nat):List Int:=(List.range n).map λi:Nat=>(i:Int)
theorem RU (n:Nat):(BM n).Pairwise (·<=·):=by
 unfold BM;rw[SQ];exact List.Pairwise.imp (fun{a b} h=>by lia) (SR (n:=n))
theorem QR (n:Nat):EB n=(BM n).map V.int:=by unfold EB BM;rw[GQ];rfl
abbrev F3 (Ds:List Dw)(sh:Nat->Nat):List B6:=(List.range Ds.length).map (Fo.ownB ("up":Str) (BP Ds) sh)
theorem LQ {Ds:List Dw}:∀{f:Pw.Fs} {ns:List Nat} {d:Nat},Pw.IsF (getD Ds) f ns d->(∀D∈Ds,D.loops.length<=3)->d<=4->Jf Ds f/\DF f<=(5-d)*ns.length
 |.nil,ns,d,h,_,_=>⟨True.intro,Bh _⟩
 |
  .leaf k r,ns,d,h,h3,hd=>by
  obtain⟨ns',a,rfl,ha,hl,hr⟩:=h;obtain⟨i1,i2⟩:=LQ hr h3 hd;obtain⟨D,hD,rfl⟩:=HM ha;refine⟨⟨⟨D,hD⟩,i1⟩,?_⟩;have m3:=h3 D (B0 hD);have hl:D.loops.length=d:=hl;show DF r+1<=(5-d)*(ns'.length+1);rw[ON];lia
 |
  .node k s r,ns,d,h,h3,hd=>by
  obtain⟨g,ns',a,rfl,ha,hl,_,_,hs,hr⟩:=h;obtain⟨D,hD,rfl⟩:=HM ha;have m3:=h3 D (B0 hD);have hl:d<D.loops.length:=hl;obtain⟨i1,i2⟩:=LQ hs h3 (by lia);obtain⟨j1,j2⟩:=LQ hr h3 hd;refine⟨⟨i1,j1⟩,?_⟩;show DF s+DF r+1<=(5-d)*(k::g++ns').length;rw[Ai,ON];have e:(5-d)*(k::g).length=(5-(d+1))*(k::g).length+(k::g).length:=by
   rw[show 5-d=(5-(d+1))+1 by lia,Mx]
  rw[e,Bz]at *;lia
theorem Qj {ρ:List (Option Nat)}{σ:St}(o o' p p':Option V):IM (none::none::none::none::ρ) σ (o::o'::p::p'::C1 ρ σ):=by
 refine⟨by unfold C1;simp,λj v e=>?_⟩;cases j with
 |zero=>rw[Fq]at e;simp at e
 |
  succ j=>
  rw[Fq,Fq]at e;cases j with
  |zero=>simp at e
  |
   succ j=>
   rw[Fq]at e;cases j with
   |zero=>simp at e
   |
    succ j=>
    rw[Fq]at e;cases j with
    |zero=>simp at e
    |succ j=>simpa using e
theorem N6 (Ds:List Dw)(sh:Nat->Nat)(h:∀k,k<Ds.length->sh k<=BP Ds k):∀b∈F3 Ds sh,Oi b:=λb hb=>by
 obtain⟨k,hk,rfl⟩:=Dl.mp hb;have hk:=DA.mp hk;refine⟨?_,λw hw=>?_⟩
 .show sh k<=(List.replicate (BP Ds k) (false,("up":Str))).length;rw[DB];exact h k hk
 .rw[(OO.mp hw).2]
theorem RZ (Ds:List Dw)(sh:Nat->Nat)(h3:∀D∈Ds,D.loops.length<=3):∀b∈F3 Ds sh,b.ways.length<=0+3:=λb hb=>by
 obtain⟨k,hk,rfl⟩:=Dl.mp hb;have hk:=DA.mp hk;show(List.replicate (BP Ds k) (false,("up":Str))).length<=3;rw[DB,KJ (AE hk)];exact h3 _ (Fh hk)
theorem RG {Ds:List Dw}{sh:Nat->Nat}{f:B8}{i:Nat}{e:Fo.En×List Bool}(hI:Fo.Is f (F3 Ds sh) 0)(hsh:∀k,k<Ds.length->sh k<=BP Ds k)(he:(CA f [] 0 [])[i]?=some e):∃D,Ds[i]?=some D/\e.1.k=(i:Int)/\e.1.pl=Fo.ownP D.loops.length/\e.2=List.replicate D.loops.length false:=by
 have m:=congrArg (λl:List (Int×List (Int×Int)×List Bool)=>l[i]?) (Kf f (F3 Ds sh) 0 [] 0 [] hI (N6 Ds sh hsh));have hi:i<Ds.length:=by
  have l:=SD (p:=[]) (j:=0) (cs:=[]) hI (N6 Ds sh hsh);rw[Af,C8]at l;have:=(Aw.mp he).1;lia
 have hD:Ds[i]?=some Ds[i]:=AE hi;simp only[Bf,he,Fi hi,SV]at m;have m:=Cu m;have mo:=KJ hD;refine⟨Ds[i],hD,congrArg (·.1) m,?_,?_⟩
 .rw[←mo];exact congrArg (·.2.1) m
 .have:=congrArg (·.2.2) m;rw[←mo];have e2:e.2=[]++List.replicate ((List.replicate (BP Ds i) (false,("up":Str))).length-0) false:=this;rw[DB,My,KA]at e2;exact e2
theorem Uv {K:Faa}{H:Hp}{x y:Addr}{t:Tr}{Q:VK}(hx:BE K H (.ref x) t)(hy:BE K H (.ref y) t)(hd:C3 t<=60)(h:Q (.bl false) H):FB K true (.ref x) (.ref y) H Q:=by
 refine⟨t,t,hx,hy,⟨_,rfl⟩,⟨_,rfl⟩,Ju t,hd,?_⟩;rw[GU t hx.ok];exact h
theorem MR.isIn (K:Faa)(n:Bool):MR (Ol K n):=λx y H Q Q' hq zz=>by obtain⟨p,xs,a,b,c,d,e⟩:=zz;exact⟨p,xs,a,b,c,d,hq _ _ e⟩
theorem Lf (z:Str)(ns:List Str):Hm (.str z) (ns.map V.str)=true↔z∈ns:=by
 unfold Hm;rw[SM];constructor
 .rintro ⟨y,hy,e⟩;obtain⟨n,hn,rfl⟩:=Dl.mp hy;have e:(n==z)=true:=e;rw[←Il.mp e];exact hn
 .intro h;exact⟨.str z,Dl.mpr ⟨z,h,rfl⟩,Tb z⟩
theorem bt (c:Nat):(⟨#[c]⟩:Str).length=1:=rfl
theorem Uh (c:Nat)(n:Int):(Txt.mul ⟨#[c]⟩ n).length=n.toNat:=by rw[←LA,ZP,DB]
def Nq (P:Program)(w:World)(K:Faa)(a:Addr)(kvs:List (CF×V)):Prop:=
 ∀h:Heap,K.In h->∃vs,KV kvs vs/\h.DictOf (Gk P w) a vs
def Yz (P:Program)(w:World)(K:Faa)(td ty:TE):TE:=fun σ H Q=>td σ H λx H1=>ty σ H1 λy H2=>∃a kvs k v,x = .ref a/\Nq P w K a kvs/\y=kV k/\Fd kvs k=some v/\Q v H2
theorem Vx {X:Cx}{o i:Expr}{pos:Pos}{td ty:TE}(ho:PE X o td)(hi:PE X i ty)(hs:RN i):PE X (.Subscript o i pos) (Yz X.prog X.w X.K td ty):=by
 intro pins s σ H Q I h;refine Zw PySem.F.slot_dict_getitem.lookup hs (AA (ho pins s σ H _ I h) λu s1 zz=>?_);obtain⟨x,H1,I1,rx,q1⟩:=zz;refine AA (hi pins s1 σ H1 _ I1 q1) λiv s2 zz=>?_;obtain⟨y,H2,I2,ry,a,kvs,k,v,ex,g,ey,l,q2⟩:=zz;subst ex ey;obtain rfl:u=Value.ref a:=rx;obtain⟨vs,rel,dd⟩:=g s2.heap I2.kIn;obtain⟨w',hw,rw'⟩:=EG.some_of (v:=v) (o:=valueAt vs k) (by rw[←l];exact rel.val k);exact⟨dd.typeIs,wpAny_getItem_of (PD ry) dd.mapOf hw ⟨v,H2,I2.tok _,rw',q2⟩⟩
theorem Yh {P:Program}{w:World}{K:Faa}{u p0 p1 p2:Addr}{ep:Nat}{x0 x1 x2:Str}{h0 h1 h2:Int}{t0 t1 t2:Tok}
  (q:K.lookup u=some ⟨.type "dict",none,.dict #[⟨h0,.str x0 t0,.ref p0⟩,⟨h1,.str x1 t1,.ref p1⟩,⟨h2,.str x2 t2,.ref p2⟩] ep,#[]⟩) (e0:h0=hashStr w x0) (e1:h1=hashStr w x1) (e2:h2=hashStr w x2)
  (nd:[x0,x1,x2].Nodup):Nq P w K u [(.inr x0,.ref p0),(.inr x1,.ref p1),(.inr x2,.ref p2)]:=λh X=>by
 subst e0 e1 e2;have is:∀(x:Str) (t:Tok),(Gk P w).is (.inr x) (.str x t)=true:=λx t=>PD (k:=.inr x) ⟨t,rfl⟩;refine⟨[(.inr x0,.ref p0),(.inr x1,.ref p1),(.inr x2,.ref p2)],.cons ⟨rfl,rfl⟩ (.cons ⟨rfl,rfl⟩ (.cons ⟨rfl,rfl⟩ .nil)),_,_,_,X _ _ q,⟨rfl,rfl,rfl⟩,rfl,λe he=>?_,.cons (is _ _) rfl (.cons (is _ _) rfl (.cons (is _ _) rfl .nil)),?_⟩
 .simp only[List.mem_toArray,Bb,Ez,or_false]at he;rcases he with rfl|rfl|rfl
  .exact⟨.inr x0,is _ _,rfl⟩
  .exact⟨.inr x1,is _ _,rfl⟩
  .exact⟨.inr x2,is _ _,rfl⟩
 .simp only[Cf,Gf,Jj,Bb,Ez,or_false,not_or,Sum.inr.injEq,not_false_eq_true,List.nodup_nil,and_true]at nd ⊢;exact nd
theorem NQ:∀(c:List Int) (i j:Int) (q r:List Int),HT.lexLt (c++i::q) (c++j::r)=if i=j then HT.lexLt q r else decide (i<j)
 |[],i,j,q,r=>rfl
 |
  x::c,i,j,q,r=>by
  show(if x=x then HT.lexLt (c++i::q) (c++j::r) else _)=_;rw[Ay rfl];exact NQ c i j q r
theorem Sj:∀p:List Int,HT.lexLt p p=false
 |[]=>rfl
 |
  x::p=>by
  show(if x=x then HT.lexLt p p else _)=_;rw[Ay rfl];exact Sj p
theorem RL {x y:List Int}{n:Nat}(h:Fo.Sep x y n):HT.lexLt x y=true/\HT.lexLt y x=false:=by
 obtain⟨c,i,j,q,r,rfl,rfl,_,hij⟩:=h;rw[NQ,NQ,AB (by lia),AB (by lia)];exact⟨BU hij,C9 (by lia)⟩
theorem UF {f:B8}{B:List B6}{i j s:Nat}{x y:Fo.En}(h:Fo.Is f B 0)(hx:(Fo.deedsF f [] 0)[i]?=some x)(hy:(Fo.deedsF f [] 0)[j]?=some y)(hm:Hq B i j s):HT.lexLt y.path x.path=decide (j<i):=by
 have zero:∀i c,B[i+1]?=some c->0<=c.sh:=λ_ _ _=>Bh _;rcases hm with⟨rfl,_⟩|⟨hij,hl⟩|⟨hij,hl⟩
 .rw[hx]at hy;cases hy;rw[Sj];exact(C9 (by lia)).symm
 .rw[(RL (Fo.deeds_sep f B 0 [] 0 i j s x y h zero hij hx hy hl).2).2];exact(C9 (by lia)).symm
 .rw[(RL (Fo.deeds_sep f B 0 [] 0 j i s y x h zero hij hy hx hl).2).1];exact(BU hij).symm
def FS (w:Str):List Str:=if w="up" then["more"] else if w="down" then["less"] else["less","more"]
theorem W3 {w:Str}(h:w∈Ic)(e:Nat):Gz w e=(FS w).map λz=>(e,z):=by
 have h:w="up"\/w="down"\/w="any":=by
  unfold Ic at h;simp only[Bb,Ez,or_false]at h;exact h
 have a1:¬(("down":Str)="up"):=by decide +kernel
 have a2:¬(("any":Str)="up"):=by decide +kernel
 have a3:¬(("any":Str)="down"):=by decide +kernel
 have a4:¬(("up":Str)="down"):=by decide +kernel
 unfold Gz FS;rcases h with rfl|rfl|rfl
 .simp[a4]
 .simp[a1]
 .simp[a2,a3]
theorem S8 {e l:Nat}(h:e=l):(e:Int)=(l:Int):=by rw[h]
theorem O4 {e l:Nat}(h:V.int (e:Int)=V.int (l:Int)):e=l:=by have:=V.int.inj h;lia
structure RB (R:R3):Prop where
 len:R.S.length<=3
 nd:(AD R.S).Nodup
 ne:∀z∈AD R.S,z≠""
 bl:NC (AD R.S) (Ej R.S) R.S.length
 bh:NC (AD R.S) (Eu R.S) R.S.length
 pl:R.path.length=R.S.length+1
 m3:R.m<=30
theorem VX {R R':R3}{D:Cd}{W W':List Int}{case:Nat}(g:RB R)(g':RB R')(ok:F9 R R' D)(wl:W.length=R.S.length)(wl':W'.length=R'.S.length)(cs:case<=D.s):(E9 R R' D case).all (hU (Dg W W'))=true↔NU R W/\NU R' W'/\(∀i<D.m,(Dg W W').getD (D.x1 i).toNat 0+D.n1 i=(Dg W W').getD (D.x2 i).toNat 0+D.n2 i)/\(∀e<case,W.getD e 0=W'.getD e 0)/\(case<D.s->W.getD case 0<W'.getD case 0):=by
 have h1:=R7 (U:=Dg W W') (W:=W) (first:=1) (Jk _) rfl (λj hj=>Hr hj) wl (g.nd) ok.hu ok.hw;have h2:=R7 (U:=Dg W W') (W:=W') (first:=1+(R.S.length:Int)) (by lia) rfl (λj hj=>by rw[←wl];exact GV) wl' (g'.nd) ok.hu' ok.hw';have k1:D.s<=R.S.length:=ok.pf.1;have k2:D.s<=R'.S.length:=ok.pf.2.1;unfold E9 G7;rw[Jl,Jl,Jl,Jl,DC,DC,DC,DC,h1,h2,YL,Vu];have e1:(∀e<case,(Dg W W').getD (1+(e:Int)).toNat 0=(Dg W W').getD (1+(R.S.length:Int)+(e:Int)).toNat 0)↔∀e<case,W.getD e 0=W'.getD e 0:=by
  constructor
  .intro h e he;have:=h e he;rw[Hr (by lia),←wl,GV]at this;exact this
  .intro h e he;rw[Hr (by lia),←wl,GV];exact h e he
 have e2:((if case<D.s then[(1+(case:Int),1+(R.S.length:Int)+(case:Int),(-1:Int))] else[]).all (hU (Dg W W'))=true)↔(case<D.s->W.getD case 0<W'.getD case 0):=by
  by_cases z:case<D.s
  .rw[Ay z];show(decide _&&true)=true↔_;rw[Bool.and_true,decide_eq_true_iff];dsimp only;rw[Hr (by lia),←wl,GV];exact⟨λh _=>by lia,λh=>by have:=h z;lia⟩
  .rw[AB z];exact⟨λ_ h=>absurd h z,λ_=>rfl⟩
 rw[e1,e2];unfold NU;exact⟨fun⟨⟨⟨a,b⟩,c⟩,d,e⟩=>⟨a,b,c,d,e⟩,fun⟨a,b,c,d,e⟩=>⟨⟨⟨a,b⟩,c⟩,d,e⟩⟩
theorem Z9 {R R':R3}{D:Cd}{W W':List Int}{case:Nat}(g:RB R)(g':RB R')(ok:F9 R R' D)(wl:W.length=R.S.length)(wl':W'.length=R'.S.length)(cs:case<=D.s):∀b∈E9 R R' D case,Fy (Dg W W') b:=by
 have ul:((Dg W W').length:Int)=1+(R.S.length:Int)+(R'.S.length:Int):=by
  show(((W++W').length+1:Nat):Int)=_;rw[Ai];lia
 have k1:D.s<=R.S.length:=ok.pf.1;have k2:D.s<=R'.S.length:=ok.pf.2.1;have n1:=g.nd;have n2:=g'.nd;have z1:=g.ne;have z2:=g'.ne;have l1:=EU R.S;have l2:=EU R'.S;intro b hb;unfold E9 G7 at hb;rcases CG.mp hb with hb|hb
 .rcases CG.mp hb with hb|hb
  .rcases CG.mp hb with hb|hb
   .refine Lw (λi hi=>?_) b hb;have a1:=IS (n:=R.S.length) (Jk _) (Gw n1 z1 (ok.hu i hi)) (by lia);have a2:=IS (n:=R.S.length) (Jk _) (Gw n1 z1 (ok.hw i hi)) (by lia);unfold Fy EF EC;dsimp only;lia
   .refine Lw (λi hi=>?_) b hb;have a1:=IS (n:=R'.S.length) (by lia) (Gw n2 z2 (ok.hu' i hi)) (by lia);have a2:=IS (n:=R'.S.length) (by lia) (Gw n2 z2 (ok.hw' i hi)) (by lia);unfold Fy EF EC;dsimp only;lia
  .refine Lw (λi hi=>?_) b hb;have a1:=IS (n:=R.S.length) (Jk _) (ok.hx1 i hi) (by lia);have a2:=IS (n:=R'.S.length) (by lia) (ok.hx2 i hi) (by lia);unfold Fy;dsimp only;lia
 .rcases CG.mp hb with hb|hb
  .refine Lw (λi hi=>?_) b hb;unfold Fy;dsimp only;lia
  .split at hb
   .rw[Dm.mp hb];unfold Fy;dsimp only;lia
   .cases hb
theorem Qg {S:List Lp}(nd:(AD S).Nodup)(ne:∀z∈AD S,z≠""){m:Nat}{z:Nat->Str}(h:∀i<m,Bs S (z i))(first:Int):∃x:Nat->Int,∀i<m,EM (AD S) (z i) first (x i):=by
 have ex:∀i,∃x:Int,i<m->EM (AD S) (z i) first x:=λi=>by
  by_cases hi:i<m
  .have:Bs (S.take S.length) (z i):=by rw[E1];exact h i hi
   rcases Ye this with e|⟨j,_,hj⟩
   .exact⟨0,λ_=>.inl ⟨e,rfl⟩⟩
   .exact⟨_,λ_=>PZ nd ne hj first⟩
  .exact⟨0,λh=>absurd h hi⟩
 exact⟨λi=>(ex i).choose,λi hi=>(ex i).choose_spec hi⟩
theorem UD {R R':R3}{M:Str->Int->Prop}(mo:∀{z:Str} {m n:Int},M z m->M z n->m=n)(g:RB R)(g':RB R'){H:Hp}{r r':Str×Addr}(h:Gc (Bs R.S) M H r)(h':Gc (Bs R'.S) M H r')(e:r.1=r'.1):∃D:Cd,Di H r.2 D.m D.z1 D.n1/\Di H r'.2 D.m D.z2 D.n2/\F9 R R' D/\(∀i<D.m,Bs R.S (D.z1 i))/\∀i<D.m,Bs R'.S (D.z2 i):=by
 obtain⟨n,m1,s1⟩:=h;obtain⟨n',m2,s2⟩:=h';rw[e]at m1;have en:n'=n:=by have:=mo m1 m2;lia
 subst en;obtain⟨z1,k1,p1,b1⟩:=S4 s1;obtain⟨z2,k2,p2,b2⟩:=S4 s2;obtain⟨x1,hx1⟩:=Qg g.nd g.ne b1 1;obtain⟨x2,hx2⟩:=Qg g'.nd g'.ne b2 (1+(R.S.length:Int));have q1:=g.bl;have q2:=g.bh;have q3:=g'.bl;have q4:=g'.bh;obtain⟨u,hu⟩:=KL q1 1;obtain⟨w,hw⟩:=KL q2 1;obtain⟨u',hu'⟩:=KL q3 (1+(R.S.length:Int));obtain⟨w',hw'⟩:=KL q4 (1+(R.S.length:Int));obtain⟨s,pf⟩:=MS R.r5 R'.r5;obtain⟨_,_,_,n3,_⟩:=s1;exact⟨⟨n',s,u,w,u',w',z1,z2,k1,k2,x1,x2⟩,p1,p2,⟨n3,hx1,hx2,hu,hw,hu',hw',pf⟩,b1,b2⟩
def HN (R S:R5):Nat:=(MS R S).choose
theorem Mh (R S:R5):Et R S (HN R S):=(MS R S).choose_spec
theorem Sq {R S:R5}{k l:Nat}(h:Et R S k)(g:Et R S l):k=l:=by
 obtain⟨h1,h2,h3,h4⟩:=h;obtain⟨g1,g2,g3,g4⟩:=g;rcases OJ k l with z|z|z
 .exact absurd (g3 k z) (h4 (by lia))
 .exact z
 .exact absurd (h3 l z) (g4 (by lia))
def J9 (Rs:List R5)(k l:Nat):Nat:=match Rs[k]?,Rs[l]? with
 |some R,some S=>HN R S
 |_,_=>0
theorem QA {Rs:List R5}{k l:Nat}{R S:R5}(h:Rs[k]?=some R)(g:Rs[l]?=some S):J9 Rs k l=HN R S:=by unfold J9;rw[h,g]
abbrev Q5:=Pm.Q4×Nat
def ED (Rs:List R5)(q:Pm.Q4):List Q5:=(List.range (Dj q.1 q.2.2.1 (J9 Rs q.1 q.2.2.1))).map λe=>(q,e)
def G0 (Rs:List R5):List Q5:=(Pm.mt (Ca Rs)).flatMap (ED Rs)
def FU (H:Hp)(y:V)(d:Q5):Prop := ∃t,y = .ref t/\H t=some (.tup [.int (d.1.1:Int),.int (d.1.2.1:Int),.int (d.1.2.2.1:Int),.int (d.1.2.2.2:Int),.int (d.2:Int)])
theorem FU.tk {H H':Hp}{y:V}{d:Q5}(h:FU H y d)(e:TK H H'):FU H' y d:=by obtain⟨t,a,b⟩:=h;exact⟨t,a,e _ _ b⟩
theorem FU.over {H H':Hp}{y:V}{d:Q5}(h:FU H y d)(e:A8 H H'):FU H' y d:=h.tk (A8.tk e)
theorem Zb {Rs:List R5}{L:List Pm.Q4}{q:Pm.Q4}{i:Nat}(h:L[i]?=some q):(L.take (i+1)).flatMap (ED Rs)=(L.take i).flatMap (ED Rs)++ED Rs q:=by
 rw[CL h,SY];exact congrArg _ (CV _)
theorem Z0 {Rs:List R5}(ok:∀R∈Rs,R.Ok)(q:Pm.Q4):(ED Rs q).length<=4:=by
 unfold ED;rw[Af,C8];have:J9 Rs q.1 q.2.2.1<=3:=by
  unfold J9;split
  .rename_i R S h g;have:=(Mh R S).1;have:=(ok R (B0 h)).n3;lia
  .lia
 unfold Dj;split<;>lia
theorem Nk {Rs:List R5}(ok:∀R∈Rs,R.Ok):∀L:List Pm.Q4,(L.flatMap (ED Rs)).length<=4*L.length
 |[]=>Ah _
 |
  q::L=>by
  rw[List.flatMap_cons,Ai,Bz];have:=Z0 ok q;have:=Nk ok L;lia
def Wm (CP C:Addr)(c:Cs):Sp:=λvs H Q _=>∃(v:V) (Rs:List R5),vs=[v]/\Gp CP C c H v Rs/\(∀R∈Rs,R.Ok)/\Rs.length<=6/\∀(r:Addr) (ys:List V) (H':Hp),A8 H H'->H r=none->H' r=some (.lst ys)->Am (FU H') ys (G0 Rs)->Q (.ref r) H'
abbrev An:=List AQ ⊕ (List Int×List Int)
def Cr (b:AQ):Bd.Bond:=⟨b.1.toNat,b.2.1.toNat,b.2.2⟩
def Hu (n bh:Nat)(B:List AQ):An:=match Bd.go (B.map Cr) n Bd.st0 with
 |.inl s=>.inr ((((List.range n).map λi=>s.v i-s.v 0).drop 1).take (bh-1),((List.range n).map λi=>s.v i-s.v 0).drop bh)
 |.inr s=>.inl ((Bd.ringOf n (B.map Cr) s).map λi=>B.getD i (0,0,0))
def G3 (H:Hp)(v:V):An->Prop
 |.inl L=>∃(t r:Addr) (ys:List V),v = .ref t/\H t=some (.tup [.str "ring",.ref r])/\H r=some (.lst ys)/\Bk H ys L
 |.inr W=>∃(t x y:Addr),v = .ref t/\H t=some (.tup [.str "pair",.ref x,.ref y])/\H x=some (.tup (W.1.map V.int))/\H y=some (.tup (W.2.map V.int))
theorem G3.over {H H':Hp}{v:V}{a:An}(h:G3 H v a)(e:A8 H H'):G3 H' v a:=by
 cases a with
 |inl L=>obtain⟨t,r,ys,a,b,c,d⟩:=h;exact⟨t,r,ys,a,e _ _ b,e _ _ c,d.over e⟩
 |inr W=>obtain⟨t,x,y,a,b,c,d⟩:=h;exact⟨t,x,y,a,e _ _ b,e _ _ c,e _ _ d⟩
structure P0 (B L:List AQ):Prop where
 pos:0<L.length
 mem:∀b∈L,b∈B
 ch:∀k,k+1<L.length->(L.getD k (0,0,0)).2.1=(L.getD (k+1) (0,0,0)).1
 bk:(L.getD (L.length-1) (0,0,0)).2.1=(L.getD 0 (0,0,0)).1
 neg:(L.map λb=>b.2.2).sum<0
 le:L.length<=B.length
def QM (B:List AQ)(m n:Nat):An->Prop
 |.inl L=>P0 B L
 |.inr W=>W.1.length=m/\W.2.length=n/\B.all (hU (Dg W.1 W.2))=true
def Ei (n:Nat)(b:AQ):Prop:=0<=b.1/\b.1<(n:Int)/\0<=b.2.1/\b.2.1<(n:Int)
theorem Qy {n:Nat}{B:List AQ}(h:∀b∈B,Ei n b):Bd.WF n (B.map Cr):=λb hb=>by
 obtain⟨t,ht,rfl⟩:=Dl.mp hb;have:=h t ht;unfold Ei at this;unfold Cr;dsimp only;lia
theorem Hd {B:List AQ}{i:Nat}{b:Bd.Bond}(h:(B.map Cr)[i]?=some b):∃t,B[i]?=some t/\Cr t=b:=by
 rw[Bf]at h;exact Ik.mp h
theorem X9 {n bh:Nat}{B:List AQ}(h:∀b∈B,Ei n b)(b1:1<=bh)(bn:bh<=n):QM B (bh-1) (n-bh) (Hu n bh B):=by
 unfold Hu;rcases Bd.go_ok (n:=n) (by lia) (Qy h) with⟨s,e,hv⟩|⟨s,x0,m,e,hl,r⟩
 .rw[e];generalize hf:(λi=>s.v i-s.v 0)=f at hv;have hf0:f 0=0:=by rw[←hf];exact Int.sub_self _
  show QM B (bh-1) (n-bh) (.inr ((((List.range n).map (λi=>s.v i-s.v 0)).drop 1).take (bh-1),((List.range n).map (λi=>s.v i-s.v 0)).drop bh));rw[hf];show _/\_/\_;obtain⟨k,rfl⟩:∃k,n=bh+k:=⟨n-bh,by lia⟩
  obtain⟨j,rfl⟩:∃j,bh=j+1:=⟨bh-1,by lia⟩
  refine⟨by rw[BQ,GN,Af,C8];lia,by rw[GN,Af,C8],?_⟩;have eU:Dg ((((List.range (j+1+k)).map f).drop 1).take (j+1-1)) (((List.range (j+1+k)).map f).drop (j+1))=(List.range (j+1+k)).map f:=by
   have e0:(List.range (j+1+k)).map f=0::((List.range (j+1+k)).map f).drop 1:=by
    rw[show j+1+k=(j+k)+1 by lia,SS,Cf,hf0];rfl
   unfold Dg;rw[OI];have e2:((List.range (j+1+k)).map f).drop (j+1)=(((List.range (j+1+k)).map f).drop 1).drop j:=by rw[List.drop_drop,Ii]
   rw[e2,List.take_append_drop];exact e0.symm
  show B.all (hU (Dg _ _))=true;rw[eU,Ij];intro b hb;have hi:=h b hb;have hh:=hv (Cr b) (Dl.mpr ⟨b,hb,rfl⟩);unfold Ei at hi;unfold Cr at hh;dsimp only at hh;unfold hU;have gd:∀x:Int,0<=x->x<((j+1+k:Nat):Int)->((List.range (j+1+k)).map f).getD x.toNat 0=f x.toNat:=λx x0 x1=>by
   rw[Bj,Bf,Fi (by lia)];rfl
  rw[gd _ hi.1 hi.2.1,gd _ hi.2.2.1 hi.2.2.2];exact BU hh
 .rw[e];obtain⟨u,ok⟩:∃u,Bd.RingOk (B.map Cr) (Bd.ringOf n (B.map Cr) s) u:=⟨_,r.ok hl⟩
  show P0 B _;generalize Bd.ringOf n (B.map Cr) s=L at ok;have gt:∀k,k<L.length->∃t,(L.map λi=>B.getD i (0,0,0)).getD k (0,0,0)=t/\t∈B/\t.1=(u k:Int)/\t.2.1=(u (k+1):Int):=λk hk=>by
   obtain⟨b,hb,e1,e2⟩:=ok.bond k _ (AE hk);obtain⟨t,ht,rfl⟩:=Hd hb;have hi:=h t (B0 ht);unfold Ei at hi;unfold Cr at e1 e2;dsimp only at e1 e2;refine⟨t,?_,B0 ht,by lia,by lia⟩;rw[Bj,Bf,AE hk];show B.getD L[k] (0,0,0)=t;rw[Bj,ht];rfl
  have pos:=ok.pos;refine⟨by rw[Af];exact pos,λb hb=>?_,λk hk=>?_,?_,?_,?_⟩
  .obtain⟨i,hi,rfl⟩:=Dl.mp hb;obtain⟨k,hk⟩:=ES.mp hi;obtain⟨b,hb,_⟩:=ok.bond k i hk;obtain⟨t,ht,_⟩:=Hd hb;rw[Bj,ht];exact B0 ht
  .rw[Af]at hk;obtain⟨t,e1,_,_,e2⟩:=gt k (by lia);obtain⟨t',e3,_,e4,_⟩:=gt (k+1) hk;rw[e1,e3,e2,e4]
  .rw[Af];obtain⟨t,e1,_,_,e2⟩:=gt (L.length-1) (by lia);obtain⟨t',e3,_,e4,_⟩:=gt 0 pos;rw[e1,e3,e2,e4,show L.length-1+1=L.length by lia,ok.back]
  .have ng:=ok.neg;have:∀M:List Nat,(∀i∈M,i<B.length)->((M.map λi=>B.getD i (0,0,0)).map λb=>b.2.2).sum=Bd.sumC (B.map Cr) M:=by
    intro M;induction M with
    |nil=>intro _;rfl
    |
     cons i M ih=>
     intro hM;have hi:=hM i C7;rw[Cf,Cf,List.sum_cons,ih λj hj=>hM j (Ce _ hj)];show _=((B.map Cr).getD i Bd.bd0).c+Bd.sumC (B.map Cr) M;rw[Bj,Bj,Bf,AE hi];rfl
   rw[this L λi hi=>?_]
   .exact ng
   .obtain⟨k,hk⟩:=ES.mp hi;obtain⟨b,hb,_⟩:=ok.bond k i hk;obtain⟨t,ht,_⟩:=Hd hb;exact(Aw.mp ht).1
  .rw[Af];have:=Bd.nodup_le (k:=List.range B.length) ok.nd λi hi=>by
    obtain⟨k,hk⟩:=ES.mp hi;obtain⟨b,hb,_⟩:=ok.bond k i hk;obtain⟨t,ht,_⟩:=Hd hb;exact DA.mpr (Aw.mp ht).1
   rwa [C8]at this
theorem QG {Rs:List R5}{x:T5}(h:x∈Ca Rs):∃R,Rs[x.k]?=some R:=by
 obtain⟨i,L,e,e1,_⟩:=Nz h;rw[FI]at e;rw[Bf]at e1;obtain⟨R,hR,_⟩:=Ik.mp e1;exact⟨R,by rw[e];exact hR⟩
theorem VZ {Rs:List R5}{q:Pm.Q4}(h:q∈Pm.mt (Ca Rs)):∃R S,Rs[q.1]?=some R/\Rs[q.2.2.1]?=some S:=by
 unfold Pm.mt Pm.mtF at h;obtain⟨l,hl,hq⟩:=List.mem_flatten.mp h;obtain⟨x,hx,rfl⟩:=Dl.mp hl;unfold Pm.in1 at hq;obtain⟨y,hy,rfl⟩:=Dl.mp hq;obtain⟨hy,ok⟩:=Os.mp hy;obtain⟨R,a⟩:=QG hx;obtain⟨S,b⟩:=QG hy;exact⟨R,S,a,b⟩
theorem Zn {n:Nat}{H:Hp}{bl:Addr}{bs:List V}{B:List AQ}(h:H bl=some (.lst bs))(t:Bk H bs B)(i:∀b∈B,Ei n b):Hf H bl (B.map Cr):=by
 refine⟨bs,h,by rw[Af];exact t.1,λk v b hv hb=>?_⟩;obtain⟨tr,ht,rfl⟩:=Hd hb;obtain⟨a,ea,ha⟩:=t.2 k v tr hv ht;have:=i tr (B0 ht);unfold Ei at this;refine⟨a,ea,?_⟩;unfold Cr;dsimp only;rw[OG this.1,OG this.2.2.1];exact ha
def Uu (CP C:Addr)(c:Cs):Sp:=λvs H Q _=>∃(x dx dl:Addr) (sz:V) (xs:List V) (Rs:List R3) (R R':R3) (k l:Nat) (bl:Addr) (bs:List V) (B:List AQ),vs=[.ref x,.int (k:Int),.int (l:Int),.ref bl]/\H x=some (.ins CP dx [("size",sz),("deeds",.ref dl)])/\H dl=some (.lst xs)/\Am (CW c C H) xs Rs/\Rs[k]?=some R/\Rs[l]?=some R'/\R.S.length<=3/\R'.S.length<=3/\H bl=some (.lst bs)/\Bk H bs B/\B.length<=100/\(∀b∈B,Ei (1+R.S.length+R'.S.length) b)/\∀(v:Addr) (H':Hp),A8 H H'->(∀fo zs,H fo=some (.lst zs)->G3 (wo H' fo) (.ref v) (Hu (1+R.S.length+R'.S.length) (1+R.S.length) B))->Q (.ref v) H'
def Qr (H:Hp)(Rs:List R3)(q:Pm.Q4)(D:Cd):Prop := ∃(R R':R3) (r r':Str×Addr),Rs[q.1]?=some R/\R.tch[q.2.1]?=some r/\Rs[q.2.2.1]?=some R'/\R'.tch[q.2.2.2]?=some r'/\Di H r.2 D.m D.z1 D.n1/\Di H r'.2 D.m D.z2 D.n2/\F9 R R' D
def Iw (H:Hp)(Rs:List R3)(Df:Pm.Q4->Cd):Prop := ∀q∈Pm.mt (Ca (Rs.map R3.r5)),Qr H Rs q (Df q)
theorem Iw.over {H H':Hp}{Rs:List R3}{Df:Pm.Q4->Cd}(h:Iw H Rs Df)(e:A8 H H'):Iw H' Rs Df:=λq hq=>by
 obtain⟨R,R',r,r',a,b,c,d,f,g,i⟩:=h q hq;exact⟨R,R',r,r',a,b,c,d,f.over e,g.over e,i⟩
theorem WC {Rs:List R5}{d:Q5}(h:d∈G0 Rs):d.1∈Pm.mt (Ca Rs)/\d.2<Dj d.1.1 d.1.2.2.1 (J9 Rs d.1.1 d.1.2.2.1):=by
 unfold G0 at h;obtain⟨q,hq,hd⟩:=List.mem_flatMap.mp h;unfold ED at hd;obtain⟨e,he,rfl⟩:=Dl.mp hd;exact⟨hq,DA.mp he⟩
theorem XQ {H:Hp}{Rs:List R3}{Df:Pm.Q4->Cd}{d:Q5}(df:Iw H Rs Df)(h:d∈G0 (Rs.map R3.r5)):∃(R R':R3) (r r':Str×Addr),Rs[d.1.1]?=some R/\R.tch[d.1.2.1]?=some r/\Rs[d.1.2.2.1]?=some R'/\R'.tch[d.1.2.2.2]?=some r'/\Di H r.2 (Df d.1).m (Df d.1).z1 (Df d.1).n1/\Di H r'.2 (Df d.1).m (Df d.1).z2 (Df d.1).n2/\F9 R R' (Df d.1)/\d.2<Dj d.1.1 d.1.2.2.1 (Df d.1).s/\d.2<=(Df d.1).s:=by
 obtain⟨h1,h2⟩:=WC h;obtain⟨R,R',r,r',a,b,c,e,f,g,i⟩:=df d.1 h1;have gR:(Rs.map R3.r5)[d.1.1]?=some R.r5:=by rw[Bf,a];rfl
 have gR':(Rs.map R3.r5)[d.1.2.2.1]?=some R'.r5:=by rw[Bf,c];rfl
 rw[QA gR gR',Sq (Mh _ _) i.pf]at h2;refine⟨R,R',r,r',a,b,c,e,f,g,i,h2,?_⟩;unfold Dj at h2;split at h2<;>lia
theorem Pb {R R':R3}{D:Cd}{case:Nat}(g:RB R)(g':RB R')(ok:F9 R R' D)(cs:case<=D.s):∀b∈E9 R R' D case,Ei (1+R.S.length+R'.S.length) b:=λb hb=>by
 have:=Z9 g g' ok (W:=List.replicate R.S.length 0) (W':=List.replicate R'.S.length 0) DB DB cs b hb;unfold Fy Dg at this;rw[Bz,Ai,DB,DB]at this;unfold Ei;lia
theorem CW.nl {c:Cs}{C:Addr}{H H':Hp}{v:V}{R:R3}(h:CW c C H v R)(e:NL H H'):CW c C H' v R:=by
 obtain⟨d,dx,nm,lo,hi,pt,x,ls,hs,a,b,f,g,i,j,k,l,m⟩:=h;have tk:=e.tk;exact⟨d,dx,nm,lo,hi,pt,x,ls,hs,a,e _ _ b (λ_ z=>by cases z),tk _ _ f,tk _ _ g,i.mono λ_ _ z=>z.tk tk,tk _ _ j,k.mono λ_ _ z=>z.tk tk,tk _ _ l,m.nl e⟩
def Xm (c:Cs)(n:Nat)(ta:TE):TE:=fun σ H_1 Q=>La c.n (Str.ofString "reads") Qd [] E0 ta HP σ H_1 Q\/La c.c (Str.ofString "reads") (Sl c.c) [] E0 ta HP σ H_1 Q\/La c.j (Str.ofString "reads") (NS c n) [] E0 ta HP σ H_1 Q
theorem Nu {c:Cs}{n:Nat}{ta:TE}{σ:St}{H H1:Hp}{Q:VK}{v:V}{m:Nat}{rs:CS}(hv:c.v=c.n)(ha:∀R:VK,R v H1->ta σ H R)(h:CK c H1 m v rs)(hm:m<=n+1)(hn:n<=100)
  (q:∀(p:Addr) (ys:List V) (H':Hp),A8 H1 H'->H' p=some (.lst ys)->DN H' Qz ys rs->Q (.ref p) H'):Xm c n ta σ H Q:=by
 cases h with
 |@num x dx i h=>exact .inl (ha _ ⟨x,dx,_,rfl,h,rfl,_,rfl,λr H' e hr=>q r _ H' e hr .nil⟩)
 |@val x dx z h=>rw[hv]at h;exact .inl (ha _ ⟨x,dx,_,rfl,h,rfl,_,rfl,λr H' e hr=>q r _ H' e hr .nil⟩)
 |@cel x dx p z h=>exact .inr (.inl (ha _ ⟨x,dx,_,rfl,h,rfl,x,dx,z,_,rfl,h,λt' r H' e ht' hr=>q r _ H' e hr (.one (r:=(z,p)) ht')⟩))
 |@joi x dx l r m' k ts us z h a b=>exact .inr (.inr (ha _ ⟨x,dx,_,rfl,h,rfl,x,dx,z,l,r,m',k,ts,us,rfl,h,a,b,hm,hn,q⟩))
theorem Am.mapr {α β:Type}{R:V->β->Prop}{f:α->β}{xs:List V}{as:List α}(h:Am (λv a=>R v (f a)) xs as):Am R xs (as.map f):=⟨by rw[Af];exact h.1,λi x b hx hb=>by
 rw[Bf]at hb;obtain⟨a,ha,rfl⟩:=Ik.mp hb;exact h.2 i x a hx ha⟩
theorem CW.wo {c:Cs}{C:Addr}{H:Hp}{v:V}{R:R3}(h:CW c C H v R):J5 C H v R.dw:=by
 obtain⟨d,dx,nm,lo,hi,pt,x,ls,hs,rfl,h0,h1,h2,h3,h4,h5,h6,_⟩:=h;refine⟨d,dx,nm,lo,hi,pt,_,_,_,ls,hs,rfl,h0,?_,h2,?_,h4,?_,h6⟩
 .rw[h1];unfold R3.dw AD;rw[GQ,GQ];rfl
 .exact h3.mapr (R:=λv t=>DG H v (DP.lo t)) (f:=Fu)
 .exact h5.mapr (R:=λv t=>DG H v (DP.hi t)) (f:=Fu)
theorem QW {c:Cs}{C:Addr}{H:Hp}{dl:Addr}{xs:List V}{Rs:List R3}(h:H dl=some (.lst xs))(g:Am (CW c C H) xs Rs):Fb C H dl (Rs.map R3.dw):=⟨xs,h,Am.mapr (f:=R3.dw) (g.mono λ_ _ z=>z.wo)⟩
def Sx (C:Addr)(n:Nat):Sp:=λvs H Q _=>∃(dl il:Addr) (Ds:List Dw) (f:Pw.Fs) (xs:List V),vs=[.ref dl,.ref il]/\Fb C H dl Ds/\(∀D∈Ds,D.loops.length<=3)/\H il=some (.lst xs)/\CI H f xs/\CJ f<n/\Jf Ds f/\DF f<=1000/\∀(r:Addr) (H':Hp),A8 H H'->DS H' r (Hj Ds f)->Q (.ref r) H'
def VE (CP C:Addr):Sp:=λvs H Q _=>∃(x dx dl:Addr) (sz:V) (Ds:List Dw),vs=[.ref x]/\H x=some (.ins CP dx [("size",sz),("deeds",.ref dl)])/\Fb C H dl Ds/\Nt Ds/\∀(r:Addr) (H':Hp) (f:Pw.Fs),A8 H H'->DS H' r (Hj Ds f)->Pw.IsF (getD Ds) f (List.range Ds.length) 0->Q (.ref r) H'
def WH (C:Addr):Sp:=λvs H Q _=>∃(x:V) (pl cu:Addr) (D:Dw),vs=[x,.ref pl,.ref cu]/\J5 C H x D/\D.loops.length<=3/\EJ H pl (Fo.ownP D.loops.length)/\H cu=some (.tup ((List.replicate D.loops.length false).map V.bl))/\∀H',A8 H H'->Q (.bl true) H'
def Ut (CP C:Addr):Sp:=λvs H Q _=>∃(x dx dl:Addr) (sz:V) (pt:Addr) (Ds:List Dw) (f:B8) (sh:Nat->Nat),vs=[.ref x,.ref pt]/\H x=some (.ins CP dx [("size",sz),("deeds",.ref dl)])/\Fb C H dl Ds/\Ds.length<=10/\(∀D∈Ds,D.loops.length<=3)/\DS H pt f/\Fo.Is f (F3 Ds sh) 0/\(∀k,k<Ds.length->sh k<=BP Ds k)/\∀H',A8 H H'->Q (.bl true) H'
theorem V5 {R R':R3}{D:Cd}{case:Nat}(h:R.S.length<=3)(h':R'.S.length<=3)(m3:D.m<=3)(c:case<=3):(E9 R R' D case).length<=40:=by
 unfold E9 G7;rw[Ai,Ai,Ai,Ai,IQ,IQ];have h1:(Je D).length=2*D.m:=F2 _ _ _;have h2:(HL (1+(R.S.length:Int)) case).length=2*case:=F2 _ _ _
 have h3:(if case<D.s then[(1+(case:Int),1+(R.S.length:Int)+(case:Int),(-1:Int))] else[]).length<=1:=by split<;>simp
 lia
def FZ (e:Nat):Rb:=⟨(false,"up"),((e:Int),0),((e:Int),0)⟩
def El (s:Nat):List Rb:=(List.range s).map FZ
theorem Rv (s:Nat):El (s+1)=El s++[FZ s]:=by unfold El;rw[GR,Bv];rfl
theorem VD (s:Nat):(El s).length=s:=by unfold El;rw[Af,C8]
theorem P1 {m e:Nat}(h:e<m):(Fo.ownP m).getD e (0,0)=((e:Int),0):=by
 unfold Fo.ownP;rw[Bj,Bf,Fi h];rfl
theorem Qe {m e:Nat}{x y:FN}(h:e<m):(List.replicate m x).getD e y=x:=by
 rw[Bj,Ou,Ay h];rfl
theorem Vc {mf sh:Nat->Nat}{k l s:Nat}(h:s<=mf k)(h':s<=mf l):Dt (Fo.ownB ("up":Str) mf sh k) (Fo.ownB ("up":Str) mf sh l) s=El s:=by
 unfold Dt El;refine OF λe he=>?_;have he:=DA.mp he;show Rb.mk ((List.replicate (mf k) ((false,("up":Str)):FN)).getD e (false,"")) ((Fo.ownP (mf k)).getD e (0,0)) ((Fo.ownP (mf l)).getD e (0,0))=_;rw[Qe (by lia),P1 (by lia),P1 (by lia)];rfl
theorem O3 {beh:Int}{level:Nat}{side:Str}{b:AQ}:∀{s:Nat},b∈Dc beh level side 0 (El s)↔∃e,e<s/\b∈Dp beh level side e (FZ e)
 |0=>⟨(λh=>nomatch h),fun⟨e,h,_⟩=>absurd h (OL _)⟩
 |
  s+1=>by
  rw[Rv,LS,VD,FI,CG,O3 (s:=s)];constructor
  .rintro (⟨e,h1,h2⟩|h)
   .exact⟨e,by lia,h2⟩
   .exact⟨s,by lia,h⟩
  .rintro ⟨e,h1,h2⟩;rcases Ed e s with h|h
   .exact .inl ⟨e,h,h2⟩
   .obtain rfl:e=s:=by lia
    exact .inr h2
theorem YA {level s m n:Nat}{side:Str}(h:s<=m)(h':s<=n):∀b∈Dc (1+(m:Int)) level side 0 (El s),Ei (1+m+n) b:=λb hb=>by
 obtain⟨e,he,hb⟩:=O3.mp hb;unfold Dp FZ at hb;unfold Ei;rcases CG.mp hb with hb|hb
 .rcases CG.mp hb with hb|hb
  .split at hb
   .rcases Bb.mp hb with rfl|hb
    .dsimp only;lia
    .rw[Dm.mp hb];dsimp only;lia
   .cases hb
  .split at hb
   .rw[Dm.mp hb];dsimp only;lia
   .cases hb
 .split at hb
  .rw[Dm.mp hb];dsimp only;lia
  .cases hb
theorem QZ {beh:Int}{level:Nat}{side:Str}:∀s:Nat,(Dc beh level side 0 (El s)).length<=4*s
 |0=>Ah _
 |
  s+1=>by
  rw[Rv,LS,Ai];have:=QZ (beh:=beh) (level:=level) (side:=side) s;have:(Dp beh level side (0+(El s).length) (FZ s)).length<=4:=by
   unfold Dp;rw[Ai,Ai];have a1:∀{p:Prop} [Decidable p] {x y:AQ},(if p then[x,y] else[]).length<=2:=fun{p _ x y}=>by split<;>simp
   have a2:∀{p:Prop} [Decidable p] {x:AQ},(if p then[x] else[]).length<=1:=fun{p _ x}=>by split<;>simp
   exact OP (OP a1 a2) a2
  lia
theorem QK {mf sh:Nat->Nat}{k:Nat}{q:Sd}:∀{s:Nat},s<=mf k->q∈FG (Fo.ownB ("up":Str) mf sh k) s->q.1<s/\q.2="more"
 |0,_,h=>nomatch h
 |
  s+1,hs,h=>by
  rcases CG.mp h with h|h
  .have:=QK (s:=s) (by lia) h;exact⟨by lia,this.2⟩
  .have e:((Fo.ownB ("up":Str) mf sh k).ways.getD s (false,"")).2="up":=by
    show((List.replicate (mf k) (false,("up":Str))).getD s (false,"")).2="up"
    rw[Qe (by lia)]
   rw[e]at h;unfold Gz at h;rw[AB (λz=>z rfl),Ay (by decide +kernel)]at h;rw[Dm.mp h];exact⟨Ig _,rfl⟩
theorem Ze {R R':R3}{D:Cd}{W W':List Int}{case k l:Nat}{mf sh:Nat->Nat}{q:Sd}(g:RB R)(g':RB R')(ok:F9 R R' D)(wl:W.length=R.S.length)(wl':W'.length=R'.S.length)(cs:case<=D.s)(cl:case<Dj k l D.s)(hk:D.s<=mf k)(hq:q∈EH (Fo.ownB ("up":Str) mf sh k) k l D.s) :
  ¬(E9 R R' D case++Dc (1+(R.S.length:Int)) q.1 q.2 0 (El D.s)).all (hU (Dg W W'))=true:=λhall=>by
 rw[Jl,DC]at hall;obtain⟨h1,h2⟩:=hall;obtain⟨_,_,_,heq,hlt⟩:=(VX g g' ok wl wl' cs).mp h1;have k1:D.s<=R.S.length:=ok.pf.1;have k2:D.s<=R'.S.length:=ok.pf.2.1;have at':∀{e:Nat} {b:AQ},e<D.s->b∈Dp (1+(R.S.length:Int)) q.1 q.2 e (FZ e)->hU (Dg W W') b=true:=fun{e b} he hb=>Ij.mp h2 b (O3.mpr ⟨e,he,hb⟩);have eqs:∀{e:Nat},e<D.s->e<q.1->W.getD e 0=W'.getD e 0:=fun{e} he hl=>by
  have a1:=at' (b:=(1+(e:Int),1+(R.S.length:Int)+(e:Int),0-0)) he (by unfold Dp FZ;rw[Ay ⟨hl,rfl⟩];exact CN _ (CN _ C7));have a2:=at' (b:=(1+(R.S.length:Int)+(e:Int),1+(e:Int),-(0-0))) he (by unfold Dp FZ;rw[Ay ⟨hl,rfl⟩];exact CN _ (CN _ (Ce _ C7)));have a1:=Fk a1;have a2:=Fk a2;dsimp only at a1 a2;rw[Hr (by lia),←wl,GV]at a1;rw[Hr (by lia),←wl,GV]at a2;lia
 have more:q.1<D.s->q.2="more"->W'.getD q.1 0<W.getD q.1 0:=λhl hm=>by
  have a1:=at' (e:=q.1) (b:=(1+(R.S.length:Int)+(q.1:Int),1+(q.1:Int),-(0-0)-1)) hl (by unfold Dp FZ;refine CN _ (CU _ ?_);rw[Ay ⟨rfl,hm⟩];exact C7);have a1:=Fk a1;dsimp only at a1;rw[Hr (by lia),←wl,GV]at a1;lia
 rcases CG.mp hq with h|h
 .obtain⟨l1,l2⟩:=QK hk h;have hm:=more l1 l2;rcases Ed q.1 case with c|c
  .have:=heq q.1 c;lia
  .have hc:case<D.s:=by lia
   have:=hlt hc;rcases Ed case q.1 with d|d
   .have:=eqs hc d;lia
   .obtain rfl:case=q.1:=by lia
    lia
 .split at h
  .rename_i hlk;rw[Dm.mp h]at eqs;have hc:case<D.s:=by
    unfold Dj at cl;rw[AB (by lia)]at cl;exact cl
   have:=hlt hc;have:=eqs hc hc;lia
  .cases h
def Pl (R R':R3)(e:Nat):Prop:=e<=R.S.length/\e<=R'.S.length/\(∀j<e,R.path.getD j 0=R'.path.getD j 0)/\R.path.getD e 0<R'.path.getD e 0
theorem Pl.pf {R R':R3}{e:Nat}(h:Pl R R' e):Et R.r5 R'.r5 e:=⟨h.1,h.2.1,h.2.2.1,λ_=>by have:=h.2.2.2;show R.path.getD e 0≠R'.path.getD e 0;lia⟩
theorem Et.symm {R R':R5}{e:Nat}(h:Et R R' e):Et R' R e:=⟨h.2.1,h.1,λj hj=>(h.2.2.1 j hj).symm,λhl z=>h.2.2.2 (by lia) z.symm⟩
theorem Pl.trans {R1 R2 R3':R3}{a b:Nat}(h:Pl R1 R2 a)(g:Pl R2 R3' b):Pl R1 R3' (min a b):=by
 obtain⟨h1,h2,h3,h4⟩:=h;obtain⟨g1,g2,g3,g4⟩:=g;refine⟨by lia,by lia,λj hj=>(h3 j (by lia)).trans (g3 j (by lia)),?_⟩;rcases OJ a b with c|c|c
 .rw[Ec (by lia),←g3 a c];exact h4
 .subst c;rw[Nat.min_self];lia
 .rw[OD (by lia),h3 b c];exact g4
theorem Hs.pl {R R':R3}(h:Hs R R'):∃e,Pl R R' e:=by
 obtain⟨e,e1,e2,_,e4,e5⟩:=h;refine⟨e,e1,e2,λj hj=>?_,e5⟩;have:=congrArg (λl:List Int=>l.getD j 0) e4;have this:(R.path.take e).getD j 0=(R'.path.take e).getD j 0:=this;rw[Bj,Bj,Jn,Jn,Ay hj,Ay hj]at this;rw[Bj,Bj];exact this
structure Cm (Rs:List R3)(sh:Nat->Nat):Prop where
 n6:Rs.length<=6
 rb:∀R∈Rs,RB R
 par:Rs.Pairwise Hs
 s0:sh 0=0
 pl:∀k R R',Rs[k]?=some R->Rs[k+1]?=some R'->Pl R R' (sh (k+1))
abbrev B7 (Rs:List R3)(sh:Nat->Nat):List B6:=F3 (Rs.map R3.dw) sh
theorem m7 {Rs:List R3}{k:Nat}{R:R3}(h:Rs[k]?=some R):BP (Rs.map R3.dw) k=R.S.length:=by
 rw[KJ (D:=R.dw) (by rw[Bf,h];rfl)];exact Af _
theorem GC {Rs:List R3}{sh:Nat->Nat}{k:Nat}(h:k<Rs.length):(B7 Rs sh)[k]?=some (Fo.ownB ("up":Str) (BP (Rs.map R3.dw)) sh k):=by
 unfold B7 F3;rw[Bf,Af,Fi h];rfl
theorem FR {Rs:List R3}{sh:Nat->Nat}{k:Nat}{b:B6}(h:(B7 Rs sh)[k]?=some b):k<Rs.length/\b=Fo.ownB ("up":Str) (BP (Rs.map R3.dw)) sh k:=by
 have hk:k<Rs.length:=by
  have:=(Aw.mp h).1;rw[Af,C8,Af]at this;exact this
 rw[GC hk]at h;exact⟨hk,(Cu h).symm⟩
section
variable {Rs:List R3}{sh:Nat->Nat}
theorem Cm.get (h:Cm Rs sh){k:Nat}(hk:k<Rs.length):Rs[k]?=some Rs[k]/\RB Rs[k]:=⟨AE hk,h.rb _ (Fh hk)⟩
theorem Cm.shm (h:Cm Rs sh){k:Nat}(hk:k<Rs.length):sh k<=BP (Rs.map R3.dw) k:=by
 cases k with
 |zero=>rw[h.s0];exact Bh _
 |
  succ k=>
  have:=h.pl k _ _ (h.get (k:=k) (by lia)).1 (h.get hk).1;rw[m7 (h.get hk).1];exact this.2.1
theorem Cm.shp (h:Cm Rs sh){k:Nat}(hk:k+1<Rs.length):sh (k+1)<=BP (Rs.map R3.dw) k:=by
 rw[m7 (h.get (k:=k) (by lia)).1];exact(h.pl k _ _ (h.get (k:=k) (by lia)).1 (h.get hk).1).1
theorem Cm.least (h:Cm Rs sh){i:Nat}{R:R3}(hi:Rs[i]?=some R):∀(d:Nat) {R':R3},Rs[i+1+d]?=some R'->∃s,Fo.Least (B7 Rs sh) i (i+1+d) s/\Pl R R' s
 |
  0,R',hj=>by
  have hj:Rs[i+1]?=some R':=hj;have hl:=(Aw.mp hj).1;refine⟨sh (i+1),⟨⟨i+1,_,by lia,Ah _,GC hl,rfl⟩,λj c h1 h2 hc=>?_⟩,h.pl i R R' hi hj⟩;obtain rfl:j=i+1:=by lia
  rw[(FR hc).2];exact Ah _
 |
  d+1,R',hj=>by
  have hl:=(Aw.mp hj).1;have hm:=(h.get (k:=i+1+d) (by lia)).1;obtain⟨s,⟨⟨j0,c0,a1,a2,a3,a4⟩,a5⟩,p⟩:=h.least hi d hm;have p2:=h.pl (i+1+d) _ R' hm hj;have p3:=p.trans p2;rcases Nat.le_total s (sh (i+1+d+1)) with c|c
  .rw[Ec c]at p3;refine⟨s,⟨⟨j0,c0,a1,by lia,a3,a4⟩,λj e h1 h2 he=>?_⟩,p3⟩;rcases Ed j (i+1+(d+1)) with z|z
   .exact a5 j e h1 (by lia) he
   .obtain rfl:j=i+1+d+1:=by lia
    rw[(FR he).2];exact c
  .rw[OD c]at p3;refine⟨sh (i+1+d+1),⟨⟨i+1+d+1,_,by lia,Ah _,GC hl,rfl⟩,λj e h1 h2 he=>?_⟩,p3⟩;rcases Ed j (i+1+(d+1)) with z|z
   .exact Ex c (a5 j e h1 (by lia) he)
   .obtain rfl:j=i+1+d+1:=by lia
    rw[(FR he).2];exact Ah _
theorem UZ {B:List B6}{i j s s':Nat}(h:Fo.Least B i j s)(g:Fo.Least B i j s'):s=s':=by
 obtain⟨⟨a,c,a1,a2,a3,rfl⟩,h2⟩:=h;obtain⟨⟨b,d,b1,b2,b3,rfl⟩,g2⟩:=g;have:=h2 b d b1 b2 b3;have:=g2 a c a1 a2 a3;lia
theorem Cm.lt (h:Cm Rs sh){i j s:Nat}{R R':R3}(hi:Rs[i]?=some R)(hj:Rs[j]?=some R')(hl:i<j)(hs:Fo.Least (B7 Rs sh) i j s):Pl R R' s:=by
 obtain⟨d,rfl⟩:∃d,j=i+1+d:=⟨j-i-1,by lia⟩
 obtain⟨s',h1,h2⟩:=h.least hi d hj;rw[UZ hs h1];exact h2
theorem Cm.many (h:Cm Rs sh){i j s:Nat}{R R':R3}(hi:Rs[i]?=some R)(hj:Rs[j]?=some R')(hm:Hq (B7 Rs sh) i j s):Et R.r5 R'.r5 s:=by
 rcases hm with⟨rfl,b,hb,rfl⟩|⟨hl,hs⟩|⟨hl,hs⟩
 .rw[hi]at hj;obtain rfl:=Cu hj;rw[(FR hb).2];show Et R.r5 R.r5 (List.replicate (BP (Rs.map R3.dw) i) (false,("up":Str))).length;rw[DB,m7 hi];exact⟨Ah _,Ah _,λ_ _=>rfl,λz=>absurd z (by show ¬R.S.length<min R.S.length R.S.length;lia)⟩
 .exact(h.lt hi hj hl hs).pf
 .exact(h.lt hj hi hl hs).pf.symm
theorem Cm.good (h:Cm Rs sh):JC (B7 Rs sh)/\((B7 Rs sh).map (·.k)).Nodup:=by
 have wl:∀k,(Fo.ownB ("up":Str) (BP (Rs.map R3.dw)) sh k).ways.length=BP (Rs.map R3.dw) k:=λk=>DB;have mem:∀b∈B7 Rs sh,∃k,k<Rs.length/\b=Fo.ownB ("up":Str) (BP (Rs.map R3.dw)) sh k:=λb hb=>by
  obtain⟨k,hk⟩:=ES.mp hb;exact⟨k,FR hk⟩
 refine⟨⟨⟨λb hb=>?_,λi b c hb hc=>?_⟩,λb hb=>?_,λb hb=>?_,?_⟩,?_⟩
 .obtain⟨k,hk,rfl⟩:=mem b hb;rw[wl];exact h.shm hk
 .obtain⟨h1,rfl⟩:=FR hb;obtain⟨h2,rfl⟩:=FR hc;have s1:=h.shp h2;have s2:=h.shm h2;refine⟨by rw[wl];exact s1,?_⟩;show(List.replicate _ _).take (sh (i+1))=(List.replicate _ _).take (sh (i+1));rw[List.take_replicate,List.take_replicate,Ec s1,Ec s2]
 .rw[SZ]at hb;rw[(FR hb).2];exact h.s0
 .obtain⟨k,hk,rfl⟩:=mem b hb;have n6:=h.n6;have m3:BP (Rs.map R3.dw) k<=3:=by rw[m7 (h.get hk).1];exact(h.get hk).2.len
  refine⟨by rw[wl];lia,?_,by rw[wl];exact h.shm hk,λw hw=>?_,?_,?_,λp hp=>?_⟩
  .rw[wl];exact Ir _
  .rw[(OO.mp hw).2];exact C7
  .show(0:Int)<=(k:Int)
   lia
  .show(k:Int)<=5;lia
  .obtain⟨e,he,rfl⟩:=Dl.mp hp;have he:=DA.mp he;dsimp only;lia
 .rw[Af,C8,Af];exact h.n6
 .unfold B7 F3;rw[GQ];refine List.Pairwise.map _ (λx y hne e=>hne ?_) List.nodup_range;have e:(x:Int)=(y:Int):=e;lia
theorem Cm.row (h:Cm Rs sh):Fo.Row (getD (Rs.map R3.dw)) (BP (Rs.map R3.dw)) sh Rs.length:=by
 have gd:∀{k:Nat} {a:Pw.Dd DP Str},getD (Rs.map R3.dw) k=some a->∃R,Rs[k]?=some R/\a=R.dw.dd:=fun{k a} ha=>by
  unfold getD at ha;rw[Bf]at ha;cases hR:Rs[k]? with
  |none=>rw[hR]at ha;cases ha
  |some R=>rw[hR]at ha;cases ha;exact⟨R,rfl,rfl⟩
 refine⟨λk a hk ha=>?_,λk hk=>?_,λk hk=>h.shp hk,λk a b hk ha hb=>?_⟩
 .obtain⟨R,hR,rfl⟩:=gd ha;rw[m7 hR];exact Af _
 .unfold getD;rw[Bf,(h.get hk).1];exact⟨_,rfl⟩
 .obtain⟨R,hR,rfl⟩:=gd ha;obtain⟨R',hR',rfl⟩:=gd hb;have p:=h.pl k R R' hR hR';refine⟨λe he=>(p.2.2.1 e he).symm,?_⟩;have:=p.2.2.2;show R'.path.getD (sh (k+1)) 0≠R.path.getD (sh (k+1)) 0;lia
theorem Cm.is (h:Cm Rs sh){f:Pw.Fs}(hf:Pw.IsF (getD (Rs.map R3.dw)) f (List.range (Rs.map R3.dw).length) 0):Fo.Is (Hj (Rs.map R3.dw) f) (B7 Rs sh) 0:=by
 have:=Fo.own_is (up:=("up":Str)) h.row f 0 Rs.length 0 (by lia) (by rw[←OH,←Af (f:=R3.dw) (as:=Rs)];exact hf) (λ_ _ _=>Bh _);rw[←OH]at this;unfold B7 F3;rw[Af];exact this
theorem RB.ok3 {R:R3}(h:RB R):NW R.dw:=by
 have nm:IZ R.dw=AD R.S:=by
  unfold IZ R3.dw AD;rw[GQ];rfl
 refine⟨by show(R.S.map Fu).length<=3;rw[Af];exact h.len,by show R.path.length=(R.S.map Fu).length+1;rw[Af];exact h.pl,by rw[nm];exact h.nd,λe t ht=>?_⟩;have ht:(R.S.map Fu)[e]?=some t:=ht;rw[Bf]at ht;obtain⟨q,hq,rfl⟩:=Ik.mp ht;have hl:=(Aw.mp hq).1;have l1:Ej R.S e=q.lz:=by unfold Ej;rw[hq];rfl
 have l2:Eu R.S e=q.hz:=by unfold Eu;rw[hq];rfl
 have key:∀{z:Str},(z=""\/(z≠""/\∃j:Nat,j<e/\(AD R.S)[j]?=some z))->z=("":Str)\/z∈(IZ R.dw).take e:=fun{z} hz=>by
  rcases hz with hz|⟨_,j,hj,hz⟩
  .exact .inl hz
  .refine .inr (B0 (i:=j) ?_);rw[nm,Jn,Ay hj];exact hz
 refine⟨key ?_,key ?_⟩
 .have:=h.bl e hl;rw[l1]at this;exact this
 .have:=h.bh e hl;rw[l2]at this;exact this
theorem Cm.okW (h:Cm Rs sh):Nt (Rs.map R3.dw):=by
 refine⟨λD hD=>?_,by rw[Af];have:=h.n6;lia,Q7 h.par⟩;obtain⟨R,hR,rfl⟩:=Dl.mp hD;exact(h.rb R hR).ok3
theorem Cm.init {R:R3}(h:Cm (Rs++[R]) sh):Cm Rs sh:=by
 have n6:=h.n6;rw[Ai]at n6;refine⟨by lia,λx hx=>h.rb x (CN _ hx),(List.pairwise_append.mp h.par).1,h.s0,λk a b ha hb=>h.pl k a b ?_ ?_⟩
 .rw[Cw (Aw.mp ha).1];exact ha
 .rw[Cw (Aw.mp hb).1];exact hb
end
def Ho (R R':R3)(D:Cd)(case:Nat)(q:Sd):List AQ:=E9 R R' D case++Dc (1+(R.S.length:Int)) q.1 q.2 0 (El D.s)
def LX:An->List AQ
 |.inl L=>L
 |.inr _=>[]
def G6:An->Bool
 |.inl _=>true
 |.inr _=>false
def GJ (R R':R3)(D:Cd)(case:Nat):An:=Hu (1+R.S.length+R'.S.length) (1+R.S.length) (E9 R R' D case)
def Ke (R R':R3)(D:Cd)(case:Nat)(q:Sd):An:=Hu (1+R.S.length+R'.S.length) (1+R.S.length) (Ho R R' D case q)
def IV (R R':R3)(D:Cd)(case:Nat)(q:Sd):List AQ:=if G6 (GJ R R' D case)=true then LX (GJ R R' D case) else LX (Ke R R' D case q)
theorem UW {an:An}(h:G6 an=true):an = .inl (LX an):=by
 cases an with
 |inl L=>rfl
 |inr W=>cases h
section
variable {R R':R3}{D:Cd}{case k l:Nat}{mf sh:Nat->Nat}{q:Sd}
theorem Rz (g:RB R)(g':RB R')(ok:F9 R R' D)(cs:case<=D.s):∀b∈Ho R R' D case q,Ei (1+R.S.length+R'.S.length) b:=λb hb=>by
 rcases CG.mp hb with hb|hb
 .exact Pb g g' ok cs b hb
 .exact YA ok.pf.1 ok.pf.2.1 b hb
theorem VM (g:RB R)(g':RB R')(ok:F9 R R' D)(cs:case<=D.s):(Ho R R' D case q).length<=100:=by
 have k1:D.s<=R.S.length:=ok.pf.1;have h1:=g.len;have:=V5 (R:=R) (R':=R') (D:=D) (case:=case) g.len g'.len ok.m3 (by lia);have:=QZ (beh:=1+(R.S.length:Int)) (level:=q.1) (side:=q.2) D.s;unfold Ho;rw[Ai];lia
theorem XH (g:RB R)(g':RB R')(ok:F9 R R' D)(cs:case<=D.s)(cl:case<Dj k l D.s)(hk:D.s<=mf k)(hq:q∈EH (Fo.ownB ("up":Str) mf sh k) k l D.s):G6 (Ke R R' D case q)=true:=by
 have h:=X9 (n:=1+R.S.length+R'.S.length) (bh:=1+R.S.length) (Rz (q:=q) g g' ok cs) (by lia) (by lia);unfold Ke;cases ha:Hu (1+R.S.length+R'.S.length) (1+R.S.length) (Ho R R' D case q) with
 |inl L=>rfl
 |
  inr W=>
  rw[ha]at h;obtain⟨h1,h2,h3⟩:=h;exact absurd h3 (Ze g g' ok (by lia) (by lia) cs cl hk hq)
end
abbrev Pp:=Q5×Sd×List AQ
def Gm (Rs:List R3)(Df:Pm.Q4->Cd)(sh:Nat->Nat)(d:Q5):List Pp:=match Rs[d.1.1]?,Rs[d.1.2.2.1]? with
 |some R,some R'=>(EH (Fo.ownB ("up":Str) (BP (Rs.map R3.dw)) sh d.1.1) d.1.1 d.1.2.2.1 (Df d.1).s).map λq=>(d,q,IV R R' (Df d.1) d.2 q)
 |_,_=>[]
theorem Yr {Rs:List R3}{Df:Pm.Q4->Cd}{sh:Nat->Nat}{d:Q5}{R R':R3}(h:Rs[d.1.1]?=some R)(g:Rs[d.1.2.2.1]?=some R'):Gm Rs Df sh d=(EH (Fo.ownB ("up":Str) (BP (Rs.map R3.dw)) sh d.1.1) d.1.1 d.1.2.2.1 (Df d.1).s).map λq=>(d,q,IV R R' (Df d.1) d.2 q):=by
 unfold Gm;rw[h,g]
def K4 (Rs:List R3)(Df:Pm.Q4->Cd)(sh:Nat->Nat):List Pp:=(G0 (Rs.map R3.r5)).flatMap (Gm Rs Df sh)
def Ga (H:Hp)(y:V)(p:Pp):Prop := ∃(t r:Addr) (ys:List V),y = .ref t/\H t=some (.tup [.int (p.1.1.1:Int),.int (p.1.1.2.1:Int),.int (p.1.1.2.2.1:Int),.int (p.1.1.2.2.2:Int),.int (p.1.2:Int),.int (p.2.1.1:Int),.str p.2.1.2,.ref r])/\H r=some (.lst ys)/\Bk H ys p.2.2
theorem Ga.over {H H':Hp}{y:V}{p:Pp}(h:Ga H y p)(e:A8 H H'):Ga H' y p:=by
 obtain⟨t,r,ys,a,b,c,d⟩:=h;exact⟨t,r,ys,a,e _ _ b,e _ _ c,d.over e⟩
def Tc (CP C:Addr)(c:Cs):Sp:=λvs H Q _=>∃(x dx dl:Addr) (sz:V) (xs:List V) (Rs:List R3) (R R':R3) (r r':Str×Addr) (k a l b case:Nat) (D:Cd),vs=[.ref x,.int (k:Int),.int (a:Int),.int (l:Int),.int (b:Int),.int (case:Int)]/\H x=some (.ins CP dx [("size",sz),("deeds",.ref dl)])/\H dl=some (.lst xs)/\Am (CW c C H) xs Rs/\Rs[k]?=some R/\Rs[l]?=some R'/\RB R/\RB R'/\R.r5.Ok/\R'.r5.Ok/\R.tch[a]?=some r/\R'.tch[b]?=some r'/\Di H r.2 D.m D.z1 D.n1/\Di H r'.2 D.m D.z2 D.n2/\F9 R R' D/\case<=D.s/\∀(q:Addr) (ys:List V) (H':Hp),A8 H H'->H q=none->H' q=some (.lst ys)->Bk H' ys (E9 R R' D case)->Q (.ref q) H'
def XU:Sp:=λvs H Q _=>∃(pr:V) (p:Addr) (B:List B6) (i j s:Nat) (b c:B6),vs=[pr,.ref p,.int b.k,.int c.k]/\GY H p B/\B[i]?=some b/\B[j]?=some c/\Hq B i j s/\∀(r:Addr) (ys:List V) (H':Hp),A8 H H'->H r=none->H' r=some (.lst ys)->Am (Hx H') ys (EH b i j s)->Q (.ref r) H'
def U3 (CP C:Addr)(c:Cs):Sp:=λvs H Q _=>∃(x dx dl p:Addr) (sz:V) (xs:List V) (Rs:List R3) (Df:Pm.Q4->Cd) (sh:Nat->Nat) (f:B8),vs=[.ref x,.ref p]/\H x=some (.ins CP dx [("size",sz),("deeds",.ref dl)])/\H dl=some (.lst xs)/\Am (CW c C H) xs Rs/\(∀R∈Rs,R.r5.Ok)/\Cm Rs sh/\Iw H Rs Df/\DS H p f/\Fo.Is f (B7 Rs sh) 0/\
 ∀(v r:Addr) (ys:List V) (H':Hp),A8 H H'->H r=none->H' v=some (.tup [.str "good",.ref r])->H' r=some (.lst ys)->Am (Ga (wo H' r)) ys (K4 Rs Df sh)->Q (.ref v) H'
def Z7 (zs:List Str)(z:Str):Prop:=z=""\/z∈zs
def M7 (z:Str)(m:Int):Prop:=(z="a"/\m=1)\/(z="b"/\m=2)\/(z="c"/\m=3)
theorem M7.one {z:Str}{m n:Int}(h:M7 z m)(g:M7 z n):m=n:=by
 have ab:("a":Str)≠"b":=by decide +kernel
 have ac:("a":Str)≠"c":=by decide +kernel
 have bc:("b":Str)≠"c":=by decide +kernel
 rcases h with⟨rfl,rfl⟩|⟨rfl,rfl⟩|⟨rfl,rfl⟩<;>rcases g with⟨e,rfl⟩|⟨e,rfl⟩|⟨e,rfl⟩<;>first|rfl|exact absurd e ab|exact absurd e.symm ab|exact absurd e ac|exact absurd e.symm ac|exact absurd e bc|exact absurd e.symm bc
def VF:Sp:=λvs H Q _=>∃(nt:Addr) (zs:List Str) (q far:Int),vs=[.ref nt,.int q,.int far]/\H nt=some (.tup (zs.map V.str))/\zs.length<=3/\∀(t:Addr) (z:Str) (n:Int) (H':Hp),A8 H H'->H' t=some (.tup [.str z,.int n])->Z7 zs z->Q (.ref t) H'
def Uj:Sp:=λvs H Q _=>∃(nt:Addr) (zs:List Str) (q far:Int),vs=[.ref nt,.int q,.int far]/\H nt=some (.tup (zs.map V.str))/\zs.length<=3/\∀(t p:Addr) (z:Str) (H':Hp),A8 H H'->H' t=some (.tup [.str z,.ref p])->Gc (Z7 zs) M7 H' (z,p)->Q (.ref t) H'
def EZ (H:Hp)(v:V)(q:Lp):Prop := ∃p p1 p2,v = .ref p/\H p=some (.tup [.str q.nm,.ref p1,.ref p2])/\H p1=some (.tup [.str q.lz,.int q.ln])/\H p2=some (.tup [.str q.hz,.int q.hn])
theorem EZ.tk {H H':Hp}{v:V}{q:Lp}(h:EZ H v q)(e:TK H H'):EZ H' v q:=by obtain⟨p,p1,p2,a,b,c,d⟩:=h;exact⟨p,p1,p2,a,e _ _ b,e _ _ c,e _ _ d⟩
theorem EZ.over {H H':Hp}{v:V}{q:Lp}(h:EZ H v q)(e:A8 H H'):EZ H' v q:=h.tk (A8.tk e)
def IB (zs:List Str)(q:Lp):Prop:=q.nm≠""/\q.nm∉zs/\Z7 zs q.lz/\Z7 zs q.hz
def IP (H:Hp)(v:V):Prop:=v = .non\/∃q,EZ H v q/\q.nm≠""
theorem IP.tk {H H':Hp}{v:V}(h:IP H v)(e:TK H H'):IP H' v:=h.imp id fun⟨q,a,b⟩=>⟨q,a.tk e,b⟩
def V6:Sp:=λvs H Q _=>∃(nl:Addr) (zs:List Str) (q far tn:Int) (la:V),vs=[.ref nl,.int q,.int far,.int tn,la]/\H nl=some (.lst (zs.map V.str))/\zs.length<=3/\IP H la/\∀(r:V) (H':Hp) (l:Lp),A8 H H'->EZ H' r l->IB zs l->Q r H'
def FD (z:Str):Nat->Str
 |0=>z
 |n+1=>FD z n++"x"
theorem LV (z:Str):∀n:Nat,(FD z n).length=z.length+n
 |0=>rfl
 |
  n+1=>by
  show(FD z n++"x").length=_;rw[YV,LV z n,show("x":Str).length=1 from by decide +kernel];lia
theorem TQ {z:Str}{i:Nat}{zs:List Str}(h:∀j<i,FD z j∈zs):i<=zs.length:=by
 have nd:((List.range i).map (FD z)).Nodup:=by
  refine List.Pairwise.map _ (λx y hne e=>hne ?_) List.nodup_range;have:=congrArg Str.length e;rw[LV,LV]at this;lia
 have:=nodup_le nd (k:=zs) λx hx=>by
  obtain⟨j,hj,rfl⟩:=Dl.mp hx;exact h j (DA.mp hj)
 rwa [Af,C8]at this
theorem PM (zs:List Str):(zs.map V.str).all E4=true:=by rw[List.all_map];exact Ij.mpr λ_ _=>rfl
def IH (H:Hp)(v:V)(r:Str×Addr):Prop := ∃t,v = .ref t/\H t=some (.tup [.str r.1,.ref r.2])
theorem IH.tk {H H':Hp}{v:V}{r:Str×Addr}(h:IH H v r)(e:TK H H'):IH H' v r:=by obtain⟨t,a,b⟩:=h;exact⟨t,a,e _ _ b⟩
def Ew (H:Hp)(v:V)(R:R3):Prop := ∃(r u1 u2 u3 u4 u5:Addr) (ls hs rs:List V),v = .ref r/\H r=some (.tup [.ref u1,.ref u2,.ref u3,.str R.z,.ref R.p,.ref u5,.ref u4])/\H u1=some (.tup ((AD R.S).map V.str))/\H u2=some (.tup ls)/\Am (λv q=>DG H v (q.lz,q.ln)) ls R.S/\H u3=some (.tup hs)/\Am (λv q=>DG H v (q.hz,q.hn)) hs R.S/\H u4=some (.tup (R.path.map V.int))/\H u5=some (.tup rs)/\Am (IH H) rs R.rs/\R.m=R.rs.length+1
theorem Ew.tk {H H':Hp}{v:V}{R:R3}(h:Ew H v R)(e:TK H H'):Ew H' v R:=by
 obtain⟨r,u1,u2,u3,u4,u5,ls,hs,rs,a,b,c,d,f,g,i,j,k,l,m⟩:=h;exact⟨r,u1,u2,u3,u4,u5,ls,hs,rs,a,e _ _ b,e _ _ c,e _ _ d,f.mono λ_ _ z=>z.tk e,e _ _ g,i.mono λ_ _ z=>z.tk e,e _ _ j,e _ _ k,l.mono λ_ _ z=>z.tk e,m⟩
def EV (H:Hp)(R:R3):Prop := ∀t∈R.tch,Gc (Bs R.S) M7 H t
theorem JR {Z:Str->Prop}{M:Str->Int->Prop}{H H':Hp}{r:Str×Addr}(h:Gc Z M H r)(e:TK H H'):Gc Z M H' r:=by
 obtain⟨n,a,xs,b,c,d,f⟩:=h;exact⟨n,a,xs,e _ _ b,c,d,λv hv=>let ⟨t,z,k,x,y,w⟩:=f v hv;⟨t,z,k,x,e _ _ y,w⟩⟩
theorem EV.tk {H H':Hp}{R:R3}(h:EV H R)(e:TK H H'):EV H' R:=λt ht=>JR (h t ht) e
theorem Xh {S:List Lp}{z:Str}(h:Z7 (AD S) z):Bs S z:=h.imp id λh=>by
 obtain⟨q,hq,rfl⟩:=Dl.mp h;exact⟨q,hq,rfl⟩
theorem Pk {S:List Lp}{H:Hp}{r:Str×Addr}(h:Gc (Z7 (AD S)) M7 H r):Gc (Bs S) M7 H r:=by
 obtain⟨n,a,xs,b,c,d,f⟩:=h;exact⟨n,a,xs,b,c,d,λv hv=>let ⟨t,z,k,x,y,w⟩:=f v hv;⟨t,z,k,x,y,Xh w⟩⟩
def Yv:Sp:=λvs H Q _=>∃(st pa:Addr) (cell far lim:Int) (S:List Lp) (P:List Int) (sv:List V),vs=[.ref st,.ref pa,.int cell,.int far,.int lim]/\H st=some (.lst sv)/\Am (EZ H) sv S/\S.length<=3/\H pa=some (.lst (P.map V.int))/\P.length<=10/\1<=lim/\lim<=6/\∀(r:Addr) (H':Hp) (R:R3),A8 H H'->Ew H' (.ref r) R->R.S=S->R.path=P->EV H' R->R.m<=30->Q (.ref r) H'
def Zy (K:Faa):Sp:=λvs H Q _=>∃(cl:Addr) (cs:List Int) (lim deep far:Int),vs=[.ref cl,.int lim,.int deep,.int far]/\A3 K H cl (cs.map V.int)/\cs.length<=63/\1<=lim/\lim<=6/\1<=deep/\deep<=3/\∀(r:Addr) (rv:List V) (H':Hp) (Rs:List R3),A8 H H'->H r=none->H' r=some (.lst rv)->Am (Ew H') rv Rs->(∀R∈Rs,RB R/\EV H' R)->Rs.Pairwise Hs->Rs≠[]->Rs.length<=6->Q (.ref r) H'
def DD (S:List Lp):Prop:=S.length<=3/\∀(i:Nat) (q:Lp),S[i]?=some q->IB (AD (S.take i)) q
theorem DD.snoc {S:List Lp}{q:Lp}(h:DD S)(l:S.length<3)(g:IB (AD S) q):DD (S++[q]):=by
 refine⟨by rw[Ai,Bc];lia,λi r hr=>?_⟩;rcases Ed i S.length with c|c
 .rw[Cw c]at hr;rw[EA (by lia)];exact h.2 i r hr
 .have il:=(Aw.mp hr).1;rw[Ai,Bc]at il;obtain rfl:i=S.length:=by lia
  rw[Cg (Ah _),DO]at hr;cases hr;rw[List.take_left];exact g
theorem DD.init {S:List Lp}{q:Lp}(h:DD (S++[q])):DD S/\IB (AD S) q:=by
 have l:=h.1;rw[Ai,Bc]at l;refine⟨⟨by lia,λi r hr=>?_⟩,?_⟩
 .have il:=(Aw.mp hr).1;have:=h.2 i r (by rw[Cw il];exact hr)
  rwa [EA (by lia)]at this
 .have:=h.2 S.length q (by rw[Cg (Ah _),DO];rfl)
  rwa [List.take_left]at this
theorem DD.nd:∀{n:Nat} {S:List Lp},S.length=n->DD S->(AD S).Nodup/\∀z∈AD S,z≠""
 |0,S,l,h=>by rw[OQ l];exact⟨List.nodup_nil,λz hz=>nomatch hz⟩
 |
  n+1,S,l,h=>by
  obtain⟨S',q,rfl,l'⟩:=Gs l;obtain⟨h1,h2⟩:=h.init;obtain⟨n1,n2⟩:=DD.nd l' h1;unfold AD;rw[Bv];refine⟨List.nodup_append.mpr ⟨n1,List.pairwise_singleton _ _,λx hx y hy e=>?_⟩,λz hz=>?_⟩
  .have hy:y∈[q.nm]:=hy;rw[Dm.mp hy]at e;exact h2.2.1 (e▸hx)
  .rcases CG.mp hz with hz|hz
   .exact n2 z hz
   .have hz:z∈[q.nm]:=hz;rw[Dm.mp hz];exact h2.1
theorem DD.bn {S:List Lp}(h:DD S){f:Lp->Str}(hf:∀zs q,IB zs q->Z7 zs (f q)){i:Nat}(hi:i<S.length):f S[i]=""\/(f S[i]≠""/\∃j:Nat,j<i/\(AD S)[j]?=some (f S[i])):=by
 rcases Classical.em (f S[i]="") with e|e
 .exact .inl e
 .refine .inr ⟨e,?_⟩;rcases hf _ _ (h.2 i _ (AE hi)) with z|z
  .exact absurd z e
  .obtain⟨j,hj⟩:=ES.mp z;unfold AD at hj ⊢;rw[Bf]at hj;obtain⟨q,hq,eq⟩:=Ik.mp hj;rw[Jn]at hq;split at hq
   .rename_i c;exact⟨j,c,by rw[Bf,hq];exact congrArg some eq⟩
   .cases hq
theorem DD.rb {R:R3}(h:DD R.S)(pl:R.path.length=R.S.length+1)(m:R.m<=30):RB R:=by
 obtain⟨n1,n2⟩:=DD.nd rfl h;refine⟨h.1,n1,n2,λi hi=>?_,λi hi=>?_,pl,m⟩
 .have:=h.bn (f:=Lp.lz) (λ_ _ g=>g.2.2.1) hi
  rwa [show Ej R.S i=R.S[i].lz from by unfold Ej;rw[AE hi];rfl]
 .have:=h.bn (f:=Lp.hz) (λ_ _ g=>g.2.2.2) hi
  rwa [show Eu R.S i=R.S[i].hz from by unfold Eu;rw[AE hi];rfl]
structure D7 (Rs:List R3)(S:List Lp)(P:List Int):Prop where
 so:DD S
 pl:P.length=S.length+1
 ah:∀R∈Rs,∃e,e<=R.S.length/\e<=S.length/\R.S.take e=S.take e/\R.path.take e=P.take e/\R.path.getD e 0<P.getD e 0
 pr:Rs.Pairwise Hs
 rb:∀R∈Rs,RB R
 z0:Rs=[]->∀x∈P,x=0
theorem D7.nil:D7 [] [] [0]:=⟨⟨Bh _,λi q h=>by cases h⟩,rfl,(λ_ h=>nomatch h),List.Pairwise.nil,(λ_ h=>nomatch h),λ_ x hx=>Dm.mp hx⟩
theorem D7.opn {Rs:List R3}{S:List Lp}{P:List Int}{q:Lp}(h:D7 Rs S P)(l:S.length<3)(g:IB (AD S) q):D7 Rs (S++[q]) (P++[0]):=by
 refine⟨h.so.snoc l g,by rw[Ai,Ai,h.pl];rfl,λR hR=>?_,h.pr,h.rb,λe x hx=>?_⟩
 .obtain⟨e,e1,e2,e3,e4,e5⟩:=h.ah R hR;have:=h.pl;refine⟨e,e1,by rw[Ai];lia,?_,?_,?_⟩
  .rw[EA e2];exact e3
  .rw[EA (by lia)];exact e4
  .rw[Mn (by lia)];exact e5
 .rcases CG.mp hx with hx|hx
  .exact h.z0 e x hx
  .exact Dm.mp hx
theorem Ph {P:List Int}{x:Int}{a:Int}{e:Nat}(he:e<=P.length)(h:a<(P++[x]).getD e 0):a<(P++[x+1]).getD e 0:=by
 rcases Ed e P.length with c|c
 .rw[Mn c]at h ⊢;exact h
 .obtain rfl:e=P.length:=by lia
  rw[Kr]at h ⊢;lia
theorem D7.row {Rs:List R3}{S:List Lp}{P:List Int}{x:Int}{R:R3}(h:D7 Rs S (P++[x]))(hS:R.S=S)(hP:R.path=P++[x])(m:R.m<=30):D7 (Rs++[R]) S (P++[x+1]):=by
 have pl:=h.pl;rw[Ai,Bc]at pl;have rb:RB R:=DD.rb (by rw[hS];exact h.so) (by rw[hS,hP];exact h.pl) m;refine⟨h.so,by rw[Ai,Bc];lia,λR0 hR0=>?_,List.pairwise_append.mpr ⟨h.pr,List.pairwise_singleton _ _,λa ha b hb=>?_⟩,λR0 hR0=>?_,λe=>?_⟩
 .rcases CG.mp hR0 with hR0|hR0
  .obtain⟨e,e1,e2,e3,e4,e5⟩:=h.ah R0 hR0;refine⟨e,e1,e2,e3,?_,Ph (by lia) e5⟩;rw[e4,EA (by lia),EA (by lia)]
  .rw[Dm.mp hR0];refine⟨S.length,by rw[hS];exact Ah _,Ah _,by rw[hS],?_,?_⟩
   .rw[hP,EA (by lia),EA (by lia)]
   .rw[hP];rw[show S.length=P.length from by lia,Kr,Kr];lia
 .rw[Dm.mp hb];obtain⟨e,e1,e2,e3,e4,e5⟩:=h.ah a ha;exact⟨e,e1,by rw[hS];exact e2,by rw[hS];exact e3,by rw[hP];exact e4,by rw[hP];exact e5⟩
 .rcases CG.mp hR0 with hR0|hR0
  .exact h.rb R0 hR0
  .rw[Dm.mp hR0];exact rb
 .have:=congrArg List.length e;rw[Ai]at this;exact absurd this (by simp)
theorem D7.cls {Rs:List R3}{S:List Lp}{P:List Int}{x y:Int}{q:Lp}(h:D7 Rs (S++[q]) (P++[x]++[y]))(ne:Rs≠[]):D7 Rs S (P++[x+1]):=by
 have pl:=h.pl;rw[Ai,Ai,Ai,Bc,Bc,Bc]at pl;refine⟨h.so.init.1,by rw[Ai,Bc];lia,λR hR=>?_,h.pr,h.rb,λe=>absurd e ne⟩;obtain⟨e,e1,e2,e3,e4,e5⟩:=h.ah R hR;rw[Ai,Bc]at e2;rcases Ed e (S.length+1) with c|c
 .refine⟨e,e1,by lia,?_,?_,Ph (x:=x) (by lia) ?_⟩
  .rw[e3,EA (by lia)]
  .rw[e4,D6,EA (by lia),EA (by lia)]
  .rw[Mn (by rw[Ai,Bc];lia)]at e5;exact e5
 .obtain rfl:e=S.length+1:=by lia
  have pS:P.length=S.length:=by lia
  refine⟨S.length,by lia,Ah _,?_,?_,?_⟩
  .have:=congrArg (List.take S.length) e3;rw[MG,MG,Ec (by lia),EA (Ah _)]at this;exact this
  .have:=congrArg (List.take S.length) e4;rw[MG,MG,Ec (by lia),D6,EA (by lia)]at this;rw[EA (by lia)];exact this
  .have:=congrArg (λl:List Int=>l.getD S.length 0) e4;have this:(R.path.take (S.length+1)).getD S.length 0=((P++[x]++[y]).take (S.length+1)).getD S.length 0:=this;rw[Bj,Bj,Jn,Jn,Ay (by lia),Ay (by lia),←Bj,←Bj,Mn (by rw[Ai,Bc];lia),←pS,Kr]at this;rw[←pS,this,Kr];lia
structure W7 (H:Hp)(st pa ro la:Addr)(Rs:List R3)(S:List Lp)(P:List Int)(sv rv lv:List V):Prop where
 hst:H st=some (.lst sv)
 aS:Am (EZ H) sv S
 hpa:H pa=some (.lst (P.map V.int))
 hro:H ro=some (.lst rv)
 aR:Am (Ew H) rv Rs
 tz:∀R∈Rs,EV H R
 hla:H la=some (.lst lv)
 ll:lv.length=3
 ls:∀v∈lv,IP H v
section
variable {H H':Hp}{st pa ro la:Addr}{Rs:List R3}{S:List Lp}{P:List Int}{sv rv lv:List V}
theorem W7.over (h:W7 H st pa ro la Rs S P sv rv lv)(e:A8 H H'):W7 H' st pa ro la Rs S P sv rv lv:=
 ⟨e _ _ h.hst,h.aS.mono λ_ _ z=>z.over e,e _ _ h.hpa,e _ _ h.hro,h.aR.mono λ_ _ z=>z.tk (A8.tk e),λR hR=>(h.tz R hR).tk (A8.tk e),e _ _ h.hla,h.ll,λv hv=>(h.ls v hv).tk (A8.tk e)⟩
structure N7 (st pa ro la:Addr):Prop where
 a:st≠pa
 b:st≠ro
 c:st≠la
 d:pa≠ro
 e:pa≠la
 f:ro≠la
theorem W7.pst (n:N7 st pa ro la)(h:W7 H st pa ro la Rs S P sv rv lv){sv':List V}{S':List Lp}(g:Am (EZ H) sv' S'):W7 (upd H st (.lst sv')) st pa ro la Rs S' P sv' rv lv:=by
 have k:=TK.upd (o:=.lst sv') h.hst;exact⟨A7,g.mono λ_ _ z=>z.tk k,by rw[Ag (Ne.symm n.a)];exact h.hpa,by rw[Ag (Ne.symm n.b)];exact h.hro,h.aR.mono λ_ _ z=>z.tk k,λR hR=>(h.tz R hR).tk k,by rw[Ag (Ne.symm n.c)];exact h.hla,h.ll,λv hv=>(h.ls v hv).tk k⟩
theorem W7.ppa (n:N7 st pa ro la)(h:W7 H st pa ro la Rs S P sv rv lv){P':List Int}:W7 (upd H pa (.lst (P'.map V.int))) st pa ro la Rs S P' sv rv lv:=by
 have k:=TK.upd (o:=.lst (P'.map V.int)) h.hpa;exact⟨by rw[Ag n.a];exact h.hst,h.aS.mono λ_ _ z=>z.tk k,A7,by rw[Ag (Ne.symm n.d)];exact h.hro,h.aR.mono λ_ _ z=>z.tk k,λR hR=>(h.tz R hR).tk k,by rw[Ag (Ne.symm n.e)];exact h.hla,h.ll,λv hv=>(h.ls v hv).tk k⟩
theorem W7.pro (n:N7 st pa ro la)(h:W7 H st pa ro la Rs S P sv rv lv){r:V}{R:R3}(g:Ew H r R)(t:EV H R):W7 (upd H ro (.lst (rv++[r]))) st pa ro la (Rs++[R]) S P sv (rv++[r]) lv:=by
 have k:=TK.upd (o:=.lst (rv++[r])) h.hro;refine⟨by rw[Ag n.b];exact h.hst,h.aS.mono λ_ _ z=>z.tk k,by rw[Ag n.d];exact h.hpa,A7,(h.aR.mono λ_ _ z=>z.tk k).snoc (g.tk k),λx hx=>?_,by rw[Ag (Ne.symm n.f)];exact h.hla,h.ll,λv hv=>(h.ls v hv).tk k⟩;rcases CG.mp hx with hx|hx
 .exact(h.tz x hx).tk k
 .rw[Dm.mp hx];exact t.tk k
theorem W7.pla (n:N7 st pa ro la)(h:W7 H st pa ro la Rs S P sv rv lv){v:V}{j:Nat}(g:IP H v):W7 (upd H la (.lst (lv.set j v))) st pa ro la Rs S P sv rv (lv.set j v):=by
 have k:=TK.upd (o:=.lst (lv.set j v)) h.hla;refine⟨by rw[Ag n.c];exact h.hst,h.aS.mono λ_ _ z=>z.tk k,by rw[Ag n.e];exact h.hpa,by rw[Ag n.f];exact h.hro,h.aR.mono λ_ _ z=>z.tk k,λR hR=>(h.tz R hR).tk k,A7,by rw[List.length_set];exact h.ll,λx hx=>?_⟩;rcases List.mem_or_eq_of_mem_set hx with hx|rfl
 .exact(h.ls x hx).tk k
 .exact g.tk k
def Kq (st pa ro la:Addr)(H H':Hp):Prop := ∀b o,H b=some o->b≠st->b≠pa->b≠ro->b≠la->H' b=some o
theorem Kq.same {H'':Hp}(h:Kq st pa ro la H H')(e:A8 H' H''):Kq st pa ro la H H'':=λb o hb a1 a2 a3 a4=>e _ _ (h b o hb a1 a2 a3 a4)
theorem Kq.put (h:Kq st pa ro la H H'){x:Addr}{u:HO}(c:x=st\/x=pa\/x=ro\/x=la):Kq st pa ro la H (upd H' x u):=λb o hb a1 a2 a3 a4=>by
 rw[Ag (show b≠x from by rcases c with rfl|rfl|rfl|rfl<;>assumption)];exact h b o hb a1 a2 a3 a4
end
theorem Sm {P:List Int}{x y:Int}:((P++[x]).map V.int).set P.length (.int y)=(P++[y]).map V.int:=by
 rw[Bv,Bv,List.set_append_right _ _ (by rw[Af];exact Ah _),Af,DO];rfl
theorem Qw {P:List Int}{x:Int}:DJ ((P++[x]).map V.int).length (-1)=some P.length:=by
 rw[Af,Ai,Bc];unfold DJ;rw[AB (by decide),Ay (by lia)];congr 1;lia
theorem Rc {tt:TT}{ta tb:TS}{D:Do}{σ:St}{H:Hp}(M:Hp->Prop)(hb:∀H',M H'->tb D σ H')(h:(∀H',M H'->tb D σ H')->GE tt ta tb D σ H):GE tt ta tb D σ H:=h hb
theorem X6 {α:Type}{R:V->α->Prop}{xs:List V}{as:List α}{a:α}(h:Am R xs (as++[a])):∃ys x,xs=ys++[x]/\Am R ys as/\R x a:=by
 have hl:=h.1;rw[Ai,Bc]at hl;obtain⟨ys,x,rfl,yl⟩:=Gs hl;refine⟨ys,x,rfl,⟨yl,λi y b hy hb=>h.2 i y b ?_ ?_⟩,h.2 as.length x a ?_ ?_⟩
 .rw[Cw (Aw.mp hy).1];exact hy
 .rw[Cw (Aw.mp hb).1];exact hb
 .rw[←yl,Cg (Ah _),DO];rfl
 .rw[Cg (Ah _),DO];rfl
def Ym (c:Cs):Sp:=λvs H Q _=>∃(u:Addr) (rv:List V) (rs:CS),vs=[.ref u]/\H u=some (.tup rv)/\Am (IH H) rv rs/\rs.length<=29/\∀(x:V) (H':Hp),A8 H H'->CK c H' (rs.length+1) x rs->Q x H'
def XE (CP C:Addr)(c:Cs):Sp:=λvs H Q _=>∃(l:Addr) (xs:List V) (Rs:List R3),vs=[.ref l]/\H l=some (.lst xs)/\Am (Ew H) xs Rs/\Rs.length<=6/\(∀R∈Rs,R.m<=30)/\∀(x dx dl:Addr) (ys:List V) (H':Hp),A8 H H'->H' x=some (.ins CP dx [("size",.int 1000003),("deeds",.ref dl)])->H dl=none->H' dl=some (.lst ys)->Am (CW c C H') ys Rs->Q (.ref x) H'
def bI:Sp:=λvs H Q _=>∃(x y:V) (R R':R3) (s:Nat),vs=[x,y]/\Ew H x R/\Ew H y R'/\RB R/\RB R'/\Pl R R' s/\∀H',A8 H H'->Q (.int (s:Int)) H'
theorem MB.min7:MB (λxs H Q=>∃i j:Int,xs=[V.int i,V.int j]/\Q (V.int (if j<i then j else i)) H):=λvs H Q Q' hq zz=>by obtain⟨i,j,a,b⟩:=zz;exact⟨i,j,a,hq _ _ b⟩
theorem ME.sl7 {to a:TE}(h:ME to)(g:ME a):ME (QJ RY to P5 (Po a)):=fun σ H Q Q' hq k=>h _ _ _ _ (λx H1 k1=>g _ _ _ _ (λy H2 ⟨i,e,p,xs,a1,a2,a3⟩=>⟨i,e,p,xs,a1,a2,λp' H' s t=>hq _ _ (a3 p' H' s t)⟩) k1) k
theorem Yd {K:Faa}{H:Hp}{x y:Addr}{A B:List Int}{Q:VK}(hx:H x=some (.tup (A.map V.int)))(hy:H y=some (.tup (B.map V.int)))(h:Q (.bl (decide (A=B))) H):FB K false (.ref x) (.ref y) H Q:=by
 refine⟨.tup (A.map λi=>Tr.v (.int i)),.tup (B.map λi=>Tr.v (.int i)),.tup (A4.of hx) (Hk _),.tup (A4.of hy) (Hk _),⟨_,rfl⟩,⟨_,rfl⟩,?_,by rw[C3,LY];decide,?_⟩
 .rw[Ct];exact RC A B
 .show Q (.bl (C5 _ _)) H;rw[C5,Sg];exact h
theorem Xa {R R':R3}{s i:Nat}(p:R.path.length=R.S.length+1)(p':R'.path.length=R'.S.length+1)(h:Pl R R' s)(hi:i<=s):(R.path.take (i+1)=R'.path.take (i+1))↔i<s:=by
 obtain⟨h1,h2,h3,h4⟩:=h;have gt:∀{l:List Int} {j:Nat},j<=i->(l.take (i+1)).getD j 0=l.getD j 0:=fun{l j} hj=>by
  rw[Bj,Bj,Jn,Ay (by lia)]
 constructor
 .intro e;rcases Ed i s with c|c
  .exact c
  .obtain rfl:i=s:=by lia
   have:=congrArg (λl:List Int=>l.getD i 0) e;have this:(R.path.take (i+1)).getD i 0=(R'.path.take (i+1)).getD i 0:=this;rw[gt (Ah _),gt (Ah _)]at this;lia
 .intro c;refine List.ext_getElem (by rw[BQ,BQ];lia) λj a b=>?_;rw[BQ]at a b;have:=h3 j (by lia);rw[List.getElem_take,List.getElem_take];rw[Bj,Bj,AE (by lia),AE (by lia)]at this;exact this
def ID (H:Hp)(x:V)(b:B6):Prop := ∃t w p,x = .ref t/\H t=some (.lst [.int b.k,.int (b.sh:Int),.ref w,.ref p])/\JK H w b.ways/\Kb H p b.pl
theorem ID.over {H H':Hp}{x:V}{b:B6}(h:ID H x b)(e:A8 H H'):ID H' x b:=by obtain⟨t,w,p,a,b,c,d⟩:=h;exact⟨t,w,p,a,e _ _ b,c.over e,d.over e⟩
def So (H:Hp)(l:Addr)(B:List B6):Prop := ∃xs,H l=some (.lst xs)/\Am (ID H) xs B
theorem Zi {H:Hp}{bo t w p:Addr}{ys:List V}{b:B6}(hb:H bo=some (.lst ys))(nt:t≠bo)(nw:w≠bo)(np:p≠bo)(h:H t=some (.lst [.int b.k,.int (b.sh:Int),.ref w,.ref p]))(hw:JK H w b.ways)(hp:Kb H p b.pl):ID (wo H bo) (.ref t) b:=by
 obtain⟨xs,h1,a1⟩:=hw;obtain⟨zs,h2,a2⟩:=hp;refine⟨t,w,p,rfl,by rw[E8 nt];exact h,⟨xs,by rw[E8 nw];exact h1,a1.mono λ_ _ z=>?_⟩,⟨zs,by rw[E8 np];exact h2,a2.mono λ_ _ z=>?_⟩⟩
 .obtain⟨u,e,hu⟩:=z;exact⟨u,e,by rw[E8 (λc=>by rw[c,hb]at hu;cases hu)];exact hu⟩
 .obtain⟨u,e,hu⟩:=z;exact⟨u,e,by rw[E8 (λc=>by rw[c,hb]at hu;cases hu)];exact hu⟩
def Rp (n:Nat):Sp:=λvs H Q _=>∃(l:Addr) (d m:Nat) (B:List B6),vs=[.ref l,.int (d:Int)]/\So H l B/\FT B d m/\m<n/\d+m<=10/\∀(r:Addr) (H':Hp) (f:B8),A8 H H'->DS H' r f->Fo.Is f B d->Q (.ref r) H'
def Vf:Sp:=λvs H Q _=>∃(l:Addr) (xs:List V) (Rs:List R3) (sh:Nat->Nat),vs=[.ref l]/\H l=some (.lst xs)/\Am (Ew H) xs Rs/\Cm Rs sh/\∀(r:Addr) (H':Hp),A8 H H'->So H' r (B7 Rs sh)->Q (.ref r) H'
def Zc:Sp:=λvs H Q _=>∃(v r:Addr) (ys:List V),vs=[.ref v]/\H v=some (.tup [.str "good",.ref r])/\H r=some (.lst ys)/\∀H',A8 H H'->Q (.bl true) H'
theorem Dz {t u:TS}{D:Do}{σ:St}{H:Hp}(ht:∀N:St->Hp->Prop,N=u D->t {D with nx:=N} σ H):FF t u D σ H:=ht _ rfl
theorem Ak {G:Prop}(h:∀G':Prop,(G->G')->G'):G:=h G id
def vO (Q:V->Prop):Option V->Prop
 |some v=>Q v
 |none=>False
def O6:St->Nat->(V->Prop)->Prop
 |[],_,_=>False
 |x::_,0,Q=>vO Q x
 |_::l,n+1,Q=>O6 l n Q
theorem P9:∀{σ:St} {i:Nat} {Q:V->Prop},O6 σ i Q->∃v,σ[i]?=some (some v)/\Q v
 |[],_,_,h=>h.elim
 |some v::_,0,_,h=>⟨v,rfl,h⟩
 |none::_,0,_,h=>h.elim
 |_::l,n+1,Q,h=>P9 (σ:=l) (i:=n) (Q:=Q) h
def tV (i:Nat)(σ:St)(H:Hp)(Q:VK):Prop:=O6 σ i λv=>Q v H
theorem pw {X:Cx}(i:Nat){x:Str}{pos:Pos}(hN:X.N[i]?=some x:=by rfl)(hv:J3 X.env.scope x:=by first|exact Or.inl rfl|exact Or.inr (.inl rfl)|exact Or.inr (.inr rfl))(hd:(x==("__debug__":Str))=false:=by decide)
 (hcd:(x==("__classdict__":Str))=false:=by decide):PE X (.Name x pos) (tV i):=λpins s σ H Q I h=>pv i hN hv hd hcd pins s σ H Q I (P9 h)
def Zg (g:Int->Int->V)(x y:V)(H:Hp)(Q:VK):Prop:=match x,y with
 |.int i,.int j=>Q (g i j) H
 |_,_=>False
def rJ (C:Int->Int->Prop)(g:Int->Int->V)(x y:V)(H:Hp)(Q:VK):Prop:=match x,y with
 |.int i,.int j=>C i j/\Q (g i j) H
 |_,_=>False
theorem Bi {X:Cx}{f:Value->Value->Sem Value}{g:Int->Int->V}(h:BI X f (Gd g)):BI X f (Zg g):=λpins s σ H x y v u Q I rx ry k=>h pins s σ H x y v u Q I rx ry (by
 cases x<;>first|exact k.elim|(cases y<;>first|exact k.elim|exact⟨_,_,rfl,rfl,k⟩))
theorem oJ {X:Cx}{f:Value->Value->Sem Value}{C:Int->Int->Prop}{g:Int->Int->V}(h:BI X f (rI C g)):BI X f (rJ C g):=λpins s σ H x y v u Q I rx ry k=>h pins s σ H x y v u Q I rx ry (by
 cases x<;>first|exact k.elim|(cases y<;>first|exact k.elim|exact⟨_,_,rfl,rfl,k⟩))
def gC (t:TG)(u:G9)(vs:List V)(σ:St)(H:Hp)(Q:St->Hp->Prop):Prop:=match vs with
 |v::r=>t v σ H fun σ' H'=>u r σ' H' Q
 |[]=>False
theorem B4 {X:Cx}{e:Expr}{es:List Expr}{t:TG}{u:G9}(h1:PG X e t)(h2:Jg X es u)
  (hs:(assignEach (e::es) X.env).map (·.2)=assign e X.env::(assignEach es X.env).map (·.2):=by rfl):Jg X (e::es) (gC t u):=λpins s σ H vs us Q I r h=>Np h1 h2 hs pins s σ H vs us Q I r (by
 cases vs with
 |nil=>exact h.elim
 |cons v l=>exact⟨v,l,rfl,h⟩)
theorem Jh {l:List V}{n:Nat}(h:l.length=n+1):∃a m,l=a::m/\m.length=n:=by
 cases l with
 |nil=>cases h
 |cons a m=>exact⟨a,m,rfl,OK h⟩
theorem WE {A:Around}{s:Shared}(p:Addr):SeqAt.EqAt A s (.ref p) (.ref p) true:=λprog w E Q h=>by
 unfold eqBool;refine KC ?_;refine wpAny_ite_split (λ_=>?_) (λc=>absurd (Tb _) c);exact As (wpAny_rule (AV h))
def V9 (K:Faa):R2:=λx y H Q=>∃(p q:Addr) (xs:List V),x = .ref p/\y = .ref q/\A3 K H p xs/\A3 K H q xs/\(∀v∈xs,∃r,v = .ref r)/\Q (.bl false) H
theorem Xo {X:Cx}(hu:X.A.units+64<cLine):BI X (compareOp .NotEq) (V9 X.K):=by
 intro pins s σ H x y v u Q I rx ry h;obtain⟨p,q,xs,rfl,rfl,hp,hq,hx,q'⟩:=h;cases rx;cases ry;obtain⟨its,rv,pl,_⟩:=I.list hp;obtain⟨jts,rv',pl',_⟩:=I.list hq;have l3:=rv.length;have l4:=rv'.length;have b:=SeqAt.RcNeAt.lists (A:=X.A) (e:=λ_=>true) pl.isList pl'.isList (by rw[AZ,AZ];lia) (by lia) (λj h1 h2=>by
  rw[AZ]at h1 h2;have hj:xs[j]?=some xs[j]:=AE (by lia);obtain⟨r,hr⟩:=hx _ (B0 hj);rw[hr]at hj;obtain⟨u,hu,ru⟩:=rv.get hj;obtain⟨v,hv,rw'⟩:=rv'.get hj;cases ru;cases rw';have e1:its.toArray[j] = .ref r:=by
   have:=AE (l:=its) (i:=j) h1;rw[hu]at this;simpa using this.symm
  have e2:jts.toArray[j] = .ref r:=by
   have:=AE (l:=jts) (i:=j) h2;rw[hv]at this;simpa using this.symm
  rw[e1,e2];exact WE r)
 rw[show(List.range its.toArray.size).all (λ_=>true)=true from Ij.mpr λ_ _=>rfl]at b;exact b X.prog X.w X.xe _ ⟨.bl _,H,I,rfl,q'⟩
theorem YB {Rs:List R3}(n6:Rs.length<=6)(rb:∀R∈Rs,RB R)(par:Rs.Pairwise Hs):∃sh,Cm Rs sh:=by
 have ex:∀k,∃e,∀R R',Rs[k]?=some R->Rs[k+1]?=some R'->Pl R R' e:=λk=>by
  by_cases hk:k+1<Rs.length
  .have h1:Rs[k]?=some (Rs[k]'(by lia)):=AE (by lia);have h2:Rs[k+1]?=some (Rs[k+1]'hk):=AE hk;obtain⟨e,he⟩:=(MH.mp par k (k+1) (by lia) hk (Ig _)).pl;exact⟨e,λR R' a b=>by rw[h1]at a;rw[h2]at b;cases a;cases b;exact he⟩
  .exact⟨0,λR R' _ b=>absurd (Aw.mp b).1 hk⟩
 exact⟨λk=>match k with|0=>0|k+1=>(ex k).choose,n6,rb,par,rfl,λk=>(ex k).choose_spec⟩
theorem Px {Rs:List R3}{sh:Nat->Nat}(h:Cm Rs sh):FT (B7 Rs sh) 0 3:=by
 have f:=FT.of h.good.1;refine⟨f.ok,f.sh,f.lo,λb hb=>?_,f.pl,f.len⟩;obtain⟨k,hb⟩:=ES.mp hb;obtain⟨hk,rfl⟩:=FR hb;have:=(h.get hk).2.len;rw[show(Fo.ownB ("up":Str) (BP (Rs.map R3.dw)) sh k).ways.length=BP (Rs.map R3.dw) k from DB,m7 (h.get hk).1];lia
theorem QU {f:B8}{B:List B6}(hI:Fo.Is f B 0)(hF:FT B 0 3):C3 (.tup (Du f))<=60:=by
 have d:=Hz f B 0 3 hI hF.hi;have n:=Kh f;rw[C3];lia
theorem bj {H:Hp}{v:V}{R:R3}(o:RB R)(h:Ew H v R):R.r5.Ok:=by
 obtain⟨r,u1,u2,u3,u4,u5,ls,hs,rs,a,b,c,d,f,g,i,j,k,l,m⟩:=h;exact⟨o.len,o.pl,o.m3,by show R.rs.length<=R.m;lia⟩
theorem Pg {H:Hp}{Rs:List R3}(rb:∀R∈Rs,RB R)(tz:∀R∈Rs,EV H R):∃Df,Iw H Rs Df:=by
 have ex:∀q:Pm.Q4,∃D,q∈Pm.mt (Ca (Rs.map R3.r5))->Qr H Rs q D:=λq=>by
  by_cases hq:q∈Pm.mt (Ca (Rs.map R3.r5))
  .obtain⟨R,r,R',r',a,b,c,d,e⟩:=Xf hq;obtain⟨D,s1,s2,cd,_,_⟩:=UD (M:=M7) (λa b=>M7.one a b) (rb R (B0 a)) (rb R' (B0 c)) (tz R (B0 a) r (B0 b)) (tz R' (B0 c) r' (B0 d)) e;exact⟨D,λ_=>⟨R,R',r,r',a,b,c,d,s1,s2,cd⟩⟩
  .exact⟨⟨0,0,λ_=>0,λ_=>0,λ_=>0,λ_=>0,λ_=>"",λ_=>"",λ_=>0,λ_=>0,λ_=>0,λ_=>0⟩,λh=>absurd h hq⟩
 exact⟨λq=>(ex q).choose,λq hq=>(ex q).choose_spec hq⟩
def M3 (p:Pp):Tr:=.tup [.v (.int (p.1.1.1:Int)),.v (.int (p.1.1.2.1:Int)),.v (.int (p.1.1.2.2.1:Int)),.v (.int (p.1.1.2.2.2:Int)),.v (.int (p.1.2:Int)),.v (.int (p.2.1.1:Int)),.v (.str p.2.1.2),.lst (p.2.2.map Ku)]
theorem Nr {K:Faa}{H:Hp}:∀{ys:List V} {L:List Pp},Am (Ga H) ys L->Cj K H ys (L.map M3)
 |[],[],_=>.nil
 |[],q::L,h=>by have:=h.1;cases this
 |y::ys,[],h=>by have:=h.1;cases this
 |
  y::ys,q::L,h=>by
  obtain⟨t,r,zs,rfl,ht,hr,ha⟩:=h.2 0 y q rfl rfl;exact .cons (.tup (A4.of ht) (.cons (.flat rfl) (.cons (.flat rfl) (.cons (.flat rfl) (.cons (.flat rfl) (.cons (.flat rfl) (.cons (.flat rfl) (.cons (.flat rfl) (.cons (.lst (A3.of hr) (Qf ha)) .nil))))))))) (Nr ⟨OK h.1,λi x a p q=>h.2 (i+1) x a (by simpa using p) (by simpa using q)⟩)
theorem Rh:∀L:List Pp,CB (L.map M3)<=6
 |[]=>by rw[Gf,CB];exact Bh _
 |
  q::L=>by
  rw[Cf,CB];have h1:=Rh L;have h2:=RE q.2.2;have h3:C3 (M3 q)<=6:=by
   unfold M3;simp only[C3,CB];lia
  lia
theorem JJ {x y z k:Int}(h:k=0\/k=1\/k=2):∃n:Int,B1 [V.int x,V.int y,V.int z] k=some (V.int n)/\(n=x\/n=y\/n=z):=by
 rcases h with rfl|rfl|rfl
 .exact⟨x,rfl,.inl rfl⟩
 .exact⟨y,rfl,.inr (.inl rfl)⟩
 .exact⟨z,rfl,.inr (.inr rfl)⟩
theorem GX {k:Int}(h0:0<=k)(h1:k<2):∃n:Int,B1 [V.int 1,V.int (-1)] k=some (V.int n)/\-1<=n/\n<=1:=by
 have:k=0\/k=1:=by lia
 rcases this with rfl|rfl
 .exact⟨1,rfl,by decide,by decide⟩
 .exact⟨-1,rfl,by decide,by decide⟩
theorem NI {k:Int}(h0:0<=k)(h1:k<4):∃n:Int,B1 [V.int 1,V.int 2,V.int 2,V.int 3] k=some (V.int n)/\1<=n/\n<=3:=by
 have:k=0\/k=1\/k=2\/k=3:=by lia
 rcases this with rfl|rfl|rfl|rfl
 .exact⟨1,rfl,by decide,by decide⟩
 .exact⟨2,rfl,by decide,by decide⟩
 .exact⟨2,rfl,by decide,by decide⟩
 .exact⟨3,rfl,by decide,by decide⟩
theorem NO {k:Int}(h0:0<=k)(h1:k<5):∃n:Int,B1 [V.int 0,V.int 1,V.int 2,V.int 0,V.int 0] k=some (V.int n)/\(n=0\/n=1\/n=2):=by
 have:k=0\/k=1\/k=2\/k=3\/k=4:=by lia
 rcases this with rfl|rfl|rfl|rfl|rfl
 .exact⟨0,rfl,.inl rfl⟩
 .exact⟨1,rfl,.inr (.inl rfl)⟩
 .exact⟨2,rfl,.inr (.inr rfl)⟩
 .exact⟨0,rfl,.inl rfl⟩
 .exact⟨0,rfl,.inl rfl⟩
end L2
namespace Fw
open PySem L2 Bd
def AY (i:Nat):Stmt:=PySem.Challenge.pw_furrow_k76_own_plan_is_good.main.body.getD i (.Pass ⟨0,0,0,0⟩)
abbrev L7:Stmt:=Gr (AY 3) 0
abbrev LU:Stmt:=Gr (AY 4) 0
abbrev LM:Stmt:=Gr (AY 5) 0
abbrev Lj:Stmt:=Gr (AY 3) 2
abbrev LK:Stmt:=Gr (AY 4) 2
abbrev KZ:Stmt:=Gr (AY 5) 2
abbrev LN:Stmt:=Gr (AY 7) 0
abbrev KS:Stmt:=Gr (AY 8) 0
abbrev KY:Stmt:=AY 9
abbrev KI:Stmt:=AY 10
abbrev Mf:Stmt:=AY 11
abbrev Mi:Stmt:=AY 12
abbrev Mm:Stmt:=AY 13
abbrev Ja:Stmt:=AY 17
abbrev KE:Stmt:=AY 18
abbrev JT:Stmt:=AY 19
abbrev K9:Stmt:=AY 20
abbrev LL:Stmt:=AY 21
abbrev Js:Stmt:=AY 22
abbrev LR:Stmt:=AY 25
abbrev KD:Stmt:=AY 26
abbrev Li:Stmt:=AY 29
abbrev Lv:Stmt:=AY 30
abbrev JB:Stmt:=AY 36
abbrev Ma:Stmt:=AY 37
abbrev KM:Stmt:=AY 38
abbrev Kk:Stmt:=AY 40
abbrev KO:Stmt:=AY 41
abbrev Mt:Stmt:=AY 42
abbrev LZ:Stmt:=AY 43
abbrev L4:Stmt:=AY 45
abbrev Lk:Stmt:=AY 46
abbrev Mv:Stmt:=AY 47
abbrev LH:Stmt:=AY 48
abbrev M9:Stmt:=AY 49
abbrev Mu:Stmt:=AY 50
abbrev K8:Stmt:=AY 51
abbrev Lr:Stmt:=AY 63
abbrev LB:Stmt:=AY 66
abbrev LW:Stmt:=AY 67
abbrev L9:Stmt:=AY 68
abbrev Lb:Stmt:=AY 69
abbrev Ln:Stmt:=AY 70
abbrev Hl:Stmt:=AY 71
abbrev Ki:Stmt:=AY 72
abbrev L3:Stmt:=AY 73
abbrev KR:Stmt:=AY 74
abbrev Lu:Stmt:=AY 75
abbrev Mb:Stmt:=AY 76
abbrev Kj:Stmt:=AY 77
abbrev LF:Stmt:=AY 78
abbrev Km:Stmt:=AY 79
theorem AW {N P:List Str}{sc:Scope}(a:sc.kind = .function:=by rfl)(b:sc.isCoroutine=false:=by rfl)(c:sc.isGenerator=false:=by rfl)(d:N.Nodup:=by decide +kernel)(e:N.take P.length=P:=by rfl)(f:∀x∈P,sc.names.lookup x=some .local\/sc.names.lookup x=some .cell:=by decide +kernel)(g:∀y∈sc.names,y.2≠.free:=by decide +kernel):AO N P sc:=⟨a,b,c,d,e,f,g⟩
theorem UX:AO ["self","n"] ["self","n"] (AC L7):=AW
theorem XM:AO ["self","table","spots"] ["self","table","spots"] (AC LU):=AW
theorem TV:AO ["self","sign","left","right"] ["self","sign","left","right"] (AC LM):=AW
theorem XW:AO ["self"] ["self"] (AC Lj):=AW
theorem UN:AO ["self"] ["self"] (AC LK):=AW
theorem Yb:AO ["self"] ["self"] (AC KZ):=AW
theorem X3:AO ["self","names","lows","highs","table","spots","term","path"] ["self","names","lows","highs","table","spots","term","path"] (AC LN):=AW
theorem Y2:AO ["self","size","deeds"] ["self","size","deeds"] (AC KS):=AW
theorem TB:AO ["one","other"] ["one","other"] (AC KY):=AW
theorem Su:AO ["path","other","most","e"] ["path","other","most"] (AC KI):=AW
theorem Ui:AO ["deeds"] ["deeds"] (AC Mf):=AW
theorem Mp:AO ["deeds","numbers","depth","items","group","k"] ["deeds","numbers","depth"] (AC Mi):=AW
theorem NY:AO ["deeds","numbers","depth","groups","k"] ["deeds","numbers","depth"] (AC Mm):=AW
theorem Rg:AO ["program","plan","stood"] ["program","plan"] (AC Ja):=AW
theorem Ft:AO ["items","path","cuts","found","number","item","here"] ["items","path","cuts"] (AC KE):=AW
theorem Vt:AO ["items"] ["items"] (AC JT):=AW
theorem Jw:AO ["deed","places","cuts","many","loop","shift","whole"] ["deed","places","cuts"] (AC K9):=AW
theorem aA:AO ["program"] ["program"] (AC LL):=AW
theorem Ml:AO ["deeds","items","found","k","inner"] ["deeds","items"] (AC Js):=AW
theorem JA:AO ["plan","k","number","places","path","cuts"] ["plan","k"] (AC LR):=AW
theorem Gv:AO ["plan","k","l","one","other","found","items","level","item"] ["plan","k","l"] (AC KD):=AW
theorem IJ:AO ["program","plan","k","l","both","found","level","sweep","side"] ["program","plan","k","l"] (AC Li):=AW
theorem GI:AO ["program","plan","k","l","level","side","behind","bonds","number","sweep","u","w","above"] ["program","plan","k","l","level","side"] (AC Lv):=AW
theorem J6:AO ["count","bonds","values","lowered_by","lowered","lap"] ["count","bonds"] (AC JB):=AW
theorem IT:AO ["bonds","values","lowered_by","lowered","number","bond","top"] ["bonds","values","lowered_by"] (AC Ma):=AW
theorem Hi:AO ["count","bonds","lowered_by","lowered","start","lap","ring","at"] ["count","bonds","lowered_by","lowered"] (AC KM):=AW
theorem Py:AO ["deed","reads"] ["deed"] (AC Kk):=AW
theorem JZ:AO ["deed","first","bonds","e","low","high"] ["deed","first"] (AC KO):=AW
theorem II:AO ["spots","names","first","others","other_names","other_first","bonds","spot","other","u","w"] ["spots","names","first","others","other_names","other_first"] (AC Mt):=AW
theorem UM:AO ["spot","names","first"] ["spot","names","first"] (AC LZ):=AW
theorem FX:AO ["program","touched","found","k","a","touch","l","b","other"] ["program"] (AC L4):=AW
theorem J0:AO ["program","found","k","deed","a","touch"] ["program"] (AC Lk):=AW
theorem Nl:AO ["program","k","l","many"] ["program","k","l"] (AC Mv):=AW
theorem GZ:AO ["program","k","a","l","b","case","one","other","behind","spots","others","bonds"] ["program","k","a","l","b","case"] (AC LH):=AW
theorem On:AO ["many","case","behind","bonds","e"] ["many","case","behind"] (AC M9):=AW
theorem Ht:AO ["program","found","k","a","l","b","case"] ["program"] (AC Mu):=AW
theorem Nf:AO ["program","k","l","bonds","behind","answer"] ["program","k","l","bonds"] (AC K8):=AW
theorem Er:AO ["program","plan","rings","k","a","l","b","case","bonds","answer","bare","level","side"] ["program","plan"] (AC Lr):=AW
theorem Ub:AO ["_law_script","_law_k"] ["_law_script","_law_k"] (AC LB):=AW
theorem Qv:AO ["_law_cell","_law_k","_law_number"] ["_law_cell","_law_k"] (AC LW):=AW
theorem P4:AO ["_law_names","_law_q","_law_far","_law_n"] ["_law_names","_law_q","_law_far"] (AC L9):=AW
theorem Q0:AO ["_law_names","_law_q","_law_far","_law_spots"] ["_law_names","_law_q","_law_far"] (AC Lb):=AW
theorem Gn:AO ["_law_names","_law_q","_law_far","_law_turn","_law_last","_law_letter","_law_name","_law_low","_law_high"] ["_law_names","_law_q","_law_far","_law_turn","_law_last"] (AC Ln):=AW
theorem HV:AO ["_law_stack","_law_path","_law_cell","_law_far","_law_limit","_law_names","_law_reads","_law_k","_law_own","_law_lows","_law_highs"] ["_law_stack","_law_path","_law_cell","_law_far","_law_limit"] (AC Hl):=AW
theorem Gx:AO ["_law_cells","_law_limit","_law_deep","_law_far","_law_stack","_law_path","_law_rows_here","_law_last","_law_cell","_law_q","_law_depth"] ["_law_cells","_law_limit","_law_deep","_law_far"] (AC Ki):=AW
theorem M5:AO ["_law_reads","_law_term_here","_law_seen"] ["_law_reads"] (AC L3):=AW
theorem O2:AO ["_law_rows_here","_law_deeds","_law_row_here"] ["_law_rows_here"] (AC KR):=AW
theorem NA:AO ["_law_one","_law_other","_law_e"] ["_law_one","_law_other"] (AC Lu):=AW
theorem Hc:AO ["_law_boughs","_law_depth","_law_items_here","_law_at","_law_upto","_law_way"] ["_law_boughs","_law_depth"] (AC Mb):=AW
theorem IE:AO ["_law_rows_here","_law_boughs","_law_k","_law_depth","_law_share"] ["_law_rows_here"] (AC Kj):=AW
theorem Z5:AO ["_law_found"] ["_law_found"] (AC LF):=AW
theorem DV:AO ["_law_script","_law_far","_law_many","_law_kind","_law_cells","_law_rows_here","_law_program_here","_law_plan","_law_before","_law_told","_law_first","_law_papers","_law_again","_law_fewer"] ["_law_script"] (AC Km):=AW
theorem Wo:Dq (E6 [(".0",.local),("table",.local),("spots",.local)]) (AC Kk)  ["deed","reads"] ["table","spots"] [none,none]=true:=by decide +kernel
theorem RD:(["table","spots"]:List Str).Nodup:=by decide +kernel
theorem WR:Dq (E6 [(".0",.local),("value",.local),("values",.free)]) (AC JB)  ["count","bonds","values","lowered_by","lowered","lap"] ["value","values"] [none,some 2]=true:=by decide +kernel
theorem Yf:(["value","values"]:List Str).Nodup:=by decide +kernel
theorem Vz:Dq (E6 [(".0",.local),("number",.local),("bonds",.free)]) (AC K8)  ["program","k","l","bonds","behind","answer"] ["number","bonds"] [none,some 3]=true:=by decide +kernel
theorem U2:(["number","bonds"]:List Str).Nodup:=by decide +kernel
theorem Y5:Dq (E6 [(".0",.local),("e",.local)]) (AC Js)  ["deeds","items","found","k","inner"] ["e"] [none]=true:=by decide +kernel
theorem aP:(["e"]:List Str).Nodup:=by decide +kernel
theorem Zk:Dq (E6 [(".0",.local),("item",.local),("has_bare_sweep",.globalImplicit)]) (AC JT)  ["items"] ["item"] [none]=true:=by decide +kernel
theorem Zh:(["item"]:List Str).Nodup:=by decide +kernel
theorem U6:Dq (E6 [(".0",.local),("place",.local),("cut",.local)]) (AC K9)  ["deed","places","cuts","many","loop","shift","whole"] ["place","cut"] [none,none]=true:=by decide +kernel
theorem QV:(["place","cut"]:List Str).Nodup:=by decide +kernel
theorem W2:Dq (E6 [(".0",.local),("k",.local),("places",.local),("path",.local),("cuts",.local)]) (AC Ja)  ["program","plan","stood"] ["k","places","path","cuts"] [none,none,none,none]=true:=by decide +kernel
theorem Mo:(["k","places","path","cuts"]:List Str).Nodup:=by decide +kernel
theorem Us:Dq (E6 [(".0",.local),("k",.local),("places",.local),("path",.local),("cuts",.local),("well_placed",.globalImplicit),("program",.free)]) (AC Ja)  ["program","plan","stood"] ["k","places","path","cuts","program"] [none,none,none,none,some 0]=true:=by decide +kernel
theorem LD:(["k","places","path","cuts","program"]:List Str).Nodup:=by decide +kernel
theorem Zv:Dq (E6 [(".0",.local),("_law_one",.local)]) (AC Hl)  ["_law_stack","_law_path","_law_cell","_law_far","_law_limit","_law_names","_law_reads","_law_k","_law_own","_law_lows","_law_highs"] ["_law_one"] [none]=true:=by decide +kernel
theorem aW:(["_law_one"]:List Str).Nodup:=by decide +kernel
theorem WO:Dq (E6 [(".0",.local),("_law_one",.local)]) (AC Hl)  ["_law_stack","_law_path","_law_cell","_law_far","_law_limit","_law_names","_law_reads","_law_k","_law_own","_law_lows","_law_highs"] ["_law_one"] [none]=true:=by decide +kernel
theorem ZK:(["_law_one"]:List Str).Nodup:=by decide +kernel
theorem XS:Dq (E6 [(".0",.local),("_law_one",.local)]) (AC Hl)  ["_law_stack","_law_path","_law_cell","_law_far","_law_limit","_law_names","_law_reads","_law_k","_law_own","_law_lows","_law_highs"] ["_law_one"] [none]=true:=by decide +kernel
theorem ZL:(["_law_one"]:List Str).Nodup:=by decide +kernel
theorem ZX:Dq (E6 [(".0",.local),("_law_one",.local)]) (AC Ki)  ["_law_cells","_law_limit","_law_deep","_law_far","_law_stack","_law_path","_law_rows_here","_law_last","_law_cell","_law_q","_law_depth"] ["_law_one"] [none]=true:=by decide +kernel
theorem Vp:(["_law_one"]:List Str).Nodup:=by decide +kernel
theorem Vb:Dq (E6 [(".0",.local),("_law_e",.local)]) (AC Kj)  ["_law_rows_here","_law_boughs","_law_k","_law_depth","_law_share"] ["_law_e"] [none]=true:=by decide +kernel
theorem Z2:(["_law_e"]:List Str).Nodup:=by decide +kernel
theorem Yk:Dq (E6 [(".0",.local),("_law_k",.local),("_law_cell_at",.globalImplicit),("_law_script",.free)]) (AC Km)  ["_law_script","_law_far","_law_many","_law_kind","_law_cells","_law_rows_here","_law_program_here","_law_plan","_law_before","_law_told","_law_first","_law_papers","_law_again","_law_fewer"] ["_law_k","_law_script"] [none,some 0]=true:=by decide +kernel
theorem Y3:(["_law_k","_law_script"]:List Str).Nodup:=by decide +kernel
structure Bp (K:Faa)(x:Str)(st:Stmt)(f:Addr)(d:FuncData):Prop where
 a:PySem.W.nsIn K mainGlobals x=some (some (.ref f))
 F:AM K x x st f d
structure GH (K:Faa)(C:Addr)(x q:Str)(st:Stmt)(f:Addr)(d:FuncData):Prop where
 a:PySem.W.findIn K (.ref C) x=some (some (.ref f))
 i:PySem.W.isFn K (.ref f)=true
 F:AM K x q st f d
structure ClA (K:Faa)(C:Addr)(x:Str):Prop where
 a:PySem.W.nsIn K mainGlobals x=some (some (.ref C))
 pg:PySem.W.plainGet K C Str.empty=true
 hd:PySem.W.hasDictIn K C=true
 po:PySem.W.plainOver K C=true
 sa:PySem.W.findIn K (.ref C) "__setattr__"=some (some (.builtin "object.__setattr__"))
 mi:PySem.W.makesIn K C=true
 kc:PySem.W.keepIn K (.ref C)=true
abbrev AX (x q:Str)(st:Stmt)(ps:List Str):Prop := ∀(kV doc pm:Value) (an:Option Addr) (cdv ct:Value) (us:List Value),us.length=ps.length->bindArgs (PySem.W.fnOf x q (Jv st) (IW st) (AC st) .none kV doc pm an cdv ct) ⟨us,[]⟩=pure (ps.zip us)
structure Ad where
 f_V:Addr
 d_V:FuncData
 f_W:Addr
 d_W:FuncData
 f_X:Addr
 d_X:FuncData
 f_v:Addr
 d_v:FuncData
 f_w:Addr
 d_w:FuncData
 f_x:Addr
 d_x:FuncData
 f_Y:Addr
 d_Y:FuncData
 f_Z:Addr
 d_Z:FuncData
 f_k:Addr
 d_k:FuncData
 f_l:Addr
 d_l:FuncData
 f_y:Addr
 d_y:FuncData
 f_m:Addr
 d_m:FuncData
 f_z:Addr
 d_z:FuncData
 f_A:Addr
 d_A:FuncData
 f_b:Addr
 d_b:FuncData
 f_n:Addr
 d_n:FuncData
 f_B:Addr
 d_B:FuncData
 f_q:Addr
 d_q:FuncData
 f_o:Addr
 d_o:FuncData
 f_d:Addr
 d_d:FuncData
 f_p:Addr
 d_p:FuncData
 f_C:Addr
 d_C:FuncData
 f_D:Addr
 d_D:FuncData
 f_E:Addr
 d_E:FuncData
 f_F:Addr
 d_F:FuncData
 f_G:Addr
 d_G:FuncData
 f_f:Addr
 d_f:FuncData
 f_r:Addr
 d_r:FuncData
 f_H:Addr
 d_H:FuncData
 f_e:Addr
 d_e:FuncData
 f_I:Addr
 d_I:FuncData
 f_J:Addr
 d_J:FuncData
 f_K:Addr
 d_K:FuncData
 f_L:Addr
 d_L:FuncData
 f_M:Addr
 d_M:FuncData
 f_N:Addr
 d_N:FuncData
 f_s:Addr
 d_s:FuncData
 f_h:Addr
 d_h:FuncData
 f_a:Addr
 d_a:FuncData
 f_c:Addr
 d_c:FuncData
 f_i:Addr
 d_i:FuncData
 f_t:Addr
 d_t:FuncData
 f_O:Addr
 d_O:FuncData
 f_P:Addr
 d_P:FuncData
 f_Q:Addr
 d_Q:FuncData
 f_R:Addr
 d_R:FuncData
 f_S:Addr
 d_S:FuncData
 f_T:Addr
 d_T:FuncData
 f_g:Addr
 d_g:FuncData
 f_u:Addr
 d_u:FuncData
 f_j:Addr
 d_j:FuncData
 f_U:Addr
 d_U:FuncData
 c_Term:Addr
 c_Number:Addr
 c_Cell:Addr
 c_Joined:Addr
 c_Deed:Addr
 c_Program:Addr
 u_MOST_PAIRS:Value
 u_MOST_SHIFT:Value
 u_SIDES:Addr
 u_SIDES0:Addr
 u_SIDES1:Addr
 u_SIDES2:Addr
structure Tx (w:World)(K:Faa)(mg:Str->Option Value)(a:Ad):Prop where
 F_V:AM K "__init__" "Number.__init__" L7 a.f_V a.d_V
 b_V:AL K a.d_V ["self","n"] []
 F_W:AM K "__init__" "Cell.__init__" LU a.f_W a.d_W
 b_W:AL K a.d_W ["self","table","spots"] []
 F_X:AM K "__init__" "Joined.__init__" LM a.f_X a.d_X
 b_X:AL K a.d_X ["self","sign","left","right"] []
 F_v:AM K "reads" "Number.reads" Lj a.f_v a.d_v
 b_v:AL K a.d_v ["self"] []
 F_w:AM K "reads" "Cell.reads" LK a.f_w a.d_w
 b_w:AL K a.d_w ["self"] []
 F_x:AM K "reads" "Joined.reads" KZ a.f_x a.d_x
 b_x:AL K a.d_x ["self"] []
 F_Y:AM K "__init__" "Deed.__init__" LN a.f_Y a.d_Y
 b_Y:AL K a.d_Y ["self","names","lows","highs","table","spots","term","path"] []
 F_Z:AM K "__init__" "Program.__init__" KS a.f_Z a.d_Z
 b_Z:AL K a.d_Z ["self","size","deeds"] []
 F_k:AM K "shared" "shared" KY a.f_k a.d_k
 b_k:AL K a.d_k ["one","other"] []
 m_k:mg "shared"=some (.ref a.f_k)
 F_l:AM K "alike_numbers" "alike_numbers" KI a.f_l a.d_l
 b_l:AL K a.d_l ["path","other","most"] []
 m_l:mg "alike_numbers"=some (.ref a.f_l)
 F_y:AM K "nested" "nested" Mf a.f_y a.d_y
 b_y:AL K a.d_y ["deeds"] []
 m_y:mg "nested"=some (.ref a.f_y)
 F_m:AM K "items_within" "items_within" Mi a.f_m a.d_m
 b_m:AL K a.d_m ["deeds","numbers","depth"] []
 m_m:mg "items_within"=some (.ref a.f_m)
 F_z:AM K "neighbours" "neighbours" Mm a.f_z a.d_z
 b_z:AL K a.d_z ["deeds","numbers","depth"] []
 m_z:mg "neighbours"=some (.ref a.f_z)
 F_A:AM K "fits" "fits" Ja a.f_A a.d_A
 b_A:AL K a.d_A ["program","plan"] []
 m_A:mg "fits"=some (.ref a.f_A)
 F_b:AM K "deeds_within" "deeds_within" KE a.f_b a.d_b
 b_b:AL K a.d_b ["items","path","cuts"] []
 m_b:mg "deeds_within"=some (.ref a.f_b)
 F_n:AM K "has_bare_sweep" "has_bare_sweep" JT a.f_n a.d_n
 b_n:AL K a.d_n ["items"] []
 m_n:mg "has_bare_sweep"=some (.ref a.f_n)
 F_B:AM K "well_placed" "well_placed" K9 a.f_B a.d_B
 b_B:AL K a.d_B ["deed","places","cuts"] []
 m_B:mg "well_placed"=some (.ref a.f_B)
 F_q:AM K "own_plan" "own_plan" LL a.f_q a.d_q
 b_q:AL K a.d_q ["program"] []
 m_q:mg "own_plan"=some (.ref a.f_q)
 F_o:AM K "own_items" "own_items" Js a.f_o a.d_o
 b_o:AL K a.d_o ["deeds","items"] []
 m_o:mg "own_items"=some (.ref a.f_o)
 F_d:AM K "stand" "stand" LR a.f_d a.d_d
 b_d:AL K a.d_d ["plan","k"] []
 m_d:mg "stand"=some (.ref a.f_d)
 F_p:AM K "round_both" "round_both" KD a.f_p a.d_p
 b_p:AL K a.d_p ["plan","k","l"] []
 m_p:mg "round_both"=some (.ref a.f_p)
 F_C:AM K "sides" "sides" Li a.f_C a.d_C
 b_C:AL K a.d_C ["program","plan","k","l"] []
 m_C:mg "sides"=some (.ref a.f_C)
 F_D:AM K "side_bonds" "side_bonds" Lv a.f_D a.d_D
 b_D:AL K a.d_D ["program","plan","k","l","level","side"] []
 m_D:mg "side_bonds"=some (.ref a.f_D)
 F_E:AM K "settled" "settled" JB a.f_E a.d_E
 b_E:AL K a.d_E ["count","bonds"] []
 m_E:mg "settled"=some (.ref a.f_E)
 F_F:AM K "lowered_in_a_round" "lowered_in_a_round" Ma a.f_F a.d_F
 b_F:AL K a.d_F ["bonds","values","lowered_by"] []
 m_F:mg "lowered_in_a_round"=some (.ref a.f_F)
 F_G:AM K "ring_behind" "ring_behind" KM a.f_G a.d_G
 b_G:AL K a.d_G ["count","bonds","lowered_by","lowered"] []
 m_G:mg "ring_behind"=some (.ref a.f_G)
 F_f:AM K "touches" "touches" Kk a.f_f a.d_f
 b_f:AL K a.d_f ["deed"] []
 m_f:mg "touches"=some (.ref a.f_f)
 F_r:AM K "loop_bonds" "loop_bonds" KO a.f_r a.d_r
 b_r:AL K a.d_r ["deed","first"] []
 m_r:mg "loop_bonds"=some (.ref a.f_r)
 F_H:AM K "like_bonds" "like_bonds" Mt a.f_H a.d_H
 b_H:AL K a.d_H ["spots","names","first","others","other_names","other_first"] []
 m_H:mg "like_bonds"=some (.ref a.f_H)
 F_e:AM K "unknown_of" "unknown_of" LZ a.f_e a.d_e
 b_e:AL K a.d_e ["spot","names","first"] []
 m_e:mg "unknown_of"=some (.ref a.f_e)
 F_I:AM K "meets" "meets" L4 a.f_I a.d_I
 b_I:AL K a.d_I ["program"] []
 m_I:mg "meets"=some (.ref a.f_I)
 F_J:AM K "all_touches" "all_touches" Lk a.f_J a.d_J
 b_J:AL K a.d_J ["program"] []
 m_J:mg "all_touches"=some (.ref a.f_J)
 F_K:AM K "cases" "cases" Mv a.f_K a.d_K
 b_K:AL K a.d_K ["program","k","l"] []
 m_K:mg "cases"=some (.ref a.f_K)
 F_L:AM K "case_bonds" "case_bonds" LH a.f_L a.d_L
 b_L:AL K a.d_L ["program","k","a","l","b","case"] []
 m_L:mg "case_bonds"=some (.ref a.f_L)
 F_M:AM K "order_bonds" "order_bonds" M9 a.f_M a.d_M
 b_M:AL K a.d_M ["many","case","behind"] []
 m_M:mg "order_bonds"=some (.ref a.f_M)
 F_N:AM K "cases_met" "cases_met" Mu a.f_N a.d_N
 b_N:AL K a.d_N ["program"] []
 m_N:mg "cases_met"=some (.ref a.f_N)
 F_s:AM K "answer_of" "answer_of" K8 a.f_s a.d_s
 b_s:AL K a.d_s ["program","k","l","bonds"] []
 m_s:mg "answer_of"=some (.ref a.f_s)
 F_h:AM K "looked" "looked" Lr a.f_h a.d_h
 b_h:AL K a.d_h ["program","plan"] []
 m_h:mg "looked"=some (.ref a.f_h)
 F_a:AM K "_law_cell_at" "_law_cell_at" LB a.f_a a.d_a
 b_a:AL K a.d_a ["_law_script","_law_k"] []
 m_a:mg "_law_cell_at"=some (.ref a.f_a)
 F_c:AM K "_law_mixed" "_law_mixed" LW a.f_c a.d_c
 b_c:AL K a.d_c ["_law_cell","_law_k"] []
 m_c:mg "_law_mixed"=some (.ref a.f_c)
 F_i:AM K "_law_spot" "_law_spot" L9 a.f_i a.d_i
 b_i:AL K a.d_i ["_law_names","_law_q","_law_far"] []
 m_i:mg "_law_spot"=some (.ref a.f_i)
 F_t:AM K "_law_touch" "_law_touch" Lb a.f_t a.d_t
 b_t:AL K a.d_t ["_law_names","_law_q","_law_far"] []
 m_t:mg "_law_touch"=some (.ref a.f_t)
 F_O:AM K "_law_loop" "_law_loop" Ln a.f_O a.d_O
 b_O:AL K a.d_O ["_law_names","_law_q","_law_far","_law_turn","_law_last"] []
 m_O:mg "_law_loop"=some (.ref a.f_O)
 F_P:AM K "_law_row" "_law_row" Hl a.f_P a.d_P
 b_P:AL K a.d_P ["_law_stack","_law_path","_law_cell","_law_far","_law_limit"] []
 m_P:mg "_law_row"=some (.ref a.f_P)
 F_Q:AM K "_law_rows" "_law_rows" Ki a.f_Q a.d_Q
 b_Q:AL K a.d_Q ["_law_cells","_law_limit","_law_deep","_law_far"] []
 m_Q:mg "_law_rows"=some (.ref a.f_Q)
 F_R:AM K "_law_term" "_law_term" L3 a.f_R a.d_R
 b_R:AL K a.d_R ["_law_reads"] []
 m_R:mg "_law_term"=some (.ref a.f_R)
 F_S:AM K "_law_program" "_law_program" KR a.f_S a.d_S
 b_S:AL K a.d_S ["_law_rows_here"] []
 m_S:mg "_law_program"=some (.ref a.f_S)
 F_T:AM K "_law_common" "_law_common" Lu a.f_T a.d_T
 b_T:AL K a.d_T ["_law_one","_law_other"] []
 m_T:mg "_law_common"=some (.ref a.f_T)
 F_g:AM K "_law_items" "_law_items" Mb a.f_g a.d_g
 b_g:AL K a.d_g ["_law_boughs","_law_depth"] []
 m_g:mg "_law_items"=some (.ref a.f_g)
 F_u:AM K "_law_own_boughs" "_law_own_boughs" Kj a.f_u a.d_u
 b_u:AL K a.d_u ["_law_rows_here"] []
 m_u:mg "_law_own_boughs"=some (.ref a.f_u)
 F_j:AM K "_law_good" "_law_good" LF a.f_j a.d_j
 b_j:AL K a.d_j ["_law_found"] []
 m_j:mg "_law_good"=some (.ref a.f_j)
 F_U:AM K "law" "law" Km a.f_U a.d_U
 b_U:AL K a.d_U ["_law_script"] []
 m_U:mg "law"=some (.ref a.f_U)
 cl_Term:DU K a.c_Term
 mc_Term:mg "Term"=some (.ref a.c_Term)
 cl_Number:DU K a.c_Number
 mc_Number:mg "Number"=some (.ref a.c_Number)
 mk_Number:Mk K a.c_Number a.f_V
 me_Number_reads:Jy K a.c_Number "reads" a.f_v
 n_Number_n:CO K a.c_Number "n"
 cl_Cell:DU K a.c_Cell
 mc_Cell:mg "Cell"=some (.ref a.c_Cell)
 mk_Cell:Mk K a.c_Cell a.f_W
 me_Cell_reads:Jy K a.c_Cell "reads" a.f_w
 n_Cell_table:CO K a.c_Cell "table"
 n_Cell_spots:CO K a.c_Cell "spots"
 cl_Joined:DU K a.c_Joined
 mc_Joined:mg "Joined"=some (.ref a.c_Joined)
 mk_Joined:Mk K a.c_Joined a.f_X
 me_Joined_reads:Jy K a.c_Joined "reads" a.f_x
 n_Joined_sign:CO K a.c_Joined "sign"
 n_Joined_left:CO K a.c_Joined "left"
 n_Joined_right:CO K a.c_Joined "right"
 cl_Deed:DU K a.c_Deed
 mc_Deed:mg "Deed"=some (.ref a.c_Deed)
 mk_Deed:Mk K a.c_Deed a.f_Y
 n_Deed_names:CO K a.c_Deed "names"
 n_Deed_lows:CO K a.c_Deed "lows"
 n_Deed_highs:CO K a.c_Deed "highs"
 n_Deed_table:CO K a.c_Deed "table"
 n_Deed_spots:CO K a.c_Deed "spots"
 n_Deed_term:CO K a.c_Deed "term"
 n_Deed_path:CO K a.c_Deed "path"
 cl_Program:DU K a.c_Program
 mc_Program:mg "Program"=some (.ref a.c_Program)
 mk_Program:Mk K a.c_Program a.f_Z
 n_Program_size:CO K a.c_Program "size"
 n_Program_deeds:CO K a.c_Program "deeds"
 z_abs:mg "abs"=none
 z_all:mg "all"=none
 z_any:mg "any"=none
 z_enumerate:mg "enumerate"=none
 z_int:mg "int"=none
 z_isinstance:mg "isinstance"=none
 z_len:mg "len"=none
 z_list:mg "list"=none
 z_min:mg "min"=none
 z_range:mg "range"=none
 z_sorted:mg "sorted"=none
 z_tuple:mg "tuple"=none
 z_zip:mg "zip"=none
 g_MOST_PAIRS:mg "MOST_PAIRS"=some a.u_MOST_PAIRS
 r_MOST_PAIRS:AG (.int 6) a.u_MOST_PAIRS
 g_MOST_SHIFT:mg "MOST_SHIFT"=some a.u_MOST_SHIFT
 r_MOST_SHIFT:AG (.int 1000000000000000000) a.u_MOST_SHIFT
 g_SIDES:mg "SIDES"=some (.ref a.u_SIDES)
 r_SIDES:AG (.ref a.u_SIDES) (.ref a.u_SIDES)
 q_SIDES0:∀H:Hp,A4 K H a.u_SIDES0 [.str "more"]
 q_SIDES1:∀H:Hp,A4 K H a.u_SIDES1 [.str "less"]
 q_SIDES2:∀H:Hp,A4 K H a.u_SIDES2 [.str "less",.str "more"]
 d_SIDES:∀P:Program,Nq P w K a.u_SIDES [(.inr "up",.ref a.u_SIDES0),(.inr "down",.ref a.u_SIDES1),(.inr "any",.ref a.u_SIDES2)]
def CY (a:Ad):Cs:=⟨a.c_Number,a.c_Number,a.c_Cell,a.c_Joined⟩
section
variable {P:Program}{w:World}{K:Faa}{mg:Str->Option Value}{base:Heap}{a:Ad}
theorem UG (T:Tx w K mg a):AI P w K mg base AN 1 a.f_V a.d_V ["self","n"] (Oo a.c_Number ["n"]):=by
 refine T.F_V.ok UX (λvs H Q E h=>?_) (λcdv A outer s H vs Q E hr h=>?_)
 .obtain⟨_,_,vs,rfl,hl,_⟩:=h;rw[Bz,hl];rfl
 obtain⟨x,dx,vs,rfl,hl,hx,q⟩:=h;obtain⟨n,r1,rfl,l1⟩:=Jh (n:=0) hl;obtain rfl:=OQ l1;refine⟨_,(Ae (DX (pv 0) (pv 1) rfl)),?_⟩;exact⟨_,rfl,_,rfl,x,_,dx,_,rfl,hx,T.cl_Number,T.n_Number_n,(by show 0<1000;decide),q _ (λb o e hb=>by rw[Ag hb];exact e) ⟨dx,A7⟩⟩
theorem Vm (T:Tx w K mg a):AI P w K mg base AN 1 a.f_W a.d_W ["self","table","spots"] (Oo a.c_Cell ["table","spots"]):=by
 refine T.F_W.ok XM (λvs H Q E h=>?_) (λcdv A outer s H vs Q E hr h=>?_)
 .obtain⟨_,_,vs,rfl,hl,_⟩:=h;rw[Bz,hl];rfl
 refine Ak λ_ zA=>?_;obtain⟨x,dx,vs,rfl,hl,hx,q⟩:=h;obtain⟨n,r1,rfl,l1⟩:=Jh (n:=1) hl;obtain⟨m,r2,rfl,l2⟩:=Jh (n:=0) l1;obtain rfl:=OQ l2;refine zA ?_;refine⟨_,(A9 (DX (pv 0) (pv 1) rfl)
  (Ae (DX (pv 0) (pv 2) rfl))),?_⟩
 refine⟨_,rfl,_,rfl,x,_,dx,_,rfl,hx,T.cl_Cell,T.n_Cell_table,(by show 0<1000;decide),?_⟩;refine⟨_,rfl,_,rfl,x,_,dx,_,rfl,A7,T.cl_Cell,T.n_Cell_spots,(by show 1<1000;decide),?_⟩;exact q _ (λb o e hb=>by
   repeat rw[Ag hb]
   exact e) ⟨dx,A7⟩
theorem Ux (T:Tx w K mg a):AI P w K mg base AN 1 a.f_X a.d_X ["self","sign","left","right"] (Oo a.c_Joined ["sign","left","right"]):=by
 refine T.F_X.ok TV (λvs H Q E h=>?_) (λcdv A outer s H vs Q E hr h=>?_)
 .obtain⟨_,_,vs,rfl,hl,_⟩:=h;rw[Bz,hl];rfl
 refine Ak λ_ zB=>?_;obtain⟨x,dx,vs,rfl,hl,hx,q⟩:=h;obtain⟨n,r1,rfl,l1⟩:=Jh (n:=2) hl;obtain⟨m,r2,rfl,l2⟩:=Jh (n:=1) l1;obtain⟨o,r3,rfl,l3⟩:=Jh (n:=0) l2;obtain rfl:=OQ l3;refine zB ?_;refine⟨_,(A9 (DX (pv 0) (pv 1) rfl)
  (A9 (DX (pv 0) (pv 2) rfl)
  (Ae (DX (pv 0) (pv 3) rfl)))),?_⟩
 refine⟨_,rfl,_,rfl,x,_,dx,_,rfl,hx,T.cl_Joined,T.n_Joined_sign,(by show 0<1000;decide),?_⟩;refine⟨_,rfl,_,rfl,x,_,dx,_,rfl,A7,T.cl_Joined,T.n_Joined_left,(by show 1<1000;decide),?_⟩;refine⟨_,rfl,_,rfl,x,_,dx,_,rfl,A7,T.cl_Joined,T.n_Joined_right,(by show 2<1000;decide),?_⟩;exact q _ (λb o e hb=>by
   repeat rw[Ag hb]
   exact e) ⟨dx,A7⟩
theorem PF (T:Tx w K mg a):AI P w K mg base AN 1 a.f_v a.d_v ["self"] Qd:=by
 refine T.F_v.ok XW (λvs H Q E h=>?_) (λcdv A outer s H vs Q E hr h=>?_)
 .obtain⟨_,rfl,_⟩:=h;rfl
 obtain⟨x,rfl,q⟩:=h;refine⟨_,(Ae (AH (BO A2))),?_⟩;exact⟨Ap rfl,λr hr=>q r _ (Ab hr _) A7⟩
theorem RX (T:Tx w K mg a):AI P w K mg base AN 1 a.f_w a.d_w ["self"] (Sl a.c_Cell):=by
 refine T.F_w.ok UN (λvs H Q E h=>?_) (λcdv A outer s H vs Q E hr h=>?_)
 .obtain⟨_,_,_,_,rfl,_⟩:=h;rfl
 refine Ak λ_ zA=>?_;obtain⟨x,dx,z,v,rfl,hx,q⟩:=h;refine zA ?_;refine⟨_,(Ae (AH (BO (A0 (BX (A0 (B9 (pv 0) rfl) (A0 (B9 (pv 0) rfl) A2))) A2)))),?_⟩;refine⟨_,rfl,x,_,dx,_,_,rfl,hx,T.cl_Cell,T.n_Cell_table,rfl,_,rfl,x,_,dx,_,_,rfl,hx,T.cl_Cell,T.n_Cell_spots,rfl,Ap rfl,λt ht=>⟨Ap rfl,λr hr=>?_⟩⟩;exact q t r _ ((Ab ht _).trans (Ab hr _)) (Ab hr _ _ _ A7) A7
theorem QC (T:Tx w K mg a):∀n:Nat,AI P w K mg base AN (n+1) a.f_x a.d_x ["self"] (NS (CY a) n)
 |
  0=>by
  have no:∀vs H Q E,¬NS (CY a) 0 vs H Q E:=λvs H Q E h=>by
   obtain⟨_,_,_,_,_,m,k,_,_,_,_,h1,h2,hn,_⟩:=h;have:=h1.pos;have:=h2.pos;lia
  exact⟨λvs H Q E h=>absurd h (no vs H Q E),λA outer s H args us vs Q E _ _ _ _ h=>absurd h (no vs H Q E)⟩
 |
  n+1=>by
  have G_v :=@PF P w K mg base a T;have G_w :=@RX P w K mg base a T;have G_x:=QC T n;refine T.F_x.ok Yb (λvs H Q E h=>?_) (λcdv A outer s H vs Q E hr h=>?_)
  .obtain⟨_,_,_,_,_,_,_,_,_,rfl,_⟩:=h;rfl
  refine Ak λ_ zB=>?_;obtain⟨x,dx,z,l,r,m,k,ts,us,rfl,hx,h1,h2,hn,hb,q⟩:=h;refine zB ?_;refine⟨_,(Ae (AH (Aj HK (J1 (FP (B9 (pv 0) rfl) T.cl_Number T.me_Number_reads G_v (hr.mono (by lia)) T.b_v .nil Ar) (J1 (FP (B9 (pv 0) rfl) T.cl_Cell T.me_Cell_reads G_w (hr.mono (by lia)) T.b_w .nil Ar) (FP (B9 (pv 0) rfl) T.cl_Joined T.me_Joined_reads G_x (hr.mono (by lia)) T.b_x .nil Ar))) (J1 (FP (B9 (pv 0) rfl) T.cl_Number T.me_Number_reads G_v (hr.mono (by lia)) T.b_v .nil Ar) (J1 (FP (B9 (pv 0) rfl) T.cl_Cell T.me_Cell_reads G_w (hr.mono (by lia)) T.b_w .nil Ar) (FP (B9 (pv 0) rfl) T.cl_Joined T.me_Joined_reads G_x (hr.mono (by lia)) T.b_x .nil Ar)))))),?_⟩;have p1:=h1.pos;have p2:=h2.pos;refine Nu (c:=CY a) (n:=n) (v:=l) rfl (λR hR=>⟨_,rfl,x,_,dx,_,_,rfl,hx,T.cl_Joined,T.n_Joined_left,rfl,hR⟩) h1 (by lia) (by lia) (λa1 ys1 H1 e1 g1 t1=>?_);refine Nu (c:=CY a) (n:=n) (v:=r) rfl (λR hR=>⟨_,rfl,x,_,dx,_,_,rfl,e1 _ _ hx,T.cl_Joined,T.n_Joined_right,rfl,hR⟩) (h2.over e1) (by lia) (by lia) (λa2 ys2 H2 e2 g2 t2=>?_);have l1:=t1.1;have l2:=t2.1;refine⟨a1,a2,ys1,ys2,rfl,rfl,e2 _ _ g1,g2,BD (by lia),λp hp=>?_⟩;exact q p _ _ ((e1.trans e2).trans (Ab hp _)) A7 (((t1.over e2).app t2).over (Ab hp _))
theorem aL (T:Tx w K mg a):AI P w K mg base AN 1 a.f_Y a.d_Y ["self","names","lows","highs","table","spots","term","path"] (Ug a.c_Deed):=by
 refine T.F_Y.ok X3 (λvs H Q E h=>?_) (λcdv A outer s H vs Q E hr h=>?_)
 .obtain⟨_,_,_,_,_,_,_,_,_,rfl,_⟩:=h;rfl
 obtain⟨x,dx,v1,v2,v3,v4,v5,v6,v7,rfl,hx,q⟩:=h;refine⟨_,(A9 (DX (pw 0) (pw 1) rfl)
  (A9 (DX (pw 0) (pw 2) rfl)
  (A9 (DX (pw 0) (pw 3) rfl)
  (A9 (DX (pw 0) (pw 4) rfl)
  (A9 (DX (pw 0) (pw 5) rfl)
  (A9 (DX (pw 0) (pw 6) rfl)
  (Ae (DX (pw 0) (pw 7) rfl)))))))),?_⟩
 refine⟨x,_,dx,_,rfl,hx,T.cl_Deed,T.n_Deed_names,(by show 0<1000;decide),?_⟩;refine⟨x,_,dx,_,rfl,A7,T.cl_Deed,T.n_Deed_lows,(by show 1<1000;decide),?_⟩;refine⟨x,_,dx,_,rfl,A7,T.cl_Deed,T.n_Deed_highs,(by show 2<1000;decide),?_⟩;refine⟨x,_,dx,_,rfl,A7,T.cl_Deed,T.n_Deed_table,(by show 3<1000;decide),?_⟩;refine⟨x,_,dx,_,rfl,A7,T.cl_Deed,T.n_Deed_spots,(by show 4<1000;decide),?_⟩;refine⟨x,_,dx,_,rfl,A7,T.cl_Deed,T.n_Deed_term,(by show 5<1000;decide),?_⟩;refine⟨x,_,dx,_,rfl,A7,T.cl_Deed,T.n_Deed_path,(by show 6<1000;decide),?_⟩;exact q _ (λb o e hb=>by
   repeat rw[Ag hb]
   exact e) ⟨dx,A7⟩
theorem Wl (T:Tx w K mg a):AI P w K mg base AN 1 a.f_Z a.d_Z ["self","size","deeds"] (Xy K a.c_Program):=by
 refine T.F_Z.ok Y2 (λvs H Q E h=>?_) (λcdv A outer s H vs Q E hr h=>?_)
 .obtain⟨_,_,_,_,_,rfl,_⟩:=h;rfl
 obtain⟨x,dx,sz,p,ys,rfl,hx,hp,q⟩:=h;refine⟨_,(A9 (DX (pw 0) (pw 1) rfl)
  (Ae (DX (pw 0) (Dv Kd (by rfl) T.z_list GW (A0 (pw 2) A2)) rfl))),?_⟩
 refine⟨x,_,dx,_,rfl,hx,T.cl_Program,T.n_Program_size,(by show 0<1000;decide),?_⟩;refine⟨p,ys,rfl,.inl (A3.updI hp hx),λl hl=>?_⟩;have nxl:x≠l:=λe=>by rw[e,A7]at hl;cases hl
 have hlH:H l=none:=by rw[Ag (Ne.symm nxl)]at hl;exact hl
 refine⟨x,_,dx,_,rfl,(by rw[Ag nxl];exact A7),T.cl_Program,T.n_Program_deeds,(by show 1<1000;decide),?_⟩;refine q l _ hlH (λb o e hb=>?_) ?_ ⟨dx,A7⟩
 .rw[Ag hb,Ag (Av e hlH),Ag hb];exact e
 .rw[Ag (Ne.symm nxl)];exact A7
theorem QT (T:Tx w K mg a):AI P w K mg base AN 102 a.f_f a.d_f ["deed"] (UO (CY a) a.c_Deed):=by
 have G_v :=@PF P w K mg base a T;have G_w :=@RX P w K mg base a T;have G_x :=@QC P w K mg base a T 100;refine T.F_f.ok Py (λvs H Q E h=>?_) (λcdv A outer s H vs Q E hr h=>?_)
 .obtain⟨_,_,_,_,_,rfl,_⟩:=h;rfl
 obtain⟨v,z,p,m,rs,rfl,⟨d,dx,v1,v2,v3,x,v7,rfl,hd,hto⟩,hm,q⟩:=h;refine⟨_,(A9 (O9 (i:=1) ["table","spots"] [none,none] Py.nd rfl (.inl rfl) (by rfl) (CQ (J1 (FP (B9 (pw 0) rfl) T.cl_Number T.me_Number_reads G_v (hr.mono (by lia)) T.b_v .nil Ar) (J1 (FP (B9 (pw 0) rfl) T.cl_Cell T.me_Cell_reads G_w (hr.mono (by lia)) T.b_w .nil Ar) (FP (B9 (pw 0) rfl) T.cl_Joined T.me_Joined_reads G_x (hr.mono (by lia)) T.b_x .nil Ar)))) Wo (λ_ _ _ _ _ _=>⟨(show PG _ _ (JI K 2 _) from(CZ rfl (B4 (Az (i:=0) RD rfl (.inl rfl)) (B4 (Az (i:=1) RD rfl (.inl rfl)) D4)))),Ef,(BJ (Ac F5 (Ac (pw 0) (Ac (pw 1) BG Bg) Bg) B3))⟩))
  (Ae (AH (Aj HK (BO (A0 (BJ (Ac F5 (Ac (B9 (pw 0) rfl) (Ac (B9 (pw 0) rfl) BG RO) RO) B3)) A2)) (pw 1))))),?_⟩
 refine Nu (c:=CY a) (n:=100) (v:=x) rfl (λR hR=>⟨d,_,dx,_,_,rfl,hd,T.cl_Deed,T.n_Deed_term,rfl,hR⟩) hto (by lia) (by lia) (λa1 ys1 H1 e1 g1 t1=>?_);refine⟨a1,rfl,⟨_,A3.of g1⟩,?_⟩;have l1:=t1.1;have hp:=hto.pos;refine N8 (xs:=ys1) (λi ys H'=>A8 H1 H'/\DN H' (NX false) ys (rs.take i)) ⟨A8.refl _,.nil⟩ (BD (by lia)) (λi ys H' hi pp=>⟨A3.of (pp.1 _ _ g1),by rw[pp.2.1,BQ];lia⟩) (λi y ys H' hy pp=>?_) (λys H' pp r hr'=>?_)
 .obtain⟨e2,hR⟩:=pp;refine Ak λ_ zA=>?_;have hi:i<rs.length:=by have:=(Aw.mp hy).1;lia
  have er:rs[i]?=some rs[i]:=AE hi;obtain⟨t,rfl,ht⟩:=t1.2 i y _ hy er;refine zA ?_;refine⟨t,_,rfl,A4.of (e2 _ _ ht),rfl,rfl,PV (ρ:=[]) _ _,?_⟩;refine⟨Ap rfl,λt2 ht2=>?_⟩;have s3:=Ab ht2 (.tup [V.bl false,.str rs[i].1,.ref rs[i].2]);refine⟨e2.trans s3,?_⟩;rw[CL er];exact(hR.over s3).app (.one A7)
 obtain⟨e2,hR⟩:=pp;rw[l1,E1]at hR;have s3:=Ab hr' (.lst ys);have e3:=e1.trans (e2.trans s3);have hd3:=e3 _ _ hd;have hl3:=hR.1;dsimp only[Aq];refine⟨d,_,dx,_,_,rfl,hd3,T.cl_Deed,T.n_Deed_table,rfl,d,_,dx,_,_,rfl,hd3,T.cl_Deed,T.n_Deed_spots,rfl,Ap rfl,λt5 ht5=>⟨Ap rfl,λl5 hl5=>?_⟩⟩;have s5:=Ab ht5 (.tup [V.bl true,.str z,.ref p]);have s6:=Ab hl5 (.lst [V.ref t5]);refine⟨l5,r,_,_,rfl,rfl,A7,s6 _ _ (s5 _ _ A7),BD (by simp only[Bc];lia),λl7 hl7=>?_⟩;have s7:=Ab hl7 (.lst ([V.ref t5]++ys));have e57:=s5.trans (s6.trans s7);refine q l7 _ (e3.trans e57) ((e3.trans (s5.trans s6)).free hl7) ⟨t5,ys,A7,s7 _ _ (s6 _ _ A7),hR.over (s3.trans e57)⟩
theorem RK (T:Tx w K mg a):AI P w K mg base AN 1 a.f_l a.d_l ["path","other","most"] XJ:=by
 refine T.F_l.ok Su (λvs H Q E h=>?_) (λcdv A outer s H vs Q E hr h=>?_)
 .obtain⟨_,_,_,_,_,_,rfl,_⟩:=h;rfl
 obtain⟨p1,p2,xs,ys,m,k,rfl,hp1,hp2,hm1,hm2,hm3,hkm,ke,kn,q⟩:=h;refine⟨_,(A9 (C2 PassesOwn.never rfl (F0 (by rfl) T.z_range (A0 (pw 2) A2)) (Az (i:=3) Su.nd rfl (.inl rfl))
  (Ae (Bx (AK Nc (Aa Al (pw 0) (pw 3) (λ_ _=>rfl)) (Aa Al (pw 1) (pw 3) (λ_ _=>rfl)) (AF _))
  (Ae (AH (pw 3)))
  BW)))
  (Ae (AH (pw 2)))),?_⟩
 refine⟨_,rfl,by lia,by lia,?_⟩;refine GA (lo:=0) (n:=m) (λi σ' H'=>H'=H/\(∃o,σ'=[some (.ref p1),some (.ref p2),some (.int (m:Int)),o])/\i<=k) ⟨rfl,⟨_,rfl⟩,Bh _⟩ (λi σ' H' hi p=>?_) (fun σ' H' p=>?_)
 .obtain⟨rfl,⟨o,rfl⟩,hik⟩:=p;have a1:B1 (xs.map V.int) (0+(i:Int))=some (.int (xs.getD i 0)):=by
   have:=Kp (ns:=xs) (k:=0+(i:Int)) (by lia) (by lia)
   rwa [show(0+(i:Int)).toNat=i by rw[Gi];rfl]at this
  have a2:B1 (ys.map V.int) (0+(i:Int))=some (.int (ys.getD i 0)):=by
   have:=Kp (ns:=ys) (k:=0+(i:Int)) (by lia) (by lia)
   rwa [show(0+(i:Int)).toNat=i by rw[Gi];rfl]at this
  refine⟨p1,_,_,_,rfl,rfl,A4.of hp1,a1,?_⟩;refine⟨p2,_,_,_,rfl,rfl,A4.of hp2,a2,rfl,_,rfl,?_⟩;by_cases hk:i<k
  .refine Be (Od (congrArg V.int (ke i hk))) (By ?_);exact⟨rfl,⟨_,rfl⟩,hk⟩
  .have e:i=k:=by lia
   subst e;refine Be (OZ (λz=>kn hi (V.int.inj z))) (C6 ?_);exact by rw[Gi];exact q
 .obtain⟨rfl,⟨o,rfl⟩,hik⟩:=p;have e:m=k:=by lia
  subst e;exact q
theorem PR (T:Tx w K mg a):AI P w K mg base AN 2 a.f_k a.d_k ["one","other"] (Va a.c_Deed (CY a)):=by
 have G_l :=@RK P w K mg base a T;refine T.F_k.ok TB (λvs H Q E h=>?_) (λcdv A outer s H vs Q E hr h=>?_)
 .obtain⟨_,_,_,_,_,rfl,_⟩:=h;rfl
 obtain⟨x,y,R,S,k,rfl,hx,hy,oR,oS,⟨k1,k2,ke,kn⟩,q⟩:=h;refine⟨_,(Ae (AH (Ax G_l (hr.mono (by lia)) (by rfl) T.m_l T.F_l.kp T.b_l .nil Ar (A0 (B9 (pw 0) rfl) (A0 (B9 (pw 1) rfl) (A0 (B5 (KW rfl) (by rfl) T.z_min Lo (A0 (B5 BB (by rfl) T.z_len BC (A0 (B9 (pw 0) rfl) A2)) (A0 (B5 BB (by rfl) T.z_len BC (A0 (B9 (pw 1) rfl) A2)) A2))) A2)))))),?_⟩;refine Ak λ_ zA=>?_;obtain⟨d1,dx1,nm1,pt1,_,_,_,xs1,rfl,hd1,hn1,l1,hp1,_⟩:=hx;obtain⟨d2,dx2,nm2,pt2,_,_,_,xs2,rfl,hd2,hn2,l2,hp2,_⟩:=hy;refine zA ?_;have p1:=oR.pl;have p2:=oS.pl;have q1:=oR.n3;have q2:=oS.n3;have hm:(if((xs2.length:Nat):Int)<((xs1.length:Nat):Int) then((xs2.length:Nat):Int) else((xs1.length:Nat):Int))=((min R.n S.n:Nat):Int):=by split<;>lia
 refine⟨d1,_,dx1,_,_,rfl,hd1,T.cl_Deed,T.n_Deed_path,rfl,d2,_,dx2,_,_,rfl,hd2,T.cl_Deed,T.n_Deed_path,rfl,?_⟩;refine⟨d1,_,dx1,_,_,rfl,hd1,T.cl_Deed,T.n_Deed_names,rfl,nm1,_,rfl,.inr (A4.of hn1),?_⟩;refine⟨d2,_,dx2,_,_,rfl,hd2,T.cl_Deed,T.n_Deed_names,rfl,nm2,_,rfl,.inr (A4.of hn2),?_⟩;refine⟨_,_,rfl,?_⟩;rw[hm];exact⟨pt1,pt2,R.path,S.path,min R.n S.n,k,rfl,hp1,hp2,by lia,by lia,by lia,by lia,ke,kn,q⟩
theorem bg (T:Tx w K mg a):AI P w K mg base AN 3 a.f_K a.d_K ["program","k","l"] (ZN a.c_Program a.c_Deed (CY a)):=by
 have G_k :=@PR P w K mg base a T;refine T.F_K.ok Nl (λvs H Q E h=>?_) (λcdv A outer s H vs Q E hr h=>?_)
 .obtain⟨_,_,_,_,_,_,_,rfl,_⟩:=h;rfl
 obtain⟨v,Rs,k,l,n,R,S,rfl,⟨x,dx,dl,sz,xs,rfl,hx,hdl,ax⟩,ok,hR,hS,pf,q⟩:=h;refine⟨_,(A9 (Ao (i:=3) Nl.nd rfl (.inl rfl) (Ax G_k (hr.mono (by lia)) (by rfl) T.m_k T.F_k.kp T.b_k .nil Ar (A0 (Aa AS (B9 (pw 0) rfl) (pw 1) (λ_ _=>rfl)) (A0 (Aa AS (B9 (pw 0) rfl) (pw 2) (λ_ _=>rfl)) A2))))
  (A9 (Bx (AK (Bi Es) (pw 1) (pw 2) (AF _))
  (Ae (U5 (i:=3) Nl.nd rfl (.inl rfl) A1 Yg))
  BW)
  (Ae (AH (M4 rfl (by rfl) T.z_list (by rfl) T.z_range (A0 (pw 3) A2)))))),?_⟩
 refine Ak λ_ zA=>?_;obtain⟨y1,hy1,d1⟩:=ax.get hR;obtain⟨y2,hy2,d2⟩:=ax.get hS;refine zA ?_;have oR:=ok R (B0 hR);have k1:=pf.1;have k3:=oR.n3;refine⟨x,_,dx,_,_,rfl,hx,T.cl_Program,T.n_Program_deeds,rfl,dl,_,_,_,rfl,rfl,A3.of hdl,BA hy1,x,_,dx,_,_,rfl,hx,T.cl_Program,T.n_Program_deeds,rfl,dl,_,_,_,rfl,rfl,A3.of hdl,BA hy2,y1,y2,R,S,n,rfl,d1,d2,oR,ok S (B0 hS),pf,?_⟩;dsimp only[Aq];refine Dr (fun σ' H'=>H'=H/\σ'=[some (.ref x),some (.int (k:Int)),some (.int (l:Int)),some (.int ((Dj k l n:Nat):Int))]) (fun σ' H' pp=>?_) (λnx=>?_)
 .obtain⟨rfl,rfl⟩:=pp;have c4:Dj k l n<=4:=by unfold Dj;split<;>lia
  exact⟨Dj k l n,rfl,by lia,λr hr=>q r _ (Ab hr _) hr A7⟩
 refine⟨_,rfl,BN (λc=>?_) (λc=>?_)⟩
 .have c:=dT c;have:Dj k l n=n+1:=Ay (by lia);exact⟨_,rfl,_,_,rfl,rfl,nx _ _ ⟨rfl,by rw[this];rfl⟩⟩
 .have c:=dF c;have:Dj k l n=n:=AB (by lia);exact nx _ _ ⟨rfl,by rw[this];rfl⟩
theorem Qn (T:Tx w K mg a):AI P w K mg base AN 1 a.f_e a.d_e ["spot","names","first"] YR:=by
 refine T.F_e.ok UM (λvs H Q E h=>?_) (λcdv A outer s H vs Q E hr h=>?_)
 .obtain⟨_,_,_,_,_,_,_,rfl,_⟩:=h;rfl
 obtain⟨t,nm,z,n,first,zs,u,rfl,ht,hn,hw,q⟩:=h;refine⟨_,(A9 (Bx (AK Co (Aa Al (pw 0) A1 (λ_ _=>rfl)) BY (AF _))
  (Ae (AH A1))
  BW)
  (Ae (AH (Aj (Bi BH) (pw 2) (aN PySem.F.slot_tuple_index PySem.F.type_tuple_index Xp (pw 1) (A0 (Aa Al (pw 0) A1 (λ_ _=>rfl)) A2)))))),?_⟩
 refine⟨t,_,0,_,rfl,rfl,A4.of ht,rfl,rfl,_,rfl,?_⟩;rcases hw with⟨rfl,rfl⟩|⟨hz,j,hj,hno,rfl⟩
 .exact Be (v:=true) (BU rfl) (C6 q)
 .refine Be (v:=false) (dS hz) (By ?_);exact⟨⟨nm,_,rfl,hn⟩,t,_,0,_,rfl,rfl,A4.of ht,rfl,nm,zs,z,j,rfl,rfl,A4.of hn,hj,hno,q⟩
theorem Wn (T:Tx w K mg a):AI P w K mg base AN 2 a.f_r a.d_r ["deed","first"] (WD a.c_Deed):=by
 have G_e :=@Qn P w K mg base a T;refine T.F_r.ok JZ (λvs H Q E h=>?_) (λcdv A outer s H vs Q E hr h=>?_)
 .obtain⟨_,_,_,_,_,_,_,_,_,_,_,_,_,_,_,_,_,rfl,_⟩:=h;rfl
 obtain⟨d,dx,nm,lo,hh,v4,v5,v6,v7,f,zs,lz,hz,ln,hn,u,w2,rfl,hd,hnm,hlo,hhi,zl,hu,hw,q⟩:=h;refine⟨_,(A9 (Ao (i:=2) JZ.nd rfl (.inl rfl) (BO A2))
  (A9 (C2 PassesOwn.never rfl (F0 (by rfl) T.z_range (A0 (B5 BB (by rfl) T.z_len BC (A0 (B9 (pw 0) rfl) A2)) A2)) (Az (i:=3) JZ.nd rfl (.inl rfl))
  (A9 (Ao (i:=4) JZ.nd rfl (.inl rfl) (Aa Al (B9 (pw 0) rfl) (pw 3) (λ_ _=>rfl)))
  (A9 (Ao (i:=5) JZ.nd rfl (.inl rfl) (Aa Al (B9 (pw 0) rfl) (pw 3) (λ_ _=>rfl)))
  (A9 (Br (BF Bw BR BS BL (pw 2) (A0 (BJ (Ac (Ax G_e (hr.mono (by lia)) (by rfl) T.m_e T.F_e.kp T.b_e .nil Ar (A0 (pw 4) (A0 (B9 (pw 0) rfl) (A0 (pw 1) A2)))) (Ac (Aj (Bi BH) (pw 1) (pw 3)) (Ac (DL DH (Aa Al (pw 4) A1 (λ_ _=>rfl))) BG Jz) Ek) E5)) A2)))
  (Ae (Br (BF Bw BR BS BL (pw 2) (A0 (BJ (Ac (Aj (Bi BH) (pw 1) (pw 3)) (Ac (Ax G_e (hr.mono (by lia)) (by rfl) T.m_e T.F_e.kp T.b_e .nil Ar (A0 (pw 5) (A0 (B9 (pw 0) rfl) (A0 (pw 1) A2)))) (Ac (Aa Al (pw 5) A1 (λ_ _=>rfl)) BG DR) E5) Ek)) A2))))))))
  (Ae (AH (pw 2))))),?_⟩
 refine Ak λ_ zA=>?_;obtain⟨xs,hx,xl,hxs⟩:=hlo;obtain⟨os,ho,ol,hos⟩:=hhi;refine zA ?_;refine⟨Ap rfl,λl hl=>?_⟩;have e1:=Ab hl (.lst []);have hl1:(upd H l (.lst [])) l=some (.lst []):=A7;dsimp only[Aq];generalize upd H l (.lst [])=H1 at e1 hl1;refine⟨d,_,dx,_,_,rfl,e1 _ _ hd,T.cl_Deed,T.n_Deed_names,rfl,nm,_,rfl,.inr (A4.of (e1 _ _ hnm)),_,rfl,by rw[Af];lia,by rw[Af];lia,?_⟩;rw[Af];refine GA (lo:=0) (n:=zs.length) (λi σ' H'=>A8 H H'/\(∃o3 o4 o5,σ'=[some (.ref d),some (.int f),some (.ref l),o3,o4,o5])/\∃ys:List V,H' l=some (.lst ys)/\Bk H' ys (DI (EF f u ln) (EC f w2 hn) i)) ⟨e1,⟨_,_,_,rfl⟩,[],hl1,.nil⟩ (λi σ' H' hi pp=>?_) (fun σ' H' pp=>?_)
 .obtain⟨e,⟨o3,o4,o5,rfl⟩,ys,hy,tr⟩:=pp;refine Ak λ_ zB=>?_;have z0:(0+(i:Int))=(i:Int):=Gi _;have x1:xs[i]?=some xs[i]:=AE (by lia);have x2:os[i]?=some os[i]:=AE (by lia);obtain⟨t1,et1,ht1⟩:=hxs i _ x1;obtain⟨t2,et2,ht2⟩:=hos i _ x2;refine zB ?_;have at1:B1 xs (0+(i:Int))=some (.ref t1):=by rw[z0];exact(BA x1).trans (congrArg some et1)
  have GX:B1 os (0+(i:Int))=some (.ref t2):=by rw[z0];exact(BA x2).trans (congrArg some et2)
  have yl:ys.length=2*i:=by rw[tr.1,F2]
  have g1:=e _ _ ht1;have g2:=e _ _ ht2;refine⟨d,_,dx,_,_,rfl,e _ _ hd,T.cl_Deed,T.n_Deed_lows,rfl,lo,_,_,_,rfl,rfl,A4.of (e _ _ hx),at1,?_⟩;dsimp only[Aq];refine⟨d,_,dx,_,_,rfl,e _ _ hd,T.cl_Deed,T.n_Deed_highs,rfl,hh,_,_,_,rfl,rfl,A4.of (e _ _ ho),GX,?_⟩;dsimp only[Aq];refine⟨.inl ⟨rfl,_,A3.of hy⟩,d,_,dx,_,_,rfl,e _ _ hd,T.cl_Deed,T.n_Deed_names,rfl,t1,nm,lz i,ln i,f,zs,u i,rfl,g1,e _ _ hnm,hu i hi,t1,_,1,_,rfl,rfl,A4.of g1,rfl,_,rfl,Ap rfl,λb1 hb1=>?_⟩;rw[z0];have s3:=Ab hb1 (.tup [V.int (u i),V.int (f+(i:Int)),V.int (-(ln i))]);have nb1:b1≠l:=λz=>by rw[z,hy]at hb1;cases hb1
  refine⟨l,_,_,rfl,rfl,s3 _ _ hy,BK (by lia),?_⟩;have tr3:=((tr.over s3).upd (xs:=ys++[V.ref b1]) (s3 _ _ hy)).snoc (t:=b1) (b:=EF f u ln i) (by rw[Ag nb1];exact A7);have hy3:(upd (upd H' b1 (.tup [V.int (u i),V.int (f+(i:Int)),V.int (-(ln i))])) l (.lst (ys++[V.ref b1]))) l=some (.lst (ys++[V.ref b1])):=A7;have e3:A8 H (upd (upd H' b1 (.tup [V.int (u i),V.int (f+(i:Int)),V.int (-(ln i))])) l (.lst (ys++[V.ref b1]))):=λa o ha=>by rw[Ag (Av ha hl)];exact s3 _ _ (e _ _ ha)
  generalize upd (upd H' b1 (.tup [V.int (u i),V.int (f+(i:Int)),V.int (-(ln i))])) l (.lst (ys++[V.ref b1]))=H3 at tr3 hy3 e3;have g2:=e3 _ _ ht2;refine⟨.inl ⟨rfl,_,A3.of hy3⟩,d,_,dx,_,_,rfl,e3 _ _ hd,T.cl_Deed,T.n_Deed_names,rfl,t2,nm,hz i,hn i,f,zs,w2 i,rfl,g2,e3 _ _ hnm,hw i hi,t2,_,1,_,rfl,rfl,A4.of g2,rfl,Ap rfl,λb2 hb2=>?_⟩;have s4:=Ab hb2 (.tup [V.int (f+(i:Int)),V.int (w2 i),V.int (hn i)]);have nb2:b2≠l:=λz=>by rw[z,hy3]at hb2;cases hb2
  refine⟨l,_,_,rfl,rfl,s4 _ _ hy3,BK (by rw[Ai,Bc];lia),?_⟩;have tr4:=((tr3.over s4).upd (xs:=ys++[V.ref b1]++[V.ref b2]) (s4 _ _ hy3)).snoc (t:=b2) (b:=EC f w2 hn i) (by rw[Ag nb2];exact A7);exact⟨λa o ha=>by rw[Ag (Av ha hl)];exact s4 _ _ (e3 _ _ ha),⟨_,_,_,rfl⟩,_,A7,tr4⟩
 .obtain⟨e,⟨o3,o4,o5,rfl⟩,ys,hy,tr⟩:=pp;exact q l ys _ e hy tr
theorem Vw (T:Tx w K mg a):AI P w K mg base AN 2 a.f_H a.d_H ["spots","names","first","others","other_names","other_first"] YU:=by
 have G_e :=@Qn P w K mg base a T;refine T.F_H.ok II (λvs H Q E h=>?_) (λcdv A outer s H vs Q E hr h=>?_)
 .obtain⟨_,_,_,_,_,_,_,_,_,_,_,_,_,_,_,rfl,_⟩:=h;rfl
 obtain⟨sp,nm,ot,nm2,f,s2,m,z1,z2,n1,n2,u,w2,zs,zs2,rfl,hm,hS,hO,hn,hn2,hu,hw,q⟩:=h;refine⟨_,(A9 (Ao (i:=6) II.nd rfl (.inl rfl) (BO A2))
  (A9 (C2 PassesOwn.never rfl (QI (by rfl) T.z_zip (A0 (pw 0) (A0 (pw 3) A2))) (CZ rfl (B4 (Az (i:=7) II.nd rfl (.inl rfl)) (B4 (Az (i:=8) II.nd rfl (.inl rfl)) D4)))
  (A9 (Ao (i:=9) II.nd rfl (.inl rfl) (Ax G_e (hr.mono (by lia)) (by rfl) T.m_e T.F_e.kp T.b_e .nil Ar (A0 (pw 7) (A0 (pw 1) (A0 (pw 2) A2)))))
  (A9 (Ao (i:=10) II.nd rfl (.inl rfl) (Ax G_e (hr.mono (by lia)) (by rfl) T.m_e T.F_e.kp T.b_e .nil Ar (A0 (pw 8) (A0 (pw 4) (A0 (pw 5) A2)))))
  (A9 (Br (BF Bw BR BS BL (pw 6) (A0 (BJ (Ac (pw 9) (Ac (pw 10) (Ac (Aj (Bi EO) (Aa Al (pw 8) A1 (λ_ _=>rfl)) (Aa Al (pw 7) A1 (λ_ _=>rfl))) BG Ek) Bg) Bg)) A2)))
  (Ae (Br (BF Bw BR BS BL (pw 6) (A0 (BJ (Ac (pw 10) (Ac (pw 9) (Ac (Aj (Bi EO) (Aa Al (pw 7) A1 (λ_ _=>rfl)) (Aa Al (pw 8) A1 (λ_ _=>rfl))) BG Ek) Bg) Bg)) A2))))))))
  (Ae (AH (pw 6))))),?_⟩
 refine Ak λ_ zA=>?_;obtain⟨xs,hx,xl,hxs⟩:=hS;obtain⟨os,ho,ol,hos⟩:=hO;refine zA ?_;refine⟨Ap rfl,λl hl=>?_⟩;have e1:=Ab hl (.lst []);refine⟨sp,ot,rfl,⟨_,A4.of (e1 _ _ hx)⟩,⟨_,A4.of (e1 _ _ ho)⟩,?_⟩;refine Zt (xs:=xs) (ys:=os) (by lia) (λi σ' H'=>A8 H H'/\(∃o7 o8 o9 o10,σ'=[some (.ref sp),some (.ref nm),some (.int f),some (.ref ot),some (.ref nm2),some (.int s2),some (.ref l),o7,o8,o9,o10])/\∃ys:List V,H' l=some (.lst ys)/\Bk H' ys (DI (λi=>(u i,w2 i,n2 i-n1 i)) (λi=>(w2 i,u i,n1 i-n2 i)) i)) ⟨e1,⟨_,_,_,_,rfl⟩,[],A7,.nil⟩ (λi σ' H' _ pp=>⟨A4.of (pp.1 _ _ hx),A4.of (pp.1 _ _ ho)⟩) (λi x y Tt σ' H' hxi hyi pp hT=>?_) (fun σ' H' pp=>?_)
 .obtain⟨e,⟨o7,o8,o9,o10,rfl⟩,ys,hy,tr⟩:=pp;refine Ak λ_ zB=>?_;obtain⟨t,rfl,ht⟩:=hxs i x hxi;obtain⟨t2,rfl,ht2⟩:=hos i y hyi;refine zB ?_;have hi:i<m:=by have:=(Aw.mp hxi).1;lia
  have sT:=Ab hT (.tup [V.ref t,V.ref t2]);have e2:=e.trans sT;have hy2:=sT _ _ hy;have tr2:=tr.over sT;refine⟨Tt,_,rfl,A4.of A7,rfl,rfl,?_⟩;generalize upd H' Tt (.tup [V.ref t,V.ref t2])=H2 at e2 hy2 tr2;have g1:=e2 _ _ ht;have g2:=e2 _ _ ht2;have yl:ys.length=2*i:=by rw[tr2.1,F2]
  refine⟨t,nm,z1 i,n1 i,f,zs,u i,rfl,g1,e2 _ _ hn,hu i hi,?_⟩;dsimp only[Aq];refine⟨t2,nm2,z2 i,n2 i,s2,zs2,w2 i,rfl,g2,e2 _ _ hn2,hw i hi,?_⟩;dsimp only[Aq];refine⟨.inl ⟨rfl,_,A3.of hy2⟩,t2,_,1,_,rfl,rfl,A4.of g2,rfl,t,_,1,_,rfl,rfl,A4.of g1,rfl,Ap rfl,λb1 hb1=>?_⟩;have s3:=Ab hb1 (.tup [V.int (u i),V.int (w2 i),V.int (n2 i-n1 i)]);have nb1:b1≠l:=λz=>by rw[z,hy2]at hb1;cases hb1
  refine⟨l,_,_,rfl,rfl,s3 _ _ hy2,BK (by lia),?_⟩;have tr3:=((tr2.over s3).upd (xs:=ys++[V.ref b1]) (s3 _ _ hy2)).snoc (t:=b1) (b:=(u i,w2 i,n2 i-n1 i)) (by rw[Ag nb1];exact A7);have hy3:(upd (upd H2 b1 (.tup [V.int (u i),V.int (w2 i),V.int (n2 i-n1 i)])) l (.lst (ys++[V.ref b1]))) l=some (.lst (ys++[V.ref b1])):=A7;have e3:A8 H (upd (upd H2 b1 (.tup [V.int (u i),V.int (w2 i),V.int (n2 i-n1 i)])) l (.lst (ys++[V.ref b1]))):=λa o ha=>by rw[Ag (Av ha hl)];exact s3 _ _ (e2 _ _ ha)
  generalize upd (upd H2 b1 (.tup [V.int (u i),V.int (w2 i),V.int (n2 i-n1 i)])) l (.lst (ys++[V.ref b1]))=H3 at tr3 hy3 e3;have g1:=e3 _ _ ht;have g2:=e3 _ _ ht2;refine⟨.inl ⟨rfl,_,A3.of hy3⟩,t,_,1,_,rfl,rfl,A4.of g1,rfl,t2,_,1,_,rfl,rfl,A4.of g2,rfl,Ap rfl,λb2 hb2=>?_⟩;have s4:=Ab hb2 (.tup [V.int (w2 i),V.int (u i),V.int (n1 i-n2 i)]);have nb2:b2≠l:=λz=>by rw[z,hy3]at hb2;cases hb2
  refine⟨l,_,_,rfl,rfl,s4 _ _ hy3,BK (by rw[Ai,Bc];lia),?_⟩;have tr4:=((tr3.over s4).upd (xs:=ys++[V.ref b1]++[V.ref b2]) (s4 _ _ hy3)).snoc (t:=b2) (b:=(w2 i,u i,n1 i-n2 i)) (by rw[Ag nb2];exact A7);exact⟨λa o ha=>by rw[Ag (Av ha hl)];exact s4 _ _ (e3 _ _ ha),⟨_,_,_,_,rfl⟩,_,A7,tr4⟩
 .obtain⟨e,⟨o7,o8,o9,o10,rfl⟩,ys,hy,tr⟩:=pp;rw[xl]at tr;exact q l ys _ e hy tr
theorem YH (T:Tx w K mg a):AI P w K mg base AN 1 a.f_M a.d_M ["many","case","behind"] Zo:=by
 refine T.F_M.ok On (λvs H Q E h=>?_) (λcdv A outer s H vs Q E hr h=>?_)
 .obtain⟨_,_,_,rfl,_⟩:=h;rfl
 obtain⟨sn,cs,bh,rfl,c1,q⟩:=h;refine⟨_,(A9 (Ao (i:=3) On.nd rfl (.inl rfl) (BO A2))
  (A9 (C2 PassesOwn.never rfl (F0 (by rfl) T.z_range (A0 (pw 1) A2)) (Az (i:=4) On.nd rfl (.inl rfl))
  (A9 (Br (BF Bw BR BS BL (pw 3) (A0 (BJ (Ac (Aj (Bi BH) A1 (pw 4)) (Ac (Aj (Bi BH) (pw 2) (pw 4)) (Ac A1 BG B3) Ek) Ek)) A2)))
  (Ae (Br (BF Bw BR BS BL (pw 3) (A0 (BJ (Ac (Aj (Bi BH) (pw 2) (pw 4)) (Ac (Aj (Bi BH) A1 (pw 4)) (Ac A1 BG B3) Ek) Ek)) A2))))))
  (A9 (Bx (AK (Bi Es) (pw 1) (pw 0) (AF _))
  (Ae (Br (BF Bw BR BS BL (pw 3) (A0 (BJ (Ac (Aj (Bi BH) A1 (pw 1)) (Ac (Aj (Bi BH) (pw 2) (pw 1)) (Ac (DL DH A1) BG Jz) Ek) Ek)) A2))))
  BW)
  (Ae (AH (pw 3)))))),?_⟩
 refine⟨Ap rfl,λl hl=>?_⟩;have e1:=Ab hl (.lst []);have hl1:(upd H l (.lst [])) l=some (.lst []):=A7;dsimp only[Aq];generalize upd H l (.lst [])=H1 at e1 hl1;refine⟨_,rfl,by lia,by lia,?_⟩;rw[Fg];refine GA (lo:=0) (n:=cs) (λi σ' H'=>A8 H H'/\(∃o4,σ'=[some (.int (sn:Int)),some (.int (cs:Int)),some (.int bh),some (.ref l),o4])/\∃ys:List V,H' l=some (.lst ys)/\Bk H' ys (HL bh i)) ⟨e1,⟨_,rfl⟩,[],hl1,.nil⟩ (λi σ' H' hi pp=>?_) (fun σ' H' pp=>?_)
 .obtain⟨e,⟨o4,rfl⟩,ys,hy,tr⟩:=pp;have z0:(0+(i:Int))=(i:Int):=Gi _;have yl:ys.length=2*i:=by rw[tr.1];exact F2 _ _ _
  refine⟨.inl ⟨rfl,_,A3.of hy⟩,Ap rfl,λb1 hb1=>?_⟩;rw[z0];have s3:=Ab hb1 (.tup [V.int (1+(i:Int)),V.int (bh+(i:Int)),V.int 0]);have nb1:b1≠l:=λz=>by rw[z,hy]at hb1;cases hb1
  refine⟨l,_,_,rfl,rfl,s3 _ _ hy,BK (by lia),?_⟩;have tr3:=((tr.over s3).upd (xs:=ys++[V.ref b1]) (s3 _ _ hy)).snoc (t:=b1) (b:=(1+(i:Int),bh+(i:Int),0)) (by rw[Ag nb1];exact A7);have hy3:(upd (upd H' b1 (.tup [V.int (1+(i:Int)),V.int (bh+(i:Int)),V.int 0])) l (.lst (ys++[V.ref b1]))) l=some (.lst (ys++[V.ref b1])):=A7;have e3:A8 H (upd (upd H' b1 (.tup [V.int (1+(i:Int)),V.int (bh+(i:Int)),V.int 0])) l (.lst (ys++[V.ref b1]))):=λa o ha=>by rw[Ag (Av ha hl)];exact s3 _ _ (e _ _ ha)
  generalize upd (upd H' b1 (.tup [V.int (1+(i:Int)),V.int (bh+(i:Int)),V.int 0])) l (.lst (ys++[V.ref b1]))=H3 at tr3 hy3 e3;refine⟨.inl ⟨rfl,_,A3.of hy3⟩,Ap rfl,λb2 hb2=>?_⟩;have s4:=Ab hb2 (.tup [V.int (bh+(i:Int)),V.int (1+(i:Int)),V.int 0]);have nb2:b2≠l:=λz=>by rw[z,hy3]at hb2;cases hb2
  refine⟨l,_,_,rfl,rfl,s4 _ _ hy3,BK (by rw[Ai,Bc];lia),?_⟩;have tr4:=((tr3.over s4).upd (xs:=ys++[V.ref b1]++[V.ref b2]) (s4 _ _ hy3)).snoc (t:=b2) (b:=(bh+(i:Int),1+(i:Int),0)) (by rw[Ag nb2];exact A7);exact⟨λa o ha=>by rw[Ag (Av ha hl)];exact s4 _ _ (e3 _ _ ha),⟨_,rfl⟩,_,A7,tr4⟩
 refine Ak λ_ zA=>?_;obtain⟨e,⟨o4,rfl⟩,ys,hy,tr⟩:=pp;refine zA ?_;have yl:ys.length=2*cs:=by rw[tr.1];exact F2 _ _ _
 refine⟨_,rfl,BN (λc=>?_) (λc=>?_)⟩
 .have c:=dT c;refine⟨.inl ⟨rfl,_,A3.of hy⟩,_,rfl,Ap rfl,λb1 hb1=>?_⟩;have s3:=Ab hb1 (.tup [V.int (1+(cs:Int)),V.int (bh+(cs:Int)),V.int (-1)]);have nb1:b1≠l:=λz=>by rw[z,hy]at hb1;cases hb1
  refine⟨l,_,_,rfl,rfl,s3 _ _ hy,BK (by lia),?_⟩;have tr3:=((tr.over s3).upd (xs:=ys++[V.ref b1]) (s3 _ _ hy)).snoc (t:=b1) (b:=(1+(cs:Int),bh+(cs:Int),-1)) (by rw[Ag nb1];exact A7);refine q l _ _ (λa o ha=>by rw[Ag (Av ha hl)];exact s3 _ _ (e _ _ ha)) A7 ?_;unfold G7;rw[Ay (by lia)];exact tr3
 .have c:=dF c;refine q l _ _ e hy ?_;unfold G7;rw[AB (by lia),CV];exact tr
theorem WW (T:Tx w K mg a):AI P w K mg base AN 104 a.f_L a.d_L ["program","k","a","l","b","case"] (Tc a.c_Program a.c_Deed (CY a)):=by
 have G_f :=@QT P w K mg base a T;have G_r :=@Wn P w K mg base a T;have G_H :=@Vw P w K mg base a T;have G_M :=@YH P w K mg base a T;have G_k :=@PR P w K mg base a T;refine T.F_L.ok GZ (λvs H Q E h=>?_) (λcdv A outer s H vs Q E hr h=>?_)
 .obtain⟨_,_,_,_,_,_,_,_,_,_,_,_,_,_,_,_,rfl,_⟩:=h;rfl
 obtain⟨x,dx,dl,sz,xs,Rs,R,R',r,r',k,ta,l,tb,cs,D,rfl,hx,hdl,ax,hR,hR',g,g',ok,ok',hta,htb,hS,hS',cd,c1,q⟩:=h;refine⟨_,(A9 (Ao (i:=6) GZ.nd rfl (.inl rfl) (Aa AS (B9 (pv 0) rfl) (pv 1) (λ_ _=>rfl)))
  (A9 (Ao (i:=7) GZ.nd rfl (.inl rfl) (Aa AS (B9 (pv 0) rfl) (pv 3) (λ_ _=>rfl)))
  (A9 (Ao (i:=8) GZ.nd rfl (.inl rfl) (Aj BH A1 (B5 BB (by rfl) T.z_len BC (A0 (B9 (pv 6) rfl) A2))))
  (A9 (Ao (i:=9) GZ.nd rfl (.inl rfl) (Aa Al (Aa AS (Ax G_f (hr.mono (by lia)) (by rfl) T.m_f T.F_f.kp T.b_f .nil Ar (A0 (pv 6) A2)) (pv 2) (λ_ _=>rfl)) A1 (λ_ _=>rfl)))
  (A9 (Ao (i:=10) GZ.nd rfl (.inl rfl) (Aa Al (Aa AS (Ax G_f (hr.mono (by lia)) (by rfl) T.m_f T.F_f.kp T.b_f .nil Ar (A0 (pv 7) A2)) (pv 4) (λ_ _=>rfl)) A1 (λ_ _=>rfl)))
  (A9 (Ao (i:=11) GZ.nd rfl (.inl rfl) (Aj HK (Ax G_r (hr.mono (by lia)) (by rfl) T.m_r T.F_r.kp T.b_r .nil Ar (A0 (pv 6) (A0 A1 A2))) (Ax G_r (hr.mono (by lia)) (by rfl) T.m_r T.F_r.kp T.b_r .nil Ar (A0 (pv 7) (A0 (pv 8) A2)))))
  (A9 (Br (BF Bw OR OS LI (pv 11) (A0 (Ax G_H (hr.mono (by lia)) (by rfl) T.m_H T.F_H.kp T.b_H .nil Ar (A0 (pv 9) (A0 (B9 (pv 6) rfl) (A0 A1 (A0 (pv 10) (A0 (B9 (pv 7) rfl) (A0 (pv 8) A2))))))) A2)))
  (A9 (Br (BF Bw OR OS LI (pv 11) (A0 (Ax G_M (hr.mono (by lia)) (by rfl) T.m_M T.F_M.kp T.b_M .nil Ar (A0 (Ax G_k (hr.mono (by lia)) (by rfl) T.m_k T.F_k.kp T.b_k .nil Ar (A0 (pv 6) (A0 (pv 7) A2))) (A0 (pv 5) (A0 (pv 8) A2)))) A2)))
  (Ae (AH (pv 11))))))))))),?_⟩
 refine Ak λ_ zA=>?_;obtain⟨y1,hy1,d4⟩:=ax.get hR;obtain⟨y2,hy2,d4'⟩:=ax.get hR';have d5:=d4.d5;have d5':=d4'.d5;have dt:=d4.tm;have dt':=d4'.tm;obtain⟨d1,dx1,nm1,lo1,hi1,pt1,v1,ls1,hs1,rfl,hd1,hn1,hlo1,al1,hhi1,ah1,hp1,to1⟩:=d4;obtain⟨d2,dx2,nm2,lo2,hi2,pt2,v2,ls2,hs2,rfl,hd2,hn2,hlo2,al2,hhi2,ah2,hp2,to2⟩:=d4';refine zA ?_;have k1:D.s<=R.S.length:=cd.pf.1;have k3:=g.len;have k4:=g'.len;have m3:=cd.m3;have nl:((AD R.S).map V.str).length=R.S.length:=by unfold AD;rw[Af,Af]
 have n1:=g.nd;have n2:=g'.nd;have z1:=g.ne;have z2:=g'.ne;have nm1l:=EU R.S;have nm2l:=EU R'.S;refine⟨_,rfl,x,_,dx,_,_,rfl,hx,T.cl_Program,T.n_Program_deeds,rfl,_,rfl,dl,_,_,_,rfl,rfl,A3.of hdl,BA hy1,?_⟩;dsimp only[Aq];refine⟨_,rfl,x,_,dx,_,_,rfl,hx,T.cl_Program,T.n_Program_deeds,rfl,_,rfl,dl,_,_,_,rfl,rfl,A3.of hdl,BA hy2,?_⟩;dsimp only[Aq];refine⟨_,rfl,d1,_,dx1,_,_,rfl,hd1,T.cl_Deed,T.n_Deed_names,rfl,nm1,_,rfl,.inr (A4.of hn1),_,_,rfl,rfl,?_⟩;rw[nl];dsimp only[Aq];generalize hbh:1+(R.S.length:Int)=bh;refine⟨_,rfl,.ref d1,R.z,R.p,R.m,R.rs,rfl,dt,by have:=g.m3;lia,λq1 H1 e1 q10 tc1=>?_⟩;refine Ak λ_ zB=>?_;obtain⟨as1,tp1,fl1,hq1,at1,htp1⟩:=OX tc1 hta;refine zB ?_;refine⟨_,rfl,q1,_,_,_,rfl,rfl,A3.of hq1,at1,tp1,_,2,_,rfl,rfl,A4.of htp1,rfl,?_⟩;dsimp only[Aq];refine⟨_,rfl,.ref d2,R'.z,R'.p,R'.m,R'.rs,rfl,dt'.over e1,by have:=g'.m3;lia,λq2 H2 e2 q20 tc2=>?_⟩;refine Ak λ_ zC=>?_;obtain⟨as2,tp2,fl2,hq2,GX,htp2⟩:=OX tc2 htb;refine zC ?_;refine⟨_,rfl,q2,_,_,_,rfl,rfl,A3.of hq2,GX,tp2,_,2,_,rfl,rfl,A4.of htp2,rfl,?_⟩;have e02:=e1.trans e2;have tk02:=A8.tk e02;dsimp only[Aq];refine⟨_,rfl,d1,dx1,nm1,lo1,hi1,_,_,_,_,1,AD R.S,Ej R.S,Eu R.S,G5 R.S,Ge R.S,D.u,D.w,rfl,e02 _ _ hd1,e02 _ _ hn1,by rw[nm1l];exact Pe (e02 _ _ hlo1) (al1.mono λ_ _ z=>z.tk tk02),by rw[nm1l];exact RH (e02 _ _ hhi1) (ah1.mono λ_ _ z=>z.tk tk02),by lia,λi hi=>Gw n1 z1 (cd.hu i (by lia)),λi hi=>Gw n1 z1 (cd.hw i (by lia)),λf1 ys1 H3 e3 hf1 tr1=>?_⟩;rw[nm1l]at tr1;have tr1:Bk H3 ys1 (Ha R.S 1 D.u D.w):=tr1;have e03:=e02.trans e3;have tk03:=A8.tk e03;refine⟨_,rfl,_,rfl,d2,dx2,nm2,lo2,hi2,_,_,_,_,bh,AD R'.S,Ej R'.S,Eu R'.S,G5 R'.S,Ge R'.S,D.u',D.w',rfl,e03 _ _ hd2,e03 _ _ hn2,by rw[nm2l];exact Pe (e03 _ _ hlo2) (al2.mono λ_ _ z=>z.tk tk03),by rw[nm2l];exact RH (e03 _ _ hhi2) (ah2.mono λ_ _ z=>z.tk tk03),by lia,λi hi=>by rw[←hbh];exact Gw n2 z2 (cd.hu' i (by lia)),λi hi=>by rw[←hbh];exact Gw n2 z2 (cd.hw' i (by lia)),λf2 ys2 H4 e4 hf2 tr2=>?_⟩;rw[nm2l]at tr2;have tr2:Bk H4 ys2 (Ha R'.S bh D.u' D.w'):=tr2;have y1l:ys1.length=2*R.S.length:=by rw[tr1.1,IQ]
 have y2l:ys2.length=2*R'.S.length:=by rw[tr2.1,IQ]
 refine⟨f1,f2,_,_,rfl,rfl,e4 _ _ hf1,hf2,BD (by lia),λbo hbo=>?_⟩;have s5:=Ab hbo (.lst (ys1++ys2));have hbo5:(upd H4 bo (.lst (ys1++ys2))) bo=some (.lst (ys1++ys2)):=A7;have tr5:=((tr1.over e4).app tr2).over s5;dsimp only[Aq];generalize upd H4 bo (.lst (ys1++ys2))=H5 at s5 hbo5 tr5;have e04:=e03.trans e4;have bo0:H bo=none:=e04.free hbo;have e05:=e04.trans s5;refine⟨_,rfl,.inl ⟨rfl,_,A3.of hbo5⟩,_,rfl,_,rfl,d1,_,dx1,_,_,rfl,e05 _ _ hd1,T.cl_Deed,T.n_Deed_names,rfl,_,rfl,_,rfl,d2,_,dx2,_,_,rfl,e05 _ _ hd2,T.cl_Deed,T.n_Deed_names,rfl,_,rfl,r.2,nm1,r'.2,nm2,1,bh,D.m,D.z1,D.z2,D.n1,D.n2,D.x1,D.x2,AD R.S,AD R'.S,rfl,by lia,hS.over e05,hS'.over e05,e05 _ _ hn1,e05 _ _ hn2,cd.hx1,by rw[←hbh];exact cd.hx2,λf3 ys3 H6 e6 hf3 tr3=>?_⟩;have tr3:Bk H6 ys3 (Je D):=tr3;have hbo6:=e6 _ _ hbo5;have y3l:ys3.length=2*D.m:=by rw[tr3.1];exact F2 _ _ _
 refine⟨bo,f3,_,_,rfl,rfl,hbo6,hf3,BD (by rw[Ai];lia),?_⟩;have tk7:TK H6 (upd H6 bo (.lst (ys1++ys2++ys3))):=TK.upd hbo6;have tr7:=((tr5.over e6).app tr3).tk tk7;have hbo7:(upd H6 bo (.lst (ys1++ys2++ys3))) bo=some (.lst (ys1++ys2++ys3)):=A7;have e07:A8 H (upd H6 bo (.lst (ys1++ys2++ys3))):=λb o hb=>by rw[Ag (Av hb bo0)];exact e6 _ _ (e05 _ _ hb)
 generalize upd H6 bo (.lst (ys1++ys2++ys3))=H7 at tr7 hbo7 e07;refine⟨_,rfl,.inl ⟨rfl,_,A3.of hbo7⟩,_,rfl,_,rfl,.ref d1,.ref d2,R.r5,R'.r5,D.s,rfl,d5.over e07,d5'.over e07,ok,ok',cd.pf,_,rfl,_,rfl,D.s,cs,bh,rfl,by lia,λf4 ys4 H8 e8 hf4 tr4=>?_⟩;have hbo8:=e8 _ _ hbo7;have y4l:ys4.length<=100:=by
  rw[tr4.1];unfold G7 HL;rw[Ai,F2];split<;>simp<;>lia
 refine⟨bo,f4,_,_,rfl,rfl,hbo8,hf4,BD (by rw[Ai,Ai];lia),?_⟩;have tk9:TK H8 (upd H8 bo (.lst (ys1++ys2++ys3++ys4))):=TK.upd hbo8;have tr9:=((tr7.over e8).app tr4).tk tk9;refine⟨_,rfl,q bo _ _ (λb o hb=>by rw[Ag (Av hb bo0)];exact e8 _ _ (e07 _ _ hb)) bo0 A7 ?_⟩;unfold E9;rw[hbh];exact tr9
theorem Wp (T:Tx w K mg a):AI P w K mg base AN 103 a.f_J a.d_J ["program"] (Te a.c_Program a.c_Deed (CY a)):=by
 have G_f :=@QT P w K mg base a T;refine T.F_J.ok J0 (λvs H Q E h=>?_) (λcdv A outer s H vs Q E hr h=>?_)
 .obtain⟨_,_,rfl,_⟩:=h;rfl
 obtain⟨v,Rs,rfl,⟨x,dx,dl,sz,xs,rfl,hx,hdl,ax⟩,ok,n6,q⟩:=h;refine⟨_,(A9 (Ao (i:=1) J0.nd rfl (.inl rfl) (BO A2))
  (A9 (C2 PassesOwn.never rfl (Kw (by rfl) T.z_enumerate (A0 (B9 (pw 0) rfl) A2)) (CZ rfl (B4 (Az (i:=2) J0.nd rfl (.inl rfl)) (B4 (Az (i:=3) J0.nd rfl (.inl rfl)) D4)))
  (Ae (C2 PassesOwn.never rfl (Kw (by rfl) T.z_enumerate (A0 (Ax G_f (hr.mono (by lia)) (by rfl) T.m_f T.F_f.kp T.b_f .nil Ar (A0 (pw 3) A2)) A2)) (CZ rfl (B4 (Az (i:=4) J0.nd rfl (.inl rfl)) (B4 (Az (i:=5) J0.nd rfl (.inl rfl)) D4)))
  (Ae (Br (BF Bw BR BS BL (pw 1) (A0 (BJ (Ac (pw 2) (Ac (pw 4) (Ac (pw 5) BG Bg) Bg) Bg)) A2)))))))
  (Ae (AH (pw 1))))),?_⟩
 have xl:=ax.1;refine⟨Ap rfl,λfo hfo=>?_⟩;have e1:=Ab hfo (.lst []);have hfo1:(upd H fo (.lst [])) fo=some (.lst []):=A7;dsimp only[Aq];generalize upd H fo (.lst [])=H1 at e1 hfo1;refine⟨x,_,dx,_,_,rfl,e1 _ _ hx,T.cl_Program,T.n_Program_deeds,rfl,dl,rfl,⟨_,A3.of (e1 _ _ hdl)⟩,?_⟩;refine Jq (xs:=xs) (λi σ' H'=>∃(ys:List V) (o2 o3 o4 o5:Option V),σ'=[some (.ref x),some (.ref fo),o2,o3,o4,o5]/\A8 H H'/\H' fo=some (.lst ys)/\Am (FO H') ys (Ca (Rs.take i))) ⟨[],_,_,_,_,rfl,e1,hfo1,.nil⟩ (λi σ' H' _ pp=>by obtain⟨_,_,_,_,_,_,e,_⟩:=pp;exact A3.of (e _ _ hdl)) (λi y Tt σ' H' hy pp hT=>?_) (fun σ' H' pp=>?_);rotate_left
 .obtain⟨ys,o2,o3,o4,o5,rfl,e,hy,ay⟩:=pp;rw[Gg (by lia)]at ay;exact q fo ys _ e hfo hy ay
 refine Ak λ_ zA=>?_;obtain⟨ys,o2,o3,o4,o5,rfl,e,hys,ay⟩:=pp;obtain⟨R,hR,d5⟩:=ax.get' hy;refine zA ?_;have rok:=ok R (B0 hR);have il:i<Rs.length:=(Aw.mp hR).1;have sT:=Ab hT (.tup [V.int (i:Int),y]);have e2:=e.trans sT;have hys2:=sT _ _ hys;have ay2:=ay.mono λ_ _ z=>z.over sT;refine⟨Tt,_,rfl,A4.of A7,rfl,rfl,?_⟩;generalize upd H' Tt (.tup [V.int (i:Int),y])=H2 at e2 hys2 ay2;refine⟨y,R.z,R.p,R.m,R.rs,rfl,(d5.over e2).tm,by have:=rok.ms;lia,λl H3 e3 hl0 th=>?_⟩;refine Ak λ_ zB=>?_;obtain⟨ts,hts,ath⟩:=Wr th;refine zB ?_;have tsl:=ath.1;have tll:=S2 rok;have hys3:=e3 _ _ hys2;have nlf:l≠fo:=λz=>by rw[z,hys2]at hl0;cases hl0
 have ay3:=ay2.mono λ_ _ z=>z.over e3;have pl:=KH (Rs:=Rs.take i) (λR hR=>ok R (MF hR)) (by rw[BQ];lia);refine⟨l,rfl,⟨_,A3.of hts⟩,?_⟩;refine Jq (xs:=ts) (λj σ' H4=>∃(zs:List V) (o4 o5:Option V),σ'=[some (.ref x),some (.ref fo),some (.int (i:Int)),some y,o4,o5]/\(∀b o,b≠fo->H3 b=some o->H4 b=some o)/\H4 fo=some (.lst zs)/\Am (FO H4) zs (Ca (Rs.take i)++Pm.tk3 i 0 ((EN R).take j))) ⟨ys,_,_,rfl,λ_ _ _ h=>h,hys3,by show Am _ _ (_++[]);rw[CV];exact ay3⟩ (λj σ' H4 _ pp=>by obtain⟨_,_,_,_,k4,_⟩:=pp;exact A3.of (k4 _ _ nlf hts)) (λj y2 Tt2 σ' H4 hy2 pp hT2=>?_) (fun σ' H4 pp=>?_)
 .obtain⟨zs,o4,o5,rfl,k4,hzs,az⟩:=pp;refine Ak λ_ zC=>?_;obtain⟨tb,htb,u,p,rfl,hu⟩:=ath.get' hy2;refine zC ?_;have jl:j<(EN R).length:=(Aw.mp htb).1;have nu:u≠fo:=λz=>by rw[z,hys3]at hu;cases hu
  have hu4:=k4 _ _ nu hu;have sT2:=Ab hT2 (.tup [V.int (j:Int),V.ref u]);refine⟨Tt2,_,rfl,A4.of A7,rfl,rfl,?_⟩;refine⟨.inl ⟨rfl,_,A3.of (sT2 _ _ hzs)⟩,Ap rfl,λr hr=>?_⟩;have s6:=Ab hr (.tup [V.int (i:Int),V.int (j:Int),V.ref u]);have e6:=sT2.trans s6;have hz6:=e6 _ _ hzs;have zl:=az.1;rw[Ai,Pm.tk3_len,BQ]at zl;have nr:r≠fo:=λz=>by rw[z,sT2 _ _ hzs]at hr;cases hr
  refine⟨fo,_,_,rfl,rfl,hz6,BK (by lia),?_⟩;have tk:=TK.upd (o:=.lst (zs++[V.ref r])) hz6;refine⟨zs++[.ref r],_,_,rfl,λb o hb h=>by rw[Ag hb];exact e6 _ _ (k4 b o hb h),A7,?_⟩;rw[CL htb,Pm.tk3_snoc,←D6];refine(az.mono λ_ _ z=>(z.over e6).tk tk).snoc ⟨r,u,p,rfl,?_,tk _ _ (e6 _ _ hu4)⟩;rw[BQ,Ec (Ff jl),FI];exact tk _ _ A7
 .obtain⟨zs,o4,o5,rfl,k4,hzs,az⟩:=pp;rw[tsl,E1]at az;refine⟨zs,_,_,_,_,rfl,λb o hb=>k4 _ _ (Av hb hfo) (e3 _ _ (e2 _ _ hb)),hzs,?_⟩;show Am _ _ (Pm.all3 0 ((Rs.take (i+1)).map EN));rw[CL hR,Bv];show Am _ _ (Pm.all3 0 ((Rs.take i).map EN++[EN R]));rw[Pm.all3_snoc,Af,BQ,Ec (Ff il),FI];exact az
theorem XY (T:Tx w K mg a):AI P w K mg base AN 104 a.f_I a.d_I ["program"] (Z4 a.c_Program a.c_Deed (CY a)):=by
 have G_J :=@Wp P w K mg base a T;refine T.F_I.ok FX (λvs H Q E h=>?_) (λcdv A outer s H vs Q E hr h=>?_)
 .obtain⟨_,_,rfl,_⟩:=h;rfl
 obtain⟨v,Rs,rfl,hP,ok,n6,q⟩:=h;refine⟨_,(A9 (Ao (i:=1) FX.nd rfl (.inl rfl) (Ax G_J (hr.mono (by lia)) (by rfl) T.m_J T.F_J.kp T.b_J .nil Ar (A0 (pw 0) A2)))
  (A9 (Ao (i:=2) FX.nd rfl (.inl rfl) (BO A2))
  (A9 (C2 PassesOwn.never rfl (CQ (pw 1)) (CZ rfl (B4 (Az (i:=3) FX.nd rfl (.inl rfl)) (B4 (Az (i:=4) FX.nd rfl (.inl rfl)) (B4 (Az (i:=5) FX.nd rfl (.inl rfl)) D4))))
  (Ae (C2 PassesOwn.never rfl (CQ (pw 1)) (CZ rfl (B4 (Az (i:=6) FX.nd rfl (.inl rfl)) (B4 (Az (i:=7) FX.nd rfl (.inl rfl)) (B4 (Az (i:=8) FX.nd rfl (.inl rfl)) D4))))
  (Ae (Bx ((Dy (AK Co (Aa Al (pw 5) A1 (λ_ _=>rfl)) (Aa Al (pw 8) A1 (λ_ _=>rfl)) (AF _)) (E7 ((FL (Fl (Aa Al (pw 5) A1 (λ_ _=>rfl))) (Jb (Fl (Aa Al (pw 8) A1 (λ_ _=>rfl)))))).pt))).pt
  (Ae (Br (BF Bw BR BS BL (pw 2) (A0 (BJ (Ac (pw 3) (Ac (pw 4) (Ac (pw 6) (Ac (pw 7) BG Bg) Bg) Bg) Bg)) A2))))
  BW)))))
  (Ae (AH (pw 2)))))),?_⟩
 refine⟨v,Rs,rfl,hP,ok,n6,λto ys H1 e1 hto0 hto at1=>?_⟩;dsimp only[Aq];refine⟨Ap rfl,λfo hfo=>?_⟩;have e2:=Ab hfo (.lst []);have hfo2:(upd H1 fo (.lst [])) fo=some (.lst []):=A7;dsimp only[Aq];generalize upd H1 fo (.lst [])=H2 at e2 hfo2;have tl:=KH ok n6;have ysl:=at1.1;have nyf:to≠fo:=Av hto hfo;refine⟨to,rfl,⟨_,A3.of (e2 _ _ hto)⟩,?_⟩;refine EI (xs:=ys) (λi σ' H'=>∃(zs:List V) (o3 o4 o5 o6 o7 o8:Option V),σ'=[some v,some (.ref to),some (.ref fo),o3,o4,o5,o6,o7,o8]/\A8 H1 H'/\H' fo=some (.lst zs)/\Am (Fz H') zs (Pm.mtF ((Ca Rs).take i) (Ca Rs))) ⟨[],_,_,_,_,_,_,rfl,e2,hfo2,.nil⟩ (λi σ' H' _ pp=>by obtain⟨_,_,_,_,_,_,_,_,e,_⟩:=pp;exact A3.of (e _ _ hto)) (λi y σ' H' hy pp=>?_) (fun σ' H' pp=>?_);rotate_left
 .obtain⟨zs,o3,o4,o5,o6,o7,o8,rfl,e,hzs,az⟩:=pp;rw[Gg (by lia)]at az;exact q fo _ (e1.trans e) (e1.free hfo) ⟨zs,hzs,az⟩
 refine Ak λ_ zA=>?_;obtain⟨zs,o3,o4,o5,o6,o7,o8,rfl,e,hzs,az⟩:=pp;obtain⟨X,hX,t,u,p1,rfl,ht,hu⟩:=(at1.mono λ_ _ z=>z.over e).get' hy;refine zA ?_;have il:i<(Ca Rs).length:=(Aw.mp hX).1;refine⟨t,_,rfl,A4.of ht,rfl,rfl,?_⟩;have mlen:=Pm.mtF_len (Ca Rs) ((Ca Rs).take i);rw[BQ,Ec (Ff il)]at mlen;have ml2:i*(Ca Rs).length<=186*186:=Nat.mul_le_mul (by lia) tl;refine⟨to,rfl,⟨_,A3.of (e _ _ hto)⟩,?_⟩;refine EI (xs:=ys) (λj σ' H4=>∃(ws:List V) (o6 o7 o8:Option V),σ'=[some v,some (.ref to),some (.ref fo),some (.int (X.k:Int)),some (.int (X.a:Int)),some (.ref u),o6,o7,o8]/\(∀b o,b≠fo->H' b=some o->H4 b=some o)/\H4 fo=some (.lst ws)/\Am (Fz H4) ws (Pm.mtF ((Ca Rs).take i) (Ca Rs)++Pm.in1 X ((Ca Rs).take j))) ⟨zs,_,_,_,rfl,λ_ _ _ h=>h,hzs,by show Am _ _ (_++[]);rw[CV];exact az⟩ (λj σ' H4 _ pp=>by obtain⟨_,_,_,_,_,k4,_⟩:=pp;exact A3.of (k4 _ _ nyf (e _ _ hto))) (λj y2 σ' H4 hy2 pp=>?_) (fun σ' H4 pp=>?_);rotate_left
 .obtain⟨ws,o6,o7,o8,rfl,k4,hws,aw⟩:=pp;rw[ysl,E1,←Pm.mtF_snoc,←CL hX]at aw;exact⟨ws,_,_,_,_,_,_,rfl,λb o hb=>k4 _ _ (Av hb hfo) (e _ _ hb),hws,aw⟩
 refine Ak λ_ zB=>?_;obtain⟨ws,o6,o7,o8,rfl,k4,hws,aw⟩:=pp;have tk4:TK H' H4:=λb o hb=>k4 _ _ (Fn hb hzs (by intro z;cases z)) hb;obtain⟨Y,hY,t2,u2,p2,rfl,ht2,hu2⟩:=(at1.mono λ_ _ z=>(z.over e).tk tk4).get' hy2;refine zB ?_;have hu4:=tk4 _ _ hu;refine⟨t2,_,rfl,A4.of ht2,rfl,rfl,?_⟩;have wl:=aw.1;have il2:=Pm.in1_len X ((Ca Rs).take j);rw[Ai]at wl;rw[BQ]at il2;refine Pu (λH''=>H''=H4/\Pm.ok X Y=true) (λH'' hh=>?_) (λgo=>?_)
 .obtain⟨rfl,h⟩:=hh;refine⟨.inl ⟨rfl,_,A3.of hws⟩,Ap rfl,λr hr=>?_⟩;have s6:=Ab hr (.tup [V.int (X.k:Int),V.int (X.a:Int),V.int (Y.k:Int),V.int (Y.a:Int)]);have hw6:=s6 _ _ hws;refine⟨fo,_,_,rfl,rfl,hw6,BK (by lia),?_⟩;have tk:=TK.upd (o:=.lst (ws++[V.ref r])) hw6;refine⟨ws++[.ref r],_,_,_,rfl,λb o hb h=>by rw[Ag hb];exact s6 _ _ (k4 b o hb h),A7,?_⟩;rw[CL hY,Pm.in1_snoc,h,Ay rfl,←D6];exact(aw.mono λ_ _ z=>(z.over s6).tk tk).snoc ⟨r,rfl,tk _ _ A7⟩
 have no:Pm.ok X Y=false->Am (Fz H4) ws (Pm.mtF ((Ca Rs).take i) (Ca Rs)++Pm.in1 X ((Ca Rs).take (j+1))):=λh=>by
  rw[CL hY,Pm.in1_snoc,h,AB (by decide),CV];exact aw
 refine⟨u,_,1,_,rfl,rfl,A4.of hu4,rfl,u2,_,1,_,rfl,rfl,A4.of hu2,rfl,rfl,_,rfl,?_⟩;by_cases cz:X.z=Y.z
 .refine Be (v:=true) (BU (congrArg V.str cz)) (C6 ?_);refine⟨u,_,0,_,rfl,rfl,A4.of hu4,rfl,_,rfl,?_⟩;cases cb:X.b with
  |true=>exact C6 (go _ ⟨rfl,by unfold Pm.ok;rw[BU cz,cb];rfl⟩)
  |
   false=>
   refine By ?_;refine⟨u2,_,0,_,rfl,rfl,A4.of hu2,rfl,_,rfl,?_⟩;cases cd:Y.b with
   |true=>exact C6 (go _ ⟨rfl,by unfold Pm.ok;rw[BU cz,cb,cd];rfl⟩)
   |false=>exact By ⟨ws,_,_,_,rfl,k4,hws,no (by unfold Pm.ok;rw[cb,cd,Bool.or_self,Oy])⟩
 .refine Be (v:=false) (C9 λz=>cz (V.str.inj z)) (By ?_);exact⟨ws,_,_,_,rfl,k4,hws,no (by unfold Pm.ok;rw[C9 cz];rfl)⟩
theorem VC (T:Tx w K mg a):AI P w K mg base AN 105 a.f_N a.d_N ["program"] (Wm a.c_Program a.c_Deed (CY a)):=by
 have G_I :=@XY P w K mg base a T;have G_K :=@bg P w K mg base a T;refine T.F_N.ok Ht (λvs H Q E h=>?_) (λcdv A outer s H vs Q E hr h=>?_)
 .obtain⟨_,_,rfl,_⟩:=h;rfl
 obtain⟨v,Rs,rfl,hP,ok,R6,q⟩:=h;refine⟨_,(A9 (Ao (i:=1) Ht.nd rfl (.inl rfl) (BO A2))
  (A9 (C2 PassesOwn.never rfl (CQ (Ax G_I (hr.mono (by lia)) (by rfl) T.m_I T.F_I.kp T.b_I .nil Ar (A0 (pw 0) A2))) (CZ rfl (B4 (Az (i:=2) Ht.nd rfl (.inl rfl)) (B4 (Az (i:=3) Ht.nd rfl (.inl rfl)) (B4 (Az (i:=4) Ht.nd rfl (.inl rfl)) (B4 (Az (i:=5) Ht.nd rfl (.inl rfl)) D4)))))
  (Ae (C2 PassesOwn.never rfl (CQ (Ax G_K (hr.mono (by lia)) (by rfl) T.m_K T.F_K.kp T.b_K .nil Ar (A0 (pw 0) (A0 (pw 2) (A0 (pw 4) A2))))) (Az (i:=6) Ht.nd rfl (.inl rfl))
  (Ae (Br (BF Bw BR BS BL (pw 1) (A0 (BJ (Ac (pw 2) (Ac (pw 3) (Ac (pw 4) (Ac (pw 5) (Ac (pw 6) BG Bg) Bg) Bg) Bg) Bg)) A2)))))))
  (Ae (AH (pw 1))))),?_⟩
 refine⟨Ap rfl,λfo hfo=>?_⟩;have s1:=Ab hfo (.lst []);have hf1:(upd H fo (.lst [])) fo=some (.lst []):=A7;dsimp only[Aq];generalize upd H fo (.lst [])=H1 at s1 hf1;refine ⟨v,Rs,rfl,hP.over s1,ok,R6,λmr H2 e2 mr1 zz=>?_⟩;obtain⟨ms,hms,am⟩:=zz;have nmf:mr≠fo:=λz=>by rw[z,hf1]at mr1;cases mr1
 have e02:=s1.trans e2;have mm:=λq h=>VZ (Rs:=Rs) (q:=q) h;have ml:=Rm (KH ok R6);have msl:=am.1;unfold G0 at q;generalize Pm.mt (Ca Rs)=L at am mm ml msl q;refine⟨mr,rfl,⟨_,A3.of hms⟩,?_⟩;refine EI (xs:=ms) (λi σ' H'=>∃(zs:List V) (o2 o3 o4 o5 o6:Option V),σ'=[some v,some (.ref fo),o2,o3,o4,o5,o6]/\Bt fo H2 H'/\H' fo=some (.lst zs)/\Am (FU H') zs ((L.take i).flatMap (ED Rs))) ⟨[],_,_,_,_,_,rfl,λ_ _ _ h=>h,e2 _ _ hf1,.nil⟩ (λi σ' H' _ pp=>by obtain⟨_,_,_,_,_,_,_,b,_⟩:=pp;exact A3.of (b _ _ nmf hms)) (λi y σ' H' hy pp=>?_) (fun σ' H' pp=>?_);rotate_left
 .obtain⟨zs,o2,o3,o4,o5,o6,rfl,b,hz,az⟩:=pp;rw[msl,E1]at az;exact q fo zs _ (λx o hx=>b _ _ (Av hx hfo) (e02 _ _ hx)) hfo hz az
 refine Ak λ_ zA=>?_;obtain⟨zs,o2,o3,o4,o5,o6,rfl,b,hz,az⟩:=pp;obtain⟨q4,hq4,t,rfl,ht⟩:=am.get' hy;have li:=(Aw.mp hq4).1;obtain⟨R,S,hR,hS⟩:=mm q4 (B0 hq4);refine zA ?_;have e0:A8 H H':=λx o hx=>b _ _ (Av hx hfo) (e02 _ _ hx);have tk2:=b.tk (e2 _ _ hf1);have ht':=tk2 _ _ ht;refine⟨t,_,rfl,A4.of ht',rfl,rfl,?_⟩;dsimp only[Aq];have d1:=Zb (Rs:=Rs) hq4;have dl:=Nk ok (L.take i);have tl:(L.take i).length<=34596:=by rw[BQ];lia
 have azl:=az.1;rw[d1];have e1:ED Rs q4=(List.range (Dj q4.1 q4.2.2.1 (HN R S))).map λe=>(q4,e):=by unfold ED;rw[QA hR hS]
 have cl4:Dj q4.1 q4.2.2.1 (HN R S)<=4:=by
  have:=(Mh R S).1;have:=(ok R (B0 hR)).n3;unfold Dj;split<;>lia
 rw[e1];generalize (L.take i).flatMap (ED Rs)=done at az azl dl;refine⟨v,Rs,q4.1,q4.2.2.1,HN R S,R,S,rfl,hP.over e0,ok,hR,hS,Mh R S,λcr H3 e3 cr0 hcr=>?_⟩;have ncf:cr≠fo:=λz=>by rw[z,hz]at cr0;cases cr0
 refine⟨cr,rfl,⟨_,A3.of hcr⟩,?_⟩;refine EI (xs:=(List.range (Dj q4.1 q4.2.2.1 (HN R S))).map λi:Nat=>V.int (i:Int)) (λj σ' H4=>∃(zs:List V) (o6:Option V),σ'=[some v,some (.ref fo),some (.int (q4.1:Int)),some (.int (q4.2.1:Int)),some (.int (q4.2.2.1:Int)),some (.int (q4.2.2.2:Int)),o6]/\Bt fo H3 H4/\H4 fo=some (.lst zs)/\Am (FU H4) zs (done++(List.range j).map λe=>(q4,e))) ⟨zs,_,rfl,λ_ _ _ h=>h,e3 _ _ hz,by rw[List.range_zero,Gf,CV];exact az.mono λ_ _ z=>z.over e3⟩ (λj σ' H4 _ pp=>by obtain⟨_,_,_,b4,_⟩:=pp;exact A3.of (b4 _ _ ncf hcr)) (λj y σ' H4 hy pp=>?_) (fun σ' H4 pp=>?_)
 .obtain⟨zs2,o6,rfl,b4,hz4,az4⟩:=pp;have lj:=(Aw.mp hy).1;rw[Af,C8]at lj;rw[Bf,Fi lj]at hy;have ey:y = .int (j:Int):=(Cu hy).symm;subst ey;have z4l:=az4.1;rw[Ai,Af,C8]at z4l;dsimp only[Aq];refine⟨.inl ⟨rfl,_,A3.of hz4⟩,Ap rfl,λt5 ht5=>?_⟩;have s5:=Ab ht5 (.tup [V.int (q4.1:Int),V.int (q4.2.1:Int),V.int (q4.2.2.1:Int),V.int (q4.2.2.2:Int),V.int (j:Int)]);have hz5:=s5 _ _ hz4;refine⟨fo,_,_,rfl,rfl,hz5,BK (by lia),?_⟩;have tk6:=TK.upd (o:=.lst (zs2++[V.ref t5])) hz5;refine⟨zs2++[.ref t5],_,rfl,(b4.trans (Bt.same s5)).trans Bt.put,A7,?_⟩;rw[GR,Bv,←D6];exact(az4.mono λ_ _ z=>(z.over s5).tk tk6).snoc ⟨t5,rfl,tk6 _ _ A7⟩
 refine Ak λ_ zB=>?_;obtain⟨zs2,o6',rfl,b4,hz4,az4⟩:=pp;refine zB ?_;rw[Af,C8]at az4;exact⟨zs2,_,_,_,_,_,rfl,(b.trans (Bt.same e3)).trans b4,hz4,az4⟩
theorem Vy (T:Tx w K mg a):AI P w K mg base AN 1 a.f_F a.d_F ["bonds","values","lowered_by"] Zf:=by
 refine T.F_F.ok IT (λvs H Q E h=>?_) (λcdv A outer s H vs Q E hr h=>?_)
 .obtain⟨_,_,_,_,_,_,rfl,_⟩:=h;rfl
 obtain⟨b,v,l,B,n,s,rfl,nv,nl,nvl,hB,hw,hv,hl,q⟩:=h;refine⟨_,(A9 (Ao (i:=3) IT.nd rfl (.inl rfl) EX)
  (A9 (C2 PassesOwn.never rfl (Kw (by rfl) T.z_enumerate (A0 (pw 0) A2)) (CZ rfl (B4 (Az (i:=4) IT.nd rfl (.inl rfl)) (B4 (Az (i:=5) IT.nd rfl (.inl rfl)) D4)))
  (A9 (Ao (i:=6) IT.nd rfl (.inl rfl) (Aj (Bi BH) (Aa AS (pw 1) (Aa Al (pw 5) A1 (λ_ _=>rfl)) (λ_ _=>rfl)) (Aa Al (pw 5) A1 (λ_ _=>rfl))))
  (Ae (Bx (AK (Bi F4) (Aa AS (pw 1) (Aa Al (pw 5) A1 (λ_ _=>rfl)) (λ_ _=>rfl)) (pw 6) (AF _))
  (A9 (Jx (pw 6) (K0 (pw 1) (Aa Al (pw 5) A1 (λ_ _=>rfl)) JL))
  (A9 (Jx (pw 4) (K0 (pw 2) (Aa Al (pw 5) A1 (λ_ _=>rfl)) JL))
  (Ae (Ao (i:=3) IT.nd rfl (.inl rfl) (Aa Al (pw 5) A1 (λ_ _=>rfl))))))
  BW))))
  (Ae (AH (pw 3))))),?_⟩
 refine Ak λ_ zA=>?_;obtain⟨vs,hb,hbs⟩:=hB;refine zA ?_;have hbl:=hbs.1;refine⟨b,rfl,⟨_,A3.of hb⟩,?_⟩;refine Jq (xs:=vs) (λi σ' H'=>NM H H' v l/\(∃o4 o5 o6,σ'=[some (.ref b),some (.ref v),some (.ref l),some (Kg (rnd B i {s with low:=none}).low),o4,o5,o6])/\H' v=some (.lst (vl n (rnd B i {s with low:=none}).v))/\H' l=some (.lst (pl n (rnd B i {s with low:=none}).p))) ⟨λa o e _ _=>e,⟨_,_,_,rfl⟩,hv,hl⟩ (λi σ' H' _ p=>A3.of (p.1 _ _ hb nv nl)) (λi x Tt σ' H' hx p hT=>?_) (fun σ' H' p=>?_)
 case refine_2=>
  refine Ak λ_ zB=>?_;obtain⟨e,⟨o4,o5,o6,rfl⟩,h1,h2⟩:=p;refine zB ?_;rw[hbl]at h1 h2 ⊢;exact q H' e h1 h2
 refine Ak λ_ zC=>?_;obtain⟨e,⟨o4,o5,o6,rfl⟩,h1,h2⟩:=p;have hi:i<B.length:=by have:=(Aw.mp hx).1;lia
 have eB:B[i]?=some B[i]:=AE hi;obtain⟨t,rfl,ht⟩:=hbs.2 i x _ hx eB;refine zC ?_;have hW:=hw _ (Fh hi);have ht':=e _ _ ht (Fn ht hv (by intro z;cases z)) (Fn ht hl (by intro z;cases z));have st:rnd B (i+1) {s with low:=none}=IU i B[i] (rnd B i {s with low:=none}):=by
  show(match B[i]? with|some b=>IU i b (rnd B i {s with low:=none})|none=>rnd B i {s with low:=none})=_;rw[eB]
 rw[st];generalize rnd B i {s with low:=none}=s0 at h1 h2 ⊢;generalize B[i]=bb at ht' hW;have sT:=Ab hT (.tup [V.int (i:Int),.ref t]);have ht2:=sT _ _ ht';have h12:=sT _ _ h1;have h22:=sT _ _ h2;have e2:NM H (upd H' Tt (.tup [V.int (i:Int),.ref t])) v l:=λa o ha na nb=>sT _ _ (e a o ha na nb);refine⟨Tt,_,rfl,A4.of A7,rfl,rfl,?_⟩;generalize upd H' Tt (.tup [V.int (i:Int),.ref t])=H2 at ht2 h12 h22 e2 ⊢;refine⟨t,_,1,_,rfl,rfl,A4.of ht2,rfl,v,_,_,_,rfl,rfl,A3.of h12,Nj hW.2,t,_,2,_,rfl,rfl,A4.of ht2,rfl,?_⟩;dsimp only[Aq];refine⟨t,_,0,_,rfl,rfl,A4.of ht2,rfl,v,_,_,_,rfl,rfl,A3.of h12,Nj hW.1,_,rfl,?_⟩;unfold IU;refine BN (λc=>?_) (λc=>?_)
 .have c:=dT c;rw[Ay (by lia)];refine⟨t,_,0,_,rfl,rfl,A4.of ht2,rfl,v,_,_,_,rfl,rfl,h12,Pf (by rw[JG];exact hW.1),?_⟩;rw[VA];have tv:t≠v:=Fn ht2 h12 (by intro z;cases z);have tl:t≠l:=Fn ht2 h22 (by intro z;cases z);refine⟨t,_,0,_,rfl,rfl,A4.of (by rw[Ag tv];exact ht2),rfl,l,_,_,_,rfl,rfl,(by rw[Ag (Ne.symm nvl)];exact h22),Pf (by rw[Zx];exact hW.1),?_⟩;rw[aH];refine⟨t,_,0,_,rfl,rfl,A4.of (by rw[Ag tl,Ag tv];exact ht2),rfl,?_⟩;refine⟨λa o ha na nb=>?_,⟨_,_,_,rfl⟩,?_,A7⟩
  .rw[Ag nb,Ag na];exact e2 a o ha na nb
  .rw[Ag nvl];exact A7
 .have c:=dF c;rw[AB (by lia)];exact⟨e2,⟨_,_,_,rfl⟩,h12,h22⟩
theorem Vs (T:Tx w K mg a):AI P w K mg base AN 1 a.f_G a.d_G ["count","bonds","lowered_by","lowered"] VQ:=by
 refine T.F_G.ok Hi (λvs H Q E h=>?_) (λcdv A outer s H vs Q E hr h=>?_)
 .obtain⟨_,_,_,_,_,_,_,rfl,_⟩:=h;rfl
 obtain⟨n,b,l,B,s,x0,m,rfl,⟨bs,hb,hbs⟩,hBl,hn,hl,hlow,hR,hw,q⟩:=h;refine⟨_,(A9 (Ao (i:=4) Hi.nd rfl (.inl rfl) (pv 3))
  (A9 (C2 PassesOwn.never rfl (F0 (by rfl) T.z_range (A0 (pv 0) A2)) (Az (i:=5) Hi.nd rfl (.inl rfl))
  (Ae (Ao (i:=4) Hi.nd rfl (.inl rfl) (Aa Al (Aa AS (pv 1) (Aa AS (pv 2) (pv 4) (λ_ _=>rfl)) (λ_ _=>rfl)) A1 (λ_ _=>rfl)))))
  (A9 (Ao (i:=6) Hi.nd rfl (.inl rfl) (BO (A0 (Aa AS (pv 2) (pv 4) (λ_ _=>rfl)) A2)))
  (A9 (Ao (i:=7) Hi.nd rfl (.inl rfl) (Aa Al (Aa AS (pv 1) (Aa AS (pv 2) (pv 4) (λ_ _=>rfl)) (λ_ _=>rfl)) A1 (λ_ _=>rfl)))
  (A9 (Ko PassesOwn.never (AK Nc (pv 7) (pv 4) (AF _))
  (A9 (Br (BF Bw BR BS BL (pv 6) (A0 (Aa AS (pv 2) (pv 7) (λ_ _=>rfl)) A2)))
  (Ae (Ao (i:=7) Hi.nd rfl (.inl rfl) (Aa Al (Aa AS (pv 1) (Aa AS (pv 2) (pv 7) (λ_ _=>rfl)) (λ_ _=>rfl)) A1 (λ_ _=>rfl))))))
  (Ae (AH (pv 6)))))))),?_⟩
 have hm:=hR.pos;have hm2:=hR.le;refine⟨_,rfl,_,rfl,(n:Int),rfl,by lia,by lia,?_⟩;refine GA (lo:=0) (n:=n) (λi σ' H'=>H'=H/\∃o5 o6 o7,σ'=[some (.int (n:Int)),some (.ref b),some (.ref l),some (.int (x0:Int)),some (.int (it B s.p i x0:Int)),o5,o6,o7]) ⟨rfl,_,_,_,rfl⟩ (λi σ' H' hi p=>?_) (fun σ' H' p=>?_)
 .obtain⟨rfl,o5,o6,o7,rfl⟩:=p;refine Ak λ_ zA=>?_;obtain⟨j,bb,g1,g2,g3⟩:=hR.walk i hi;obtain⟨t,c0,c1⟩:=hbs.get g2;refine zA ?_;have hz:=hR.lt i (by lia);have ha:B1 (pl n s.p) (it B s.p i x0:Int)=some (.int (j:Int)):=(Nx hz).trans (by rw[g1];rfl);refine⟨_,rfl,_,rfl,_,rfl,l,_,_,_,rfl,rfl,A3.of hl,ha,b,_,_,_,rfl,rfl,A3.of hb,c0,t,_,1,_,rfl,rfl,A4.of c1,rfl,rfl,_,_,_,congrArg (λv:Nat=>[some (V.int (n:Int)),some (.ref b),some (.ref l),some (.int (x0:Int)),some (.int (v:Int)),some (.int (0+(i:Int))),o6,o7]) (show bb.y=it B s.p (i+1) x0 by rw[Ie,FA g1 g2])⟩
 refine Ak λ_ zB=>?_;obtain⟨rfl,o5,o6,o7,rfl⟩:=p;refine zB ?_;have he:=hR.lt n (Ah _);have hal:=hR.alive;have hlt:∀k,it B s.p k (it B s.p n x0)<n:=λk=>by
  obtain⟨i,bb,g1,g2,g3⟩:=hal k;rw[←g3];exact(hw _ (B0 g2)).1
 have heq:=hR.eq hlow;have hback:=hR.back;have hleast:=hR.least;rw[heq]at q;generalize it B s.p n x0=e at *;refine Ak λ_ zC=>?_;obtain⟨j,bb,g1,g2,g3⟩:=hal 0;refine zC ?_;change s.p e=some j at g1;refine Ak λ_ zD=>?_;obtain⟨t,c0,c1⟩:=hbs.get g2;refine zD ?_;have ha:B1 (pl n s.p) (e:Int)=some (.int (j:Int)):=(Nx he).trans (by rw[g1];rfl);refine⟨_,rfl,_,rfl,l,_,_,_,rfl,rfl,A3.of hl,ha,Ap rfl,λr hr=>?_⟩;have s1:=Ab hr (.lst [V.int (j:Int)]);refine⟨_,rfl,_,rfl,_,rfl,l,_,_,_,rfl,rfl,A3.of (s1 _ _ hl),ha,b,_,_,_,rfl,rfl,A3.of (s1 _ _ hb),c0,t,_,1,_,rfl,rfl,A4.of (s1 _ _ c1),rfl,?_⟩;dsimp only[Aq];refine Dr (fun σ' H''=>∃o5 o7,σ'=[some (.int (n:Int)),some (.ref b),some (.ref l),some (.int (x0:Int)),some (.int (e:Int)),o5,some (.ref r),o7]/\A8 H' H''/\H'' r=some (.lst (D0 (DW B s.p e m)))) (fun σ' H'' pp=>?_) (λnx=>?_)
 .obtain⟨o5,o7,rfl,e1,hr1⟩:=pp;exact⟨_,rfl,q r H'' e1 hr hr1⟩
 refine JX (m-1) (λi σ' H''=>∃o5,σ'=[some (.int (n:Int)),some (.ref b),some (.ref l),some (.int (x0:Int)),some (.int (e:Int)),o5,some (.ref r),some (.int (it B s.p (i+1) e:Int))]/\A8 H' H''/\H'' r=some (.lst (D0 (DW B s.p e (i+1))))) ⟨o5,?_,s1,?_⟩ (λi σ' H'' hi pp=>?_) (fun σ H Q Q' hq h=>?_)
 .rw[Ie];show _=[_,_,_,_,_,_,_,some (V.int ((pb B s.p e).y:Int))]
  rw[FA g1 g2];rfl
 .rw[A7];show _=some (HO.lst [V.int (((s.p e).getD 0:Nat):Int)]);rw[g1];rfl
 .obtain⟨o5,rfl,e1,hr1⟩:=pp;refine⟨_,rfl,_,rfl,rfl,_,rfl,?_⟩;by_cases c:it B s.p (i+1) e=e
  .have hi2:i+1=m:=by
    by_cases z:i+1<m
    .exact absurd c (hleast _ (by lia) z)
    .lia
   rw[c];refine Be (Od rfl) (By ?_);rw[hi2]at hr1;exact nx _ _ ⟨_,_,rfl,e1,hr1⟩
  .have hi2:i+1<m:=by
    by_cases z:i+1=m
    .rw[z]at c;exact absurd hback c
    .lia
   refine Be (OZ (λz=>c (by have:=V.int.inj z;lia))) (C6 ⟨by lia,?_⟩);refine Ak λ_ zE=>?_;obtain⟨j2,b2,k1,k2,k3⟩:=hal (i+1);obtain⟨t2,d0,d1⟩:=hbs.get k2;refine zE ?_;have ha2:B1 (pl n s.p) (it B s.p (i+1) e:Int)=some (.int (j2:Int)):=(Nx (hlt (i+1))).trans (by rw[k1];rfl);refine⟨_,rfl,.inl ⟨rfl,_,A3.of hr1⟩,_,rfl,_,rfl,l,_,_,_,rfl,rfl,A3.of (e1 _ _ hl),ha2,r,_,_,rfl,rfl,hr1,(by rw[Ly];unfold DW;rw[Af,C8];exact BK (by lia)),?_⟩;have s2:A8 H' (upd H'' r (.lst (D0 (DW B s.p e (i+1))++[V.int (j2:Int)]))):=λa o ha=>by rw[Ag (Av ha hr)];exact e1 _ _ ha
   have hr2:(upd H'' r (.lst (D0 (DW B s.p e (i+1))++[V.int (j2:Int)]))) r=some (.lst (D0 (DW B s.p e (i+1+1)))):=by
    rw[A7,ak];unfold DW;rw[GR (n:=i+1),Bv];show some (HO.lst (D0 (_++[j2])))=some (HO.lst (D0 (_++[(s.p (it B s.p (i+1) e)).getD 0])));rw[k1];rfl
   refine⟨_,rfl,_,rfl,_,rfl,l,_,_,_,rfl,rfl,A3.of (s2 _ _ hl),ha2,b,_,_,_,rfl,rfl,A3.of (s2 _ _ hb),d0,t2,_,1,_,rfl,rfl,A4.of (s2 _ _ d1),rfl,?_⟩;refine⟨o5,?_,s2,hr2⟩;rw[Ie B s.p (i+1),FA k1 k2];rfl
 .obtain⟨a1,h1,a2,h2,h3,a3,h4,h5⟩:=h;exact⟨a1,h1,a2,h2,h3,a3,h4,hq _ _ h5⟩
theorem aa (T:Tx w K mg a):AI P w K mg base AN 2 a.f_E a.d_E ["count","bonds"] ZE:=by
 have G_F :=@Vy P w K mg base a T;have G_G :=@Vs P w K mg base a T;refine T.F_E.ok J6 (λvs H Q E h=>?_) (λcdv A outer s H vs Q E hr h=>?_)
 .obtain⟨_,_,_,rfl,_⟩:=h;rfl
 obtain⟨n,b,B,rfl,hB,hw,n0,n1,hBl,q⟩:=h;refine⟨_,(A9 (Ao (i:=2) J6.nd rfl (.inr rfl) (Aj NZ (BO (A0 A1 A2)) (pw 0)))
  (A9 (Ao (i:=3) J6.nd rfl (.inl rfl) (Aj NZ (BO (A0 EX A2)) (pw 0)))
  (A9 (Ao (i:=4) J6.nd rfl (.inl rfl) EX)
  (A9 (C2 PassesOwn.never rfl (F0 (by rfl) T.z_range (A0 (pw 0) A2)) (Az (i:=5) J6.nd rfl (.inl rfl))
  (A9 (Ao (i:=4) J6.nd rfl (.inl rfl) (Ax G_F (hr.mono (by lia)) (by rfl) T.m_F T.F_F.kp T.b_F .nil Ar (A0 (pw 1) (A0 (pw 2) (A0 (pw 3) A2)))))
  (Ae (Bx (AK Sa (pw 4) EX (AF _))
  (Ae (AH (BX (A0 BY (A0 (F1 ["value","values"] [none,some 2] (by rfl) (CQ (pw 2)) WR (λ_ _ _ _ _ _=>⟨(Az (i:=0) Yf rfl (.inl rfl)),Ef,(Aj (Bi EO) (pw 0) (Aa (show DQ _ (Ka K) from AS) (pw 1) A1 (λ_ _=>rfl)))⟩)) A2)))))
  BW))))
  (Ae (AH (BX (A0 BY (A0 (Ax G_G (hr.mono (by lia)) (by rfl) T.m_G T.F_G.kp T.b_G .nil Ar (A0 (pw 0) (A0 (pw 1) (A0 (pw 3) (A0 (pw 4) A2))))) A2))))))))),?_⟩
 have p63:(2:Int) ^ 63=9223372036854775808:=by decide
 refine⟨Ap rfl,λl1 hl1=>⟨l1,_,_,rfl,rfl,A7,by lia,by lia,BD (by show 1*n<=1000000;lia),λv hv=>?_⟩⟩;have s1:=(Ab hl1 (.lst [V.int 0])).trans (Ab hv (.lst (List.replicate ((n:Int)).toNat [V.int 0]).flatten));have hv1:(upd (upd H l1 (.lst [V.int 0])) v (.lst (List.replicate ((n:Int)).toNat [V.int 0]).flatten)) v=some (.lst (vl n st0.v)):=by rw[A7];exact congrArg (λz=>some (HO.lst z)) (Qx n _)
 have hv0:H v=none:=(Ab hl1 (.lst [V.int 0])).free hv;dsimp only[Aq];generalize upd (upd H l1 (.lst [V.int 0])) v (.lst (List.replicate ((n:Int)).toNat [V.int 0]).flatten)=H1 at s1 hv1;refine⟨Ap rfl,λl2 hl2=>⟨l2,_,_,rfl,rfl,A7,by lia,by lia,BD (by show 1*n<=1000000;lia),λl hl=>?_⟩⟩;have s2:=(Ab hl2 (.lst [V.non])).trans (Ab hl (.lst (List.replicate ((n:Int)).toNat [V.non]).flatten));have hl1':(upd (upd H1 l2 (.lst [V.non])) l (.lst (List.replicate ((n:Int)).toNat [V.non]).flatten)) l=some (.lst (pl n st0.p)):=by rw[A7];exact congrArg (λz=>some (HO.lst z)) (Qx n _)
 have hlH1:H1 l=none:=(Ab hl2 (.lst [V.non])).free hl;have hl0:H l=none:=s1.free hlH1;have nvl:v≠l:=Av hv1 hlH1;have hv2:=s2 _ _ hv1;have s12:=s1.trans s2;dsimp only[Aq];generalize upd (upd H1 l2 (.lst [V.non])) l (.lst (List.replicate ((n:Int)).toNat [V.non]).flatten)=H2 at s12 hv2 hl1';clear s1 s2 hv1 hl hv hl1 hl2 hlH1;have nbv:b≠v:=by obtain⟨vs,g,_⟩:=hB;exact Av g hv0
 have nbl:b≠l:=by obtain⟨vs,g,_⟩:=hB;exact Av g hl0
 refine⟨(n:Int),rfl,by lia,by lia,?_⟩;refine GA (lo:=0) (n:=n) (λi σ' H'=>A8 H H'/\∃(s:Sv) (o5:Option V),σ'=[some (.int (n:Int)),some (.ref b),some (.ref v),some (.ref l),some (Kg s.low),o5]/\H' v=some (.lst (vl n s.v))/\H' l=some (.lst (pl n s.p))/\go B n st0=go B (n-i) s) ⟨s12,st0,_,rfl,hv2,hl1',rfl⟩ (λi σ' H' hi pp=>?_) (fun σ' H' pp=>?_)
 .obtain⟨e,s,o5,rfl,h1,h2,hg⟩:=pp;refine⟨b,v,l,B,n,s,rfl,nbv,nbl,nvl,hB.over e,hw,h1,h2,λH3 fr h13 h23=>?_⟩;have e3:A8 H H3:=λa o ha=>fr _ _ (e _ _ ha) (Av ha hv0) (Av ha hl0);obtain⟨k,hk⟩:∃k,n-i=k+1:=⟨n-i-1,by lia⟩
  rw[hk]at hg;dsimp only[Aq];refine⟨rfl,_,rfl,?_⟩;cases hlow:(D9 B s).low with
  |
   none=>
   refine Be (v:=true) (BU rfl) (C6 ?_);have hg2:go B n st0 = .inl (D9 B s):=by rw[hg];unfold go;rw[hlow]
   have er:FC n B=(.str "values",vl n λi=>(D9 B s).v i-(D9 B s).v 0):=by unfold FC;rw[hg2]
   rw[er]at q;refine⟨v,rfl,⟨_,A3.of h13⟩,?_⟩;refine Iu (xs:=vl n (D9 B s).v) (λi ys H'=>H'=H3/\ys=vl i λi=>(D9 B s).v i-(D9 B s).v 0) ⟨rfl,rfl⟩ (by rw[JG];exact BD (by lia)) (λi ys H' hi p=>by obtain⟨rfl,rfl⟩:=p;exact⟨A3.of h13,by rw[JG];exact Ah _⟩) (λi x ys H' hx p=>?_) (λys H' p r hr'=>?_)
   .obtain⟨rfl,rfl⟩:=p;have hi:i<n:=by have:=(Aw.mp hx).1;rwa [JG]at this
    have ex:x = .int ((D9 B s).v i):=Cu (hx.symm.trans (Ld (n:=n) (f:=λi=>V.int ((D9 B s).v i)) hi));subst ex;exact⟨v,_,0,_,rfl,rfl,A3.of h13,Nj n0,rfl,(bu _ _).symm⟩
   .obtain⟨rfl,rfl⟩:=p;rw[JG];refine⟨Ap rfl,λt ht=>?_⟩;exact q t r _ ((e3.trans (Ab hr' _)).trans (Ab ht _)) (e3.free hr') A7 (Ab ht _ _ _ A7)
  |
   some x=>
   refine Be (v:=false) (C9 (by intro z;cases z)) (By ?_);refine⟨e3,D9 B s,some (.int (0+(i:Int))),by rw[hlow];rfl,h13,h23,?_⟩;rw[show n-(i+1)=k by lia,hg];show(match (D9 B s).low with|none=>_|some _=>_)=_;rw[hlow]
 .obtain⟨e,s,o5,rfl,h1,h2,hg⟩:=pp;rw[DO]at hg;change go B n st0 = .inr s at hg;rcases go_ok n0 hw with⟨s',e',_⟩|⟨s',x0,m,e',hl',hR⟩
  .rw[hg]at e';cases e'
  rw[hg]at e';cases e';have er:FC n B=(.str "ring",D0 (ringOf n B s)):=by unfold FC;rw[hg]
  rw[er]at q;rw[hl'];refine⟨n,b,l,B,s,x0,m,rfl,hB.over e,hBl,n1,h2,hl',hR,hw,λr H3 e3 hr0 hr3=>?_⟩;refine⟨Ap rfl,λt ht=>?_⟩;exact q t r _ ((e.trans e3).trans (Ab ht _)) (e.free hr0) A7 (Ab ht _ _ _ hr3)
theorem Xq (T:Tx w K mg a):AI P w K mg base AN 3 a.f_s a.d_s ["program","k","l","bonds"] (Uu a.c_Program a.c_Deed (CY a)):=by
 have G_E :=@aa P w K mg base a T;refine T.F_s.ok Nf (λvs H Q E h=>?_) (λcdv A outer s H vs Q E hr h=>?_)
 .obtain⟨_,_,_,_,_,_,_,_,_,_,_,_,_,rfl,_⟩:=h;rfl
 obtain⟨x,dx,dl,sz,xs,Rs,R,R',k,l,bl,bs,B,rfl,hx,hdl,ax,hR,hR',k3,k3',hbl,tr,bl1,hin,q⟩:=h;refine⟨_,(A9 (Ao (i:=4) Nf.nd rfl (.inl rfl) (Aj BH A1 (B5 BB (by rfl) T.z_len BC (A0 (B9 (Aa AS (B9 (pv 0) rfl) (pv 1) (λ_ _=>rfl)) rfl) A2))))
  (A9 (Ao (i:=5) Nf.nd rfl (.inl rfl) (Ax G_E (hr.mono (by lia)) (by rfl) T.m_E T.F_E.kp T.b_E .nil Ar (A0 (Aj BH (pv 4) (B5 BB (by rfl) T.z_len BC (A0 (B9 (Aa AS (B9 (pv 0) rfl) (pv 2) (λ_ _=>rfl)) rfl) A2))) (A0 (pv 3) A2))))
  (A9 (Bx (AK Co (Aa Al (pv 5) A1 (λ_ _=>rfl)) BY (AF _))
  (Ae (AH (BX (A0 BY (A0 (F1 ["number","bonds"] [none,some 3] (by rfl) (CQ (Aa Al (pv 5) A1 (λ_ _=>rfl))) Vz (λ_ _ _ _ _ _=>⟨(Az (i:=0) U2 rfl (.inl rfl)),Ef,(Aa (show DQ _ (Ka K) from AS) (pv 1) (pv 0) (λ_ _=>rfl))⟩)) A2)))))
  BW)
  (Ae (AH (BJ (Ac BY (Ac (Dv F8 (by rfl) T.z_tuple Em (A0 (Gb Mj (Aa Al (pv 5) A1 (λ_ _=>rfl)) (Fc A1) (Fc (pv 4))) A2)) (Ac (Dv F8 (by rfl) T.z_tuple Em (A0 (Gb Mj (Aa Al (pv 5) A1 (λ_ _=>rfl)) (Fc (pv 4)) HR) A2)) BG E5) E5) B3))))))),?_⟩
 refine Ak λ_ zA=>?_;obtain⟨y1,hy1,d4⟩:=ax.get hR;obtain⟨y2,hy2,d4'⟩:=ax.get hR';obtain⟨d1,dx1,nm1,lo1,hi1,pt1,v1,ls1,hs1,rfl,hd1,hn1,_⟩:=d4;obtain⟨d2,dx2,nm2,lo2,hi2,pt2,v2,ls2,hs2,rfl,hd2,hn2,_⟩:=d4';refine zA ?_;have nl:((AD R.S).map V.str).length=R.S.length:=by unfold AD;rw[Af,Af]
 have nl':((AD R'.S).map V.str).length=R'.S.length:=by unfold AD;rw[Af,Af]
 refine⟨_,rfl,x,_,dx,_,_,rfl,hx,T.cl_Program,T.n_Program_deeds,rfl,_,rfl,dl,_,_,_,rfl,rfl,A3.of hdl,BA hy1,d1,_,dx1,_,_,rfl,hd1,T.cl_Deed,T.n_Deed_names,rfl,nm1,_,rfl,.inr (A4.of hn1),_,_,rfl,rfl,?_⟩;rw[nl];dsimp only[Aq];generalize hn:1+R.S.length+R'.S.length=n at q hin;generalize hbh:1+R.S.length=bh at q hn;have ebh:(1+(R.S.length:Int))=(bh:Int):=by lia
 rw[ebh];have wf:=Qy hin;have en:((bh:Int)+(R'.S.length:Int))=(n:Int):=by lia
 refine⟨_,rfl,_,rfl,x,_,dx,_,_,rfl,hx,T.cl_Program,T.n_Program_deeds,rfl,_,rfl,dl,_,_,_,rfl,rfl,A3.of hdl,BA hy2,d2,_,dx2,_,_,rfl,hd2,T.cl_Deed,T.n_Deed_names,rfl,nm2,_,rfl,.inr (A4.of hn2),_,_,rfl,rfl,_,rfl,n,bl,B.map Cr,(by rw[nl'];exact congrArg (λz=>[V.int z,V.ref bl]) en),Zn hbl tr hin,wf,by lia,by lia,by rw[Af];lia,λt r H1 e1 r0 ht hr1=>?_⟩;dsimp only[Aq];unfold Hu at q;rcases Bd.go_ok (n:=n) (by lia) wf with⟨s',e,hv⟩|⟨s',x0,m,e,hl',rg⟩
 .have er:FC n (B.map Cr)=(.str "values",vl n λi=>s'.v i-s'.v 0):=by unfold FC;rw[e]
  rw[er]at ht hr1;rw[e]at q;dsimp only at q;refine⟨_,rfl,t,_,0,_,rfl,rfl,A4.of ht,rfl,rfl,_,rfl,Be (v:=false) (dS (by decide)) (By ?_)⟩;dsimp only[K6];have hr1:H1 r=some (.lst (vl n λi=>s'.v i-s'.v 0)):=hr1;rw[VY]at hr1;have wsl:((List.range n).map (λi=>s'.v i-s'.v 0)).length=n:=by rw[Af,C8]
  generalize (List.range n).map (λi=>s'.v i-s'.v 0)=ws at hr1 q wsl;have cut1:Ci (ws.map V.int) (some 1) (some (bh:Int))=((ws.drop 1).take (bh-1)).map V.int:=by
   rw[show Ci (ws.map V.int) (some 1) (some (bh:Int))=((ws.map V.int).drop (1:Int).toNat).take ((bh:Int).toNat-(1:Int).toNat) from OY (ws.map V.int) (by decide) (KB _) (by rw[Af,wsl];lia) (by lia),Fg,←List.map_drop,←OM];rfl
  have cut2:Ci (ws.map V.int) (some (bh:Int)) none=(ws.drop bh).map V.int:=by
   rw[show Ci (ws.map V.int) (some (bh:Int)) none=(ws.map V.int).drop (bh:Int).toNat from Zs (ws.map V.int) (KB _),Fg,List.map_drop]
  refine⟨_,rfl,t,_,1,_,rfl,rfl,A4.of ht,rfl,_,rfl,_,rfl,_,rfl,r,_,rfl,A3.of hr1,λp1 hp1=>?_⟩;rw[cut1];have s2:=Ab hp1 (.lst (((ws.drop 1).take (bh-1)).map V.int));refine⟨p1,_,rfl,.inl ⟨A3.of A7,λu1 hu1=>?_⟩⟩;have s3:=Ab hu1 (.tup (((ws.drop 1).take (bh-1)).map V.int));have s23:=s2.trans s3;have hu13:(upd (upd H1 p1 (.lst (((ws.drop 1).take (bh-1)).map V.int))) u1 (.tup (((ws.drop 1).take (bh-1)).map V.int))) u1=some (.tup (((ws.drop 1).take (bh-1)).map V.int)):=A7;have u10:=(e1.trans s2).free hu1;generalize upd (upd H1 p1 (.lst (((ws.drop 1).take (bh-1)).map V.int))) u1 (.tup (((ws.drop 1).take (bh-1)).map V.int))=H3 at s23 hu13;refine⟨_,rfl,t,_,1,_,rfl,rfl,A4.of (s23 _ _ ht),rfl,_,rfl,_,rfl,r,_,rfl,A3.of (s23 _ _ hr1),λp2 hp2=>?_⟩;rw[cut2];have s4:=Ab hp2 (.lst ((ws.drop bh).map V.int));refine⟨p2,_,rfl,.inl ⟨A3.of A7,λu2 hu2=>⟨Ap rfl,λt2 ht2=>?_⟩⟩⟩;have s5:=Ab hu2 (.tup ((ws.drop bh).map V.int));have s6:=Ab ht2 (.tup [V.str "pair",V.ref u1,V.ref u2]);have e03:=e1.trans s23;have u20:=(e03.trans s4).free hu2;have t20:=(e03.trans (s4.trans s5)).free ht2;refine q t2 _ (e03.trans (s4.trans (s5.trans s6))) λfo zz hfo=>?_;have ne:∀{b:Addr},H b=none->b≠fo:=fun{b} hb z=>by rw[z,hfo]at hb;cases hb
  exact⟨t2,u1,u2,rfl,by rw[E8 (ne t20)];exact A7,by rw[E8 (ne u10)];exact(s4.trans (s5.trans s6)) _ _ hu13,by rw[E8 (ne u20)];exact s6 _ _ A7⟩
 have er:FC n (B.map Cr)=(.str "ring",D0 (ringOf n (B.map Cr) s')):=by unfold FC;rw[e]
 rw[er]at ht hr1;rw[e]at q;dsimp only at q;have ht:H1 t=some (.tup [.str "ring",.ref r]):=ht;have hr1:H1 r=some (.lst (D0 (ringOf n (B.map Cr) s'))):=hr1;obtain⟨u,rok⟩:∃u,Bd.RingOk (B.map Cr) (Bd.ringOf n (B.map Cr) s') u:=⟨_,rg.ok hl'⟩
 generalize Bd.ringOf n (B.map Cr) s'=L at hr1 q rok;have ll:L.length<=1000:=by
  have:=Bd.nodup_le (k:=List.range B.length) rok.nd λi hi=>by
   obtain⟨k,hk⟩:=ES.mp hi;obtain⟨b,hb,_⟩:=rok.bond k i hk;obtain⟨t,ht,_⟩:=Hd hb;exact DA.mpr (Aw.mp ht).1
  rw[C8]at this;lia
 refine⟨_,rfl,t,_,0,_,rfl,rfl,A4.of ht,rfl,rfl,_,rfl,Be (v:=true) (BU rfl) (C6 ?_)⟩;refine⟨_,rfl,t,_,1,_,rfl,rfl,A4.of ht,rfl,r,rfl,⟨_,A3.of hr1⟩,?_⟩;refine Iu (xs:=D0 L) (λi ys H'=>H'=H1/\Bk H1 ys ((L.take i).map λi=>B.getD i (0,0,0))) ⟨rfl,.nil⟩ (BD (by rw[Ly];lia)) (λi ys H' hi p=>by obtain⟨rfl,p⟩:=p;exact⟨A3.of hr1,by rw[p.1,Af,BQ];lia⟩) (λi v ys H' hv p=>?_) (λys H' p rl hrl=>?_)
 .obtain⟨rfl,az⟩:=p;have li:=(Aw.mp hv).1;rw[Ly]at li;have gL:L[i]?=some L[i]:=AE li;have ev:v = .int (L[i]:Int):=Cu (hv.symm.trans (VR gL));subst ev;refine Ak λ_ zB=>?_;obtain⟨b,hb,_⟩:=rok.bond i _ gL;obtain⟨tt,htt,_⟩:=Hd hb;obtain⟨ta,hta,hta2⟩:=(tr.over e1).get htt;refine zB ?_;refine⟨_,rfl,_,rfl,bl,_,_,_,rfl,rfl,A3.of (e1 _ _ hbl),BA hta,rfl,?_⟩;rw[CL gL,Bv];have hg:B.getD L[i] (0,0,0)=tt:=by rw[Bj,htt];rfl
  refine az.snoc ?_;show H' ta=some (.tup [.int (B.getD L[i] (0,0,0)).1,.int (B.getD L[i] (0,0,0)).2.1,.int (B.getD L[i] (0,0,0)).2.2]);rw[hg];exact hta2
 obtain⟨rfl,az⟩:=p;rw[Ly,E1]at az;refine⟨Ap rfl,λt2 ht2=>?_⟩;have s2:=Ab hrl (.lst ys);have s3:=Ab ht2 (.tup [V.str "ring",V.ref rl]);refine q t2 _ (e1.trans (s2.trans s3)) λfo zz hfo=>?_;have ne:∀{b:Addr},H b=none->b≠fo:=fun{b} hb z=>by rw[z,hfo]at hb;cases hb
 have rl0:=e1.free hrl;have t20:=(e1.trans s2).free ht2;refine⟨t2,rl,ys,rfl,by rw[E8 (ne t20)];exact A7,by rw[E8 (ne rl0)];exact s3 _ _ A7,?_⟩;refine⟨az.1,λi v b hv hb=>?_⟩;refine Ak λ_ zC=>?_;obtain⟨ta,ea,hta⟩:=az.2 i v b hv hb;refine zC ?_;refine⟨ta,ea,?_⟩;have nta:ta≠fo:=λz=>by
  have:=e1 _ _ hfo;rw[←z,hta]at this;cases this
 rw[E8 nta];exact(s2.trans s3) _ _ hta
theorem Xr (T:Tx w K mg a):AI P w K mg base AN 1 a.f_z a.d_z ["deeds","numbers","depth"] (Xe a.c_Deed):=by
 refine T.F_z.ok NY (λvs H Q E h=>?_) (λcdv A outer s H vs Q E hr h=>?_)
 .obtain⟨_,_,_,_,_,rfl,_⟩:=h;rfl
 obtain⟨dl,nl,d,Ds,ns,rfl,⟨xs,hdl,ax⟩,hnl,hin,nlen,q⟩:=h;refine⟨_,(A9 (Ao (i:=3) NY.nd rfl (.inl rfl) (BO A2))
  (A9 (C2 PassesOwn.never rfl (CQ (pw 1)) (Az (i:=4) NY.nd rfl (.inl rfl))
  (Ae (Bx ((Dy (WV (pw 3) (λ_=>rfl)) (E7 (AK Co (Aa Al (B9 (Aa AS (pw 0) (Aa AS (Aa AS (pw 3) (DL DH A1) (λ_ _=>rfl)) A1 (λ_ _=>rfl)) (λ_ _=>rfl)) rfl) (pw 2) (λ_ _=>rfl)) (Aa Al (B9 (Aa AS (pw 0) (pw 4) (λ_ _=>rfl)) rfl) (pw 2) (λ_ _=>rfl)) (AF _))))).pt
  (Ae (Br (BF Bw BR BS BL (Aa AS (pw 3) (DL DH A1) (λ_ _=>rfl)) (A0 (pw 4) A2))))
  (Ae (Br (BF Bw BR BS BL (pw 3) (A0 (BO (A0 (pw 4) A2)) A2)))))))
  (Ae (AH (pw 3))))),?_⟩
 refine⟨Ap rfl,λgl hgl=>?_⟩;have s1:=Ab hgl (.lst []);have hgl1:(upd H gl (.lst [])) gl=some (.lst []):=A7;dsimp only[Aq];generalize upd H gl (.lst [])=H1 at s1 hgl1;have nln:(De ns).length=ns.length:=by unfold De;rw[Af]
 refine⟨nl,rfl,⟨_,A3.of (s1 _ _ hnl)⟩,?_⟩;refine EI (xs:=De ns) (λi σ' H'=>∃(ys:List V) (G:List (List Nat)) (o4:Option V),σ'=[some (.ref dl),some (.ref nl),some (.int (d:Int)),some (.ref gl),o4]/\A8 H H'/\H' gl=some (.lst ys)/\Gy H H' gl ys G/\GP Ds d (ns.take i) G/\G.length<=i) ⟨[],[],_,rfl,s1,hgl1,.inl ⟨rfl,rfl⟩,.nil,Ah _⟩ (λi σ' H' _ pp=>by obtain⟨_,_,_,_,e,_⟩:=pp;exact A3.of (e _ _ hnl)) (λi x σ' H' hx pp=>?_) (fun σ' H' pp=>?_);rotate_left
 .obtain⟨ys,G,o4,rfl,e,hg,st,gp,_⟩:=pp;rw[nln,E1]at gp;exact q gl _ G e hgl (st.all hg) gp.isG
 refine Ak λ_ zA=>?_;obtain⟨ys,G,o4,rfl,e,hg,st,gp,glen⟩:=pp;have hi:i<ns.length:=by have:=(Aw.mp hx).1;lia
 have hk:ns[i]?=some ns[i]:=AE hi;obtain⟨k,ek⟩:∃k,ns[i]=k:=⟨_,rfl⟩
 refine zA ?_;rw[ek]at hk;have exk:x=V.int (k:Int):=by unfold De at hx;rw[Bf,hk]at hx;exact(Cu hx).symm
 subst exk;refine Ak λ_ zB=>?_;obtain⟨D,hD,ok,hd⟩:=hin k (B0 hk);obtain⟨v,hv,⟨p,dx,nm,lo,hi2,pt,v4,v5,v6,ls,hs,rfl,h0,h1,h2,h3,h4,h5,h8⟩⟩:=ax.get hD;refine zB ?_;have pk:B1 (D.path.map V.int) (d:Int)=some (.int (Cb Ds d k)):=by
  rw[FE hD];exact Kp (ns:=D.path) (k:=(d:Int)) (KB _) (by have:=ok.pl;lia)
 have tks:ns.take (i+1)=ns.take i++[k]:=CL hk;rw[tks];have yl:=st.len;dsimp only[Aq];refine Y1 (λH2=>H2=H'/\∀g h,G.getLast?=some g->g.head?=some h->Cb Ds d h≠Cb Ds d k) (λH2 pp=>?_) (λels=>?_)
 .obtain⟨rfl,hne⟩:=pp;refine⟨.inl ⟨rfl,_,A3.of hg⟩,Ap rfl,λl hl=>?_⟩;have s2:=Ab hl (.lst [V.int (k:Int)]);refine⟨gl,_,_,rfl,rfl,s2 _ _ hg,BK (by lia),?_⟩;refine⟨ys++[.ref l],G++[[k]],_,rfl,λb ob eb=>by rw[Ag (Av eb hgl)];exact s2 _ _ (e _ _ eb),A7,st.new hg hl (e.free hl),.new gp hne,by rw[Ai,Bc];lia⟩
 .refine⟨_,.inl ⟨_,A3.of hg,rfl⟩,?_⟩;have il0:∀{h:Nat} {g:List Nat},B1 (De (h::g)) (0:Int)=some (.int (h:Int)):=fun{h g}=>by unfold De;exact BA (j:=0) rfl
  rcases st with⟨rfl,rfl⟩|⟨ys',l,G',h,g,rfl,rfl,hall,hl,nlg,hl0⟩
  .exact By (els _ ⟨rfl,λg h hG=>by cases hG⟩)
  have ne1:(!(ys'++[V.ref l]).isEmpty)=true:=by cases ys'<;>rfl
  rw[ne1];refine C6 ?_;refine Ak λ_ zC=>?_;have hmem:h∈ns:=by
   have:=gp.isG.mem (h::g) (by simp) h C7;exact MF this
  obtain⟨Dh,hDh,okh,hdh⟩:=hin h hmem;obtain⟨vh,hvh,⟨p',dx',nm',lo',hi',pt',v4',v5',v6',ls',hs',rfl,k0,_,_,_,_,_,k8⟩⟩:=ax.get hDh;refine zC ?_;have ph:B1 (Dh.path.map V.int) (d:Int)=some (.int (Cb Ds d h)):=by
   rw[FE hDh];exact Kp (ns:=Dh.path) (k:=(d:Int)) (KB _) (by have:=okh.pl;lia)
  refine⟨_,rfl,gl,_,_,_,rfl,rfl,A3.of hg,Qi _ _ [] rfl,l,_,_,_,rfl,rfl,A3.of hl,il0,dl,_,_,_,rfl,rfl,A3.of (e _ _ hdl),BA hvh,p',_,dx',_,_,rfl,e _ _ k0,T.cl_Deed,T.n_Deed_path,rfl,pt',_,_,_,rfl,rfl,A4.of (e _ _ k8),ph,?_⟩;refine⟨dl,_,_,_,rfl,rfl,A3.of (e _ _ hdl),BA hv,p,_,dx,_,_,rfl,e _ _ h0,T.cl_Deed,T.n_Deed_path,rfl,pt,_,_,_,rfl,rfl,A4.of (e _ _ h8),pk,rfl,_,rfl,?_⟩;by_cases c:Cb Ds d h=Cb Ds d k
  .refine Be (v:=true) (BU (congrArg V.int c)) (C6 ?_);refine⟨_,rfl,gl,_,_,_,rfl,rfl,A3.of hg,Qi _ _ [] rfl,.inl ⟨rfl,_,A3.of hl⟩,l,_,_,rfl,rfl,hl,BK ?_,?_⟩
   .have:=gp.isG.glen (h::g) (by simp);unfold De;rw[Af];rw[BQ]at this;lia
   .refine⟨ys'++[.ref l],G'++[h::g++[k]],_,rfl,λb ob eb=>by rw[Ag (Av eb hl0)];exact e _ _ eb,by rw[Ag nlg.symm];exact hg,?_,.more gp c,by rw[Ai,Bc]at glen ⊢;lia⟩;refine .inr ⟨ys',l,G',h,g++[k],rfl,rfl,?_,?_,nlg,hl0⟩
    .rw[WS];exact hall
    .rw[A7,show De (h::(g++[k]))=De (h::g)++[V.int (k:Int)] from by unfold De;exact Bv (l₁:=h::g) (l₂:=[k])]
  .refine Be (v:=false) (C9 λz=>c (V.int.inj z)) (By ?_);refine els _ ⟨rfl,λg1 h1 hG hh=>?_⟩;rw[T1]at hG;cases hG;cases hh;exact c
theorem Pq (T:Tx w K mg a):∀n:Nat,AI P w K mg base AN (n+2) a.f_m a.d_m ["deeds","numbers","depth"] (Rk a.c_Deed n)
 |
  0=>by
  have no:∀vs H Q E,¬Rk a.c_Deed 0 vs H Q E:=λvs H Q E h=>by
   obtain⟨dl,nl,d,Ds,ns,ds,_,_,_,_,_,_,_,h1,h2,_⟩:=h;lia
  exact⟨λvs H Q E h=>absurd h (no vs H Q E),λA outer s H args us vs Q E _ _ _ _ h=>absurd h (no vs H Q E)⟩
 |
  n+1=>by
  have G_z :=@Xr P w K mg base a T;have G_m:=Pq T n;refine T.F_m.ok Mp (λvs H Q E h=>?_) (λcdv A outer s H vs Q E hr h=>?_)
  .obtain⟨_,_,_,_,_,_,rfl,_⟩:=h;rfl
  obtain⟨dl,nl,d,Ds,ns,ds,rfl,hDo,hnl,hin,nlen,got,cc,d3,dn,q⟩:=h;refine⟨_,(A9 (Ao (i:=3) Mp.nd rfl (.inl rfl) (BO A2))
  (A9 (C2 PassesOwn.never rfl (CQ (Ax G_z (hr.mono (by lia)) (by rfl) T.m_z T.F_z.kp T.b_z .nil Ar (A0 (pw 0) (A0 (pw 1) (A0 (pw 2) A2))))) (Az (i:=4) Mp.nd rfl (.inl rfl))
  (A9 (Ao (i:=5) Mp.nd rfl (.inl rfl) (Aa AS (pw 4) A1 (λ_ _=>rfl)))
  (Ae (Bx (AK Co (B5 BB (by rfl) T.z_len BC (A0 (B9 (Aa AS (pw 0) (pw 5) (λ_ _=>rfl)) rfl) A2)) (pw 2) (AF _))
  (Ae (Br (BF Bw BR BS BL (pw 3) (A0 (BX (A0 (pw 5) (A0 EX A2))) A2))))
  (Ae (Br (BF Bw BR BS BL (pw 3) (A0 (BX (A0 (pw 5) (A0 (Ax G_m (hr.mono (by lia)) (by rfl) T.m_m T.F_m.kp T.b_m .nil Ar (A0 (pw 0) (A0 (pw 4) (A0 (Aj (Bi BH) (pw 2) A1) A2)))) A2))) A2))))))))
  (Ae (AH (pw 3))))),?_⟩
  refine⟨Ap rfl,λit hit=>?_⟩;have s1:=Ab hit (.lst []);have hit1:(upd H it (.lst [])) it=some (.lst []):=A7;dsimp only[Aq];generalize upd H it (.lst [])=H1 at s1 hit1;refine⟨dl,nl,d,Ds,ns,rfl,hDo.over s1,s1 _ _ hnl,hin,nlen,λgl H2 G e2 hglN hG isG=>?_⟩;refine Ak λ_ zA=>?_;obtain⟨ys,hgl,ay⟩:=hG;refine zA ?_;have e02:=s1.trans e2;have ngi:gl≠it:=(Av hit1 hglN).symm;refine⟨gl,rfl,⟨_,A3.of hgl⟩,?_⟩;refine EI (xs:=ys) (λi σ' H'=>∃(zs:List V) (f:Pw.Fs) (done rest:List Nat) (o4 o5:Option V),σ'=[some (.ref dl),some (.ref nl),some (.int (d:Int)),some (.ref it),o4,o5]/\(∀b o,b≠it->H2 b=some o->H' b=some o)/\H' it=some (.lst zs)/\CI (FV H H' it) f zs/\Pw.IsF (getD Ds) f done d/\Cz Ds d rest (G.drop i)/\ns=done++rest/\CJ f<=n+1/\zs.length<=done.length/\(∀x y,done.getLast?=some x->rest.head?=some y->Cb Ds d x≠Cb Ds d y)) ⟨[],.nil,[],ns,_,_,rfl,λ_ _ _ h=>h,e2 _ _ hit1,rfl,rfl,isG,rfl,Bh _,Ah _,λx y hx=>by cases hx⟩ (λi σ' H' _ pp=>by obtain⟨_,_,_,_,_,_,_,k,_⟩:=pp;exact A3.of (k _ _ ngi hgl)) (λi x σ' H' hx pp=>?_) (fun σ' H' pp=>?_);rotate_left
  .obtain⟨zs,f,done,rest,o4,o5,rfl,k,hz,fa,isf,ig,en,fd,zl,_⟩:=pp;rw[ay.1,List.drop_length]at ig;cases ig;rw[CV]at en;subst en;exact q it _ f zs (λb o hb=>k b o (Av hb hit) (e02 _ _ hb)) hit hz (fa.over V2) isf fd zl
  refine Ak λ_ zB=>?_;obtain⟨zs,f,done,rest,o4,o5,rfl,k,hz,fa,isf,ig,en,fd,zl,hdf⟩:=pp;obtain⟨g,hg,l,rfl,hl⟩:=ay.get' hx;refine zB ?_;have dc:G.drop i=g::G.drop (i+1):=by
   obtain⟨hh,rfl⟩:=Aw.mp hg;exact GT hh
  rw[dc]at ig;generalize G.drop (i+1)=G2 at ig;cases ig with
  |@cons kk g' rest' _ i1 i2 i3=>
  have nli:l≠it:=λz=>by
   have h1:=e2 _ _ hit1;rw[←z,hl]at h1;cases h1
  have keep:∀{b o},H b=some o->H' b=some o:=fun{b o} hb=>k b o (Av hb hit) (e02 _ _ hb);have eH:A8 H H':=λb o hb=>keep hb;have hl':H' l=some (.lst (De (kk::g'))):=k _ _ nli hl;subst en;refine Ak λ_ zC=>?_;obtain⟨D,hD,ok,hdl⟩:=hin kk (by simp);have hDo':=hDo.over eH;obtain⟨xs,hxs,ax⟩:=hDo';obtain⟨v,hv,hvo⟩:=ax.get hD;obtain⟨p,dx,nm,lo,hi2,pt,v4,v5,v6,ls,hs,rfl,h0,h1,h2,h3,h4,h5,h8⟩:=id hvo;obtain⟨ds1,ds2,rfl,got1,got2⟩:=Pw.Got.split got;obtain⟨dsg,ds3,rfl,got3,got4⟩:=Pw.Got.split (ns:=kk::g') got2;refine zC ?_;have ccg:Pw.CC d dsg:=Pw.CC.left (Pw.CC.right cc);have memD:∀x∈done,∃a,getD Ds x=some a:=λx hx=>by
   obtain⟨Dx,hDx,_⟩:=hin x (CN _ hx);exact⟨_,getD_some hDx⟩
  have diff:∀(x y:Nat) (a b:Pw.Dd DP Str),done.getLast?=some x->(kk::g').head?=some y->getD Ds x=some a->getD Ds y=some b->a.path.getD d 0≠b.path.getD d 0:=λx y a b hx hy ha hb=>by
   obtain⟨Da,hDa,rfl⟩:=HM ha;obtain⟨Db,hDb,rfl⟩:=HM hb;have:=hdf x y hx (by cases hy;rfl);rw[FE hDa,FE hDb]at this;exact this
  have nxt:∀x y,(done++(kk::g')).getLast?=some x->rest'.head?=some y->Cb Ds d x≠Cb Ds d y:=λx y hx hy=>by
   have hx':x∈kk::g':=by
    rw[T1]at hx;cases hgl2:(kk::g').getLast? with
    |none=>simp at hgl2
    |
     some z=>
     rw[hgl2]at hx;cases hx;exact List.mem_of_getLast? hgl2
   have e:Cb Ds d x=Cb Ds d kk:=by
    rcases Bb.mp hx' with rfl|h
    .rfl
    .exact i1 x h
   rw[e];exact(i2 y hy).symm
  have zlen:zs.length<=10:=by rw[Ai]at nlen;lia
  have nlen2:(kk::g').length<=10:=by
   have:=nlen;rw[Ai,Ai]at this;lia
  dsimp only[Aq];refine⟨l,_,_,_,rfl,rfl,A3.of hl',(show B1 (De (kk::g')) (0:Int)=some (.int (kk:Int)) from by unfold De;exact BA (j:=0) rfl),?_⟩;dsimp only[Aq];refine⟨dl,_,_,_,rfl,rfl,A3.of hxs,BA hv,p,_,dx,_,_,rfl,h0,T.cl_Deed,T.n_Deed_names,rfl,nm,_,rfl,.inr (A4.of h1),rfl,_,rfl,?_⟩;rw[Af];by_cases c:D.loops.length=d
  .refine Be (v:=true) (BU (congrArg (λm:Nat=>V.int (m:Int)) c)) (C6 ?_);have g0:g'=[]:=by
    cases g' with
    |nil=>rfl
    |
     cons k2 g2=>
     cases got3 with
     |
      cons q1 q2=>
      cases q2 with
      |
       cons q3 q4=>
       rw[getD_some hD]at q1;cases q1;obtain⟨D2,hD2,rfl⟩:=HM q3;obtain⟨⟨cx,c1,c2⟩,_⟩:=ccg;have c3:cx<=D.loops.length:=c2.1;have ce:cx=d:=by lia
       subst ce;have:=i1 k2 C7;rw[FE hD2,FE hD]at this;exact absurd this.symm c2.2.2.2.2
   subst g0;refine⟨.inl ⟨rfl,_,A3.of hz⟩,Ap rfl,λt ht=>?_⟩;have s3:=Ab ht (.tup [V.int (kk:Int),V.non]);refine⟨it,_,_,rfl,rfl,s3 _ _ hz,BK (by lia),?_⟩;have nti:t≠it:=(Av hz ht).symm;refine⟨zs++[.ref t],FW f (.leaf kk .nil),done++[kk],rest',_,_,rfl,λb o hb h=>by rw[Ag hb];exact s3 _ _ (k b o hb h),A7,?_,Lx isf ⟨[],D.dd,rfl,getD_some hD,c,rfl⟩ diff memD,i3,by rw[D6],Ex (Mc f _) (Nat.max_le.mpr ⟨fd,by show max 1 0<=n+1;lia⟩),by rw[Ai,Ai];exact OP zl (Ah _),nxt⟩;exact(fa.over (Oh λb o hb h=>by rw[Ag hb];exact s3 _ _ h)).app ⟨t,[],rfl,Kt (eH.free ht) nti (by rw[Ag nti];exact A7),rfl⟩
  .refine Be (v:=false) (C9 λz=>c (by have:=V.int.inj z;lia)) (By ?_);have hlt:d<D.loops.length:=by lia
   have ll:=ok.ll;have hv2:∀y∈dsg,y.path.getD d 0=D.dd.path.getD d 0:=λy hy=>by
    obtain⟨k',hk',e⟩:=got3.mem y hy;obtain⟨D',hD',rfl⟩:=HM e;have:Cb Ds d k'=Cb Ds d kk:=by
     rcases Bb.mp hk' with rfl|h
     .rfl
     .exact i1 k' h
    rw[FE hD',FE hD]at this;exact this
   have up:=(Pw.CC.up ccg hv2 (λy hy=>by
    obtain⟨k',hk',e⟩:=got3.head hy;cases hk';rw[getD_some hD]at e;cases e;exact hlt)).1
   have hin2:N4 Ds (d+1) (kk::g'):=λx hx=>by
    obtain⟨Dx,hDx,okx,_⟩:=hin x (CU _ (CN _ hx));refine⟨Dx,hDx,okx,?_⟩;obtain⟨y,hy,ey⟩:=got3.find hx;rw[getD_some hDx]at ey;cases ey;exact Pw.CC.le up _ hy
   have nlen3:zs.length+1<=11:=by lia
   refine⟨.inl ⟨rfl,_,A3.of hz⟩,dl,l,d+1,Ds,kk::g',dsg,rfl,⟨xs,hxs,ax⟩,hl',hin2,nlen2,got3,up,by lia,by lia,λr H3 sub ws e3 hrN hr3 fs3 is3 fd3 wl3=>⟨Ap rfl,λt ht=>?_⟩⟩;have s4:=Ab ht (.tup [V.int (kk:Int),V.ref r]);have hz3:=e3 _ _ hz;refine⟨it,_,_,rfl,rfl,s4 _ _ hz3,BK (by lia),?_⟩;have nti:t≠it:=(Av hz3 ht).symm;have nri:r≠it:=(Av hz hrN).symm;refine⟨zs++[.ref t],FW f (.node kk sub .nil),done++(kk::g'),rest',_,_,rfl,λb o hb h=>by rw[Ag hb];exact s4 _ _ (e3 _ _ (k b o hb h)),A7,?_,Lx isf ⟨g',[],D.dd,by simp,getD_some hD,hlt,λx hx b hb=>?_,λx b hx=>(by cases hx),is3,rfl⟩ diff memD,i3,by rw[D6],Ex (Mc f _) (Nat.max_le.mpr ⟨fd,by show max (CJ sub+1) 0<=n+1;lia⟩),by rw[Ai,Ai];exact OP zl (by rw[Bz,Bz];exact Nat.succ_le_succ (Bh _)),nxt⟩
   .have up4:∀b o,b≠it->H3 b=some o->(upd (upd H3 t (.tup [V.int (kk:Int),V.ref r])) it (.lst (zs++[.ref t]))) b=some o:=λb o hb h=>by rw[Ag hb];exact s4 _ _ h
    exact(fa.over (Oh λb o hb h=>up4 b o hb (e3 _ _ h))).app ⟨t,r,ws,[],rfl,Kt (eH.free (e3.free ht)) nti (by rw[Ag nti];exact A7),Kt (eH.free hrN) nri (up4 _ _ nri hr3),(fs3.over (bf eH hz)).over (Oh up4),rfl⟩
   .obtain⟨Db,hDb,rfl⟩:=HM hb;have:=i1 x hx;rw[FE hDb,FE hD]at this;exact this
theorem Uy (T:Tx w K mg a):AI P w K mg base AN 7 a.f_y a.d_y ["deeds"] (XI a.c_Deed):=by
 have G_m :=@Pq P w K mg base a T 4;refine T.F_y.ok Ui (λvs H Q E h=>?_) (λcdv A outer s H vs Q E hr h=>?_)
 .obtain⟨_,_,rfl,_⟩:=h;rfl
 obtain⟨dl,Ds,rfl,hDo,ok,q⟩:=h;refine⟨_,(Ae (AH (Ax G_m (hr.mono (by lia)) (by rfl) T.m_m T.F_m.kp T.b_m .nil Ar (A0 (pw 0) (A0 (M4 rfl (by rfl) T.z_list (by rfl) T.z_range (A0 (B5 BB (by rfl) T.z_len BC (A0 (pw 0) A2)) A2)) (A0 A1 A2)))))),?_⟩;refine Ak λ_ zA=>?_;obtain⟨xs,hdl,ax⟩:=id hDo;refine zA ?_;have xl:=ax.1;refine⟨dl,_,rfl,.inl (A3.of hdl),xs.length,rfl,by have:=ok.2.1;lia,λnl hnl=>?_⟩;have s1:=Ab hnl (.lst (EB xs.length));have hnl1:(upd H nl (.lst (EB xs.length))) nl=some (.lst (De (List.range Ds.length))):=by rw[A7,xl];rfl
 generalize upd H nl (.lst (EB xs.length))=H1 at s1 hnl1;refine⟨dl,nl,0,Ds,List.range Ds.length,Ds.map Dw.dd,rfl,hDo.over s1,hnl1,λk hk=>?_,by rw[C8];exact ok.2.1,Vo,ok.2.2,by decide,by decide,λr H' f ys e hrN hr2 fs isf fd xl2=>?_⟩
 .rw[DA]at hk;exact⟨Ds[k],AE hk,ok.1 _ (Fh hk),Bh _⟩
 .exact q r _ f ys (s1.trans e) (s1.free hrN) hr2 (fs.over (aX s1)) isf fd (by rw[C8]at xl2;have:=ok.2.1;lia)
theorem QO (T:Tx w K mg a):∀n:Nat,AI P w K mg base AN (n+1) a.f_o a.d_o ["deeds","items"] (Sx a.c_Deed n)
 |
  0=>by
  have no:∀vs H Q E,¬Sx a.c_Deed 0 vs H Q E:=λvs H Q E h=>by
   obtain⟨_,_,_,_,_,_,_,_,_,_,h1,_⟩:=h;lia
  exact⟨λvs H Q E h=>absurd h (no vs H Q E),λA outer s H args us vs Q E _ _ _ _ h=>absurd h (no vs H Q E)⟩
 |
  n+1=>by
  have G_o:=QO T n;refine T.F_o.ok Ml (λvs H Q E h=>?_) (λcdv A outer s H vs Q E hr h=>?_)
  .obtain⟨_,_,_,_,_,rfl,_⟩:=h;rfl
  obtain⟨dl,il,Ds,f,xs,rfl,hDo,D3,hil,hfs,fd,hin,fz,q⟩:=h;refine⟨_,(A9 (Ao (i:=2) Ml.nd rfl (.inl rfl) (BO A2))
  (A9 (C2 PassesOwn.never rfl (CQ (pw 1)) (CZ rfl (B4 (Az (i:=3) Ml.nd rfl (.inl rfl)) (B4 (Az (i:=4) Ml.nd rfl (.inl rfl)) D4)))
  (Ae (Bx (AK Sa (pw 4) EX (AF _))
  (Ae (Br (BF Bw BR BS BL (pw 2) (A0 (BJ (Ac BY (Ac (pw 3) (Ac (Dv F8 (by rfl) T.z_tuple Em (A0 (F1 ["e"] [none] (by rfl) (F0 (by rfl) T.z_range (A0 (B5 BB (by rfl) T.z_len BC (A0 (B9 (Aa AS (pw 0) (pw 3) (λ_ _=>rfl)) rfl) A2)) A2)) Y5 (λ_ _ _ _ _ _=>⟨(Az (i:=0) aP rfl (.inl rfl)),Ef,(BX (A0 (pw 0) (A0 A1 A2)))⟩)) A2)) BG E5) Bg) B3)) A2))))
  (Ae (Br (BF Bw BR BS BL (pw 2) (A0 (BJ (Ac BY (Ac F5 (Ac BY (Ac (Ax G_o (hr.mono (by lia)) (by rfl) T.m_o T.F_o.kp T.b_o .nil Ar (A0 (pw 0) (A0 (pw 4) A2))) BG E5) B3) B3) B3)) A2)))))))
  (Ae (AH (Dv F8 (by rfl) T.z_tuple Em (A0 (pw 2) A2)))))),?_⟩
  have xl:=N5 hfs;refine⟨Ap rfl,λfo hfo=>?_⟩;have s1:=Ab hfo (.lst []);have hfo1:(upd H fo (.lst [])) fo=some (.lst []):=A7;dsimp only[Aq];generalize upd H fo (.lst [])=H1 at s1 hfo1;refine⟨il,rfl,⟨_,A3.of (s1 _ _ hil)⟩,?_⟩;refine EI (xs:=xs) (λi σ' H'=>∃(g:Pw.Fs) (ys:List V) (done:B8) (o3 o4:Option V),σ'=[some (.ref dl),some (.ref il),some (.ref fo),o3,o4]/\A8 H H'/\H' fo=some (.lst ys)/\AR H' ys done/\CI H g (xs.drop i)/\Jf Ds g/\CJ g<n+1/\DF g<=1000/\Fo.app done (Hj Ds g)=Hj Ds f/\ys.length=i) ⟨f,[],.nil,_,_,rfl,s1,hfo1,rfl,hfs,hin,fd,fz,rfl,rfl⟩ (λi σ' H' _ pp=>by obtain⟨_,_,_,_,_,_,e,_⟩:=pp;exact A3.of (e _ _ hil)) (λi x σ' H' hx pp=>?_) (fun σ' H' pp=>?_);rotate_left
  .obtain⟨g,ys,done,o3,o4,rfl,e,hf,hfa,hg,_,_,_,eq,yl⟩:=pp;rw[List.drop_length]at hg;have gn:g = .nil:=by
    cases g with
    |nil=>rfl
    |leaf k r=>obtain⟨_,_,z,_⟩:=hg;cases z
    |node k s r=>obtain⟨_,_,_,_,z,_⟩:=hg;cases z
   subst gn;have eq:done=Hj Ds f:=by rw[←eq];exact(Om done).symm
   subst eq;refine⟨fo,ys,rfl,.inl ⟨A3.of hf,λr hr=>?_⟩⟩;have s2:=Ab hr (.tup ys);exact q r _ (e.trans s2) ⟨ys,A7,AR.over s2 hfa⟩
  refine Ak λ_ zA=>?_;obtain⟨g,ys,done,o3,o4,rfl,e,hf,hfa,hg,hig,fdg,fzg,eq,yl⟩:=pp;refine zA ?_;have hi:i<xs.length:=(Aw.mp hx).1;have dc:xs.drop i=x::xs.drop (i+1):=by
   obtain⟨hh,rfl⟩:=Aw.mp hx;exact GT hh
  rw[dc]at hg;cases g with
  |nil=>cases hg
  |
   leaf k rest=>
   refine Ak λ_ zB=>?_;obtain⟨t,xs',ex,ht,hrest⟩:=hg;refine zB ?_;cases ex;refine Ak λ_ zC=>?_;obtain⟨⟨D,hD⟩,hir⟩:=hig;refine zC ?_;have m3:=D3 D (B0 hD);have mo:=KJ hD;refine⟨t,_,rfl,A4.of (e _ _ ht),rfl,rfl,?_⟩;dsimp only[Aq];refine⟨rfl,_,rfl,Be (v:=true) (BU rfl) (C6 ?_)⟩;refine Ak λ_ zD=>?_;obtain⟨zs,hdl,az⟩:=hDo.over e;obtain⟨v,hv,p,dx,nm,lo,hi2,pt,v4,v5,v6,ls,hs,rfl,h0,h1,_⟩:=az.get hD;refine zD ?_;have nl:(D.loops.map λt=>V.str t.nm).length=D.loops.length:=Af _;refine⟨.inl ⟨rfl,_,A3.of hf⟩,dl,_,_,_,rfl,rfl,A3.of hdl,BA hv,p,_,dx,_,_,rfl,h0,T.cl_Deed,T.n_Deed_names,rfl,nm,_,rfl,.inr (A4.of h1),(D.loops.length:Int),by rw[nl],by lia,by lia,?_⟩;rw[show((D.loops.length:Int)).toNat=D.loops.length by lia];refine NT (lo:=0) (n:=D.loops.length) (λj zs' H2=>A8 H' H2/\Am (Fp H2) zs' ((Fo.ownP D.loops.length).take j)) ⟨A8.refl _,.nil⟩ (BD (by lia)) (λj zs' H2 hj pp=>by rw[pp.2.1,BQ,Ir];lia) (λj zs' H2 hj pp=>?_) (λzs' H2 pp l hl=>?_)
   .obtain⟨e2,ap⟩:=pp;rw[Gi];refine⟨Ap rfl,λu hu=>?_⟩;have s3:=Ab hu (.tup [V.int (j:Int),V.int 0]);refine⟨e2.trans s3,?_⟩;rw[P7 _ j hj];exact(ap.mono λ_ _ z=>z.over s3).snoc ⟨u,rfl,A7⟩
   obtain⟨e2,ap⟩:=pp;rw[Gg (by rw[Ir];exact Ah _)]at ap;have s3:=Ab hl (.lst zs');refine⟨l,zs',rfl,.inl ⟨A3.of A7,λpl hpl=>?_⟩⟩;have s4:=Ab hpl (.tup zs');have hpl4:(upd (upd H2 l (.lst zs')) pl (.tup zs')) pl=some (.tup zs'):=A7;have e4:=(e2.trans s3).trans s4;generalize upd (upd H2 l (.lst zs')) pl (.tup zs')=H4 at s4 hpl4 e4;refine⟨Ap rfl,λr hr=>?_⟩;have s5:=Ab hr (.tup [V.str "deed",V.int (k:Int),V.ref pl]);have hr5:(upd H4 r (.tup [V.str "deed",V.int (k:Int),V.ref pl])) r=some (.tup [V.str "deed",V.int (k:Int),V.ref pl]):=A7;have e5:=e4.trans s5;have hpl5:=s5 _ _ hpl4;generalize upd H4 r (.tup [V.str "deed",V.int (k:Int),V.ref pl])=H5 at s5 hr5 e5 hpl5;have hf5:=e5 _ _ hf;refine⟨fo,_,_,rfl,rfl,hf5,BK (by lia),?_⟩;have tk:=TK.upd (o:=.lst (ys++[V.ref r])) hf5;refine⟨rest,ys++[.ref r],Fo.app done (.leaf (k:Int) (Fo.ownP (BP Ds k)) .nil),_,_,rfl,λa o ha=>by rw[Ag (Av ha hfo)];exact e5 _ _ (e _ _ ha),A7,?_,hrest,hir,by change max 1 (CJ rest)<n+1 at fdg;lia,by change DF rest+1<=1000 at fzg;lia,by rw[M6];exact eq,by rw[Ai,yl];rfl⟩;rw[mo];exact AR.tk tk (AR.app (AR.over e5 hfa) ⟨r,pl,[],rfl,hr5,⟨zs',hpl5,ap.mono λ_ _ z=>(z.over s3).over (s4.trans s5)⟩,rfl⟩)
  |
   node k sub rest=>
   refine Ak λ_ zE=>?_;obtain⟨t,l,zs,xs',ex,ht,hl,hsub,hrest⟩:=hg;refine zE ?_;cases ex;obtain⟨his,hir⟩:=hig;change max (CJ sub+1) (CJ rest)<n+1 at fdg;change DF sub+DF rest+1<=1000 at fzg;refine⟨t,_,rfl,A4.of (e _ _ ht),rfl,rfl,?_⟩;dsimp only[Aq];refine⟨rfl,_,rfl,Be (v:=false) (C9 (λz=>by cases z)) (By ?_)⟩;refine⟨.inl ⟨rfl,_,A3.of hf⟩,dl,l,Ds,sub,zs,rfl,hDo.over e,D3,e _ _ hl,CI.over e hsub,by lia,his,by lia,λr2 H2 e2 hr2=>⟨Ap rfl,λr hr=>?_⟩⟩;refine Ak λ_ zF=>?_;obtain⟨ws,hw1,hw2⟩:=hr2;refine zF ?_;have s5:=Ab hr (.tup [V.str "sweep",V.bl false,V.str "up",V.ref r2]);have hr5:(upd H2 r (.tup [V.str "sweep",V.bl false,V.str "up",V.ref r2])) r=some (.tup [V.str "sweep",V.bl false,V.str "up",V.ref r2]):=A7;have e5:=e2.trans s5;have hw5:=s5 _ _ hw1;have hw6:=AR.over s5 hw2;generalize upd H2 r (.tup [V.str "sweep",V.bl false,V.str "up",V.ref r2])=H5 at s5 hr5 e5 hw5 hw6;have hf5:=e5 _ _ hf;refine⟨fo,_,_,rfl,rfl,hf5,BK (by lia),?_⟩;have tk:=TK.upd (o:=.lst (ys++[V.ref r])) hf5;refine⟨rest,ys++[.ref r],Fo.app done (.node false "up" (Hj Ds sub) .nil),_,_,rfl,λa o ha=>by rw[Ag (Av ha hfo)];exact e5 _ _ (e _ _ ha),A7,?_,hrest,hir,by lia,by lia,by rw[M6];exact eq,by rw[Ai,yl];rfl⟩;exact AR.tk tk (AR.app (AR.over e5 hfa) ⟨r,r2,ws,[],rfl,hr5,hw5,hw6,rfl⟩)
theorem Xj (T:Tx w K mg a):AI P w K mg base AN 9 a.f_q a.d_q ["program"] (VE a.c_Program a.c_Deed):=by
 have G_y :=@Uy P w K mg base a T;have G_o :=@QO P w K mg base a T 5;refine T.F_q.ok aA (λvs H Q E h=>?_) (λcdv A outer s H vs Q E hr h=>?_)
 .obtain⟨_,_,_,_,_,rfl,_⟩:=h;rfl
 obtain⟨x,dx,dl,sz,Ds,rfl,hx,hDo,ok,q⟩:=h;refine⟨_,(Ae (AH (Ax G_o (hr.mono (by lia)) (by rfl) T.m_o T.F_o.kp T.b_o .nil Ar (A0 (B9 (pw 0) rfl) (A0 (Ax G_y (hr.mono (by lia)) (by rfl) T.m_y T.F_y.kp T.b_y .nil Ar (A0 (B9 (pw 0) rfl) A2)) A2))))),?_⟩;refine⟨x,_,dx,_,_,rfl,hx,T.cl_Program,T.n_Program_deeds,rfl,x,_,dx,_,_,rfl,hx,T.cl_Program,T.n_Program_deeds,rfl,dl,Ds,rfl,hDo,ok,λr H1 f xs e1 hr0 hr1 hfs hI fd x10=>?_⟩;obtain⟨inF,fz⟩:=LQ hI (λD hD=>(ok.1 D hD).ll) (by decide);refine⟨dl,r,Ds,f,xs,rfl,hDo.over e1,λD hD=>(ok.1 D hD).ll,hr1,CI.over TU hfs,by lia,inF,by rw[C8]at fz;have:=ok.2.1;lia,λr2 H2 e2 hf=>q r2 H2 f (e1.trans e2) hf hI⟩
theorem Qa (T:Tx w K mg a):∀n:Nat,AI P w K mg base AN (n+2) a.f_b a.d_b ["items","path","cuts"] (S0 n)
 |
  0=>by
  have no:∀vs H Q E,¬S0 0 vs H Q E:=λvs H Q E h=>by
   obtain⟨it,pa,cu,f,P',cs,_,_,_,_,hd,_⟩:=h;have:=IA f;lia
  exact⟨λvs H Q E h=>absurd h (no vs H Q E),λA outer s H args us vs Q E _ _ _ _ h=>absurd h (no vs H Q E)⟩
 |
  n+1=>by
  have G_b:=Qa T n;refine T.F_b.ok Ft (λvs H Q E h=>?_) (λcdv A outer s H vs Q E hr h=>?_)
  .obtain⟨_,_,_,_,_,_,rfl,_⟩:=h;rfl
  obtain⟨it,pa,cu,f,PP,cs,rfl,⟨xs,hit,hf⟩,hpa,hcu,hdep,pl,cl,hlen,q⟩:=h;refine⟨_,(A9 (Ao (i:=3) Ft.nd rfl (.inl rfl) (BO A2))
  (A9 (C2 PassesOwn.never rfl (QB (by rfl) T.z_enumerate (A0 (pw 0) A2)) (CZ rfl (B4 (Az (i:=4) Ft.nd rfl (.inl rfl)) (B4 (Az (i:=5) Ft.nd rfl (.inl rfl)) D4)))
  (A9 (Ao (i:=6) Ft.nd rfl (.inl rfl) (Aj L8 (pw 1) (BX (A0 (pw 4) A2))))
  (Ae (Bx (AK Co (Aa Al (pw 5) A1 (λ_ _=>rfl)) BY (AF _))
  (Ae (Br (BF Bw BR BS BL (pw 3) (A0 (BJ (Ac (Aa Al (pw 5) A1 (λ_ _=>rfl)) (Ac (Aa Al (pw 5) A1 (λ_ _=>rfl)) (Ac (pw 6) (Ac (pw 2) BG Bg) Bg) DR) DR)) A2))))
  (Ae (Br (BF Bw OR OS LI (pw 3) (A0 (Ax G_b (hr.mono (by lia)) (by rfl) T.m_b T.F_b.kp T.b_b .nil Ar (A0 (Aa Al (pw 5) A1 (λ_ _=>rfl)) (A0 (pw 6) (A0 (Aj L8 (pw 2) (BX (A0 (Aa Al (pw 5) A1 (λ_ _=>rfl)) A2))) A2)))) A2))))))))
  (Ae (AH (pw 3))))),?_⟩
  refine⟨Ap rfl,λfo hfo=>?_⟩;have e1:=Ab hfo (.lst []);have hfo1:(upd H fo (.lst [])) fo=some (.lst []):=A7;generalize upd H fo (.lst [])=H1 at e1 hfo1;refine⟨it,rfl,⟨_,A4.of (e1 _ _ hit)⟩,?_⟩;refine Rw (xs:=xs) (λi σ' H'=>∃(g:B8) (done:List (Fo.En×List Bool)) (ys:List V) (o4 o5 o6:Option V),σ'=[some (.ref it),some (.ref pa),some (.ref cu),some (.ref fo),o4,o5,o6]/\A8 H H'/\AR H (xs.drop i) g/\Cp g<=n+1/\H' fo=some (.lst ys)/\Am (Gu H') ys done/\done++CA g PP i cs=CA f PP 0 cs) ⟨f,[],[],_,_,_,rfl,e1,hf,hdep,hfo1,.nil,rfl⟩ (λi σ' H' _ pp=>by obtain⟨_,_,_,_,_,_,_,e,_⟩:=pp;exact A4.of (e _ _ hit)) (λi x Tt σ' H' hx pp hT=>?_) (fun σ' H' pp=>?_);rotate_left
  .obtain⟨g,done,ys,o4,o5,o6,rfl,e,hg,_,hy,ay,hd⟩:=pp;have hz:xs.drop xs.length=[]:=Mz (Ah _);rw[hz]at hg;have gn:g = .nil:=by
    cases g with
    |nil=>rfl
    |leaf k pl r=>obtain⟨_,_,_,z,_⟩:=hg;cases z
    |node c w s r=>obtain⟨_,_,_,_,z,_⟩:=hg;cases z
   subst gn;have:done=CA f PP 0 cs:=by rw[←hd];show done=done++[];rw[CV]
   rw[this]at ay;exact q fo ys _ e hy ay
  refine Ak λ_ zA=>?_;obtain⟨g,done,ys,o4,o5,o6,rfl,e,hg,gdep,hy,ay,hd⟩:=pp;obtain⟨hi,ex⟩:=Aw.mp hx;refine zA ?_;rw[GT hi,ex]at hg;have tot:=congrArg List.length hd;rw[Ai]at tot;have yl:=ay.1;have sT:=Ab hT (.tup [V.int (i:Int),x]);have e2:=e.trans sT;have hy2:=sT _ _ hy;have ay2:=ay.mono λy v z=>z.over sT;refine⟨Tt,_,rfl,A4.of A7,rfl,rfl,?_⟩;generalize upd H' Tt (.tup [V.int (i:Int),x])=H2 at e2 hy2 ay2;refine⟨Ap rfl,λt1 ht1=>?_⟩;have s3:=Ab ht1 (.tup [V.int (i:Int)]);refine⟨pa,t1,_,[V.int (i:Int)],rfl,rfl,s3 _ _ (e2 _ _ hpa),A7,BD (by rw[Af,Bc];lia),λhe H3 e3 hhe=>?_⟩;have hhe:H3 he=some (.tup ((PP++[(i:Int)]).map V.int)):=by rw[Bv];exact hhe
  have e23:=s3.trans e3;have eH3:=e2.trans e23;have hy3:=e23 _ _ hy2;have ay3:=ay2.mono λy v z=>z.over e23;dsimp only[Aq];clear s3 e3 sT;cases g with
  |nil=>cases hg
  |
   leaf k pl rest=>
   refine Ak λ_ zB=>?_;obtain⟨t,pp,zs,z,ht,hpr,hrest⟩:=hg;refine zB ?_;cases z;change Cp rest<=n+1 at gdep;change done++((⟨k,pl,PP++[(i:Int)]⟩,cs)::CA rest PP (i+1) cs)=CA f PP 0 cs at hd;have tot':done.length+(CA rest PP (i+1) cs).length+1=(CA f PP 0 cs).length:=by rw[←hd,Ai,Bz];lia
   refine⟨t,_,0,_,rfl,rfl,A4.of (eH3 _ _ ht),rfl,rfl,_,rfl,Be (v:=true) (BU rfl) (C6 ?_)⟩;refine⟨.inl ⟨rfl,_,A3.of hy3⟩,t,_,1,_,rfl,rfl,A4.of (eH3 _ _ ht),rfl,t,_,2,_,rfl,rfl,A4.of (eH3 _ _ ht),rfl,Ap rfl,λr hr=>?_⟩;have s4:=Ab hr (.tup [V.int k,V.ref pp,V.ref he,V.ref cu]);have nr:r≠fo:=λz=>by rw[z,hy3]at hr;cases hr
   refine⟨fo,_,_,rfl,rfl,s4 _ _ hy3,BK (by lia),?_⟩;have tk:=(A8.tk s4).trans (TK.upd (o:=.lst (ys++[V.ref r])) (s4 _ _ hy3));refine⟨rest,done++[(⟨k,pl,PP++[(i:Int)]⟩,cs)],_,_,_,_,rfl,λa o ha=>by rw[Ag (Av ha hfo)];exact s4 _ _ (eH3 _ _ ha),hrest,gdep,A7,?_,by rw[D6];exact hd⟩;exact(ay3.mono λy v z=>z.tk tk).snoc ⟨r,pp,he,cu,rfl,by rw[Ag nr];exact A7,(hpr.over eH3).tk tk,tk _ _ (eH3 _ _ hcu)⟩
  |
   node c w sub rest=>
   refine Ak λ_ zC=>?_;obtain⟨t,pp,zs,us,z,ht,hpp,hsub,hrest⟩:=hg;refine zC ?_;cases z;unfold Cp at gdep;change done++(CA sub (PP++[(i:Int)]) 0 (cs++[c])++CA rest PP (i+1) cs)=CA f PP 0 cs at hd;have tot':done.length+((CA sub (PP++[(i:Int)]) 0 (cs++[c])).length+(CA rest PP (i+1) cs).length)=(CA f PP 0 cs).length:=by rw[←hd,Ai,Ai]
   refine⟨t,_,0,_,rfl,rfl,A4.of (eH3 _ _ ht),rfl,rfl,_,rfl,Be (v:=false) (dS (by decide +kernel)) (By ?_)⟩;refine⟨.inl ⟨rfl,_,A3.of hy3⟩,t,_,3,_,rfl,rfl,A4.of (eH3 _ _ ht),rfl,t,_,1,_,rfl,rfl,A4.of (eH3 _ _ ht),rfl,Ap rfl,λt2 ht2=>?_⟩;have s4:=Ab ht2 (.tup [V.bl c]);refine⟨cu,t2,cs.map V.bl,[V.bl c],rfl,rfl,s4 _ _ (eH3 _ _ hcu),A7,BD (by rw[Af,Bc];lia),λcu2 H4 e4 hcu2=>?_⟩;have hcu2:H4 cu2=some (.tup ((cs++[c]).map V.bl)):=by rw[Bv];exact hcu2
   have e34:=s4.trans e4;have eH4:=eH3.trans e34;refine⟨pp,he,cu2,sub,PP++[(i:Int)],cs++[c],rfl,⟨zs,eH4 _ _ hpp,AR.over eH4 hsub⟩,e34 _ _ hhe,hcu2,by lia,by rw[Ai,Bc];lia,by rw[Ai,Bc];lia,by lia,λr ys2 H5 e5 hr5 ay5=>?_⟩;have yl5:=ay5.1;have hy5:=(e34.trans e5) _ _ hy3;refine⟨fo,r,_,_,rfl,rfl,hy5,hr5,BD (by lia),?_⟩;have tk:=TK.upd (o:=.lst (ys++ys2)) hy5;refine⟨rest,done++CA sub (PP++[(i:Int)]) 0 (cs++[c]),_,_,_,_,rfl,λa o ha=>by rw[Ag (Av ha hfo)];exact e5 _ _ (eH4 _ _ ha),hrest,by lia,A7,?_,by rw[D6];exact hd⟩;exact((ay3.mono λy v z=>(z.over (e34.trans e5)).tk tk)).app (ay5.mono λy v z=>z.tk tk)
theorem PH (T:Tx w K mg a):∀n:Nat,AI P w K mg base AN (n+1) a.f_n a.d_n ["items"] (Qm n)
 |
  0=>by
  have no:∀vs H Q E,¬Qm 0 vs H Q E:=λvs H Q E h=>by
   obtain⟨_,f,_,_,h1,_⟩:=h;have:=IA f;lia
  exact⟨λvs H Q E h=>absurd h (no vs H Q E),λA outer s H args us vs Q E _ _ _ _ h=>absurd h (no vs H Q E)⟩
 |
  n+1=>by
  have G_n:=PH T n;refine T.F_n.ok Vt (λvs H Q E h=>?_) (λcdv A outer s H vs Q E hr h=>?_)
  .obtain⟨_,_,rfl,_⟩:=h;rfl
  obtain⟨p,f,rfl,⟨xs,hp,hf⟩,hdep,hnb,hc,hb10,q⟩:=h;refine⟨_,(Ae (AH (B5 (Y8 rfl) (by rfl) T.z_any Vr (A0 (F1 ["item"] [none] (by rfl) (LJ (pw 0)) Zk (λ_ _ _ _ _ _=>⟨(Az (i:=0) Zh rfl (.inl rfl)),Ef,(Kn (GB Co (Aa (show DQ _ (Fv K) from Al) (pw 0) A1 (λ_ _=>rfl)) BY (AF _)) (L6 (Xt (GB (show BI _ _ (FB K false) from Mg (GD hr)) (Aa (show DQ _ (Fv K) from Al) (pw 0) A1 (λ_ _=>rfl)) (BX A2) (AF _)) (L6 (Ax G_n (hr.mono (by lia)) (by rfl) T.m_n T.F_n.kp T.b_n .nil Ar (A0 (Aa (show DQ _ (Fv K) from Al) (pw 0) A1 (λ_ _=>rfl)) A2))))))⟩)) A2)))),?_⟩;have xl:=ND hf;refine⟨p,rfl,⟨_,A4.of hp⟩,?_⟩;refine Yx (xs:=xs) (λi ys H'=>A8 H H'/\ys=(List.replicate i false).map V.bl/\∃g,AR H (xs.drop i) g/\J8 g/\Cp g<=n+1/\DM g<=1000) ⟨A8.refl _,rfl,f,hf,hnb,hdep,hc⟩ (BD (by lia)) (λi ys H' hi pp=>⟨A4.of (pp.1 _ _ hp),by rw[pp.2.1,Af,DB];exact Ah _⟩) (λi x ys H' hx pp=>?_) (λys H' pp r hr'=>?_);rotate_left
  .obtain⟨e,rfl,_⟩:=pp;refine⟨r,_,rfl,A3.of A7,?_⟩;have an:(List.replicate xs.length false).any id=false:=by
    rw[List.any_eq_false];intro b hb;rw[(OO.mp hb).2];decide
   rw[an];exact q _ (e.trans (Ab hr' _))
  refine Ak λ_ zA=>?_;obtain⟨e,rfl,g,hg,nb,dg,cg⟩:=pp;obtain⟨hi,ex⟩:=Aw.mp hx;refine zA ?_;rw[GT hi,ex]at hg;have out:(List.replicate i false).map V.bl++[V.bl false]=(List.replicate (i+1) false).map V.bl:=by rw[SW,Bv];rfl
  cases g with
  |nil=>cases hg
  |
   leaf k pl rest=>
   refine Ak λ_ zB=>?_;obtain⟨t,p1,ys,z,ht,_,hrest⟩:=hg;refine zB ?_;cases z;have no:decide (V.str "deed"=V.str "sweep")=false:=dS (by decide +kernel);refine⟨t,_,0,_,rfl,rfl,A4.of (e _ _ ht),rfl,rfl,_,rfl,Be (v:=false) no (By ?_)⟩;exact⟨e,out,rest,hrest,nb,dg,by change DM rest+1<=1000 at cg;lia⟩
  |
   node c w sub rest=>
   refine Ak λ_ zC=>?_;obtain⟨t,p1,zs,ys,z,ht,hp1,hsub,hrest⟩:=hg;refine zC ?_;cases z;refine Ak λ_ zD=>?_;obtain⟨ne,nb1,nb2⟩:=nb;refine zD ?_;unfold Cp at dg;change DM sub+DM rest+1<=1000 at cg;refine⟨t,_,0,_,rfl,rfl,A4.of (e _ _ ht),rfl,rfl,_,rfl,Be (v:=true) (BU rfl) (C6 ?_)⟩;refine⟨t,_,3,_,rfl,rfl,A4.of (e _ _ ht),rfl,Ap rfl,λu hu=>?_⟩;have s1:=Ab hu (.tup []);have e1:=e.trans s1;have tr:BE K (upd H' u (.tup [])) (.ref p1) (.tup (Du sub)):=(JO ⟨zs,e1 _ _ hp1,AR.over e1 hsub⟩).tr;have df:=Kh sub;refine⟨.tup (Du sub),.tup [],tr,.tup (A4.of A7) .nil,⟨_,rfl⟩,⟨_,rfl⟩,?_,by rw[C3];lia,_,rfl,?_⟩
   .rw[Ct];cases Du sub<;>rfl
   have ef:C5 (.tup (Du sub)) (.tup [])=false:=by
    rw[C5];cases sub with
    |nil=>exact absurd rfl ne
    |leaf k pl r=>rfl
    |node c w s r=>rfl
   refine Be (v:=false) (by rw[ef];rfl) (By ?_);refine⟨t,_,3,_,rfl,rfl,A4.of (e1 _ _ ht),rfl,p1,sub,rfl,⟨zs,e1 _ _ hp1,AR.over e1 hsub⟩,by lia,nb1,by lia,by lia,λH2 e2=>?_⟩;exact⟨e1.trans e2,out,rest,hrest,nb2,by lia,by lia⟩
theorem TX (T:Tx w K mg a):AI P w K mg base AN 1 a.f_B a.d_B ["deed","places","cuts"] (WH a.c_Deed):=by
 refine T.F_B.ok Jw (λvs H Q E h=>?_) (λcdv A outer s H vs Q E hr h=>?_)
 .obtain⟨_,_,_,_,rfl,_⟩:=h;rfl
 obtain⟨x,pl,cu,D,rfl,⟨p,dx,nm,lo,hi,pt,v4,v5,v6,ls,hs,rfl,h0,h1,_⟩,m3,⟨xs,hpl,ap⟩,hcu,q⟩:=h;refine⟨_,(A9 (Ao (i:=3) Jw.nd rfl (.inl rfl) (B5 BB (by rfl) T.z_len BC (A0 (B9 (pw 0) rfl) A2)))
  (A9 (Bx ((FL (AK Nc (B5 BB (by rfl) T.z_len BC (A0 (pw 1) A2)) (B5 BB (by rfl) T.z_len BC (A0 (pw 2) A2)) (AF _)) (Jb (AK (Bi F4) (B5 BB (by rfl) T.z_len BC (A0 (pw 1) A2)) (Nb (by rfl) T.g_MOST_PAIRS T.r_MOST_PAIRS) (AF _))))).pt
  (Ae (AH F5))
  BW)
  (A9 (C2 PassesOwn.never rfl (LJ (pw 1)) (CZ rfl (B4 (Az (i:=4) Jw.nd rfl (.inl rfl)) (B4 (Az (i:=5) Jw.nd rfl (.inl rfl)) D4)))
  (Ae (Bx ((FL (AK (Bi Es) (pw 4) A1 (AF _)) (FL (AK (Bi b8) (pw 4) (pw 3) (AF _)) (Jb (AK (Bi F4) (B5 aT (by rfl) T.z_abs XG (A0 (pw 5) A2)) (Nb (by rfl) T.g_MOST_SHIFT T.r_MOST_SHIFT) (AF _)))))).pt
  (Ae (AH F5))
  BW)))
  (A9 (O9 (i:=6) ["place","cut"] [none,none] Jw.nd rfl (.inl rfl) (by rfl) (QI (by rfl) T.z_zip (A0 (pw 1) (A0 (pw 2) A2))) U6 (λ_ _ _ _ _ _=>⟨(show PG _ _ (JI K 2 _) from(CZ rfl (B4 (Az (i:=0) QV rfl (.inl rfl)) (B4 (Az (i:=1) QV rfl (.inl rfl)) D4)))),(br (Hh (Fl (pw 1)))),(Aa (show DQ _ (Fv K) from Al) (pw 0) A1 (λ_ _=>rfl))⟩))
  (Ae (AH (GB (Mg (GD hr)) (B5 Rx (by rfl) T.z_sorted Qt (A0 (pw 6) A2)) (M4 rfl (by rfl) T.z_list (by rfl) T.z_range (A0 (pw 3) A2)) (AF _)))))))),?_⟩
 have nl:(D.loops.map λt=>V.str t.nm).length=D.loops.length:=Af _;generalize hm:D.loops.length=m at *;have xl:xs.length=m:=by rw[ap.1,Ir]
 have cl:((List.replicate m false).map V.bl).length=m:=by rw[Af,DB]
 refine⟨p,_,dx,_,_,rfl,h0,T.cl_Deed,T.n_Deed_names,rfl,nm,_,rfl,.inr (A4.of h1),?_⟩;rw[nl];dsimp only[Aq];refine⟨pl,_,rfl,.inr (A4.of hpl),cu,_,rfl,.inr (A4.of hcu),rfl,_,rfl,Be (Od (by rw[xl,cl])) (By ?_)⟩;refine⟨pl,_,rfl,.inr (A4.of hpl),_,rfl,Be (v:=false) (C9 (by rw[xl];lia)) (By ?_)⟩;refine⟨pl,rfl,⟨_,A4.of hpl⟩,?_⟩;refine Na (xs:=xs) (λi σ' H'=>H'=H/\∃o4 o5 o6,σ'=[some (.ref p),some (.ref pl),some (.ref cu),some (.int (m:Int)),o4,o5,o6]) ⟨rfl,_,_,_,rfl⟩ (λi σ' H' _ pp=>by rw[pp.1];exact A4.of hpl) (λi x σ' H' hx pp=>?_) (fun σ' H' pp=>?_)
 .obtain⟨rfl,o4,o5,o6,rfl⟩:=pp;refine Ak λ_ zA=>?_;obtain⟨pr,hpr,t,rfl,ht⟩:=ap.get' hx;refine zA ?_;have him:i<m:=by have:=(Aw.mp hx).1;lia
  have epr:pr=((i:Int),0):=by
   unfold Fo.ownP at hpr;rw[Bf,Fi him]at hpr;exact(Cu hpr).symm
  subst epr;refine⟨t,_,rfl,A4.of ht,rfl,rfl,?_⟩;dsimp only[Aq];refine⟨_,rfl,Be (v:=false) (C9 (by show ¬(i:Int)<0;lia)) (By ?_)⟩;refine⟨_,rfl,Be (v:=false) (C9 (by show ¬(i:Int)≥(m:Int);lia)) (By ?_)⟩;refine⟨_,rfl,_,rfl,Be (v:=false) (by decide) (By ?_)⟩;exact⟨rfl,_,_,_,rfl⟩
 refine Ak λ_ zB=>?_;obtain⟨rfl,o4,o5,o6,rfl⟩:=pp;refine zB ?_;refine⟨pl,cu,rfl,⟨_,A4.of hpl⟩,⟨_,A4.of hcu⟩,?_⟩;refine au (xs:=xs) (ys:=(List.replicate m false).map V.bl) (by rw[xl,cl]) (λi zs H2=>A8 H' H2/\zs=(BM i).map V.int) ⟨A8.refl _,rfl⟩ (BD (by lia)) (λi zs H2 hi pp=>⟨A4.of (pp.1 _ _ hpl),A4.of (pp.1 _ _ hcu),by rw[pp.2,Af];unfold BM;rw[Af,C8];exact Ah _⟩) (λi x y Tt zs H2 hx hy pp hT=>?_) (λzs H2 pp l hl=>?_)
 .obtain⟨e2,rfl⟩:=pp;refine Ak λ_ zC=>?_;obtain⟨pr,hpr,t,rfl,ht⟩:=ap.get' hx;refine zC ?_;have him:i<m:=by have:=(Aw.mp hx).1;lia
  have epr:pr=((i:Int),0):=by
   unfold Fo.ownP at hpr;rw[Bf,Fi him]at hpr;exact(Cu hpr).symm
  subst epr;have ey:y = .bl false:=by
   rw[Bf,Ou,Ay him]at hy;exact(Cu hy).symm
  subst ey;have sT:=Ab hT (.tup [V.ref t,V.bl false]);refine⟨Tt,_,rfl,A4.of A7,rfl,rfl,PV (ρ:=[]) _ _,?_⟩;refine⟨_,rfl,C6 ?_⟩;refine⟨t,_,0,_,rfl,rfl,A4.of ((e2.trans sT) _ _ ht),rfl,e2.trans sT,?_⟩;unfold BM;rw[GR,Bv,Bv];rfl
 obtain⟨e2,rfl⟩:=pp;rw[xl];have s3:=Ab hl (.lst ((BM m).map V.int));have hl3:(upd H2 l (.lst ((BM m).map V.int))) l=some (.lst ((BM m).map V.int)):=A7;dsimp only[Aq];generalize upd H2 l (.lst ((BM m).map V.int))=H3 at s3 hl3;have rl:(BM m).length=m:=by unfold BM;rw[Af,C8]
 refine⟨l,BM m,rfl,A3.of hl3,by lia,λl2 ns' hl2 pm so=>?_⟩;have e4:=N2 pm so (RU m);subst e4;have s4:=Ab hl2 (.lst ((BM m).map V.int));have hl4:(upd H3 l2 (.lst ((BM m).map V.int))) l2=some (.lst ((BM m).map V.int)):=A7;generalize upd H3 l2 (.lst ((BM m).map V.int))=H4 at s4 hl4;refine⟨m,rfl,by lia,λl5 hl5=>?_⟩;rw[QR];have s5:=Ab hl5 (.lst ((BM m).map V.int));exact Xk (.lst (A3.of (s5 _ _ hl4)) (Hk _)) (.lst (A3.of A7) (Hk _)) (by rw[C3,LY];decide) (q _ (((e2.trans s3).trans s4).trans s5))
theorem VS (T:Tx w K mg a):AI P w K mg base AN 10 a.f_A a.d_A ["program","plan"] (Ut a.c_Program a.c_Deed):=by
 have G_b :=@Qa P w K mg base a T 7;have G_n :=@PH P w K mg base a T 8;have G_B :=@TX P w K mg base a T;refine T.F_A.ok Rg (λvs H Q E h=>?_) (λcdv A outer s H vs Q E hr h=>?_)
 .obtain⟨_,_,_,_,_,_,_,_,rfl,_⟩:=h;rfl
 obtain⟨x,dx,dl,sz,pt,Ds,f,sh,rfl,hx,hDo,n10,D3,hf,hI,hsh,q⟩:=h;refine⟨_,(A9 (Ao (i:=2) Rg.nd rfl (.inl rfl) (Ax G_b (hr.mono (by lia)) (by rfl) T.m_b T.F_b.kp T.b_b .nil Ar (A0 (pw 1) (A0 (BX A2) (A0 (BX A2) A2)))))
  (A9 (Bx (AK (Nw (GD hr)) (B5 Rx (by rfl) T.z_sorted Qt (A0 (F1 ["k","places","path","cuts"] [none,none,none,none] (by rfl) (CQ (pw 2)) W2 (λ_ _ _ _ _ _=>⟨(show PG _ _ (JI K 4 _) from(CZ rfl (B4 (Az (i:=0) Mo rfl (.inl rfl)) (B4 (Az (i:=1) Mo rfl (.inl rfl)) (B4 (Az (i:=2) Mo rfl (.inl rfl)) (B4 (Az (i:=3) Mo rfl (.inl rfl)) D4)))))),Ef,(pw 0)⟩)) A2)) (M4 rfl (by rfl) T.z_list (by rfl) T.z_range (A0 (B5 BB (by rfl) T.z_len BC (A0 (B9 (pw 0) rfl) A2)) A2)) (AF _))
  (Ae (AH F5))
  BW)
  (A9 (Bx (Fl (Ax G_n (hr.mono (by lia)) (by rfl) T.m_n T.F_n.kp T.b_n .nil Ar (A0 (pw 1) A2)))
  (Ae (AH F5))
  BW)
  (Ae (AH (B5 (Wk rfl) (by rfl) T.z_all Uz (A0 (F1 ["k","places","path","cuts","program"] [none,none,none,none,some 0] (by rfl) (CQ (pw 2)) Us (λ_ _ _ _ _ _=>⟨(show PG _ _ (JI K 4 _) from(CZ rfl (B4 (Az (i:=0) LD rfl (.inl rfl)) (B4 (Az (i:=1) LD rfl (.inl rfl)) (B4 (Az (i:=2) LD rfl (.inl rfl)) (B4 (Az (i:=3) LD rfl (.inl rfl)) D4)))))),Ef,(Ax G_B (hr.mono (by lia)) (by rfl) T.m_B T.F_B.kp T.b_B .nil Ar (A0 (Aa (show DQ _ (Ka K) from AS) (show PE _ _ (Qu K _ "deeds") from B9 (pw 4) rfl) (pw 0) (λ_ _=>rfl)) (A0 (pw 1) (A0 (pw 3) A2))))⟩)) A2))))))),?_⟩
 have dep4:=Hz f (F3 Ds sh) 0 3 hI (RZ Ds sh D3);have fc:=Lg f (F3 Ds sh) 0 3 hI (RZ Ds sh D3);have nb:=Mq f _ 0 hI;have dl0:=SD (p:=[]) (j:=0) (cs:=[]) hI (N6 Ds sh hsh);rw[Af,C8]at fc dl0;refine⟨Ap rfl,λt1 ht1=>⟨Ap rfl,λt2 ht2=>?_⟩⟩;have s1:=Ab ht1 (.tup []);have s2:=Ab ht2 (.tup []);have e2:=s1.trans s2;refine⟨pt,t1,t2,f,[],[],rfl,hf.over e2,s2 _ _ A7,A7,by lia,by decide,by decide,by lia,λst ys H3 e3 hst ay=>?_⟩;have e23:=e2.trans e3;have yl:=ay.1;dsimp only[Aq];clear s1 s2 ht1 ht2;refine⟨st,rfl,⟨_,A3.of hst⟩,?_⟩;refine N8 (xs:=ys) (λi zs H'=>H'=H3/\zs=(BM i).map V.int) ⟨rfl,rfl⟩ (BD (by lia)) (λi zs H' hi pp=>⟨by rw[pp.1];exact A3.of hst,by rw[pp.2,Af];unfold BM;rw[Af,C8];exact Ah _⟩) (λi y zs H' hy pp=>?_) (λzs H4 pp l hl=>?_)
 .obtain⟨rfl,rfl⟩:=pp;refine Ak λ_ zA=>?_;obtain⟨en,hen,t,pl,p,cu,rfl,ht,_,_⟩:=ay.get' hy;obtain⟨D,hD,ek,_,_⟩:=RG hI hsh hen;refine zA ?_;refine⟨t,_,rfl,A4.of ht,rfl,rfl,Qj (ρ:=[]) _ _ _ _,?_⟩;refine⟨rfl,?_⟩;rw[ek];unfold BM;rw[GR,Bv,Bv];rfl
 obtain⟨rfl,rfl⟩:=pp;have yD:ys.length=Ds.length:=by lia
 rw[yD];have s5:=Ab hl (.lst ((BM Ds.length).map V.int));have hl5:(upd H4 l (.lst ((BM Ds.length).map V.int))) l=some (.lst ((BM Ds.length).map V.int)):=A7;generalize upd H4 l (.lst ((BM Ds.length).map V.int))=H5 at s5 hl5;have rl:(BM Ds.length).length=Ds.length:=by unfold BM;rw[Af,C8]
 refine⟨l,BM Ds.length,rfl,A3.of hl5,by lia,λl2 ns' hl2 pm so=>?_⟩;have e4:=N2 pm so (RU Ds.length);subst e4;have s6:=Ab hl2 (.lst ((BM Ds.length).map V.int));have hl6:(upd H5 l2 (.lst ((BM Ds.length).map V.int))) l2=some (.lst ((BM Ds.length).map V.int)):=A7;have e36:=s5.trans s6;generalize upd H5 l2 (.lst ((BM Ds.length).map V.int))=H6 at s6 hl6 e36;refine Ak λ_ zB=>?_;have eH6:=e23.trans e36;obtain⟨ds,hdl,ad⟩:=hDo.over eH6;refine zB ?_;have dsl:=ad.1;refine⟨x,_,dx,_,_,rfl,eH6 _ _ hx,T.cl_Program,T.n_Program_deeds,rfl,dl,_,rfl,.inl (A3.of hdl),Ds.length,by rw[dsl],by lia,λl7 hl7=>?_⟩;rw[QR];have s7:=Ab hl7 (.lst ((BM Ds.length).map V.int));refine Uv (.lst (A3.of (s7 _ _ hl6)) (Hk _)) (.lst (A3.of A7) (Hk _)) (by rw[C3,LY];decide) ⟨_,rfl,By ?_⟩;have e37:=e36.trans s7;generalize upd H6 l7 (.lst ((BM Ds.length).map V.int))=H7 at s7 e37;have eH7:=e23.trans e37;refine⟨pt,f,rfl,hf.over eH7,by lia,nb,by lia,by decide,λH8 e8=>⟨_,rfl,By ?_⟩⟩;have e38:=e37.trans e8;have eH8:=e23.trans e38;refine⟨st,rfl,⟨_,A3.of (e38 _ _ hst)⟩,?_⟩;refine N8 (xs:=ys) (λi zs H'=>A8 H8 H'/\zs=(List.replicate i true).map V.bl) ⟨A8.refl _,rfl⟩ (BD (by lia)) (λi zs H' hi pp=>⟨A3.of (pp.1 _ _ (e38 _ _ hst)),by rw[pp.2,Af,DB];exact Ah _⟩) (λi y zs H' hy pp=>?_) (λzs H9 pp l9 hl9=>?_)
 .obtain⟨e9,rfl⟩:=pp;refine Ak λ_ zC=>?_;have e39:=e38.trans e9;have eH9:=e23.trans e39;obtain⟨en,hen,t,pl,p,cu,rfl,ht,hpl,hcu⟩:=ay.get' hy;obtain⟨D,hD,ek,ep,ec⟩:=RG hI hsh hen;refine zC ?_;rw[ek]at ht;rw[ep]at hpl;rw[ec]at hcu;refine Ak λ_ zD=>?_;obtain⟨ds,hdl,ad⟩:=hDo.over eH9;obtain⟨vd,hvd,hdo⟩:=ad.get hD;refine zD ?_;refine⟨t,_,rfl,A4.of (e39 _ _ ht),rfl,rfl,Qj _ _ _ _,?_⟩;refine⟨x,_,dx,_,_,rfl,eH9 _ _ hx,T.cl_Program,T.n_Program_deeds,rfl,dl,_,_,_,rfl,rfl,A3.of hdl,BA hvd,vd,pl,cu,D,rfl,hdo,D3 D (B0 hD),hpl.over e39,e39 _ _ hcu,λH10 e10=>⟨e9.trans e10,?_⟩⟩;rw[SW,Bv];rfl
 obtain⟨e9,rfl⟩:=pp;have tt:(List.replicate ys.length true).all id=true:=by rw[Ij];intro b hb;rw[(OO.mp hb).2];rfl
 refine⟨l9,_,rfl,A3.of A7,?_⟩;rw[tt];exact q _ ((eH8.trans e9).trans (Ab hl9 _))
theorem Sk (T:Tx w K mg a):∀n:Nat,AI P w K mg base AN (n+2) a.f_b a.d_b ["items","path","cuts"] (PY n)
 |
  0=>by
  have no:∀vs H Q E,¬PY 0 vs H Q E:=λvs H Q E h=>by
   obtain⟨it,pa,cu,f,P',cs,_,_,_,_,hd,_⟩:=h;have:=IA f;lia
  exact⟨λvs H Q E h=>absurd h (no vs H Q E),λA outer s H args us vs Q E _ _ _ _ h=>absurd h (no vs H Q E)⟩
 |
  n+1=>by
  have G_b:=Sk T n;refine T.F_b.ok Ft (λvs H Q E h=>?_) (λcdv A outer s H vs Q E hr h=>?_)
  .obtain⟨_,_,_,_,_,_,rfl,_⟩:=h;rfl
  obtain⟨it,pa,cu,f,PP,cs,rfl,⟨xs,hit,hf⟩,hpa,hcu,hdep,pl,cl,hlen,q⟩:=h;refine⟨_,(A9 (Ao (i:=3) Ft.nd rfl (.inl rfl) (BO A2))
  (A9 (C2 PassesOwn.never rfl (QB (by rfl) T.z_enumerate (A0 (pw 0) A2)) (CZ rfl (B4 (Az (i:=4) Ft.nd rfl (.inl rfl)) (B4 (Az (i:=5) Ft.nd rfl (.inl rfl)) D4)))
  (A9 (Ao (i:=6) Ft.nd rfl (.inl rfl) (Aj L8 (pw 1) (BX (A0 (pw 4) A2))))
  (Ae (Bx (AK Co (Aa Al (pw 5) A1 (λ_ _=>rfl)) BY (AF _))
  (Ae (Br (BF Bw BR BS BL (pw 3) (A0 (BJ (Ac (Aa Al (pw 5) A1 (λ_ _=>rfl)) (Ac (Aa Al (pw 5) A1 (λ_ _=>rfl)) (Ac (pw 6) (Ac (pw 2) BG Bg) Bg) DR) DR)) A2))))
  (Ae (Br (BF Bw OR OS LI (pw 3) (A0 (Ax G_b (hr.mono (by lia)) (by rfl) T.m_b T.F_b.kp T.b_b .nil Ar (A0 (Aa Al (pw 5) A1 (λ_ _=>rfl)) (A0 (pw 6) (A0 (Aj L8 (pw 2) (BX (A0 (Aa Al (pw 5) A1 (λ_ _=>rfl)) A2))) A2)))) A2))))))))
  (Ae (AH (pw 3))))),?_⟩
  refine⟨Ap rfl,λfo hfo=>?_⟩;have e1:=Ab hfo (.lst []);have hfo1:(upd H fo (.lst [])) fo=some (.lst []):=A7;generalize upd H fo (.lst [])=H1 at e1 hfo1;refine⟨it,rfl,⟨_,A4.of (e1 _ _ hit)⟩,?_⟩;refine Rw (xs:=xs) (λi σ' H'=>∃(g:B8) (done:List Fo.En) (ys:List V) (o4 o5 o6:Option V),σ'=[some (.ref it),some (.ref pa),some (.ref cu),some (.ref fo),o4,o5,o6]/\A8 H H'/\AR H (xs.drop i) g/\Cp g<=n+1/\H' fo=some (.lst ys)/\Am (Gj H') ys done/\done++Fo.deedsF g PP i=Fo.deedsF f PP 0) ⟨f,[],[],_,_,_,rfl,e1,hf,hdep,hfo1,.nil,rfl⟩ (λi σ' H' _ pp=>by obtain⟨_,_,_,_,_,_,_,e,_⟩:=pp;exact A4.of (e _ _ hit)) (λi x Tt σ' H' hx pp hT=>?_) (fun σ' H' pp=>?_);rotate_left
  .obtain⟨g,done,ys,o4,o5,o6,rfl,e,hg,_,hy,ay,hd⟩:=pp;have hz:xs.drop xs.length=[]:=Mz (Ah _);rw[hz]at hg;have gn:g = .nil:=by
    cases g with
    |nil=>rfl
    |leaf k pl r=>obtain⟨_,_,_,z,_⟩:=hg;cases z
    |node c w s r=>obtain⟨_,_,_,_,z,_⟩:=hg;cases z
   subst gn;have:done=Fo.deedsF f PP 0:=by rw[←hd];show done=done++[];rw[CV]
   rw[this]at ay;exact q fo ys _ e hy ay
  refine Ak λ_ zA=>?_;obtain⟨g,done,ys,o4,o5,o6,rfl,e,hg,gdep,hy,ay,hd⟩:=pp;obtain⟨hi,ex⟩:=Aw.mp hx;refine zA ?_;rw[GT hi,ex]at hg;have tot:=congrArg List.length hd;rw[Ai]at tot;have yl:=ay.1;have sT:=Ab hT (.tup [V.int (i:Int),x]);have e2:=e.trans sT;have hy2:=sT _ _ hy;have ay2:=ay.mono λy v z=>z.over sT;refine⟨Tt,_,rfl,A4.of A7,rfl,rfl,?_⟩;generalize upd H' Tt (.tup [V.int (i:Int),x])=H2 at e2 hy2 ay2;refine⟨Ap rfl,λt1 ht1=>?_⟩;have s3:=Ab ht1 (.tup [V.int (i:Int)]);refine⟨pa,t1,_,[V.int (i:Int)],rfl,rfl,s3 _ _ (e2 _ _ hpa),A7,BD (by rw[Af,Bc];lia),λhe H3 e3 hhe=>?_⟩;have hhe:H3 he=some (.tup ((PP++[(i:Int)]).map V.int)):=by rw[Bv];exact hhe
  have e23:=s3.trans e3;have eH3:=e2.trans e23;have hy3:=e23 _ _ hy2;have ay3:=ay2.mono λy v z=>z.over e23;dsimp only[Aq];clear s3 e3 sT;cases g with
  |nil=>cases hg
  |
   leaf k pl rest=>
   refine Ak λ_ zB=>?_;obtain⟨t,pp,zs,z,ht,hpr,hrest⟩:=hg;refine zB ?_;cases z;change Cp rest<=n+1 at gdep;change done++(⟨k,pl,PP++[(i:Int)]⟩::Fo.deedsF rest PP (i+1))=Fo.deedsF f PP 0 at hd;have tot':done.length+(Fo.deedsF rest PP (i+1)).length+1=(Fo.deedsF f PP 0).length:=by rw[←hd,Ai,Bz];lia
   refine⟨t,_,0,_,rfl,rfl,A4.of (eH3 _ _ ht),rfl,rfl,_,rfl,Be (v:=true) (BU rfl) (C6 ?_)⟩;refine⟨.inl ⟨rfl,_,A3.of hy3⟩,t,_,1,_,rfl,rfl,A4.of (eH3 _ _ ht),rfl,t,_,2,_,rfl,rfl,A4.of (eH3 _ _ ht),rfl,Ap rfl,λr hr=>?_⟩;have s4:=Ab hr (.tup [V.int k,V.ref pp,V.ref he,V.ref cu]);have nr:r≠fo:=λz=>by rw[z,hy3]at hr;cases hr
   refine⟨fo,_,_,rfl,rfl,s4 _ _ hy3,BK (by lia),?_⟩;have tk:=(A8.tk s4).trans (TK.upd (o:=.lst (ys++[V.ref r])) (s4 _ _ hy3));refine⟨rest,done++[⟨k,pl,PP++[(i:Int)]⟩],_,_,_,_,rfl,λa o ha=>by rw[Ag (Av ha hfo)];exact s4 _ _ (eH3 _ _ ha),hrest,gdep,A7,?_,by rw[D6];exact hd⟩;exact(ay3.mono λy v z=>z.tk tk).snoc ⟨r,pp,he,cu,rfl,by rw[Ag nr];exact A7,(hpr.over eH3).tk tk,tk _ _ hhe⟩
  |
   node c w sub rest=>
   refine Ak λ_ zC=>?_;obtain⟨t,pp,zs,us,z,ht,hpp,hsub,hrest⟩:=hg;refine zC ?_;cases z;unfold Cp at gdep;change done++(Fo.deedsF sub (PP++[(i:Int)]) 0++Fo.deedsF rest PP (i+1))=Fo.deedsF f PP 0 at hd;have tot':done.length+((Fo.deedsF sub (PP++[(i:Int)]) 0).length+(Fo.deedsF rest PP (i+1)).length)=(Fo.deedsF f PP 0).length:=by rw[←hd,Ai,Ai]
   refine⟨t,_,0,_,rfl,rfl,A4.of (eH3 _ _ ht),rfl,rfl,_,rfl,Be (v:=false) (dS (by decide +kernel)) (By ?_)⟩;refine⟨.inl ⟨rfl,_,A3.of hy3⟩,t,_,3,_,rfl,rfl,A4.of (eH3 _ _ ht),rfl,t,_,1,_,rfl,rfl,A4.of (eH3 _ _ ht),rfl,Ap rfl,λt2 ht2=>?_⟩;have s4:=Ab ht2 (.tup [V.bl c]);refine⟨cu,t2,cs,[V.bl c],rfl,rfl,s4 _ _ (eH3 _ _ hcu),A7,BD (by rw[Bc];lia),λcu2 H4 e4 hcu2=>?_⟩;have e34:=s4.trans e4;have eH4:=eH3.trans e34;refine⟨pp,he,cu2,sub,PP++[(i:Int)],cs++[V.bl c],rfl,⟨zs,eH4 _ _ hpp,AR.over eH4 hsub⟩,e34 _ _ hhe,hcu2,by lia,by rw[Ai,Bc];lia,by rw[Ai,Bc];lia,by lia,λr ys2 H5 e5 hr5 ay5=>?_⟩;have yl5:=ay5.1;have hy5:=(e34.trans e5) _ _ hy3;refine⟨fo,r,_,_,rfl,rfl,hy5,hr5,BD (by lia),?_⟩;have tk:=TK.upd (o:=.lst (ys++ys2)) hy5;refine⟨rest,done++Fo.deedsF sub (PP++[(i:Int)]) 0,_,_,_,_,rfl,λa o ha=>by rw[Ag (Av ha hfo)];exact e5 _ _ (eH4 _ _ ha),hrest,by lia,A7,?_,by rw[D6];exact hd⟩;exact((ay3.mono λy v z=>(z.over (e34.trans e5)).tk tk)).app (ay5.mono λy v z=>z.tk tk)
theorem Q3 (T:Tx w K mg a):AI P w K mg base AN 10 a.f_d a.d_d ["plan","k"] VN:=by
 have G_b :=@Sk P w K mg base a T 7;refine T.F_d.ok JA (λvs H Q E h=>?_) (λcdv A outer s H vs Q E hr h=>?_)
 .obtain⟨_,_,_,_,_,rfl,_⟩:=h;rfl
 obtain⟨p,k,f,i,e0,rfl,hf,hdep,hlen,he0,hk0,hfirst,q⟩:=h;refine⟨_,(A9 (C2 PassesOwn.never rfl (CQ (Ax G_b (hr.mono (by lia)) (by rfl) T.m_b T.F_b.kp T.b_b .nil Ar (A0 (pw 0) (A0 (BX A2) (A0 (BX A2) A2))))) (CZ rfl (B4 (Az (i:=2) JA.nd rfl (.inl rfl)) (B4 (Az (i:=3) JA.nd rfl (.inl rfl)) (B4 (Az (i:=4) JA.nd rfl (.inl rfl)) (B4 (Az (i:=5) JA.nd rfl (.inl rfl)) D4)))))
  (Ae (Bx (AK Co (pw 2) (pw 1) (AF _))
  (Ae (AH (BX (A0 (pw 4) (A0 (pw 3) A2)))))
  BW)))
  (Ae (AH EX))),?_⟩
 refine⟨Ap rfl,λt1 ht1=>⟨Ap rfl,λt2 ht2=>?_⟩⟩;have s1:=Ab ht1 (.tup []);have s2:=Ab ht2 (.tup []);have e2:=s1.trans s2;refine⟨p,t1,t2,f,[],[],rfl,hf.over e2,s2 _ _ A7,A7,hdep,by decide,by decide,hlen,λl ys H3 e3 hl ay=>?_⟩;have e23:=e2.trans e3;have yl:=ay.1;have hi:i<ys.length:=by rw[yl];exact(Aw.mp he0).1
 refine⟨l,rfl,⟨_,A3.of hl⟩,?_⟩;refine EI (xs:=ys) (λj σ' H'=>H'=H3/\j<=i/\∃o2 o3 o4 o5,σ'=[some (.ref p),some (.int k),o2,o3,o4,o5]) ⟨rfl,Bh _,_,_,_,_,rfl⟩ (λj σ' H' _ pp=>by rw[pp.1];exact A3.of hl) (λj x σ' H' hx pp=>?_) (fun σ' H' pp=>?_)
 .obtain⟨rfl,hji,o2,o3,o4,o5,rfl⟩:=pp;refine Ak λ_ zA=>?_;obtain⟨en,hen,t,pl,pt,cu,rfl,ht,hpl,hpt⟩:=ay.get' hx;refine zA ?_;refine⟨t,_,rfl,A4.of ht,rfl,rfl,?_⟩;refine⟨rfl,_,rfl,?_⟩;by_cases c:j=i
  .subst c;rw[he0]at hen;cases hen;refine Be (v:=true) (BU (congrArg V.int hk0)) (C6 ?_);refine⟨Ap rfl,λr hr=>?_⟩;have s4:=Ab hr (.tup [V.ref pt,V.ref pl]);exact q r pt pl _ (e23.trans s4) A7 (s4 _ _ hpt) (hpl.over s4)
  .refine Be (v:=false) (C9 λz=>hfirst j en (by lia) hen (V.int.inj z)) (By ?_);exact⟨rfl,by lia,_,_,_,_,rfl⟩
 .obtain⟨_,h,_⟩:=pp;lia
theorem RS (T:Tx w K mg a):AI P w K mg base AN 11 a.f_p a.d_p ["plan","k","l"] ZR:=by
 have G_d :=@Q3 P w K mg base a T;have G_l :=@RK P w K mg base a T;refine T.F_p.ok Gv (λvs H Q E h=>?_) (λcdv A outer s H vs Q E hr h=>?_)
 .obtain⟨_,_,_,_,_,_,_,rfl,_⟩:=h;rfl
 obtain⟨p,B,i,j,s,b,c,rfl,⟨f,hf,hI,g,nd⟩,hb,hc,hm,q⟩:=h;refine⟨_,(A9 (Ao (i:=3) Gv.nd rfl (.inl rfl) (Ax G_d (hr.mono (by lia)) (by rfl) T.m_d T.F_d.kp T.b_d .nil Ar (A0 (pv 0) (A0 (pv 1) A2))))
  (A9 (Ao (i:=4) Gv.nd rfl (.inl rfl) (Ax G_d (hr.mono (by lia)) (by rfl) T.m_d T.F_d.kp T.b_d .nil Ar (A0 (pv 0) (A0 (pv 2) A2))))
  (A9 (Ao (i:=5) Gv.nd rfl (.inl rfl) (BO A2))
  (A9 (Ao (i:=6) Gv.nd rfl (.inl rfl) (pv 0))
  (A9 (C2 PassesOwn.never rfl (F0 (by rfl) T.z_range (A0 (Ax G_l (hr.mono (by lia)) (by rfl) T.m_l T.F_l.kp T.b_l .nil Ar (A0 (Aa Al (pv 3) A1 (λ_ _=>rfl)) (A0 (Aa Al (pv 4) A1 (λ_ _=>rfl)) (A0 (B5 (KW rfl) (by rfl) T.z_min Lo (A0 (B5 BB (by rfl) T.z_len BC (A0 (Aa Al (pv 3) A1 (λ_ _=>rfl)) A2)) (A0 (B5 BB (by rfl) T.z_len BC (A0 (Aa Al (pv 4) A1 (λ_ _=>rfl)) A2)) A2))) A2)))) A2)) (Az (i:=7) Gv.nd rfl (.inl rfl))
  (A9 (Ao (i:=8) Gv.nd rfl (.inl rfl) (Aa Al (pv 6) (Aa Al (Aa Al (pv 3) A1 (λ_ _=>rfl)) (pv 7) (λ_ _=>rfl)) (λ_ _=>rfl)))
  (A9 (Br (BF Bw BR BS BL (pv 5) (A0 (BJ (Ac (Gb JQ (Aa Al (pv 3) A1 (λ_ _=>rfl)) HR (Fc (Aj BH (pv 7) A1))) (Ac (Aa Al (pv 8) A1 (λ_ _=>rfl)) (Ac (Aa Al (pv 8) A1 (λ_ _=>rfl)) (Ac (Aa Al (Aa Al (pv 3) A1 (λ_ _=>rfl)) (pv 7) (λ_ _=>rfl)) (Ac (Aa Al (Aa Al (pv 4) A1 (λ_ _=>rfl)) (pv 7) (λ_ _=>rfl)) BG DR) DR) DR) DR) DR)) A2)))
  (Ae (Ao (i:=6) Gv.nd rfl (.inl rfl) (Aa Al (pv 8) A1 (λ_ _=>rfl)))))))
  (Ae (AH (pv 5)))))))),?_⟩
 refine Ak λ_ zA=>?_;have dep7:Cp f<=7:=Hz f B 0 6 hI λb hb=>by have:=(g.all b hb).len;lia
 have dl:(Fo.deedsF f [] 0).length<=1000:=by rw[Fo.deeds_len [] 0 hI];have:=g.len;lia
 obtain⟨x,hx,xk,xpl⟩:=K3 hI hb;obtain⟨y,hy,yk,ypl⟩:=K3 hI hc;obtain⟨sb,sc,agree,differ,xl,yl⟩:=UY hI g hb hc hx hy hm;have gb:=g.all b (B0 hb);have gc:=g.all c (B0 hc);have bw:=gb.len;have cw:=gc.len;obtain⟨r0,rs0,ep,dn⟩:=Fo.deeds_down f B 0 [] 0 i x b hI (λ_ _ _=>Bh _) g.ok (λ_ _=>Bh _) hx hb;refine zA ?_;rw[FI,KA]at ep;refine⟨_,rfl,_,rfl,p,b.k,f,i,x,rfl,hf,dep7,dl,hx,xk,KP hI nd hb,λr1 pt1 pl1 H1 e1 hr1 hpt1 hpl1=>?_⟩;refine⟨_,rfl,_,rfl,p,c.k,f,j,y,rfl,hf.over e1,dep7,dl,hy,yk,KP hI nd hc,λr2 pt2 pl2 H2 e2 hr2 hpt2 hpl2=>?_⟩;dsimp only[Aq];refine Ak λ_ zB=>?_;have hr1:=e2 _ _ hr1;have hpt1:=e2 _ _ hpt1;obtain⟨px,hpx,apx⟩:=hpl1.over e2;obtain⟨qx,hqx,aqx⟩:=hpl2;refine zB ?_;rw[xpl]at apx;rw[ypl]at aqx;have pxl:px.length=b.ways.length:=by rw[apx.1,gb.pll]
 have qxl:qx.length=c.ways.length:=by rw[aqx.1,gc.pll]
 have e2:=e1.trans e2;refine⟨Ap rfl,λfo hfo=>?_⟩;have s3:=Ab hfo (.lst []);have hfo3:(upd H2 fo (.lst [])) fo=some (.lst []):=A7;have fo0:=e2.free hfo;generalize upd H2 fo (.lst [])=H3 at s3 hfo3;refine⟨_,rfl,?_⟩;have e3:=e2.trans s3;have hmin:(if((qx.length:Nat):Int)<((px.length:Nat):Int) then((qx.length:Nat):Int) else((px.length:Nat):Int))=((min b.ways.length c.ways.length:Nat):Int):=by split<;>lia
 refine⟨_,rfl,r1,_,0,_,rfl,rfl,A4.of (s3 _ _ hr1),rfl,_,rfl,r2,_,0,_,rfl,rfl,A4.of (s3 _ _ hr2),rfl,_,rfl,r1,_,1,_,rfl,rfl,A4.of (s3 _ _ hr1),rfl,pl1,_,rfl,.inr (A4.of (s3 _ _ hpx)),_,rfl,r2,_,1,_,rfl,rfl,A4.of (s3 _ _ hr2),rfl,pl2,_,rfl,.inr (A4.of (s3 _ _ hqx)),_,_,rfl,?_⟩;rw[hmin];refine⟨pt1,pt2,x.path,y.path,min b.ways.length c.ways.length,s,rfl,s3 _ _ hpt1,s3 _ _ hpt2,by lia,by lia,by lia,by lia,agree,λz=>differ (by lia) (by lia),_,rfl,by lia,by lia,?_⟩;refine GA (lo:=0) (n:=s) (λe σ' H'=>∃(ite:Addr) (fe:B8) (rs:List Nat) (ys:List V) (o7 o8:Option V),σ'=[some (.ref p),some (.int b.k),some (.int c.k),some (.ref r1),some (.ref r2),some (.ref fo),some (.ref ite),o7,o8]/\(∀a o,a≠fo->H3 a=some o->H' a=some o)/\DS H3 ite fe/\Fo.Down fe rs (b.ways.drop e)/\x.path.drop e=rs.map (λn:Nat=>(n:Int))/\H' fo=some (.lst ys)/\Am (JS H') ys (Dt b c e)) ⟨p,f,r0::rs0,[],_,_,rfl,λ_ _ _ h=>h,hf.over e3,dn,ep,hfo3,.nil⟩ (λe σ' H' he pp=>?_) (fun σ' H' pp=>?_);rotate_left
 .obtain⟨ite,fe,rs,ys,o7,o8,rfl,k,_,_,_,hy',ay⟩:=pp;exact⟨_,rfl,q fo ys _ (λa o ha=>k a o (Av ha fo0) (e3 _ _ ha)) fo0 hy' ay ⟨sb,sc⟩⟩
 refine Ak λ_ zC=>?_;obtain⟨ite,fe,rs,ys,o7,o8,rfl,k,⟨zs,hite,hfe⟩,dne,epe,hy',ay⟩:=pp;refine zC ?_;have ylen:ys.length=e:=by rw[ay.1,IY]
 have tk:TK H3 H':=λa o ha=>k a _ (Fn ha hfo3 (by intro z;cases z)) ha;have hew:e<b.ways.length:=Cv he sb;have hec:e<c.ways.length:=Cv he sc;have dw:b.ways.drop e=b.ways[e]::b.ways.drop (e+1):=GT hew;have gw:b.ways.getD e (false,"")=b.ways[e]:=by rw[Bj,AE hew];rfl
 rw[dw]at dne;cases rs with
 |nil=>exact dne.elim
 |
  cons r rs=>
  rcases dne with⟨_,_,_,_,z⟩|⟨cc,w,sub,ws',him,z,dsub⟩
  .cases z
  refine Ak λ_ zD=>?_;obtain⟨zw,zd⟩:=Jm z;obtain⟨t,p',zs',hzt,ht,hp',hsub⟩:=NV hfe him;have xe:x.path[e]?=some (r:Int):=by
   have:=congrArg (λl:List Int=>l[0]?) epe;simpa using this
  have xd:x.path.drop (e+1)=rs.map (λn:Nat=>(n:Int)):=by
   have:=congrArg List.tail epe;rw[List.tail_drop]at this;exact this
  have z0:(0+(e:Int))=(e:Int):=Gi _;have at1:B1 (x.path.map V.int) (0+(e:Int))=some (.int (r:Int)):=by rw[z0];exact BA (by rw[Bf,xe];rfl)
  have GX:B1 zs (r:Int)=some (.ref t):=BA hzt;have pe:px[e]?=some (px[e]'(pxl▸hew)):=AE (pxl▸hew);have qe:qx[e]?=some (qx[e]'(qxl▸hec)):=AE (qxl▸hec);obtain⟨pv,hpv,ta,eta,hta⟩:=apx.get' pe;obtain⟨qv,hqv,tb,etb,htb⟩:=aqx.get' qe;refine zD ?_;have JJ:B1 px (0+(e:Int))=some (.ref ta):=by rw[z0];exact(BA pe).trans (congrArg some eta)
  have NI:B1 qx (0+(e:Int))=some (.ref tb):=by rw[z0];exact(BA qe).trans (congrArg some etb)
  have k1:=tk _ _ (s3 _ _ hr1);have k2:=tk _ _ (s3 _ _ hr2);have kp:=tk _ _ (s3 _ _ hpt1);refine⟨_,rfl,_,rfl,r1,_,0,_,rfl,rfl,A4.of k1,rfl,_,rfl,pt1,_,_,_,rfl,rfl,A4.of kp,at1,ite,_,_,_,rfl,rfl,A4.of (tk _ _ hite),GX,?_⟩;refine⟨_,rfl,.inl ⟨rfl,_,A3.of hy'⟩,_,rfl,r1,_,0,_,rfl,rfl,A4.of k1,rfl,_,rfl,_,_,rfl,rfl,_,rfl,pt1,_,rfl,kp,λsl H4 e4 hsl=>?_⟩;have ht4:=e4 _ _ (tk _ _ ht);refine⟨_,rfl,t,_,1,_,rfl,rfl,A4.of ht4,rfl,_,rfl,t,_,2,_,rfl,rfl,A4.of ht4,rfl,_,rfl,r1,_,1,_,rfl,rfl,A4.of (e4 _ _ k1),rfl,_,rfl,pl1,_,_,_,rfl,rfl,A4.of (e4 _ _ (tk _ _ (s3 _ _ hpx))),JJ,_,rfl,r2,_,1,_,rfl,rfl,A4.of (e4 _ _ k2),rfl,_,rfl,pl2,_,_,_,rfl,rfl,A4.of (e4 _ _ (tk _ _ (s3 _ _ hqx))),NI,Ap rfl,λrr hrr=>?_⟩;have s5:=Ab hrr (.tup [V.ref sl,V.bl cc,V.str w,V.ref ta,V.ref tb]);have hy5:=s5 _ _ (e4 _ _ hy');have nr:rr≠fo:=λz=>by rw[z,e4 _ _ hy']at hrr;cases hrr
  refine⟨fo,_,_,rfl,rfl,hy5,BK (by lia),?_⟩;have tk5:=((A8.tk e4).trans (A8.tk s5)).trans (TK.upd (o:=.lst (ys++[V.ref rr])) hy5);have htF:=tk5 _ _ (tk _ _ ht);have htaF:=tk5 _ _ (tk _ _ (s3 _ _ (show H2 ta=_ from hta)));have htbF:=tk5 _ _ (tk _ _ (s3 _ _ (show H2 tb=_ from htb)));refine⟨_,rfl,t,_,3,_,rfl,rfl,A4.of htF,rfl,?_⟩;refine⟨p',sub,rs,_,_,_,rfl,λa o ha h=>by rw[Ag ha];exact s5 _ _ (e4 _ _ (k a o ha h)),⟨zs',hp',hsub⟩,by rw[zd];exact dsub,xd,A7,?_⟩;rw[UK];refine(ay.mono λu v z=>z.tk tk5).snoc ⟨rr,sl,ta,tb,rfl,?_,?_,?_⟩
  .rw[Ag nr,gw,zw];exact A7
  .have:b.pl.getD e (0,0)=pv:=by rw[Bj,hpv];rfl
   rw[this];exact htaF
  .have:c.pl.getD e (0,0)=qv:=by rw[Bj,hqv];rfl
   rw[this];exact htbF
theorem Yy (T:Tx w K mg a):AI P w K mg base AN 12 a.f_C a.d_C ["program","plan","k","l"] XU:=by
 have G_p :=@RS P w K mg base a T;have G_d :=@Q3 P w K mg base a T;refine T.F_C.ok IJ (λvs H Q E h=>?_) (λcdv A outer s H vs Q E hr h=>?_)
 .obtain⟨_,_,_,_,_,_,_,_,rfl,_⟩:=h;rfl
 obtain⟨pr,p,B,i,j,s,b,c,rfl,hP,hb,hc,hm,q⟩:=h;refine⟨_,(A9 (Ao (i:=4) IJ.nd rfl (.inl rfl) (Ax G_p (hr.mono (by lia)) (by rfl) T.m_p T.F_p.kp T.b_p .nil Ar (A0 (pw 1) (A0 (pw 2) (A0 (pw 3) A2)))))
  (A9 (Ao (i:=5) IJ.nd rfl (.inl rfl) (BO A2))
  (A9 (C2 PassesOwn.never rfl (Kw (by rfl) T.z_enumerate (A0 (pw 4) A2)) (CZ rfl (B4 (Az (i:=6) IJ.nd rfl (.inl rfl)) (B4 (Az (i:=7) IJ.nd rfl (.inl rfl)) D4)))
  (Ae (C2 PassesOwn.never rfl (LJ (Vx (Nb (by rfl) T.g_SIDES T.r_SIDES) (Aa Al (pw 7) A1 (λ_ _=>rfl)) (λ_ _=>rfl))) (Az (i:=8) IJ.nd rfl (.inl rfl))
  (Ae (Br (BF Bw BR BS BL (pw 5) (A0 (BX (A0 (pw 6) (A0 (pw 8) A2))) A2)))))))
  (A9 (Bx (AK (Vi (Nat.lt_of_succ_lt (W8 hr))) (Aa Al (Ax G_d (hr.mono (by lia)) (by rfl) T.m_d T.F_d.kp T.b_d .nil Ar (A0 (pw 1) (A0 (pw 3) A2))) A1 (λ_ _=>rfl)) (Aa Al (Ax G_d (hr.mono (by lia)) (by rfl) T.m_d T.F_d.kp T.b_d .nil Ar (A0 (pw 1) (A0 (pw 2) A2))) A1 (λ_ _=>rfl)) (AF _))
  (Ae (Br (BF Bw BR BS BL (pw 5) (A0 (BX (A0 (B5 BB (by rfl) T.z_len BC (A0 (pw 4) A2)) (A0 BY A2))) A2))))
  BW)
  (Ae (AH (pw 5))))))),?_⟩
 refine Ak λ_ zA=>?_;obtain⟨f,hf,hI,g,nd⟩:=id hP;refine zA ?_;have gb:=g.all b (B0 hb);have gbl:=gb.len;have pick:∀{z:Str},z∈Ic->∃u:Addr,Fd [((.inr "up":CF),V.ref a.u_SIDES0),(.inr "down",V.ref a.u_SIDES1),(.inr "any",V.ref a.u_SIDES2)] (.inr z)=some (.ref u)/\∀H:Hp,A4 K H u ((FS z).map V.str):=fun{z} h=>by
  have h:z="up"\/z="down"\/z="any":=by
   unfold Ic at h;simp only[Bb,Ez,or_false]at h;exact h
  have a1:¬(("down":Str)="up"):=by decide +kernel
  have a2:¬(("any":Str)="up"):=by decide +kernel
  have a3:¬(("any":Str)="down"):=by decide +kernel
  have a4:¬(("up":Str)="down"):=by decide +kernel
  have b1:¬(("up":Str)="any"):=by decide +kernel
  have b2:¬(("down":Str)="any"):=by decide +kernel
  unfold FS;rcases h with rfl|rfl|rfl
  .refine⟨a.u_SIDES0,by simp[Fd,List.find?],?_⟩;rw[Ay rfl];exact T.q_SIDES0
  .refine⟨a.u_SIDES1,by simp[Fd,List.find?,a4],?_⟩;rw[AB a1,Ay rfl];exact T.q_SIDES1
  .refine⟨a.u_SIDES2,by simp[Fd,List.find?,b1,b2],?_⟩;rw[AB a2,AB a3];exact T.q_SIDES2
 refine⟨p,B,i,j,s,b,c,rfl,hP,hb,hc,hm,λbo ys H1 e1 bo0 hbo abo hsl=>?_⟩;dsimp only[Aq];refine⟨Ap rfl,λfo hfo=>?_⟩;have yl:ys.length=s:=by rw[abo.1,IY]
 have e2:=Ab hfo (.lst []);have hfo2:(upd H1 fo (.lst [])) fo=some (.lst []):=A7;have hbo2:=e2 _ _ hbo;have fo0:=e1.free hfo;have nbf:bo≠fo:=Av hbo hfo;have abo2:=abo.mono λu v z=>z.tk (A8.tk e2);dsimp only[Aq];generalize upd H1 fo (.lst [])=H2 at e2 hfo2 hbo2 abo2;have e12:=e1.trans e2;refine⟨bo,rfl,⟨_,A3.of hbo2⟩,?_⟩;refine Jq (xs:=ys) (λe σ' H'=>∃(zs:List V) (o6 o7 o8:Option V),σ'=[some pr,some (.ref p),some (.int b.k),some (.int c.k),some (.ref bo),some (.ref fo),o6,o7,o8]/\(∀a o,a≠fo->H2 a=some o->H' a=some o)/\H' fo=some (.lst zs)/\Am (Hx H') zs (FG b e)) ⟨[],_,_,_,rfl,λ_ _ _ h=>h,hfo2,.nil⟩ (λe σ' H' _ pp=>by obtain⟨_,_,_,_,_,k,_⟩:=pp;exact A3.of (k _ _ nbf hbo2)) (λe x Tt σ' H' hx pp hT=>?_) (fun σ' H' pp=>?_)
 .obtain⟨zs,o6,o7,o8,rfl,k,hz,az⟩:=pp;refine Ak λ_ zB=>?_;obtain⟨rb,hrb,t,pt,ta,tb,rfl,ht,_,_⟩:=abo2.get' hx;refine zB ?_;have he:e<s:=by have:=(Aw.mp hx).1;lia
  have hew:e<b.ways.length:=by lia
  have gw:b.ways.getD e (false,"")=b.ways[e]:=by rw[Bj,AE hew];rfl
  have rw':rb.way=b.ways[e]:=by
   unfold Dt at hrb;rw[Bf,Fi he]at hrb;cases hrb;exact gw
  have zl:zs.length<=2*e:=by rw[az.1];exact JN b e
  have sT:=Ab hT (.tup [V.int (e:Int),V.ref t]);have ht3:=sT _ _ (k _ _ (Fn ht hfo2 (by intro z;cases z)) ht);have hz3:=sT _ _ hz;have az3:=az.mono λu v z=>z.tk (A8.tk sT);have k3:∀a o,a≠fo->H2 a=some o->(upd H' Tt (.tup [V.int (e:Int),V.ref t])) a=some o:=λa o ha h=>sT _ _ (k a o ha h);refine⟨Tt,_,rfl,A4.of A7,rfl,rfl,?_⟩;generalize upd H' Tt (.tup [V.int (e:Int),V.ref t])=H3 at ht3 hz3 az3 k3;rw[rw']at ht3;refine Ak λ_ zC=>?_;have wy:=gb.wy b.ways[e] (Fh _);obtain⟨u,hu,su⟩:=pick wy;refine zC ?_;have snoc:FG b (e+1)=FG b e++(FS (b.ways[e]).2).map λz=>(e,z):=by
   show FG b e++Gz _ e=_;rw[gw,W3 wy]
  generalize (b.ways[e]).2=w' at ht3 hu su snoc;have wl:(FS w').length<=2:=by
   unfold FS
   repeat' split
   all_goals (show _<=2;simp)
  refine⟨t,_,2,_,rfl,rfl,A4.of ht3,rfl,a.u_SIDES,_,.inr w',_,rfl,T.d_SIDES _,rfl,hu,u,rfl,⟨_,su _⟩,?_⟩;refine Na (xs:=(FS w').map V.str) (λm σ' H'=>∃(zs:List V) (o8:Option V),σ'=[some pr,some (.ref p),some (.int b.k),some (.int c.k),some (.ref bo),some (.ref fo),some (.int (e:Int)),some (.ref t),o8]/\(∀a o,a≠fo->H3 a=some o->H' a=some o)/\H' fo=some (.lst zs)/\Am (Hx H') zs (FG b e++((FS w').take m).map λz=>(e,z))) ⟨zs,_,rfl,λ_ _ _ h=>h,hz3,by rw[List.take_zero,Gf,CV];exact az3⟩ (λm σ' H' _ pp=>su _) (λm x σ' H' hx pp=>?_) (fun σ' H' pp=>?_)
  .obtain⟨zs,o8,rfl,k4,hz4,az4⟩:=pp;rw[Bf]at hx;refine Ak λ_ zD=>?_;obtain⟨z,hz',rfl⟩:=Ik.mp hx;refine zD ?_;have zl4:zs.length<=2*e+2:=by
    rw[az4.1,Ai,Af,BQ];have:=JN b e;lia
   dsimp only[Aq];refine⟨.inl ⟨rfl,_,A3.of hz4⟩,Ap rfl,λr hr'=>?_⟩;have s5:=Ab hr' (.tup [V.int (e:Int),V.str z]);have nr:r≠fo:=λz=>by rw[z,hz4]at hr';cases hr'
   have hz5:=s5 _ _ hz4;refine⟨fo,_,_,rfl,rfl,hz5,BK (by lia),?_⟩;have tk5:=(A8.tk s5).trans (TK.upd (o:=.lst (zs++[V.ref r])) hz5);refine⟨_,_,rfl,λa o ha h=>by rw[Ag ha];exact s5 _ _ (k4 a o ha h),A7,?_⟩;rw[CL hz',Bv,←D6];exact(az4.mono λu v w=>w.tk tk5).snoc ⟨r,rfl,by rw[Ag nr];exact A7⟩
  .obtain⟨zs,o8,rfl,k4,hz4,az4⟩:=pp;rw[Gg (by rw[Af];exact Ah _),←snoc]at az4;exact⟨zs,_,_,_,rfl,λa o ha h=>k4 a o ha (k3 a o ha h),hz4,az4⟩
 refine Ak λ_ zE=>?_;obtain⟨zs,o6,o7,o8,rfl,k,hz,az⟩:=pp;refine zE ?_;rw[yl]at az;refine Ak λ_ zF=>?_;have eH:A8 H H':=λa o ha=>k a o (Av ha fo0) (e12 _ _ ha);have hbo':=k _ _ nbf hbo2;have zl:zs.length<=2*s:=by rw[az.1];exact JN b s
 have dep7:=(Tz hI g).2.2.2;have dl:(Fo.deedsF f [] 0).length<=1000:=by rw[Fo.deeds_len [] 0 hI];have:=g.len;lia
 obtain⟨x,hx,xk,_⟩:=K3 hI hb;obtain⟨y,hy,yk,_⟩:=K3 hI hc;refine zF ?_;have lex:=UF hI hx hy hm;dsimp only;refine Dr (fun σ' H5=>∃zs5:List V,σ'=[some pr,some (.ref p),some (.int b.k),some (.int c.k),some (.ref bo),some (.ref fo),o6,o7,o8]/\A8 H H5/\H5 fo=some (.lst zs5)/\Am (Hx H5) zs5 (EH b i j s)) (fun σ' H5 pp=>?_) (λnx=>?_)
 .obtain⟨zs5,rfl,e5,hz5,az5⟩:=pp;exact q fo zs5 _ e5 fo0 hz5 az5
 refine⟨p,c.k,f,j,y,rfl,hf.over eH,dep7,dl,hy,yk,KP hI nd hc,λr1 pt1 pl1 H4 e4 hr1 hpt1 _=>⟨r1,_,0,_,rfl,rfl,A4.of hr1,rfl,?_⟩⟩;refine⟨p,b.k,f,i,x,rfl,hf.over (eH.trans e4),dep7,dl,hx,xk,KP hI nd hb,λr2 pt2 pl2 H5 e5 hr2 hpt2 _=>⟨r2,_,0,_,rfl,rfl,A4.of hr2,rfl,pt1,pt2,_,_,rfl,rfl,A4.of (e5 _ _ hpt1),A4.of hpt2,_,rfl,?_⟩⟩;have e45:=e4.trans e5;have hz5:=e45 _ _ hz;have az5:=az.mono λu v z=>z.tk (A8.tk e45);rw[lex];by_cases c1:j<i
 .refine Be (v:=true) (BU c1) (C6 ?_);refine⟨.inl ⟨rfl,_,A3.of hz5⟩,bo,_,rfl,.inl (A3.of (e45 _ _ hbo')),Ap rfl,λr hr'=>?_⟩;have s6:=Ab hr' (.tup [V.int (ys.length:Int),V.str "text"]);have nr:r≠fo:=λz=>by rw[z,hz5]at hr';cases hr'
  have hz6:=s6 _ _ hz5;refine⟨fo,_,_,rfl,rfl,hz6,BK (by lia),?_⟩;have tk6:=(A8.tk s6).trans (TK.upd (o:=.lst (zs++[V.ref r])) hz6);refine nx _ _ ⟨_,rfl,λa o ha=>by rw[Ag (Av ha fo0)];exact s6 _ _ (e45 _ _ (eH _ _ ha)),A7,?_⟩;unfold EH;rw[Ay c1];refine(az5.mono λu v w=>w.tk tk6).snoc ⟨r,rfl,?_⟩;rw[Ag nr,←yl];exact A7
 .refine Be (v:=false) (C9 c1) (By (nx _ _ ⟨zs,rfl,eH.trans e45,hz5,?_⟩));unfold EH;rw[AB c1,CV];exact az5
theorem Zj (T:Tx w K mg a):AI P w K mg base AN 12 a.f_D a.d_D ["program","plan","k","l","level","side"] (bF a.c_Program a.c_Deed):=by
 have G_p :=@RS P w K mg base a T;refine T.F_D.ok GI (λvs H Q E h=>?_) (λcdv A outer s H vs Q E hr h=>?_)
 .obtain⟨_,_,_,_,_,_,_,_,_,_,_,rfl,_⟩:=h;rfl
 obtain⟨pr,p,B,D,i,j,s,level,side,b,c,rfl,⟨dx,dl,v1,xs,hpr,hdl,hD⟩,hplan,hb,hc,hm,hbD,q⟩:=h;refine⟨_,(A9 (Ao (i:=6) GI.nd rfl (.inl rfl) (Aj BH A1 (B5 BB (by rfl) T.z_len BC (A0 (B9 (Aa AS (B9 (pv 0) rfl) (pv 2) (λ_ _=>rfl)) rfl) A2))))
  (A9 (Ao (i:=7) GI.nd rfl (.inl rfl) (BO A2))
  (A9 (C2 PassesOwn.never rfl (Kw (by rfl) T.z_enumerate (A0 (Ax G_p (hr.mono (by lia)) (by rfl) T.m_p T.F_p.kp T.b_p .nil Ar (A0 (pv 1) (A0 (pv 2) (A0 (pv 3) A2)))) A2)) (CZ rfl (Np (Az (i:=8) GI.nd rfl (.inl rfl)) (Np (Az (i:=9) GI.nd rfl (.inl rfl)) D4)))
  (A9 (Ao (i:=10) GI.nd rfl (.inl rfl) (Aj BH A1 (Aa Al (Aa Al (pv 9) A1 (λ_ _=>rfl)) A1 (λ_ _=>rfl))))
  (A9 (Ao (i:=11) GI.nd rfl (.inl rfl) (Aj BH (pv 6) (Aa Al (Aa Al (pv 9) A1 (λ_ _=>rfl)) A1 (λ_ _=>rfl))))
  (A9 (Ao (i:=12) GI.nd rfl (.inl rfl) (Aj EO (Aa Al (Aa Al (pv 9) A1 (λ_ _=>rfl)) A1 (λ_ _=>rfl)) (Aa Al (Aa Al (pv 9) A1 (λ_ _=>rfl)) A1 (λ_ _=>rfl))))
  (A9 (Bx ((Dy (AK Es (pv 8) (pv 4) (AF _)) (E7 (Hh (Fl (Aa Al (pv 9) A1 (λ_ _=>rfl))))))).pt
  (A9 (Br (BF Bw BR BS BL (pv 7) (A0 (BJ (Ac (pv 10) (Ac (pv 11) (Ac (pv 12) BG Bg) Bg) Bg)) A2)))
  (Ae (Br (BF Bw BR BS BL (pv 7) (A0 (BJ (Ac (pv 11) (Ac (pv 10) (Ac (DL DH (pv 12)) BG Jz) Bg) Bg)) A2)))))
  BW)
  (A9 (Bx ((Dy (AK Co (pv 8) (pv 4) (AF _)) (E7 (AK Co (pv 5) BY (AF _))))).pt
  (Ae (Br (BF Bw BR BS BL (pv 7) (A0 (BJ (Ac (pv 11) (Ac (pv 10) (Ac (Aj EO (DL DH (pv 12)) A1) BG Ek) Bg) Bg)) A2))))
  BW)
  (Ae (Bx ((Dy (AK Co (pv 8) (pv 4) (AF _)) (E7 (AK Co (pv 5) BY (AF _))))).pt
  (Ae (Br (BF Bw BR BS BL (pv 7) (A0 (BJ (Ac (pv 10) (Ac (pv 11) (Ac (Aj EO (pv 12) A1) BG Ek) Bg) Bg)) A2))))
  BW))))))))
  (Ae (AH (pv 7)))))),?_⟩
 refine Ak λ_ zA=>?_;have gb:Lz b:=by obtain⟨_,_,_,g,_⟩:=hplan;exact g.all b (B0 hb)
 have Dk:D[b.k.toNat]?=some D[b.k.toNat]:=AE hbD;obtain⟨x,hx,d,dxd,nm,ws,_,_,_,_,_,_,rfl,hd,hnm,hn⟩:=hD.get Dk;refine zA ?_;have bk:((b.k.toNat:Nat):Int)=b.k:=OG gb.k0;have at0:B1 xs b.k=some (.ref d):=by rw[←bk];exact BA hx
 refine⟨_,rfl,pr,_,dx,_,_,rfl,hpr,T.cl_Program,T.n_Program_deeds,rfl,_,rfl,dl,_,_,_,rfl,rfl,A3.of hdl,at0,d,_,dxd,_,_,rfl,hd,T.cl_Deed,T.n_Deed_names,rfl,nm,_,rfl,.inr (A4.of hnm),_,_,rfl,rfl,?_⟩;dsimp only[Aq];have hbeh:1+D.getD b.k.toNat 0=1+(ws.length:Int):=by rw[Bj,Dk,hn];rfl
 rw[hbeh]at q;generalize 1+(ws.length:Int)=beh at q ⊢;refine⟨Ap rfl,λbo hbo=>?_⟩;have e1:=Ab hbo (.lst []);have hbo1:(upd H bo (.lst [])) bo=some (.lst []):=A7;generalize upd H bo (.lst [])=H1 at e1 hbo1;refine⟨_,rfl,_,rfl,_,rfl,p,B,i,j,s,b,c,rfl,hplan.over e1,hb,hc,hm,λr ys H2 e2 hr1 hr2 ay hs=>?_⟩;have s6:s<=6:=by have:=gb.len;lia
 have e12:=e1.trans e2;have hbo2:=e2 _ _ hbo1;have nrb:r≠bo:=λz=>by rw[z,hbo1]at hr1;cases hr1
 have yl:ys.length=s:=by rw[ay.1,IY]
 refine⟨r,rfl,⟨_,A3.of hr2⟩,?_⟩;refine Jq (xs:=ys) (λe σ' H'=>∃(zs:List V) (o8 o9 o10 o11 o12:Option V),σ'=[some (.ref pr),some (.ref p),some (.int b.k),some (.int c.k),some (.int (level:Int)),some (.str side),some (.int beh),some (.ref bo),o8,o9,o10,o11,o12]/\(∀a o,a≠bo->H2 a=some o->H' a=some o)/\H' bo=some (.lst zs)/\Bk H' zs (Dc beh level side 0 ((Dt b c s).take e))) ⟨[],_,_,_,_,_,rfl,λ_ _ _ h=>h,hbo2,.nil⟩ (λe σ' H' _ pp=>by obtain⟨_,_,_,_,_,_,_,k,_⟩:=pp;exact A3.of (k _ _ nrb hr2)) (λe x Tt σ' H' hx pp hT=>?_) (fun σ' H' pp=>?_);rotate_left
 .obtain⟨zs,o8,o9,o10,o11,o12,rfl,k,hz,tz⟩:=pp;rw[Gg (by rw[IY];lia)]at tz;exact⟨_,rfl,q bo zs _ (λa o ha=>k a o (Av ha hbo) (e12 _ _ ha)) hz tz⟩
 refine Ak λ_ zB=>?_;obtain⟨zs,o8,o9,o10,o11,o12,rfl,k,hz,tz⟩:=pp;obtain⟨rb,hrb,t,pt,ta,tb,rfl,ht,hta,htb⟩:=ay.get' hx;refine zB ?_;have he:e<s:=by have:=(Aw.mp hx).1;lia
 have sT:=Ab hT (.tup [V.int (e:Int),V.ref t]);have nT:Tt≠bo:=λz=>by rw[z,hz]at hT;cases hT
 have tkk:∀{l:Addr} {xs:List V},H2 l=some (.tup xs)->H' l=some (.tup xs):=fun{l xs} h=>k l _ (Fn h hbo2 (by intro z;cases z)) h;have ht3:=sT _ _ (tkk ht);have hta3:=sT _ _ (tkk hta);have htb3:=sT _ _ (tkk htb);have hz3:=sT _ _ hz;have tz3:=tz.over sT;have k3:∀a o,a≠bo->H2 a=some o->(upd H' Tt (.tup [V.int (e:Int),V.ref t])) a=some o:=λa o ha h=>sT _ _ (k a o ha h);refine⟨Tt,_,rfl,A4.of A7,rfl,_,_,rfl,_,_,rfl,rfl,?_⟩;generalize upd H' Tt (.tup [V.int (e:Int),V.ref t])=H3 at ht3 hta3 htb3 hz3 tz3 k3;have hlen:zs.length<=4*s:=by
  rw[tz.1];have:=Sb beh level side ((Dt b c s).take e) 0;rw[BQ,IY]at this;lia
 refine⟨_,rfl,t,_,3,_,rfl,rfl,A4.of ht3,rfl,ta,_,0,_,rfl,rfl,A4.of hta3,rfl,_,_,rfl,rfl,?_⟩;refine⟨_,rfl,_,rfl,t,_,4,_,rfl,rfl,A4.of ht3,rfl,tb,_,0,_,rfl,rfl,A4.of htb3,rfl,_,_,rfl,rfl,?_⟩;refine⟨_,rfl,t,_,4,_,rfl,rfl,A4.of ht3,rfl,tb,_,1,_,rfl,rfl,A4.of htb3,rfl,_,rfl,t,_,3,_,rfl,rfl,A4.of ht3,rfl,ta,_,1,_,rfl,rfl,A4.of hta3,rfl,_,_,rfl,rfl,?_⟩;dsimp only[Aq];have snoc:Dc beh level side 0 ((Dt b c s).take (e+1))=Dc beh level side 0 ((Dt b c s).take e)++Dp beh level side e rb:=by
  rw[CL hrb,LS,FI,BQ,IY,Ec (by lia)]
 unfold Dp at snoc;rw[←D6,←D6]at snoc;generalize 1+rb.p.1=uu at snoc ⊢;generalize beh+rb.q.1=ww at snoc ⊢;generalize rb.q.2-rb.p.2=ab at snoc ⊢;generalize Dc beh level side 0 ((Dt b c s).take e)=L0 at tz3 snoc;refine Dr (fun σ' H4=>∃zs4:List V,σ'=[some (.ref pr),some (.ref p),some (.int b.k),some (.int c.k),some (.int (level:Int)),some (.str side),some (.int beh),some (.ref bo),some (.int (e:Int)),some (.ref t),some (.int uu),some (.int ww),some (.int ab)]/\(∀a o,a≠bo->H3 a=some o->H4 a=some o)/\H4 bo=some (.lst zs4)/\Bk H4 zs4 (L0++if e<level/\rb.way.1=false then[(uu,ww,ab),(ww,uu,-ab)] else[])/\zs4.length<=zs.length+2) (fun σ' H4 pp=>?_) (λnx=>?_);rotate_left
 .refine⟨_,rfl,_,rfl,_,_,rfl,rfl,_,rfl,?_⟩;refine BN (λcl=>?_) (λcl=>?_)
  .have cl:=dT cl;refine⟨_,rfl,t,_,1,_,rfl,rfl,A4.of ht3,rfl,_,rfl,?_⟩;cases hcut:rb.way.1 with
   |
    true=>
    refine By (nx _ _ ⟨zs,rfl,λ_ _ _ h=>h,hz3,?_,Fj _ _⟩);rw[AB (by rw[hcut];simp),CV];exact tz3
   |
    false=>
    refine C6 ?_;refine⟨_,rfl,.inl ⟨rfl,_,A3.of hz3⟩,_,rfl,_,rfl,_,rfl,Ap rfl,λr1 hr1=>?_⟩;refine Ak λ_ zC=>?_;obtain⟨g1,g2,g3⟩:=Me (x:=uu) (y:=ww) (z:=ab) hz3 tz3 hr1;refine zC ?_;refine⟨bo,_,_,rfl,rfl,(Ab hr1 _) _ _ hz3,BK (by lia),?_⟩;generalize upd (upd H3 r1 (.tup [V.int uu,V.int ww,V.int ab])) bo (.lst (zs++[V.ref r1]))=H4 at g1 g2 g3;refine⟨_,rfl,.inl ⟨rfl,_,A3.of g1⟩,_,rfl,_,rfl,_,rfl,_,rfl,Ap rfl,λr2 hr2'=>?_⟩;refine Ak λ_ zD=>?_;obtain⟨f1,f2,f3⟩:=Me (x:=ww) (y:=uu) (z := -ab) g1 g2 hr2';refine zD ?_;refine⟨bo,_,_,rfl,rfl,(Ab hr2' _) _ _ g1,BK (by rw[Ai,Bc];lia),?_⟩;refine nx _ _ ⟨_,rfl,λa o ha h=>f3 a o ha (g3 a o ha h),f1,?_,by rw[Ai,Ai,Bc,Bc];lia⟩;rw[Ay ⟨by lia,hcut⟩];rw[show L0++[(uu,ww,ab),(ww,uu,-ab)]=L0++[(uu,ww,ab)]++[(ww,uu,-ab)] by simp];exact f2
  .have cl:=dF cl;refine nx _ _ ⟨zs,rfl,λ_ _ _ h=>h,hz3,?_,Fj _ _⟩;rw[AB (λz=>cl (by lia)),CV];exact tz3
 refine Ak λ_ zE=>?_;obtain⟨zs4,rfl,k4,hz4,tz4,zl4⟩:=pp;refine zE ?_;generalize (L0++if e<level/\rb.way.1=false then[(uu,ww,ab),(ww,uu,-ab)] else[])=L1 at tz4 snoc;refine Dr (fun σ' H5=>∃zs5:List V,σ'=[some (.ref pr),some (.ref p),some (.int b.k),some (.int c.k),some (.int (level:Int)),some (.str side),some (.int beh),some (.ref bo),some (.int (e:Int)),some (.ref t),some (.int uu),some (.int ww),some (.int ab)]/\(∀a o,a≠bo->H4 a=some o->H5 a=some o)/\H5 bo=some (.lst zs5)/\Bk H5 zs5 (L1++if e=level/\side="more" then[(ww,uu,-ab-1)] else[])/\zs5.length<=zs4.length+1) (fun σ' H5 pp=>?_) (λnx=>?_);rotate_left
 .refine⟨_,rfl,_,rfl,rfl,_,rfl,?_⟩;by_cases c1:e=level
  .refine Be (v:=true) (BU (congrArg V.int (S8 c1))) (C6 ?_);refine⟨_,rfl,rfl,_,rfl,?_⟩;by_cases c2:side="more"
   .refine Be (v:=true) (BU (congrArg V.str c2)) (C6 ?_);refine⟨_,rfl,.inl ⟨rfl,_,A3.of hz4⟩,_,rfl,_,rfl,_,rfl,_,rfl,_,_,rfl,rfl,Ap rfl,λr1 hr1=>?_⟩;refine Ak λ_ zF=>?_;obtain⟨g1,g2,g3⟩:=Me (x:=ww) (y:=uu) (z := -ab-1) hz4 tz4 hr1;refine zF ?_;refine⟨bo,_,_,rfl,rfl,(Ab hr1 _) _ _ hz4,BK (by lia),?_⟩;refine nx _ _ ⟨_,rfl,g3,g1,?_,by rw[Ai,Bc];lia⟩;rw[Ay ⟨c1,c2⟩];exact g2
   .refine Be (v:=false) (dS c2) (By (nx _ _ ⟨zs4,rfl,λ_ _ _ h=>h,hz4,?_,Fj _ _⟩));rw[AB (λz=>c2 z.2),CV];exact tz4
  .refine Be (v:=false) (C9 λz=>c1 (O4 z)) (By (nx _ _ ⟨zs4,rfl,λ_ _ _ h=>h,hz4,?_,Fj _ _⟩));rw[AB (λz=>c1 z.1),CV];exact tz4
 refine Ak λ_ zG=>?_;obtain⟨zs5,rfl,k5,hz5,tz5,zl5⟩:=pp;refine zG ?_;generalize (L1++if e=level/\side="more" then[(ww,uu,-ab-1)] else[])=L2 at tz5 snoc;have k25:∀a o,a≠bo->H2 a=some o->H5 a=some o:=λa o ha h=>k5 a o ha (k4 a o ha (k3 a o ha h));refine⟨_,rfl,_,rfl,rfl,_,rfl,?_⟩;by_cases c1:e=level
 .refine Be (v:=true) (BU (congrArg V.int (S8 c1))) (C6 ?_);refine⟨_,rfl,rfl,_,rfl,?_⟩;by_cases c2:side="less"
  .refine Be (v:=true) (BU (congrArg V.str c2)) (C6 ?_);refine⟨_,rfl,.inl ⟨rfl,_,A3.of hz5⟩,_,rfl,_,rfl,_,rfl,_,_,rfl,rfl,Ap rfl,λr1 hr1=>?_⟩;refine Ak λ_ zH=>?_;obtain⟨g1,g2,g3⟩:=Me (x:=uu) (y:=ww) (z:=ab-1) hz5 tz5 hr1;refine zH ?_;refine⟨bo,_,_,rfl,rfl,(Ab hr1 _) _ _ hz5,BK (by lia),?_⟩;refine⟨_,_,_,_,_,_,rfl,λa o ha h=>g3 a o ha (k25 a o ha h),g1,?_⟩;rw[snoc,Ay ⟨c1,c2⟩];exact g2
  .refine Be (v:=false) (dS c2) (By ⟨zs5,_,_,_,_,_,rfl,k25,hz5,?_⟩);rw[snoc,AB (λz=>c2 z.2),CV];exact tz5
 .refine Be (v:=false) (C9 λz=>c1 (O4 z)) (By ⟨zs5,_,_,_,_,_,rfl,k25,hz5,?_⟩);rw[snoc,AB (λz=>c1 z.1),CV];exact tz5
theorem ZZ (T:Tx w K mg a):AI P w K mg base AN 110 a.f_h a.d_h ["program","plan"] (U3 a.c_Program a.c_Deed (CY a)):=by
 have G_A :=@VS P w K mg base a T;have G_N :=@VC P w K mg base a T;have G_L :=@WW P w K mg base a T;have G_s :=@Xq P w K mg base a T;have G_C :=@Yy P w K mg base a T;have G_D :=@Zj P w K mg base a T;refine T.F_h.ok Er (λvs H Q E h=>?_) (λcdv A outer s H vs Q E hr h=>?_)
 .obtain⟨_,_,_,_,_,_,_,_,_,_,rfl,_⟩:=h;rfl
 obtain⟨x,dx,dl,p,sz,xs,Rs,Df,sh,f,rfl,hx,hdl,ax,ok,own,df,hf,hI,q⟩:=h;refine⟨_,(A9 (Bx (Hh (Fl (Ax G_A (hr.mono (by lia)) (by rfl) T.m_A T.F_A.kp T.b_A .nil Ar (A0 (pw 0) (A0 (pw 1) A2)))))
  (Ae Q9)
  BW)
  (A9 (Ao (i:=2) Er.nd rfl (.inl rfl) (BO A2))
  (A9 (C2 PassesOwn.never rfl (CQ (Ax G_N (hr.mono (by lia)) (by rfl) T.m_N T.F_N.kp T.b_N .nil Ar (A0 (pw 0) A2))) (CZ rfl (B4 (Az (i:=3) Er.nd rfl (.inl rfl)) (B4 (Az (i:=4) Er.nd rfl (.inl rfl)) (B4 (Az (i:=5) Er.nd rfl (.inl rfl)) (B4 (Az (i:=6) Er.nd rfl (.inl rfl)) (B4 (Az (i:=7) Er.nd rfl (.inl rfl)) D4))))))
  (A9 (Ao (i:=8) Er.nd rfl (.inl rfl) (Ax G_L (hr.mono (by lia)) (by rfl) T.m_L T.F_L.kp T.b_L .nil Ar (A0 (pw 0) (A0 (pw 3) (A0 (pw 4) (A0 (pw 5) (A0 (pw 6) (A0 (pw 7) A2))))))))
  (A9 (Ao (i:=9) Er.nd rfl (.inl rfl) (Ax G_s (hr.mono (by lia)) (by rfl) T.m_s T.F_s.kp T.b_s .nil Ar (A0 (pw 0) (A0 (pw 3) (A0 (pw 5) (A0 (pw 8) A2))))))
  (A9 (Ao (i:=10) Er.nd rfl (.inl rfl) (GB Co (Aa Al (pw 9) A1 (λ_ _=>rfl)) BY (AF _)))
  (Ae (C2 PassesOwn.never rfl (CQ (Ax G_C (hr.mono (by lia)) (by rfl) T.m_C T.F_C.kp T.b_C .nil Ar (A0 (pw 0) (A0 (pw 1) (A0 (pw 3) (A0 (pw 5) A2)))))) (CZ rfl (B4 (Az (i:=11) Er.nd rfl (.inl rfl)) (B4 (Az (i:=12) Er.nd rfl (.inl rfl)) D4)))
  (A9 (Bx (Hh (Fl (pw 10)))
  (Ae (Ao (i:=9) Er.nd rfl (.inl rfl) (Ax G_s (hr.mono (by lia)) (by rfl) T.m_s T.F_s.kp T.b_s .nil Ar (A0 (pw 0) (A0 (pw 3) (A0 (pw 5) (A0 (Aj HK (pw 8) (Ax G_D (hr.mono (by lia)) (by rfl) T.m_D T.F_D.kp T.b_D .nil Ar (A0 (pw 0) (A0 (pw 1) (A0 (pw 3) (A0 (pw 5) (A0 (pw 11) (A0 (pw 12) A2)))))))) A2)))))))
  BW)
  (A9 (Bx (AK Co (Aa Al (pw 9) A1 (λ_ _=>rfl)) BY (AF _))
  (Ae Q9)
  BW)
  (Ae (Br (BF Bw BR BS BL (pw 2) (A0 (BJ (Ac (pw 3) (Ac (pw 4) (Ac (pw 5) (Ac (pw 6) (Ac (pw 7) (Ac (pw 11) (Ac (pw 12) (Ac (Dv Kd (by rfl) T.z_list GW (A0 (Aa Al (pw 9) A1 (λ_ _=>rfl)) A2)) BG E5) Bg) Bg) Bg) Bg) Bg) Bg) Bg)) A2))))))))))))
  (Ae (AH (BX (A0 BY (A0 (pw 2) A2)))))))),?_⟩
 refine⟨x,dx,dl,sz,p,Rs.map R3.dw,f,sh,rfl,hx,QW hdl ax,own.okW.2.1,λD hD=>(own.okW.1 D hD).ll,hf,hI,λk hk=>own.shm (by rw[Af]at hk;exact hk),λH0 e00=>⟨_,rfl,By ?_⟩⟩;have okm:∀R∈Rs.map R3.r5,R.Ok:=λR hR=>by
  obtain⟨R0,h0,rfl⟩:=Dl.mp hR;exact ok R0 h0
 have hP:∀HX,A8 H HX->Gp a.c_Program a.c_Deed (CY a) HX (.ref x) (Rs.map R3.r5):=λHX e=>⟨x,dx,dl,_,xs,rfl,e _ _ hx,e _ _ hdl,Qh (ax.mono λ_ _ z=>(z.over e).d5)⟩
 have gd:=own.good;have hPl:∀HX,A8 H HX->GY HX p (B7 Rs sh):=λHX e=>⟨f,hf.over e,hI,gd.1,gd.2⟩
 have hPr:∀HX,A8 H HX->QY a.c_Program a.c_Deed HX x (Rs.map λR=>(R.S.length:Int)):=λHX e=>by
  refine⟨dx,dl,_,xs,e _ _ hx,e _ _ hdl,Am.mapr (f:=λR:R3=>(R.S.length:Int)) (ax.mono λv R z=>?_)⟩;obtain⟨d,dx',nm,lo,hi,pt,xv,ls,hs,rfl,h0,h1,_⟩:=z.over e;exact⟨d,dx',nm,_,_,_,_,_,_,_,rfl,h0,h1,by rw[Af,EU]⟩
 refine⟨Ap rfl,λfo hfo0=>?_⟩;have hfo:H fo=none:=e00.free hfo0;have s1:=e00.trans (Ab hfo0 (.lst []));have hf1:(upd H0 fo (.lst [])) fo=some (.lst []):=A7;dsimp only[Aq];generalize upd H0 fo (.lst [])=H1 at s1 hf1;refine⟨.ref x,Rs.map R3.r5,rfl,hP _ s1,okm,by rw[Af];exact own.n6,λmr ms H2 e2 mr1 hms am=>?_⟩;have nmf:mr≠fo:=λz=>by rw[z,hf1]at mr1;cases mr1
 have e02:=s1.trans e2;have ml:(G0 (Rs.map R3.r5)).length<=4*34596:=by
  have:=Nk okm (Pm.mt (Ca (Rs.map R3.r5)));have:=Rm (KH okm (by rw[Af];exact own.n6));unfold G0;lia
 have msl:=am.1;have mm:=λd h=>XQ (H:=H) (Rs:=Rs) (Df:=Df) (d:=d) df h;unfold K4 at q;generalize G0 (Rs.map R3.r5)=L at am mm ml msl q;refine⟨mr,rfl,⟨_,A3.of hms⟩,?_⟩;refine EI (xs:=ms) (λi σ' H'=>∃(zs:List V) (o3 o4 o5 o6 o7 o8 o9 o10 o11 o12:Option V),σ'=[some (.ref x),some (.ref p),some (.ref fo),o3,o4,o5,o6,o7,o8,o9,o10,o11,o12]/\Bt fo H2 H'/\H' fo=some (.lst zs)/\Am (Ga (wo H' fo)) zs ((L.take i).flatMap (Gm Rs Df sh))/\zs.length<=7*i) ⟨[],_,_,_,_,_,_,_,_,_,_,rfl,λ_ _ _ h=>h,e2 _ _ hf1,.nil,Ah _⟩ (λi σ' H' _ pp=>by obtain⟨_,_,_,_,_,_,_,_,_,_,_,_,b,_⟩:=pp;exact A3.of (b _ _ nmf hms)) (λi y σ' H' hy pp=>?_) (fun σ' H' pp=>?_);rotate_left
 .obtain⟨zs,o3,o4,o5,o6,o7,o8,o9,o10,o11,o12,rfl,b,hz,az,zl⟩:=pp;rw[msl,E1]at az;refine⟨Ap rfl,λv hv=>?_⟩;have sv:=Ab hv (.tup [V.str "good",V.ref fo]);exact q v fo zs _ (λx o hx=>sv _ _ (b _ _ (Av hx hfo) (e02 _ _ hx))) hfo A7 (sv _ _ hz) (az.mono λ_ _ z=>z.over (FM sv))
 refine Ak λ_ zA=>?_;obtain⟨zs,o3,o4,o5,o6,o7,o8,o9,o10,o11,o12,rfl,b,hz,az,zl⟩:=pp;obtain⟨d,hd,t,rfl,ht⟩:=am.get' hy;have li:=(Aw.mp hd).1;obtain⟨R,R',r,r',hR,hr1,hR',hr2,hS,hS',cd,cl,cs⟩:=mm d (B0 hd);refine zA ?_;have e0:A8 H H':=λx o hx=>b _ _ (Av hx hfo) (e02 _ _ hx);have tk2:=b.tk (e2 _ _ hf1);have ht':=tk2 _ _ ht;have g:=own.rb R (B0 hR);have g':=own.rb R' (B0 hR');have kl:=(Aw.mp hR).1;have kl':=(Aw.mp hR').1;refine⟨t,_,rfl,A4.of ht',rfl,rfl,?_⟩;dsimp only[Aq];refine⟨x,dx,dl,sz,xs,Rs,R,R',r,r',d.1.1,d.1.2.1,d.1.2.2.1,d.1.2.2.2,d.2,Df d.1,rfl,e0 _ _ hx,e0 _ _ hdl,ax.mono λ_ _ z=>z.over e0,hR,hR',g,g',ok R (B0 hR),ok R' (B0 hR'),hr1,hr2,hS.over e0,hS'.over e0,cd,cs,λbo bs H3 e3 bo0 hbo tr=>?_⟩;dsimp only[Aq];have hz3:=e3 _ _ hz;have e03:=e0.trans e3;have nbf:bo≠fo:=λz=>by rw[z,hz]at bo0;cases bo0
 have k1:(Df d.1).s<=R.S.length:=cd.pf.1;have k2:(Df d.1).s<=R'.S.length:=cd.pf.2.1;have bl:=Xc (R:=R) (R':=R') (D:=Df d.1) (case:=d.2) g.len g'.len cd.m3 (by have:=g.len;lia);refine⟨x,dx,dl,sz,xs,Rs,R,R',d.1.1,d.1.2.2.1,bo,bs,_,rfl,e03 _ _ hx,e03 _ _ hdl,ax.mono λ_ _ z=>z.over e03,hR,hR',g.len,g'.len,hbo,tr,bl,Pb g g' cd cs,λv H4 e4 an=>?_⟩;dsimp only[Aq];have an:G3 (wo H4 fo) (.ref v) (GJ R R' (Df d.1) d.2):=an fo zs hz3;have e34:=e3.trans e4;have e04:=e03.trans e4;have hz4:=e4 _ _ hz3;refine Ak λ_ zB=>?_;obtain⟨bv,hbv⟩:∃bv,G6 (GJ R R' (Df d.1) d.2)=bv:=⟨_,rfl⟩
 have tag:∀{HX:Hp} {w:Addr} {A:An},G3 HX (.ref w) A->∃xs',HX w=some (.tup (.str (if G6 A=true then"ring" else"pair")::xs')):=fun{HX w A} h=>by
  cases A with
  |inl L=>obtain⟨t,r,ys,e,h1,_⟩:=h;cases e;exact⟨_,h1⟩
  |inr W=>obtain⟨t,x,y,e,h1,_⟩:=h;cases e;exact⟨_,h1⟩
 have wos:∀{HX:Hp} {u:Addr} {o:HO},wo HX fo u=some o->HX u=some o:=fun{HX u o} h=>by
  by_cases c:u=fo
  .rw[c]at h;unfold wo at h;rw[Ay rfl]at h;cases h
  .rw[E8 c]at h;exact h
 obtain⟨tl,htl⟩:=tag an;refine zB ?_;refine⟨v,_,0,.str (if G6 (GJ R R' (Df d.1) d.2)=true then"ring" else"pair"),rfl,rfl,A4.of (wos htl),BA (j:=0) rfl,rfl,?_⟩;dsimp only[Aq];have ebv:decide (V.str (if G6 (GJ R R' (Df d.1) d.2)=true then"ring" else"pair")=V.str (Str.ofString "ring"))=bv:=by
  rw[hbv];cases bv<;>decide +kernel
 rw[ebv];change RJ _ _ _ _ [some (.ref x),some (.ref p),some (.ref fo),some (.int (d.1.1:Int)),some (.int (d.1.2.1:Int)),some (.int (d.1.2.2.1:Int)),some (.int (d.1.2.2.2:Int)),some (.int (d.2:Int)),some (.ref bo),some (.ref v),some (.bl bv),_,_] _;obtain⟨s,hM⟩:=Tq (B:=B7 Rs sh) (i:=d.1.1) (j:=d.1.2.2.1) (by rw[Af,C8,Af];exact kl) (by rw[Af,C8,Af];exact kl');have es:(Df d.1).s=s:=Sq cd.pf (own.many hR hR' hM);subst es;have pe:=Yr (Df:=Df) (sh:=sh) hR hR';have mk1:=m7 hR;have mk2:=m7 hR';refine⟨.ref x,p,B7 Rs sh,d.1.1,d.1.2.2.1,(Df d.1).s,_,_,rfl,hPl _ e04,GC kl,GC kl',hM,λso ss H5 e5 so0 hso as=>?_⟩;have ring:∀qq∈EH (Fo.ownB ("up":Str) (BP (Rs.map R3.dw)) sh d.1.1) d.1.1 d.1.2.2.1 (Df d.1).s,G6 (Ke R R' (Df d.1) d.2 qq)=true:=λqq hq=>XH g g' cd cs cl (by rw[mk1];exact k1) hq;have sl7:(EH (Fo.ownB ("up":Str) (BP (Rs.map R3.dw)) sh d.1.1) d.1.1 d.1.2.2.1 (Df d.1).s).length<=7:=by
  unfold EH;rw[Ai];have h1:=JN (Fo.ownB ("up":Str) (BP (Rs.map R3.dw)) sh d.1.1) (Df d.1).s;have h2:(if d.1.2.2.1<d.1.1 then[(((Df d.1).s,("text":Str)):Sd)] else[]).length<=1:=by split<;>simp
  have:=g.len;lia
 generalize EH (Fo.ownB ("up":Str) (BP (Rs.map R3.dw)) sh d.1.1) d.1.1 d.1.2.2.1 (Df d.1).s=SL at as ring sl7 pe;have nsf:so≠fo:=λz=>by rw[z,hz4]at so0;cases so0
 have e05:=e04.trans e5;have e45:=e34.trans e5;have hz5:=e5 _ _ hz4;have an5:=an.over (FM e5);have hbo5:=(e4.trans e5) _ _ hbo;have tr5:=tr.over (e4.trans e5);have ssl:=as.1;refine⟨so,rfl,⟨_,A3.of hso⟩,?_⟩;refine EI (xs:=ss) (λj σ' HJ=>∃(zj:List V) (vj:Addr) (AJ:An) (o11 o12:Option V),σ'=[some (.ref x),some (.ref p),some (.ref fo),some (.int (d.1.1:Int)),some (.int (d.1.2.1:Int)),some (.int (d.1.2.2.1:Int)),some (.int (d.1.2.2.2:Int)),some (.int (d.2:Int)),some (.ref bo),some (.ref vj),some (.bl bv),o11,o12]/\Bt fo H5 HJ/\HJ fo=some (.lst zj)/\G3 (wo HJ fo) (.ref vj) AJ/\(bv=true->AJ=GJ R R' (Df d.1) d.2)/\Am (Ga (wo HJ fo)) zj ((L.take i).flatMap (Gm Rs Df sh)++(SL.take j).map λq=>(d,q,IV R R' (Df d.1) d.2 q))/\zj.length<=7*i+j) ⟨zs,v,_,_,_,rfl,λ_ _ _ h=>h,hz5,an5,λ_=>rfl,by rw[List.take_zero,Gf,CV];exact az.mono λ_ _ z=>z.over (FM e45),by lia⟩ (λj σ' HJ _ pp=>by obtain⟨_,_,_,_,_,_,b5,_⟩:=pp;exact A3.of (b5 _ _ nsf hso)) (λj y2 σ' HJ hy2 pp=>?_) (fun σ' HJ pp=>?_);rotate_left
 .obtain⟨zj,vj,AJ,o11,o12,rfl,b5,hzj,anj,_,azj,zjl⟩:=pp;rw[ssl,E1,←pe]at azj;refine⟨zj,_,_,_,_,_,_,_,_,_,_,rfl,(b.trans (Bt.same e45)).trans b5,hzj,?_,by lia⟩;rw[CL hd,SY,List.flatMap_singleton];exact azj
 refine Ak λ_ zC=>?_;obtain⟨zj,vj,AJ,o11,o12,rfl,b5,hzj,anj,hAJ,azj,zjl⟩:=pp;obtain⟨qq,hqq,t2,rfl,ht2⟩:=as.get' hy2;refine zC ?_;have hq:=B0 hqq;have tk5:=b5.tk hz5;have e0J:A8 H HJ:=λx o hx=>b5 _ _ (Av hx hfo) (e05 _ _ hx);have jl:=(Aw.mp hqq).1;refine⟨t2,_,rfl,A4.of (tk5 _ _ ht2),rfl,rfl,?_⟩;dsimp only[Aq];refine Dr (fun σ' H6=>∃(v6:Addr) (A6:An),σ'=[some (.ref x),some (.ref p),some (.ref fo),some (.int (d.1.1:Int)),some (.int (d.1.2.1:Int)),some (.int (d.1.2.2.1:Int)),some (.int (d.1.2.2.2:Int)),some (.int (d.2:Int)),some (.ref bo),some (.ref v6),some (.bl bv),some (.int (qq.1:Int)),some (.str qq.2)]/\A8 HJ H6/\G3 (wo H6 fo) (.ref v6) A6/\G6 A6=true/\LX A6=IV R R' (Df d.1) d.2 qq/\(bv=true->A6=GJ R R' (Df d.1) d.2)) (fun σ' H6 pp=>?_) (λnx=>?_);rotate_left
 .refine⟨_,rfl,?_⟩;cases bv with
  |true=>exact By (nx _ _ ⟨vj,AJ,rfl,A8.refl _,anj,by rw[hAJ rfl];exact hbv,by rw[hAJ rfl];unfold IV;rw[Ay hbv],hAJ⟩)
  |
   false=>
   refine C6 ?_;have hboJ:=b5 _ _ nbf hbo5;have dg:(Rs.map λR=>(R.S.length:Int)).getD ((d.1.1:Int)).toNat 0=(R.S.length:Int):=by
    rw[Fg,Bj,Bf,hR];rfl
   refine⟨x,p,B7 Rs sh,Rs.map λR=>(R.S.length:Int),d.1.1,d.1.2.2.1,(Df d.1).s,qq.1,qq.2,_,_,rfl,hPr _ e0J,hPl _ e0J,GC kl,GC kl',hM,?_,λsb sbs H7 e7 hsb tr7=>?_⟩
   .rw[Af];show((d.1.1:Int)).toNat<_;rw[Fg];exact kl
   have tr7:Bk H7 sbs (Dc (1+(Rs.map λR=>(R.S.length:Int)).getD ((d.1.1:Int)).toNat 0) qq.1 qq.2 0 (Dt (Fo.ownB ("up":Str) (BP (Rs.map R3.dw)) sh d.1.1) (Fo.ownB ("up":Str) (BP (Rs.map R3.dw)) sh d.1.2.2.1) (Df d.1).s)):=tr7;rw[dg,Vc (by rw[mk1];exact k1) (by rw[mk2];exact k2)]at tr7;have tr8:Bk H7 (bs++sbs) (Ho R R' (Df d.1) d.2 qq):=(tr5.tk (tk5.trans (A8.tk e7))).app tr7;have l8:=VM (q:=qq) g g' cd cs;have l8':=tr8.1;refine⟨bo,sb,bs,sbs,rfl,rfl,e7 _ _ hboJ,hsb,BD (by rw[Ai]at l8';lia),λcb hcb=>?_⟩;have s8:=Ab hcb (.lst (bs++sbs));have e78:=e7.trans s8;have e08:=e0J.trans e78;refine⟨x,dx,dl,sz,xs,Rs,R,R',d.1.1,d.1.2.2.1,cb,bs++sbs,Ho R R' (Df d.1) d.2 qq,rfl,e08 _ _ hx,e08 _ _ hdl,ax.mono λ_ _ z=>z.over e08,hR,hR',g.len,g'.len,A7,tr8.over s8,l8,Rz g g' cd cs,λv9 H9 e9 an9=>?_⟩;have an9:G3 (wo H9 fo) (.ref v9) (Ke R R' (Df d.1) d.2 qq):=an9 fo zj (e78 _ _ hzj);exact nx _ _ ⟨v9,_,rfl,e78.trans e9,an9,ring qq hq,by unfold IV;rw[AB (by rw[hbv];decide)],λz=>nomatch z⟩
 refine Ak λ_ zD=>?_;obtain⟨v6,A6,rfl,e6,an6,ir6,il6,hA6⟩:=pp;refine zD ?_;have hA:=UW ir6;rw[il6]at hA;have an6':=an6;rw[hA]at an6';refine Ak λ_ zE=>?_;obtain⟨t6,r6,ys6,et6,ht6,hr6,tr6⟩:=an6';refine zE ?_;cases et6;refine⟨v6,_,0,.str "ring",rfl,rfl,A4.of (wos ht6),rfl,rfl,_,rfl,Be (v:=false) (by decide +kernel) (By ?_)⟩;have hz6:=e6 _ _ hzj;refine⟨.inl ⟨rfl,_,A3.of hz6⟩,v6,_,1,.ref r6,rfl,rfl,A4.of (wos ht6),rfl,r6,ys6,rfl,.inl (A3.of (wos hr6)),λl9 hl9=>⟨Ap rfl,λt9 ht9=>?_⟩⟩;have s9:=Ab hl9 (.lst ys6);have s10:=Ab ht9 (.tup [V.int (d.1.1:Int),V.int (d.1.2.1:Int),V.int (d.1.2.2.1:Int),V.int (d.1.2.2.2:Int),V.int (d.2:Int),V.int (qq.1:Int),V.str qq.2,V.ref l9]);have hzA:=(s9.trans s10) _ _ hz6;have n9:l9≠fo:=λz=>by rw[z,hz6]at hl9;cases hl9
 have nt9:t9≠fo:=λz=>by rw[z,s9 _ _ hz6]at ht9;cases ht9
 refine⟨fo,_,_,rfl,rfl,hzA,BK (by lia),?_⟩;refine⟨zj++[.ref t9],v6,A6,_,_,rfl,(b5.trans (Bt.same (e6.trans (s9.trans s10)))).trans Bt.put,A7,?_,hA6,?_,by rw[Ai,Bc];lia⟩
 .rw[Lm];exact an6.over (FM (s9.trans s10))
 .rw[Lm,CL hqq,Bv,←D6];refine(azj.mono λ_ _ z=>z.over (FM (e6.trans (s9.trans s10)))).snoc ⟨t9,l9,ys6,rfl,?_,?_,tr6.over (FM (s9.trans s10))⟩
  .rw[E8 nt9];exact A7
  .rw[E8 n9];exact s10 _ _ A7
theorem Tf (T:Tx w K mg a):AI P w K mg base AN 1 a.f_a a.d_a ["_law_script","_law_k"] (Z3 K):=by
 refine T.F_a.ok Ub (λvs H Q E h=>?_) (λcdv A outer s H vs Q E hr h=>?_)
 .obtain⟨_,_,_,rfl,_⟩:=h;rfl
 obtain⟨p,ns,k,rfl,hS,h0,q⟩:=h;refine⟨_,(A9 (Bx (AK (Bi Es) (pw 1) (B5 BB (by rfl) T.z_len BC (A0 (pw 0) A2)) (AF _))
  (Ae (AH (Aa AS (pw 0) (pw 1) (λ_ _=>rfl))))
  BW)
  (Ae (AH A1))),?_⟩
 have hl:(ns.map V.int).length=ns.length:=Af _;refine⟨p,_,rfl,.inl hS,_,rfl,?_⟩;refine BN (λc=>?_) (λc=>?_)
 .have c':=dT c;rw[hl]at c';exact⟨p,_,_,_,rfl,rfl,hS,Kp h0 c',q⟩
 .have c':=dF c;rw[hl]at c';rw[aI c']at q;exact q
theorem Of (T:Tx w K mg a):AI P w K mg base AN 1 a.f_c a.d_c ["_law_cell","_law_k"] WA:=by
 refine T.F_c.ok Qv (λvs H Q E h=>?_) (λcdv A outer s H vs Q E hr h=>?_)
 .obtain⟨_,_,rfl,_⟩:=h;rfl
 obtain⟨c,k,rfl,q⟩:=h;refine⟨_,(A9 (Ao (i:=2) Qv.nd rfl (.inl rfl) (Aj (oJ C0) (Aj (Bi BH) (Aj (Bi BH) (Aj (oJ Hy) (Aj (oJ C0) (pw 0) A1) (Aj (Bi BH) A1 (Aj (oJ Hy) A1 (pw 1)))) (Aj (oJ Hy) A1 (pw 1))) A1) A1))
  (Ae (AH (Aj (oJ C0) (Aj (oJ Hy) (pw 2) (pw 2)) A1)))),?_⟩
 have p64:(2:Int) ^ 64=18446744073709551616:=by decide
 have a0:=Eb c (show(2147483647:Int)≠0 by decide);have a1:=Ey c (show(0:Int)<2147483647 by decide);refine⟨(by show(0:Int)<2147483647;decide),.inl ⟨by decide,by decide⟩,.inl ⟨by lia,by lia⟩,.inl ⟨by decide,by decide⟩,(by show(0:Int)<2147483629;decide),?_⟩;have b0:=Eb (c%2147483647*(48271+2*k)+7919*k+1) (show(2147483629:Int)≠0 by decide);have b1:=Ey (c%2147483647*(48271+2*k)+7919*k+1) (show(0:Int)<2147483629 by decide);exact⟨.inl ⟨by lia,by lia⟩,(by show(0:Int)<2147483587;decide),q _ (Eb _ (by decide))⟩
theorem Wh (T:Tx w K mg a):AI P w K mg base AN 1 a.f_i a.d_i ["_law_names","_law_q","_law_far"] VF:=by
 refine T.F_i.ok P4 (λvs H Q E h=>?_) (λcdv A outer s H vs Q E hr h=>?_)
 .obtain⟨_,_,_,_,rfl,_⟩:=h;rfl
 obtain⟨nt,zs,qq,far,rfl,hn,z3,q⟩:=h;refine⟨_,(A9 (Ao (i:=3) P4.nd rfl (.inl rfl) (Aa Al (BJ (Ac A1 (Ac A1 (Ac (DL DH A1) (Ac A1 (Ac A1 (Ac A1 (Ac (DL DH A1) BG Jz) B3) B3) B3) Jz) B3) B3)) (Aj (oJ C0) (Aj (oJ DK) (pw 1) A1) A1) (λ_ _=>rfl)))
  (A9 (Bx ((Dy (AK (Bi F4) (B5 BB (by rfl) T.z_len BC (A0 (pw 0) A2)) A1 (AF _)) (E7 (AK (Bi F4) (Aj (oJ C0) (pw 1) A1) A1 (AF _))))).pt
  (Ae (AH (BX (A0 (Aa Al (pw 0) (Aj (oJ C0) (Aj (oJ C0) (pw 1) A1) (B5 BB (by rfl) T.z_len BC (A0 (pw 0) A2))) (λ_ _=>rfl)) (A0 (pw 3) A2)))))
  BW)
  (Ae (AH (BX (A0 BY (A0 (Aj (Bi BH) (pw 3) (pw 2)) A2))))))),?_⟩
 refine Ak λ_ zA=>?_;obtain⟨n,hn0,en⟩:=NG (L:=[0,1,-1,0,2,0,-2]) (i:=qq/4%7) 7 rfl (Eb _ (by decide)) (Ey _ (by decide));refine zA ?_;refine⟨_,rfl,_,rfl,Ap rfl,λt0 ht0=>⟨⟨by decide,by decide⟩,(by show(0:Int)<7;decide),t0,_,_,_,rfl,rfl,A4.of A7,en,?_⟩⟩;have s0:=Ab ht0 (.tup [V.int 0,V.int 1,V.int (-1),V.int 0,V.int 2,V.int 0,V.int (-2)]);dsimp only[Aq];generalize upd H t0 (.tup [V.int 0,V.int 1,V.int (-1),V.int 0,V.int 2,V.int 0,V.int (-2)])=H0 at s0;have hn1:=s0 _ _ hn;refine Dr (fun σ' H'=>H'=H0/\σ'=[some (.ref nt),some (.int qq),some (.int far),some (.int n)]) (fun σ' H' pp=>?_) (λnx=>?_)
 .obtain⟨rfl,rfl⟩:=pp;exact⟨Ap rfl,λt ht=>q t _ _ _ (s0.trans (Ab ht _)) A7 (.inl rfl)⟩
 refine⟨nt,_,rfl,.inr (A4.of hn1),_,rfl,?_⟩;refine BN (λy=>?_) (λ_=>nx _ _ ⟨rfl,rfl⟩);have y:(0:Int)<(((zs.map V.str).length:Nat):Int):=dT y;rw[Af]at y;refine⟨(by show(0:Int)<4;decide),_,rfl,?_⟩;refine BN (λ_=>?_) (λ_=>nx _ _ ⟨rfl,rfl⟩);have i0:=Eb (qq%4) (show((zs.length:Nat):Int)≠0 by lia);have i1:=Ey (qq%4) y;obtain⟨j,hj⟩:∃j:Nat,qq%4%((zs.length:Nat):Int)=(j:Int):=⟨(qq%4%((zs.length:Nat):Int)).toNat,by lia⟩
 have jl:j<zs.length:=by lia
 refine⟨(by show(0:Int)<4;decide),nt,_,rfl,.inr (A4.of hn1),(by show(0:Int)<(((zs.map V.str).length:Nat):Int);rw[Af];exact y),nt,_,_,.str zs[j],rfl,rfl,A4.of hn1,?_,Ap rfl,λt ht=>q t _ _ _ (s0.trans (Ab ht _)) A7 (.inr (Fh jl))⟩;show B1 (zs.map V.str) (qq%4%(((zs.map V.str).length:Nat):Int))=_;rw[Af,hj];exact BA (by rw[Bf,AE jl];rfl)
theorem Th (T:Tx w K mg a):AI P w K mg base AN 2 a.f_t a.d_t ["_law_names","_law_q","_law_far"] Uj:=by
 have G_i :=@Wh P w K mg base a T;refine T.F_t.ok Q0 (λvs H Q E h=>?_) (λcdv A outer s H vs Q E hr h=>?_)
 .obtain⟨_,_,_,_,rfl,_⟩:=h;rfl
 obtain⟨nt,zs,qq,far,rfl,hn,z3,q⟩:=h;refine⟨_,(A9 (Ao (i:=3) Q0.nd rfl (.inl rfl) (BJ (Ac (Ax G_i (hr.mono (by lia)) (by rfl) T.m_i T.F_i.kp T.b_i .nil Ar (A0 (pw 0) (A0 (Aj (oJ DK) (pw 1) A1) (A0 (pw 2) A2)))) (Ac (Ax G_i (hr.mono (by lia)) (by rfl) T.m_i T.F_i.kp T.b_i .nil Ar (A0 (pw 0) (A0 (Aj (oJ DK) (pw 1) A1) (A0 (pw 2) A2)))) (Ac (Ax G_i (hr.mono (by lia)) (by rfl) T.m_i T.F_i.kp T.b_i .nil Ar (A0 (pw 0) (A0 (Aj (oJ DK) (pw 1) A1) (A0 (pw 2) A2)))) BG E5) E5) E5)))
  (A9 (Bx (AK (Bi Es) (Aj (oJ C0) (pw 1) A1) A1 (AF _))
  (Ae (AH (BX (A0 BY (A0 (Gb JQ (pw 3) HR (Fc A1)) A2)))))
  BW)
  (Ae (AH (BX (A0 (Aa RM BY (Aj (Bi EO) (Aj (oJ C0) (pw 1) A1) A1) (λ_ _=>rfl)) (A0 (Gb JQ (pw 3) HR (Fc (Aj (Bi EO) (Aj (oJ C0) (pw 1) A1) A1))) A2))))))),?_⟩
 refine⟨⟨by decide,by decide⟩,nt,zs,_,far,rfl,hn,z3,λt1 y1 n1 H1 e1 h1 k1=>?_⟩;refine⟨⟨by decide,by decide⟩,nt,zs,_,far,rfl,e1 _ _ hn,z3,λt2 y2 n2 H2 e2 h2 k2=>?_⟩;refine⟨⟨by decide,by decide⟩,nt,zs,_,far,rfl,(e1.trans e2) _ _ hn,z3,λt3 y3 n3 H3 e3 h3 k3=>?_⟩;refine⟨Ap rfl,λsp hsp=>?_⟩;have s4:=Ab hsp (.tup [.ref t1,.ref t2,.ref t3]);dsimp only[Aq];have p1:=(e2.trans (e3.trans s4)) _ _ h1;have p2:=(e3.trans s4) _ _ h2;have p3:=s4 _ _ h3;have hs4:(upd H3 sp (.tup [.ref t1,.ref t2,.ref t3])) sp=some (.tup [.ref t1,.ref t2,.ref t3]):=A7;have e4:=e1.trans (e2.trans (e3.trans s4));generalize upd H3 sp (.tup [.ref t1,.ref t2,.ref t3])=H4 at s4 p1 p2 p3 hs4 e4;have i0:=Eb qq (show(5:Int)≠0 by decide);have i1:=Ey qq (show(0:Int)<5 by decide);have pz:∀(k:Nat) {H5:Hp},A8 H4 H5->PC (Z7 zs) H5 ([V.ref t1,V.ref t2,V.ref t3].take k):=λk {H5} e v hv=>by
  have hv:=MF hv;simp only[Bb,Ez,or_false]at hv;rcases hv with rfl|rfl|rfl
  .exact⟨t1,y1,n1,rfl,e _ _ p1,k1⟩
  .exact⟨t2,y2,n2,rfl,e _ _ p2,k2⟩
  .exact⟨t3,y3,n3,rfl,e _ _ p3,k3⟩
 refine⟨(by show(0:Int)<5;decide),_,rfl,?_⟩;refine BN (λy=>?_) (λy=>?_)
 .refine⟨_,rfl,sp,_,rfl,hs4,λp5 H5 e5 hp5=>⟨Ap rfl,λt6 ht6=>?_⟩⟩;have s6:=Ab ht6 (.tup [.str "a",.ref p5]);exact q t6 p5 "a" _ (e4.trans (e5.trans s6)) A7 ⟨1,.inl ⟨rfl,rfl⟩,_,s6 _ _ hp5,rfl,by decide,pz 1 (e5.trans s6)⟩
 have y:¬qq%5<3:=dF y;have h34:qq%5=3\/qq%5=4:=by lia
 refine⟨(by show(0:Int)<5;decide),?_⟩;have ab:∀(k:Nat),0<=qq%5-1->(qq%5-1).toNat=k->Ci [V.ref t1,V.ref t2,V.ref t3] none (some (qq%5-1))=[V.ref t1,V.ref t2,V.ref t3].take k:=λk h0 hk=>by
  have:=S9 [V.ref t1,V.ref t2,V.ref t3] h0;rw[hk]at this;exact this
 rcases h34 with h|h
 .refine⟨_,qq%5-3,98,rfl,rfl,BD (by decide +kernel),by rw[h];decide +kernel,(by show(0:Int)<5;decide),_,rfl,sp,_,rfl,hs4,λp5 H5 e5 hp5=>⟨Ap rfl,λt6 ht6=>?_⟩⟩;have hp5:H5 p5=some (.tup (Ci [V.ref t1,V.ref t2,V.ref t3] none (some (qq%5-1)))):=hp5;rw[ab 2 (by lia) (by lia)]at hp5;have s6:=Ab ht6 (.tup [.str "b",.ref p5]);exact q t6 p5 "b" _ (e4.trans (e5.trans s6)) A7 ⟨2,.inr (.inl ⟨rfl,rfl⟩),_,s6 _ _ hp5,rfl,by decide,pz 2 (e5.trans s6)⟩
 .refine⟨_,qq%5-3,99,rfl,rfl,BD (by decide +kernel),by rw[h];decide +kernel,(by show(0:Int)<5;decide),_,rfl,sp,_,rfl,hs4,λp5 H5 e5 hp5=>⟨Ap rfl,λt6 ht6=>?_⟩⟩;have hp5:H5 p5=some (.tup (Ci [V.ref t1,V.ref t2,V.ref t3] none (some (qq%5-1)))):=hp5;rw[ab 3 (by lia) (by lia)]at hp5;have s6:=Ab ht6 (.tup [.str "c",.ref p5]);exact q t6 p5 "c" _ (e4.trans (e5.trans s6)) A7 ⟨3,.inr (.inr ⟨rfl,rfl⟩),_,s6 _ _ hp5,rfl,by decide,pz 3 (e5.trans s6)⟩
theorem Xz (T:Tx w K mg a):AI P w K mg base AN 1 a.f_O a.d_O ["_law_names","_law_q","_law_far","_law_turn","_law_last"] V6:=by
 refine T.F_O.ok Gn (λvs H Q E h=>?_) (λcdv A outer s H vs Q E hr h=>?_)
 .obtain⟨_,_,_,_,_,_,rfl,_⟩:=h;rfl
 obtain⟨nl,zs,qq,far,tn,la,rfl,hn,z3,hla,q⟩:=h;refine⟨_,(A9 (Bx ((Dy (AK Yw (pv 4) EX (AF _)) (Dy (AK Co (Aj C0 (Aj DK (pv 1) A1) A1) A1 (AF _)) (E7 (AK Zp (Aa Al (pv 4) A1 (λ_ _=>rfl)) (pv 0) (by with_unfolding_all rfl)))))).pt
  (Ae (Bx ((Dy (AK MY (Aa Al (Aa Al (pv 4) A1 (λ_ _=>rfl)) A1 (λ_ _=>rfl)) (Aj HK (pv 0) (BO (A0 BY A2))) (by with_unfolding_all rfl)) (E7 (AK MY (Aa Al (Aa Al (pv 4) A1 (λ_ _=>rfl)) A1 (λ_ _=>rfl)) (Aj HK (pv 0) (BO (A0 BY A2))) (by with_unfolding_all rfl))))).pt
  (Ae (AH (pv 4)))
  BW))
  BW)
  (A9 (Ao (i:=5) Gn.nd rfl (.inl rfl) (Aa RM BY (Aj Hy (Aj C0 (Aj DK (pv 1) A1) A1) (Aj C0 (Aj DK (pv 1) A1) A1)) (λ_ _=>rfl)))
  (A9 (Ao (i:=6) Gn.nd rfl (.inl rfl) (Aj U8 (pv 5) (Aj BH (Aj C0 (Aj BH (B5 BB (by rfl) T.z_len BC (A0 (pv 0) A2)) (pv 3)) A1) A1)))
  (A9 (Ko PassesOwn.never (AK MY (pv 6) (pv 0) (by with_unfolding_all rfl))
  (Ae (Ao (i:=6) Gn.nd rfl (.inl rfl) (Aj Ti (pv 6) BY))))
  (A9 (Ao (i:=7) Gn.nd rfl (.inl rfl) (BX (A0 BY (A0 (Aj BH (pv 2) (Aj C0 (pv 1) A1)) A2))))
  (A9 (Ao (i:=8) Gn.nd rfl (.inl rfl) (BX (A0 BY (A0 (Aj BH (pv 2) (Aj C0 (Aj DK (pv 1) A1) A1)) A2))))
  (A9 (Bx ((Dy (AK F4 (B5 BB (by rfl) T.z_len BC (A0 (pv 0) A2)) A1 (AF _)) (E7 (AK Co (Aj C0 (Aj DK (pv 1) A1) A1) A1 (AF _))))).pt
  (Ae (Ao (i:=7) Gn.nd rfl (.inl rfl) (BX (A0 (Aa AS (pv 0) (Aj C0 (Aj DK (pv 1) A1) (B5 BB (by rfl) T.z_len BC (A0 (pv 0) A2))) (λ_ _=>rfl)) (A0 (Aj EO (Aj C0 (Aj DK (pv 1) A1) A1) A1) A2)))))
  BW)
  (A9 (Bx ((Dy (AK F4 (B5 BB (by rfl) T.z_len BC (A0 (pv 0) A2)) A1 (AF _)) (E7 (AK Co (Aj C0 (Aj DK (pv 1) A1) A1) A1 (AF _))))).pt
  (Ae (Ao (i:=8) Gn.nd rfl (.inl rfl) (BX (A0 (Aa AS (pv 0) (Aj C0 (Aj DK (pv 1) A1) (B5 BB (by rfl) T.z_len BC (A0 (pv 0) A2))) (λ_ _=>rfl)) (A0 (Aj C0 (Aj DK (pv 1) A1) A1) A2)))))
  BW)
  (Ae (AH (BJ (Ac (pv 6) (Ac (pv 7) (Ac (pv 8) BG Bg) Bg) Bg)))))))))))),?_⟩
 have fl:=PM zs;have el:("":Str).length<=10:=by decide +kernel
 have x1:("x":Str).length=1:=by decide +kernel
 refine Dr (fun σ' H'=>A8 H H'/\σ'=[some (.ref nl),some (.int qq),some (.int far),some (.int tn),some la,none,none,none,none]) (fun σ' H1 pp=>?_) (λnx=>?_);rotate_left
 .refine⟨_,rfl,rfl,_,rfl,?_⟩;rcases hla with rfl|⟨l,⟨p,p1,p2,rfl,hp,hp1,hp2⟩,ln0⟩
  .exact BN (λy=>absurd y (by decide)) (λ_=>nx _ _ ⟨A8.refl _,rfl⟩)
  refine BN (λ_=>?_) (λ_=>nx _ _ ⟨A8.refl _,rfl⟩);refine⟨_,rfl,_,_,rfl,rfl,⟨by decide,by decide⟩,_,_,rfl,rfl,(by show(0:Int)<3;decide),rfl,_,rfl,?_⟩;refine BN (λ_=>?_) (λ_=>nx _ _ ⟨A8.refl _,rfl⟩);refine⟨_,rfl,p,_,0,_,rfl,rfl,A4.of hp,rfl,_,rfl,nl,_,rfl,.inl (A3.of hn),rfl,fl,_,rfl,?_⟩;refine BN (λy=>?_) (λ_=>nx _ _ ⟨A8.refl _,rfl⟩);have nin:l.nm∉zs:=by
   have y:(!Hm (V.str l.nm) (zs.map V.str))=true:=y;rw[Yj]at y;simpa using y
  have fl2:((zs++[("":Str)]).map V.str).all E4=true:=PM _;have eq2:zs.map V.str++[V.str ""]=(zs++[("":Str)]).map V.str:=by rw[Bv];rfl
  refine⟨_,rfl,p,_,1,_,rfl,rfl,A4.of hp,rfl,p1,_,0,_,rfl,rfl,A4.of hp1,rfl,_,rfl,Ap rfl,λa1 h1=>?_⟩;have s1:=Ab h1 (.lst [V.str ""]);refine⟨nl,a1,_,_,rfl,rfl,s1 _ _ hn,A7,BD (by rw[Af,Bc];lia),λa2 h2=>?_⟩;rw[eq2];have s2:=Ab h2 (.lst ((zs++[("":Str)]).map V.str));refine⟨a2,_,rfl,.inl (A3.of A7),rfl,fl2,_,rfl,?_⟩;have e2:=s1.trans s2;generalize upd (upd H a1 (.lst [V.str ""])) a2 (.lst ((zs++[("":Str)]).map V.str))=H2 at s2 e2;refine BN (λy1=>?_) (λ_=>nx _ _ ⟨e2,rfl⟩);have i1:l.lz∈zs++[("":Str)]:=(Lf _ _).mp y1;refine⟨_,rfl,p,_,2,_,rfl,rfl,A4.of (e2 _ _ hp),rfl,p2,_,0,_,rfl,rfl,A4.of (e2 _ _ hp2),rfl,_,rfl,Ap rfl,λa3 h3=>?_⟩;have s3:=Ab h3 (.lst [V.str ""]);refine⟨nl,a3,_,_,rfl,rfl,s3 _ _ (e2 _ _ hn),A7,BD (by rw[Af,Bc];lia),λa4 h4=>?_⟩;rw[eq2];have s4:=Ab h4 (.lst ((zs++[("":Str)]).map V.str));refine⟨a4,_,rfl,.inl (A3.of A7),rfl,fl2,_,rfl,?_⟩;have e4:=e2.trans (s3.trans s4);refine BN (λy2=>?_) (λ_=>nx _ _ ⟨e4,rfl⟩);have i2:l.hz∈zs++[("":Str)]:=(Lf _ _).mp y2;have toZ:∀{z:Str},z∈zs++[("":Str)]->Z7 zs z:=fun{z} h=>by
   rcases CG.mp h with h|h
   .exact .inr h
   .exact .inl (Dm.mp h)
  exact⟨_,rfl,q _ _ l e4 ⟨p,p1,p2,rfl,e4 _ _ hp,e4 _ _ hp1,e4 _ _ hp2⟩ ⟨ln0,nin,toZ i1,toZ i2⟩⟩
 obtain⟨e1,rfl⟩:=pp;clear hla;have hn1:=e1 _ _ hn;have j0:=Eb (qq/648) (show(26:Int)≠0 by decide);have j1:=Ey (qq/648) (show(0:Int)<26 by decide);have k0:=Eb (qq/17) (show(2:Int)≠0 by decide);have k1:=Ey (qq/17) (show(0:Int)<2 by decide);have ix:(qq/648%26*(qq/17%2))%26=qq/648%26*(qq/17%2):=by
  have:qq/17%2=0\/qq/17%2=1:=by lia
  rcases this with h|h<;>rw[h]
  .rw[Int.mul_zero];rfl
  .rw[Int.mul_one];lia
 have NO:B1 (Fm JH) (qq/648%26*(qq/17%2))=some (Oj (qq/648%26*(qq/17%2))):=by
  have:=YT (qq/648%26*(qq/17%2))
  rwa [ix]at this
 refine⟨_,rfl,_,_,rfl,rfl,⟨by decide,by decide⟩,_,_,rfl,rfl,(by show(0:Int)<26;decide),_,rfl,_,_,rfl,rfl,⟨by decide,by decide⟩,_,_,rfl,rfl,(by show(0:Int)<2;decide),_,_,rfl,rfl,.inl ⟨by lia,by lia⟩,JH,_,_,rfl,rfl,a9,NO,?_⟩;dsimp only[Aq];generalize Oj (qq/648%26*(qq/17%2))=lc;have m0:=Eb (((zs.length:Nat):Int)+tn) (show(3:Int)≠0 by decide);have m1:=Ey (((zs.length:Nat):Int)+tn) (show(0:Int)<3 by decide);refine⟨_,rfl,_,rfl,nl,_,rfl,.inl (A3.of hn1),_,rfl,_,_,rfl,rfl,_,_,rfl,rfl,(by show(0:Int)<3;decide),_,_,rfl,rfl,_,_,rfl,rfl,?_,?_,?_,?_⟩
 .rw[Af];lia
 .rw[Af];lia
 .rw[bt];decide
 rw[Af];dsimp only[Aq];have z0l:(Txt.mul (⟨#[lc]⟩:Str) ((((zs.length:Nat):Int)+tn)%3+1)).length<=3/\1<=(Txt.mul (⟨#[lc]⟩:Str) ((((zs.length:Nat):Int)+tn)%3+1)).length:=by rw[Uh];lia
 generalize Txt.mul (⟨#[lc]⟩:Str) ((((zs.length:Nat):Int)+tn)%3+1)=z0 at z0l;refine Dr (fun σ' H'=>A8 H H'/\∃nm:Str,σ'=[some (.ref nl),some (.int qq),some (.int far),some (.int tn),some la,some (.str ⟨#[lc]⟩),some (.str nm),none,none]/\nm≠""/\nm∉zs) (fun σ' H2 pp=>?_) (λnx=>?_);rotate_left
 .refine JX zs.length (λi σ' H'=>A8 H H'/\σ'=[some (.ref nl),some (.int qq),some (.int far),some (.int tn),some la,some (.str ⟨#[lc]⟩),some (.str (FD z0 i)),none,none]/\∀j<i,FD z0 j∈zs) ⟨e1,rfl,λj hj=>absurd hj (OL _)⟩ (λi σ' H' hi pp=>?_) (MT.test (ME.op (MR.isIn _ _) (ME.var _) (ME.var _)));refine Ak λ_ zA=>?_;obtain⟨e,rfl,hj⟩:=pp;refine zA ?_;have gl:=LV z0 i;refine⟨_,rfl,_,rfl,nl,_,rfl,.inl (A3.of (e _ _ hn)),rfl,fl,_,rfl,?_⟩;refine BN (λc=>?_) (λc=>?_)
  .have c:FD z0 i∈zs:=(Lf _ _).mp c;have hj':∀j<i+1,FD z0 j∈zs:=λj hj2=>by
    rcases Ed j i with z|z
    .exact hj j z
    .rw[show j=i by lia];exact c
   have few:=TQ hj';exact⟨by lia,_,rfl,_,_,rfl,rfl,BD (by rw[gl,x1];lia),e,rfl,hj'⟩
  .refine nx _ _ ⟨e,FD z0 i,rfl,λz=>?_,λz=>c ((Lf _ _).mpr z)⟩;have:=congrArg Str.length z;rw[gl,show("":Str).length=0 from by decide +kernel]at this;lia
 refine Ak λ_ zB=>?_;obtain⟨e2,nm,rfl,nm0,nmn⟩:=pp;refine zB ?_;have hn2:=e2 _ _ hn;refine⟨_,rfl,_,rfl,_,_,rfl,rfl,(by show(0:Int)<2;decide),_,_,rfl,rfl,Ap rfl,λt1 h1=>?_⟩;dsimp only[Aq];have s3:=Ab h1 (.tup [V.str "",V.int (far+qq%2)]);have ht1:(upd H2 t1 (.tup [V.str "",V.int (far+qq%2)])) t1=_:=A7;change FF _ _ _ _ (upd H2 t1 (.tup [V.str "",V.int (far+qq%2)]));generalize upd H2 t1 (.tup [V.str "",V.int (far+qq%2)])=H3 at s3 ht1;refine⟨_,rfl,_,rfl,_,_,rfl,rfl,⟨by decide,by decide⟩,_,_,rfl,rfl,(by show(0:Int)<4;decide),_,_,rfl,rfl,Ap rfl,λt2 h2=>?_⟩;dsimp only[Aq];have s4:=Ab h2 (.tup [V.str "",V.int (far+qq/2%4)]);have ht2:(upd H3 t2 (.tup [V.str "",V.int (far+qq/2%4)])) t2=_:=A7;change FF _ _ _ _ (upd H3 t2 (.tup [V.str "",V.int (far+qq/2%4)]));generalize upd H3 t2 (.tup [V.str "",V.int (far+qq/2%4)])=H4 at s4 ht2;have ht14:=s4 _ _ ht1;have e4:=e2.trans (s3.trans s4);have pick:∀c:Int,0<((zs.length:Nat):Int)->∃z,z∈zs/\B1 (zs.map V.str) (c%(((zs.map V.str).length:Nat):Int))=some (.str z):=λc y=>by
  have i0:=Eb c (show((zs.length:Nat):Int)≠0 by lia);have i1:=Ey c y;obtain⟨j,hj⟩:∃j:Nat,c%((zs.length:Nat):Int)=(j:Int):=⟨(c%((zs.length:Nat):Int)).toNat,by lia⟩
  have jl:j<zs.length:=by lia
  refine⟨zs[j],Fh jl,?_⟩;rw[Af,hj];exact BA (by rw[Bf,AE jl];rfl)
 refine Dr (fun σ' H'=>A8 H4 H'/\∃(t:Addr) (z:Str) (n:Int),σ'=[some (.ref nl),some (.int qq),some (.int far),some (.int tn),some la,some (.str ⟨#[lc]⟩),some (.str nm),some (.ref t),some (.ref t2)]/\H' t=some (.tup [.str z,.int n])/\Z7 zs z) (fun σ' H5 pp=>?_) (λnx=>?_);rotate_left
 .have hn4:=e4 _ _ hn;refine⟨_,rfl,nl,_,rfl,.inl (A3.of hn4),_,_,rfl,rfl,_,rfl,?_⟩;refine BN (λy=>?_) (λ_=>nx _ _ ⟨A8.refl _,t1,_,_,rfl,ht14,.inl rfl⟩);have y:(0:Int)<(((zs.map V.str).length:Nat):Int):=dT y;have y':=y;rw[Af]at y';refine⟨_,rfl,_,_,rfl,rfl,⟨by decide,by decide⟩,_,_,rfl,rfl,(by show(0:Int)<3;decide),rfl,_,rfl,?_⟩;refine BN (λ_=>?_) (λ_=>nx _ _ ⟨A8.refl _,t1,_,_,rfl,ht14,.inl rfl⟩);refine Ak λ_ zC=>?_;obtain⟨z,hz,ez⟩:=pick (qq/5) y';refine zC ?_;refine⟨_,rfl,_,rfl,_,_,rfl,rfl,⟨by decide,by decide⟩,_,rfl,nl,_,rfl,.inl (A3.of hn4),_,_,rfl,rfl,y,nl,_,_,.str z,rfl,rfl,A3.of hn4,ez,_,rfl,_,_,rfl,rfl,⟨by decide,by decide⟩,_,_,rfl,rfl,(by show(0:Int)<3;decide),_,_,rfl,rfl,Ap rfl,λt5 h5=>?_⟩;exact nx _ _ ⟨Ab h5 _,t5,_,_,rfl,A7,.inr hz⟩
 refine Ak λ_ zD=>?_;obtain⟨e5,tl,lz,ln,rfl,htl,zl⟩:=pp;refine zD ?_;refine Dr (fun σ' H'=>A8 H5 H'/\∃(t:Addr) (z:Str) (n:Int),σ'=[some (.ref nl),some (.int qq),some (.int far),some (.int tn),some la,some (.str ⟨#[lc]⟩),some (.str nm),some (.ref tl),some (.ref t)]/\H' t=some (.tup [.str z,.int n])/\Z7 zs z) (fun σ' H6 pp=>?_) (λnx=>?_);rotate_left
 .have hn5:=e5 _ _ (e4 _ _ hn);have ht25:=e5 _ _ ht2;refine⟨_,rfl,nl,_,rfl,.inl (A3.of hn5),_,_,rfl,rfl,_,rfl,?_⟩;refine BN (λy=>?_) (λ_=>nx _ _ ⟨A8.refl _,t2,_,_,rfl,ht25,.inl rfl⟩);have y:(0:Int)<(((zs.map V.str).length:Nat):Int):=dT y;have y':=y;rw[Af]at y';refine⟨_,rfl,_,_,rfl,rfl,⟨by decide,by decide⟩,_,_,rfl,rfl,(by show(0:Int)<3;decide),rfl,_,rfl,?_⟩;refine BN (λ_=>?_) (λ_=>nx _ _ ⟨A8.refl _,t2,_,_,rfl,ht25,.inl rfl⟩);refine Ak λ_ zE=>?_;obtain⟨z,hz,ez⟩:=pick (qq/7) y';refine zE ?_;refine⟨_,rfl,_,rfl,_,_,rfl,rfl,⟨by decide,by decide⟩,_,rfl,nl,_,rfl,.inl (A3.of hn5),_,_,rfl,rfl,y,nl,_,_,.str z,rfl,rfl,A3.of hn5,ez,_,rfl,_,_,rfl,rfl,⟨by decide,by decide⟩,_,_,rfl,rfl,(by show(0:Int)<3;decide),Ap rfl,λt5 h5=>?_⟩;exact nx _ _ ⟨Ab h5 _,t5,_,_,rfl,A7,.inr hz⟩
 refine Ak λ_ zF=>?_;obtain⟨e6,th,hz,hn',rfl,hth,zh⟩:=pp;refine zF ?_;refine⟨_,rfl,_,rfl,_,rfl,Ap rfl,λt7 h7=>?_⟩;have s7:=Ab h7 (.tup [.str nm,.ref tl,.ref th]);exact q _ _ ⟨nm,lz,ln,hz,hn',0,0⟩ (e4.trans (e5.trans (e6.trans s7))) ⟨t7,tl,th,rfl,A7,(e6.trans s7) _ _ htl,s7 _ _ hth⟩ ⟨nm0,nmn,zl,zh⟩
theorem ZM (T:Tx w K mg a):AI P w K mg base AN 3 a.f_P a.d_P ["_law_stack","_law_path","_law_cell","_law_far","_law_limit"] Yv:=by
 have G_c :=@Of P w K mg base a T;have G_t :=@Th P w K mg base a T;refine T.F_P.ok HV (λvs H Q E h=>?_) (λcdv A outer s H vs Q E hr h=>?_)
 .obtain⟨_,_,_,_,_,_,_,_,rfl,_⟩:=h;rfl
 obtain⟨st,pa,cell,far,lim,S,PP,sv,rfl,hst,aS,s3,hpa,p10,l1,l6,q⟩:=h;refine⟨_,(A9 (Ao (i:=5) HV.nd rfl (.inl rfl) (Dv F8 (by rfl) T.z_tuple Em (A0 (F1 ["_law_one"] [none] (by rfl) (CQ (pw 0)) Zv (λ_ _ _ _ _ _=>⟨(Az (i:=0) aW rfl (.inl rfl)),Ef,(Aa (show DQ _ (Fv K) from Al) (pw 0) A1 (λ_ _=>rfl))⟩)) A2)))
  (A9 (Ao (i:=6) HV.nd rfl (.inl rfl) (BO A2))
  (A9 (C2 PassesOwn.never rfl (F0 (by rfl) T.z_range (A0 (B5 (KW rfl) (by rfl) T.z_min Lo (A0 (Aa Al (BJ (Ac A1 (Ac A1 (Ac A1 (Ac A1 (Ac A1 (Ac A1 BG B3) B3) B3) B3) B3) B3)) (Aj (oJ C0) (Ax G_c (hr.mono (by lia)) (by rfl) T.m_c T.F_c.kp T.b_c .nil Ar (A0 (pw 2) (A0 A1 A2))) A1) (λ_ _=>rfl)) (A0 (Aa Al (BJ (Ac A1 (Ac A1 (Ac A1 (Ac A1 (Ac A1 (Ac A1 BG B3) B3) B3) B3) B3) B3)) (Aj (Bi EO) (pw 4) A1) (λ_ _=>rfl)) A2))) A2)) (Az (i:=7) HV.nd rfl (.inl rfl))
  (Ae (Br (BF Bw BR BS BL (pw 6) (A0 (Ax G_t (hr.mono (by lia)) (by rfl) T.m_t T.F_t.kp T.b_t .nil Ar (A0 (pw 5) (A0 (Ax G_c (hr.mono (by lia)) (by rfl) T.m_c T.F_c.kp T.b_c .nil Ar (A0 (pw 2) (A0 (Aj (Bi BH) A1 (pw 7)) A2))) (A0 (pw 3) A2)))) A2)))))
  (A9 (Ao (i:=8) HV.nd rfl (.inl rfl) (Ax G_t (hr.mono (by lia)) (by rfl) T.m_t T.F_t.kp T.b_t .nil Ar (A0 (pw 5) (A0 (Ax G_c (hr.mono (by lia)) (by rfl) T.m_c T.F_c.kp T.b_c .nil Ar (A0 (pw 2) (A0 A1 A2))) (A0 (pw 3) A2)))))
  (A9 (Ao (i:=9) HV.nd rfl (.inl rfl) (Dv F8 (by rfl) T.z_tuple Em (A0 (F1 ["_law_one"] [none] (by rfl) (CQ (pw 0)) WO (λ_ _ _ _ _ _=>⟨(Az (i:=0) ZK rfl (.inl rfl)),Ef,(Aa (show DQ _ (Fv K) from Al) (pw 0) A1 (λ_ _=>rfl))⟩)) A2)))
  (A9 (Ao (i:=10) HV.nd rfl (.inl rfl) (Dv F8 (by rfl) T.z_tuple Em (A0 (F1 ["_law_one"] [none] (by rfl) (CQ (pw 0)) XS (λ_ _ _ _ _ _=>⟨(Az (i:=0) ZL rfl (.inl rfl)),Ef,(Aa (show DQ _ (Fv K) from Al) (pw 0) A1 (λ_ _=>rfl))⟩)) A2)))
  (Ae (AH (BJ (Ac (pw 5) (Ac (pw 9) (Ac (pw 10) (Ac (Aa Al (pw 8) A1 (λ_ _=>rfl)) (Ac (Aa Al (pw 8) A1 (λ_ _=>rfl)) (Ac (Dv F8 (by rfl) T.z_tuple Em (A0 (pw 6) A2)) (Ac (Dv F8 (by rfl) T.z_tuple Em (A0 (pw 1) A2)) BG E5) E5) DR) DR) Bg) Bg) Bg)))))))))),?_⟩
 have svl:=aS.1;refine⟨st,rfl,⟨_,A3.of hst⟩,?_⟩;refine Iu (xs:=sv) (λi ys H'=>H'=H/\ys=((S.take i).map (·.nm)).map V.str) ⟨rfl,rfl⟩ (BD (by lia)) (λi ys H' hi pp=>⟨by rw[pp.1];exact A3.of hst,by rw[pp.2,Af,Af,BQ];lia⟩) (λi x ys H' hx pp=>?_) (λys H' pp r1 hr1=>?_)
 .obtain⟨rfl,rfl⟩:=pp;refine Ak λ_ zA=>?_;obtain⟨l,hl,p,p1,p2,rfl,hp,_⟩:=aS.get' hx;refine zA ?_;refine⟨p,_,0,_,rfl,rfl,A4.of hp,rfl,rfl,?_⟩;rw[CL hl,Bv,Bv];rfl
 obtain⟨rfl,rfl⟩:=pp;rw[svl,E1,show(S.map (·.nm)).map V.str=(AD S).map V.str from rfl];have s1:=Ab hr1 (.lst ((AD S).map V.str));refine⟨r1,_,rfl,.inl ⟨A3.of A7,λn1 hn1=>?_⟩⟩;have s2:=Ab hn1 (.tup ((AD S).map V.str));have hN:(upd (upd H' r1 (.lst ((AD S).map V.str))) n1 (.tup ((AD S).map V.str))) n1=some (.tup ((AD S).map V.str)):=A7;dsimp only[Aq];have e2:=s1.trans s2;change FF _ _ _ _ (upd (upd H' r1 (.lst ((AD S).map V.str))) n1 (.tup ((AD S).map V.str)));generalize upd (upd H' r1 (.lst ((AD S).map V.str))) n1 (.tup ((AD S).map V.str))=H2 at s2 hN e2;have nl3:(AD S).length<=3:=by rw[EU];exact s3
 refine⟨Ap rfl,λro hro=>?_⟩;have s3':=Ab hro (.lst []);have hr0:(upd H2 ro (.lst [])) ro=some (.lst []):=A7;dsimp only[Aq];have ro0:H' ro=none:=e2.free hro;generalize upd H2 ro (.lst [])=H3 at s3' hr0;have e3:=e2.trans s3';have hN3:=s3' _ _ hN;refine⟨Ap rfl,λta hta=>?_⟩;have s4:=Ab hta (.tup [V.int 1,V.int 0,V.int 1,V.int 2,V.int 3,V.int 5]);refine⟨cell,3,rfl,λm hm=>?_⟩;refine Ak λ_ zB=>?_;obtain⟨n6,hn6,en6⟩:=NG (L:=[1,0,1,2,3,5]) (i:=m%6) 6 rfl (Eb _ (by decide)) (Ey _ (by decide));obtain⟨n7,hn7,en7⟩:=NG (L:=[5,2,1,0,0,0]) (i:=lim-1) 6 rfl (by lia) (by lia);refine zB ?_;have b6:0<=n6/\n6<=5:=by
  simp only[Bb,Ez,or_false]at hn6;lia
 have b7:0<=n7/\n7<=5:=by
  simp only[Bb,Ez,or_false]at hn7;lia
 refine⟨(by show(0:Int)<6;decide),ta,_,_,_,rfl,rfl,A4.of A7,en6,Ap rfl,λtb htb=>?_⟩;refine Ak λ_ zC=>?_;have s5:=Ab htb (.tup [V.int 5,V.int 2,V.int 1,V.int 0,V.int 0,V.int 0]);have e35:=s4.trans s5;have hr5:=e35 _ _ hr0;have hN5:=e35 _ _ hN3;obtain⟨n,en,n5⟩:∃n:Nat,(if n7<n6 then n7 else n6)=(n:Int)/\n<=5:=⟨(if n7<n6 then n7 else n6).toNat,by split<;>lia,by split<;>lia⟩
 refine zC ?_;refine⟨tb,_,_,_,rfl,rfl,A4.of A7,en7,_,_,rfl,(n:Int),congrArg (λz=>[V.int z]) en,by lia,by lia,?_⟩;rw[Fg];generalize upd (upd H3 ta (.tup [V.int 1,V.int 0,V.int 1,V.int 2,V.int 3,V.int 5])) tb (.tup [V.int 5,V.int 2,V.int 1,V.int 0,V.int 0,V.int 0])=H5 at s5 e35 hr5 hN5;have e5:=e3.trans e35;have nro:n1≠ro:=λz=>by rw[z,hr5]at hN5;cases hN5
 refine GA (lo:=0) (n:=n) (λi σ' HI=>∃(rv:List V) (rs:CS) (o7:Option V),σ'=[some (.ref st),some (.ref pa),some (.int cell),some (.int far),some (.int lim),some (.ref n1),some (.ref ro),o7,none,none,none]/\Bt ro H5 HI/\HI ro=some (.lst rv)/\Am (IH HI) rv rs/\(∀t∈rs,Gc (Z7 (AD S)) M7 HI t)/\rs.length=i) ⟨[],[],_,rfl,λ_ _ _ h=>h,hr5,.nil,(λ_ h=>nomatch h),rfl⟩ (λi σ' HI hi pp=>?_) (fun σ' HI pp=>?_)
 .obtain⟨rv,rs,o7,rfl,b,hrI,aR,tz,rl⟩:=pp;have rvl:=aR.1;dsimp only[Aq];refine⟨.inl ⟨rfl,_,A3.of hrI⟩,cell,_,rfl,λm' hm'=>⟨n1,AD S,m',far,rfl,b _ _ nro hN5,nl3,λt6 p6 z6 H6 e6 ht6 tz6=>?_⟩⟩;refine⟨ro,_,_,rfl,rfl,e6 _ _ hrI,BK (by lia),?_⟩;have tk:=(A8.tk e6).trans (TK.upd (o:=.lst (rv++[.ref t6])) (e6 _ _ hrI));have tk6:=TK.upd (o:=.lst (rv++[.ref t6])) (e6 _ _ hrI);refine⟨rv++[.ref t6],rs++[(z6,p6)],_,rfl,(b.trans (Bt.same e6)).trans Bt.put,A7,(aR.mono λ_ _ z=>z.tk tk).snoc ⟨t6,rfl,tk6 _ _ ht6⟩,λt ht=>?_,by rw[Ai,rl];rfl⟩;rcases CG.mp ht with ht|ht
  .exact JR (tz t ht) tk
  .rw[Dm.mp ht];exact JR tz6 tk6
 refine Ak λ_ zD=>?_;obtain⟨rv,rs,o7,rfl,b,hrI,aR,tz,rl⟩:=pp;refine zD ?_;have rvl:=aR.1;have eI:A8 H' HI:=λx o hx=>b _ _ (Av hx ro0) (e5 _ _ hx);have hNI:=b _ _ nro hN5;dsimp only[Aq];refine⟨cell,4,rfl,λm' hm'=>⟨n1,AD S,m',far,rfl,hNI,nl3,λt6 p6 z6 H6 e6 ht6 tz6=>?_⟩⟩;dsimp only[Aq];have e06:=eI.trans e6;have hst6:=e06 _ _ hst;have aS6:=aS.mono λ_ _ z=>z.over e06;change FF _ _ _ [some (.ref st),some (.ref pa),some (.int cell),some (.int far),some (.int lim),some (.ref n1),some (.ref ro),o7,some (.ref t6),none,none] _;refine⟨st,rfl,⟨_,A3.of hst6⟩,?_⟩;refine Iu (xs:=sv) (λi ys HX=>HX=H6/\Am (λv q=>DG H6 v (Lp.lz q,Lp.ln q)) ys (S.take i)) ⟨rfl,.nil⟩ (BD (by lia)) (λi ys HX hi pp=>⟨by rw[pp.1];exact A3.of hst6,by rw[pp.2.1,BQ];lia⟩) (λi x ys HX hx pp=>?_) (λls HX pp r7 hr7=>?_)
 .obtain⟨rfl,al⟩:=pp;refine Ak λ_ zE=>?_;obtain⟨l,hl,p,p1,p2,rfl,hp,hp1,hp2⟩:=aS6.get' hx;refine zE ?_;refine⟨p,_,1,_,rfl,rfl,A4.of hp,rfl,rfl,?_⟩;rw[CL hl];exact al.snoc ⟨p1,rfl,hp1⟩
 obtain⟨rfl,al⟩:=pp;rw[svl,E1]at al;have s7:=Ab hr7 (.lst ls);refine⟨r7,_,rfl,.inl ⟨A3.of A7,λlt hlt=>?_⟩⟩;have s8:=Ab hlt (.tup ls);have hlt8:(upd (upd HX r7 (.lst ls)) lt (.tup ls)) lt=some (.tup ls):=A7;dsimp only[Aq];have e8:=s7.trans s8;change FF _ _ _ _ (upd (upd HX r7 (.lst ls)) lt (.tup ls));generalize upd (upd HX r7 (.lst ls)) lt (.tup ls)=H8 at s8 hlt8 e8;have hst8:=e8 _ _ hst6;have aS8:=aS6.mono λ_ _ z=>z.over e8;refine⟨st,rfl,⟨_,A3.of hst8⟩,?_⟩;refine Iu (xs:=sv) (λi ys HX=>HX=H8/\Am (λv q=>DG H8 v (Lp.hz q,Lp.hn q)) ys (S.take i)) ⟨rfl,.nil⟩ (BD (by lia)) (λi ys HX hi pp=>⟨by rw[pp.1];exact A3.of hst8,by rw[pp.2.1,BQ];lia⟩) (λi x ys HX hx pp=>?_) (λhs HX pp r9 hr9=>?_)
 .obtain⟨rfl,ah⟩:=pp;refine Ak λ_ zF=>?_;obtain⟨l,hl,p,p1,p2,rfl,hp,hp1,hp2⟩:=aS8.get' hx;refine zF ?_;refine⟨p,_,2,_,rfl,rfl,A4.of hp,rfl,rfl,?_⟩;rw[CL hl];exact ah.snoc ⟨p2,rfl,hp2⟩
 obtain⟨rfl,ah⟩:=pp;rw[svl,E1]at ah;have s9:=Ab hr9 (.lst hs);refine⟨r9,_,rfl,.inl ⟨A3.of A7,λht' hht=>?_⟩⟩;have s10:=Ab hht (.tup hs);have hhtA:(upd (upd HX r9 (.lst hs)) ht' (.tup hs)) ht'=some (.tup hs):=A7;dsimp only[Aq];have eA:=s9.trans s10;change NB _ _ _ (upd (upd HX r9 (.lst hs)) ht' (.tup hs));generalize upd (upd HX r9 (.lst hs)) ht' (.tup hs)=HA at s10 hhtA eA;have e6A:=e8.trans eA;have hroA:=(e6.trans e6A) _ _ hrI;have hpaA:=(e06.trans e6A) _ _ hpa;refine⟨t6,_,0,_,rfl,rfl,A4.of (e6A _ _ ht6),rfl,t6,_,1,_,rfl,rfl,A4.of (e6A _ _ ht6),rfl,ro,rv,rfl,.inl ⟨A3.of hroA,λrt hrt=>?_⟩⟩;have sB:=Ab hrt (.tup rv);refine⟨pa,_,rfl,.inl ⟨A3.of (sB _ _ hpaA),λpt hpt=>⟨Ap rfl,λt9 ht9=>?_⟩⟩⟩;have sC:=Ab hpt (.tup (PP.map V.int));have sD:=Ab ht9 (.tup [.ref n1,.ref lt,.ref ht',.str z6,.ref p6,.ref rt,.ref pt]);have eD:=sB.trans (sC.trans sD);have e6D:=e6A.trans eD;refine q t9 _ ⟨S,PP,z6,p6,rs.length+1,rs⟩ (e06.trans e6D) ⟨t9,n1,lt,ht',pt,rt,ls,hs,rv,rfl,A7,(e6.trans e6D) _ _ hNI,(eA.trans eD) _ _ hlt8,al.mono λ_ _ z=>z.tk (A8.tk e6D),eD _ _ hhtA,ah.mono λ_ _ z=>z.tk (A8.tk (eA.trans eD)),sD _ _ A7,(sC.trans sD) _ _ A7,aR.mono λ_ _ z=>z.tk (A8.tk (e6.trans e6D)),rfl⟩ rfl rfl (λt ht=>?_) (by show rs.length+1<=30;lia);rcases Bb.mp ht with rfl|ht
 .exact Pk (JR tz6 (A8.tk e6D))
 .exact Pk (JR (tz t ht) (A8.tk (e6.trans e6D)))
theorem YO (T:Tx w K mg a):AI P w K mg base AN 4 a.f_Q a.d_Q ["_law_cells","_law_limit","_law_deep","_law_far"] (Zy K):=by
 have G_c :=@Of P w K mg base a T;have G_O :=@Xz P w K mg base a T;have G_P :=@ZM P w K mg base a T;refine T.F_Q.ok Gx (λvs H Q E h=>?_) (λcdv A outer s H vs Q E hr h=>?_)
 .obtain⟨_,_,_,_,_,rfl,_⟩:=h;rfl
 obtain⟨cl,cs,lim,deep,far,rfl,hcl,csl,l1,l6,d1,d3,q⟩:=h;refine⟨_,(A9 (Ao (i:=4) Gx.nd rfl (.inl rfl) (BO A2))
  (A9 (Ao (i:=5) Gx.nd rfl (.inl rfl) (BO (A0 A1 A2)))
  (A9 (Ao (i:=6) Gx.nd rfl (.inl rfl) (BO A2))
  (A9 (Ao (i:=7) Gx.nd rfl (.inl rfl) (RI (Ac EX (Ac EX (Ac EX BG B3) B3) B3)))
  (A9 (C2 PassesOwn.never rfl (CQ (Aj HK (Dv Kd (by rfl) T.z_list GW (A0 (pw 0) A2)) (RI (Ac A1 (Ac A1 (Ac A1 (Ac A1 BG B3) B3) B3) B3)))) (Az (i:=8) Gx.nd rfl (.inl rfl))
  (A9 (Ao (i:=9) Gx.nd rfl (.inl rfl) (Ax G_c (hr.mono (by lia)) (by rfl) T.m_c T.F_c.kp T.b_c .nil Ar (A0 (pw 8) (A0 A1 A2))))
  (A9 (Ao (i:=10) Gx.nd rfl (.inl rfl) (B5 BB (by rfl) T.z_len BC (A0 (pw 4) A2)))
  (Ae (Bx ((Dy (AK (Bi Es) (Aj (oJ C0) (pw 9) A1) (Aj (Bi BH) A1 (Aj (oJ Hy) A1 (Dv V8 (by rfl) T.z_int Yc (A0 (GB Co (pw 10) A1 (AF _)) A2)))) (AF _)) (Dy (AK (Bi Es) (pw 10) (pw 2) (AF _)) (E7 (AK (Bi Es) (B5 BB (by rfl) T.z_len BC (A0 (pw 6) A2)) (pw 1) (AF _)))))).pt
  (A9 (Br (BF Bw BR BS BL (pw 4) (A0 (Ax G_O (hr.mono (by lia)) (by rfl) T.m_O T.F_O.kp T.b_O .nil Ar (A0 (F1 ["_law_one"] [none] (by rfl) (CQ (pw 4)) ZX (λ_ _ _ _ _ _=>⟨(Az (i:=0) Vp rfl (.inl rfl)),Ef,(Aa (show DQ _ (Fv K) from Al) (pw 0) A1 (λ_ _=>rfl))⟩)) (A0 (Aj (oJ DK) (pw 9) A1) (A0 (pw 3) (A0 (Aa AS (pw 5) A1 (λ_ _=>rfl)) (A0 (Aa AS (pw 7) (pw 10) (λ_ _=>rfl)) A2)))))) A2)))
  (Ae (Br (BF Bw BR BS BL (pw 5) (A0 A1 A2)))))
  (Ae (Bx ((Dy (AK (Bi F4) (pw 10) A1 (AF _)) (Dy (AK (Bi F4) (Aa AS (pw 5) (DL DH A1) (λ_ _=>rfl)) A1 (AF _)) (E7 ((FL (AK Co (Aj (oJ C0) (pw 9) A1) A1 (AF _)) (Jb (AK Co (B5 BB (by rfl) T.z_len BC (A0 (pw 6) A2)) (pw 1) (AF _))))).pt)))).pt
  (A9 (Jx (Aa AS (pw 4) (DL DH A1) (λ_ _=>rfl)) (K0 (pw 7) (Aj (Bi EO) (pw 10) A1) JL))
  (A9 (Br (LP Bw T6 T7 MU (pw 4)))
  (A9 (Br (LP Bw T6 T7 MU (pw 5)))
  (Ae (Jx (Aj (Bi BH) (Aa AS (pw 5) (DL DH A1) (λ_ _=>rfl)) A1) (K0 (pw 5) (DL DH A1) JL))))))
  (Ae (Bx (AK (Bi Es) (B5 BB (by rfl) T.z_len BC (A0 (pw 6) A2)) (pw 1) (AF _))
  (A9 (Br (BF Bw BR BS BL (pw 6) (A0 (Ax G_P (hr.mono (by lia)) (by rfl) T.m_P T.F_P.kp T.b_P .nil Ar (A0 (pw 4) (A0 (pw 5) (A0 (pw 8) (A0 (pw 3) (A0 (pw 1) A2)))))) A2)))
  (Ae (Jx (Aj (Bi BH) (Aa AS (pw 5) (DL DH A1) (λ_ _=>rfl)) A1) (K0 (pw 5) (DL DH A1) JL))))
  BW)))))))))
  (Ae (AH (pw 6)))))))),?_⟩
 refine⟨Ap rfl,λst hst=>?_⟩;dsimp only[Aq];refine⟨Ap rfl,λpa hpa=>?_⟩;dsimp only[Aq];refine⟨Ap rfl,λro hro=>?_⟩;dsimp only[Aq];refine⟨Ap rfl,λla hla=>?_⟩;dsimp only[Aq];have s1:=Ab hst (.lst []);have s2:=Ab hpa (.lst [V.int 0]);have s3:=Ab hro (.lst []);have s4:=Ab hla (.lst [V.non,V.non,V.non]);have g1:(upd H st (.lst [])) st=some (.lst []):=A7;have g2:(upd (upd H st (.lst [])) pa (.lst [V.int 0])) pa=some (.lst [V.int 0]):=A7;have g3:(upd (upd (upd H st (.lst [])) pa (.lst [V.int 0])) ro (.lst [])) ro=some (.lst []):=A7;have n:N7 st pa ro la:=⟨Av g1 hpa,Av (s2 _ _ g1) hro,Av ((s2.trans s3) _ _ g1) hla,Av g2 hro,Av (s3 _ _ g2) hla,Av g3 hla⟩
 have w0:W7 (upd (upd (upd (upd H st (.lst [])) pa (.lst [V.int 0])) ro (.lst [])) la (.lst [V.non,V.non,V.non])) st pa ro la [] [] [0] [] [] [V.non,V.non,V.non]:=⟨(s2.trans (s3.trans s4)) _ _ g1,.nil,(s3.trans s4) _ _ g2,s4 _ _ g3,.nil,(λ_ h=>nomatch h),A7,rfl,λv hv=>by
  simp only[Bb,Ez,or_false]at hv;rcases hv with rfl|rfl|rfl<;>exact .inl rfl⟩
 have e4:=s1.trans (s2.trans (s3.trans s4));have st0:H st=none:=hst;have pa0:H pa=none:=s1.free hpa;have ro0:H ro=none:=(s1.trans s2).free hro;have la0:H la=none:=(s1.trans (s2.trans s3)).free hla;generalize upd (upd (upd (upd H st (.lst [])) pa (.lst [V.int 0])) ro (.lst [])) la (.lst [V.non,V.non,V.non])=H4 at w0 e4;clear s1 s2 s3 s4 g1 g2 g3 hst hpa hro hla;refine⟨cl,_,rfl,.inl (e4.seq hcl),λc1 hc1=>⟨Ap rfl,λz4 hz4=>?_⟩⟩;have s5:=Ab hc1 (.lst (cs.map V.int));have s6:=Ab hz4 (.lst [V.int 0,V.int 0,V.int 0,V.int 0]);refine⟨c1,z4,_,_,rfl,rfl,s6 _ _ A7,A7,BD (by rw[Af];show _+4<=_;lia),λc2 hc2=>?_⟩;have s7:=Ab hc2 (.lst (cs.map V.int++[V.int 0,V.int 0,V.int 0,V.int 0]));have hc:(upd (upd (upd H4 c1 (.lst (cs.map V.int))) z4 (.lst [V.int 0,V.int 0,V.int 0,V.int 0])) c2 (.lst (cs.map V.int++[V.int 0,V.int 0,V.int 0,V.int 0]))) c2=some (.lst ((cs++[0,0,0,0]).map V.int)):=by rw[A7,Bv];rfl
 have w7:=w0.over (s5.trans (s6.trans s7));have e7:=e4.trans (s5.trans (s6.trans s7));have nc:c2≠st/\c2≠pa/\c2≠ro/\c2≠la:=⟨Ne.symm (Av ((s5.trans s6) _ _ w0.hst) hc2),Ne.symm (Av ((s5.trans s6) _ _ w0.hpa) hc2),Ne.symm (Av ((s5.trans s6) _ _ w0.hro) hc2),Ne.symm (Av ((s5.trans s6) _ _ w0.hla) hc2)⟩
 generalize upd (upd (upd H4 c1 (.lst (cs.map V.int))) z4 (.lst [V.int 0,V.int 0,V.int 0,V.int 0])) c2 (.lst (cs.map V.int++[V.int 0,V.int 0,V.int 0,V.int 0]))=H7 at hc w7 e7;have cl4:(cs++[0,0,0,0]).length=cs.length+4:=by rw[Ai];rfl
 generalize hcs:cs++[0,0,0,0]=cc at hc cl4;refine⟨c2,rfl,⟨_,A3.of hc⟩,?_⟩;refine EI (xs:=cc.map V.int) (λi σ' H'=>∃(Rs:List R3) (S:List Lp) (PP:List Int) (sv rv lv:List V) (o8 o9 o10:Option V),σ'=[some (.ref cl),some (.int lim),some (.int deep),some (.int far),some (.ref st),some (.ref pa),some (.ref ro),some (.ref la),o8,o9,o10]/\Kq st pa ro la H7 H'/\W7 H' st pa ro la Rs S PP sv rv lv/\D7 Rs S PP/\(S.length:Int)<=deep/\(Rs.length:Int)<=lim/\(Rs=[]->S.length=i)) ⟨[],[],[0],[],[],[V.non,V.non,V.non],_,_,_,rfl,λ_ _ h _ _ _ _=>h,w7,D7.nil,by show(0:Int)<=deep;lia,by show(0:Int)<=lim;lia,λ_=>rfl⟩ (λi σ' H' _ pp=>by obtain⟨_,_,_,_,_,_,_,_,_,_,kq,_⟩:=pp;exact A3.of (kq _ _ hc nc.1 nc.2.1 nc.2.2.1 nc.2.2.2)) (λi x σ' H' hx pp=>?_) (fun σ' H' pp=>?_);rotate_left
 .obtain⟨Rs,S,PP,sv,rv,lv,o8,o9,o10,rfl,kq,ww,dd,sd,rl,z0⟩:=pp;have eH:A8 H H':=λb o hb=>kq b o (e7 _ _ hb) (Av hb st0) (Av hb pa0) (Av hb ro0) (Av hb la0);refine q ro rv _ Rs eH ro0 ww.hro ww.aR (λR hR=>⟨dd.rb R hR,ww.tz R hR⟩) dd.pr (λe=>?_) (by lia);have:=z0 e;rw[Af]at this;have:=dd.so.1;lia
 refine Ak λ_ zA=>?_;obtain⟨Rs,S,PP,sv,rv,lv,o8,o9,o10,rfl,kq,ww,dd,sd,rl,z0⟩:=pp;obtain⟨cell,rfl⟩:∃cell:Int,x = .int cell:=by
  rw[Bf]at hx;obtain⟨c,_,rfl⟩:=Ik.mp hx;exact⟨c,rfl⟩
 refine zA ?_;dsimp only[Aq];refine⟨cell,0,rfl,λqq hq=>?_⟩;dsimp only[Aq];have svl:=ww.aS.1;have rvl:=ww.aR.1;have s3:=dd.so.1;have pll:=dd.pl;refine⟨st,_,rfl,.inl (A3.of ww.hst),?_⟩;dsimp only[Aq];rw[svl];change GE _ _ _ _ [some (.ref cl),some (.int lim),some (.int deep),some (.int far),some (.ref st),some (.ref pa),some (.ref ro),some (.ref la),some (.int cell),some (.int qq),some (.int ((S.length:Nat):Int))] _;refine Ak λ_ zB=>?_;obtain⟨PI,pz,hPI,pil⟩:∃PI pz,PP=PI++[pz]/\PI.length=S.length:=by
  obtain⟨us,u,e,ul⟩:=Gs (l:=PP) (n:=S.length) pll;exact⟨us,u,e,ul⟩
 refine zB ?_;subst hPI;have hpaP:=ww.hpa;have lastP:B1 ((PI++[pz]).map V.int) (-1)=some (.int pz):=by rw[Bv];exact MZ _ _
 have p0:∃y,B1 ((PI++[pz]).map V.int) 0=some (.int y):=by
  cases PI with
  |nil=>exact⟨pz,BA (j:=0) rfl⟩
  |cons y l=>exact⟨y,BA (j:=0) rfl⟩
 refine Rc (λHX=>HX=H') (λHX eX=>?_) (λels=>?_);rotate_left
 .refine⟨(by show(0:Int)<7;decide),rfl,.inr ⟨_,rfl,.inl ⟨by decide,by decide⟩,_,rfl,?_⟩⟩;refine BN (λ_=>?_) (λ_=>els _ rfl);refine⟨_,rfl,?_⟩;refine BN (λy2=>?_) (λ_=>els _ rfl);have y2:((S.length:Nat):Int)<deep:=dT y2;refine⟨ro,_,rfl,.inl (A3.of ww.hro),_,rfl,?_⟩;refine BN (λy3=>?_) (λ_=>els _ rfl);clear els;obtain⟨y0,hy0⟩:=p0;refine⟨.inl ⟨rfl,_,A3.of ww.hst⟩,st,rfl,⟨_,A3.of ww.hst⟩,?_⟩;refine Iu (xs:=sv) (λi ys HX=>HX=H'/\ys=((S.take i).map (·.nm)).map V.str) ⟨rfl,rfl⟩ (BD (by lia)) (λi ys HX hi pp=>⟨by rw[pp.1];exact A3.of ww.hst,by rw[pp.2,Af,Af,BQ];lia⟩) (λi x ys HX hx pp=>?_) (λys HX pp nl hnl=>?_)
  .obtain⟨rfl,rfl⟩:=pp;refine Ak λ_ zC=>?_;obtain⟨l,hl,p,p1,p2,rfl,hp,_⟩:=ww.aS.get' hx;refine zC ?_;refine⟨p,_,0,_,rfl,rfl,A4.of hp,rfl,rfl,?_⟩;rw[CL hl,Bv,Bv];rfl
  obtain⟨rfl,rfl⟩:=pp;rw[svl,E1,show(S.map (·.nm)).map V.str=(AD S).map V.str from rfl];have s8:=Ab hnl (.lst ((AD S).map V.str));have w8:=ww.over s8;have hnl8:(upd HX nl (.lst ((AD S).map V.str))) nl=some (.lst ((AD S).map V.str)):=A7;change KU _ _ _ (upd HX nl (.lst ((AD S).map V.str))) _;generalize upd HX nl (.lst ((AD S).map V.str))=H8 at s8 w8 hnl8;have lk:S.length<lv.length:=by rw[w8.ll];lia
  refine⟨⟨by decide,by decide⟩,pa,_,0,_,rfl,rfl,A3.of w8.hpa,hy0,la,_,_,lv[S.length],rfl,rfl,A3.of w8.hla,BA (AE lk),nl,AD S,_,far,_,_,rfl,hnl8,by rw[EU];exact s3,w8.ls _ (Fh lk),λr H9 l e9 hl nw=>?_⟩;have w9:=w8.over e9;refine⟨st,_,_,rfl,rfl,w9.hst,BK (by lia),?_⟩;have wA:=w9.pst n (sv':=sv++[r]) (w9.aS.snoc hl);refine⟨.inl ⟨rfl,_,A3.of wA.hpa⟩,pa,_,_,rfl,rfl,wA.hpa,BK (by rw[Af,Ai,Bc];lia),?_⟩;rw[show(PI++[pz]).map V.int++[V.int 0]=(PI++[pz]++[0]).map V.int from by rw[Bv (l₂:=[0])];rfl];exact⟨Rs,S++[l],PI++[pz]++[0],sv++[r],rv,lv,_,_,_,rfl,((kq.same (s8.trans e9)).put (.inl rfl)).put (.inr (.inl rfl)),wA.ppa n,dd.opn (by lia) nw,by rw[Ai,Bc];lia,rl,λe=>by rw[Ai,z0 e];rfl⟩
 subst eX;refine Rc (λHZ=>HZ=HX) (λHY eY=>?_) (λels=>?_);rotate_left
 .refine Pu (λHZ=>HZ=HZ/\HZ=HX/\0<S.length/\0<pz) (λHY hY=>?_) (λgo=>?_);rotate_left
  .refine⟨_,rfl,?_⟩;refine BN (λy1=>?_) (λ_=>els _ rfl);have y1:(0:Int)<((S.length:Nat):Int):=dT y1;refine⟨_,rfl,pa,_,_,_,rfl,rfl,A3.of hpaP,lastP,_,rfl,?_⟩;refine BN (λy2=>?_) (λ_=>els _ rfl);have y2:(0:Int)<pz:=dT y2;refine⟨(by show(0:Int)<7;decide),rfl,_,rfl,?_⟩;refine BN (λ_=>C6 (go _ ⟨rfl,rfl,by lia,y2⟩)) (λ_=>?_);refine⟨ro,_,rfl,.inl (A3.of ww.hro),rfl,_,rfl,?_⟩;exact BN (λ_=>go _ ⟨rfl,rfl,by lia,y2⟩) (λ_=>els _ rfl)
  refine Ak λ_ zD=>?_;obtain⟨_,rfl,sp,pp0⟩:=hY;refine zD ?_;clear els;refine Ak λ_ zE=>?_;obtain⟨S',l,hS',sl'⟩:∃S' l,S=S'++[l]/\S'.length+1=S.length:=by
   obtain⟨us,u,e,ul⟩:=Gs (l:=S) (n:=S.length-1) (by lia);exact⟨us,u,e,by lia⟩
  refine zE ?_;subst hS';refine Ak λ_ zF=>?_;obtain⟨sv',v,rfl,aS',hv⟩:=X6 ww.aS;obtain⟨PJ,px,hPJ,pjl⟩:∃PJ px,PI=PJ++[px]/\PJ.length=S'.length:=by
   obtain⟨us,u,e,ul⟩:=Gs (l:=PI) (n:=S'.length) (by lia);exact⟨us,u,e,ul⟩
  refine zF ?_;subst hPJ;have sv'l:sv'.length=S'.length:=aS'.1;have rne:Rs≠[]:=λe=>by
   have:=dd.z0 e pz (by simp);lia
  have slI:(((S'++[l]).length:Nat):Int)-1=((S'.length:Nat):Int):=by rw[Ai,Bc];lia
  have ixl:DJ lv.length ((((S'++[l]).length:Nat):Int)-1)=some S'.length:=by
   rw[slI,ww.ll];have:S'.length<3:=by lia
   unfold DJ;rw[Ay (by lia),Ay (by lia),Fg]
  have nmne:l.nm≠"":=dd.so.init.2.1;refine⟨_,rfl,st,_,_,v,rfl,rfl,A3.of ww.hst,MZ _ _,la,_,_,_,rfl,rfl,ww.hla,ixl,?_⟩;have w1:=ww.pla n (j:=S'.length) (v:=v) (.inr ⟨l,hv,nmne⟩);have k1:=kq.put (u:=.lst (lv.set S'.length v)) (.inr (.inr (.inr rfl)));refine⟨.inl ⟨rfl,_,A3.of w1.hst⟩,st,_,_,rfl,rfl,w1.hst,KF.1,?_⟩;rw[KF.2];have w2:=w1.pst n (sv':=sv') (S':=S') (aS'.mono λ_ _ z=>z.tk (TK.upd ww.hla));have k2:=k1.put (u:=.lst sv') (.inl rfl);generalize upd (upd HY la (.lst (lv.set S'.length v))) st (.lst sv')=H2 at w2 k2;have hp2:=w2.hpa;rw[show(PJ++[px]++[pz]).map V.int=(PJ++[px]).map V.int++[V.int pz] from Bv]at hp2;refine⟨.inl ⟨rfl,_,A3.of hp2⟩,pa,_,_,rfl,rfl,hp2,KF.1,?_⟩;rw[KF.2];have w3:=w2.ppa n (P':=PJ++[px]);have k3:=k2.put (u:=.lst ((PJ++[px]).map V.int)) (.inr (.inl rfl));generalize upd H2 pa (.lst ((PJ++[px]).map V.int))=H3 at w3 k3;have last3:B1 ((PJ++[px]).map V.int) (-1)=some (.int px):=by rw[Bv];exact MZ _ _
  refine⟨_,rfl,pa,_,_,_,rfl,rfl,A3.of w3.hpa,last3,_,rfl,pa,_,_,_,rfl,rfl,w3.hpa,Qw,?_⟩;rw[show((PJ++[px]).map V.int).set PJ.length ((λi j=>V.int (i+j)) px 1)=(PJ++[px+1]).map V.int from Sm];exact⟨Rs,S',PJ++[px+1],sv',rv,_,_,_,_,rfl,k3.put (.inr (.inl rfl)),w3.ppa n,dd.cls rne,by rw[Ai,Bc]at sd;lia,rl,λe=>absurd e rne⟩
 subst eY;refine⟨ro,_,rfl,.inl (A3.of ww.hro),_,rfl,?_⟩;refine BN (λy=>?_) (λy=>?_)
 .have y:((rv.length:Nat):Int)<lim:=dT y;refine⟨.inl ⟨rfl,_,A3.of ww.hro⟩,st,pa,cell,far,lim,S,PI++[pz],sv,rfl,ww.hst,ww.aS,s3,ww.hpa,by lia,l1,l6,λr H8 R e8 hR eS eP tz m30=>?_⟩;have w8:=ww.over e8;refine⟨ro,_,_,rfl,rfl,w8.hro,BK (by lia),?_⟩;have w9:=w8.pro n hR tz;have k9:=(kq.same e8).put (u:=.lst (rv++[.ref r])) (.inr (.inr (.inl rfl)));generalize upd H8 ro (.lst (rv++[.ref r]))=H9 at w9 k9;refine⟨_,rfl,pa,_,_,_,rfl,rfl,A3.of w9.hpa,lastP,_,rfl,pa,_,_,_,rfl,rfl,w9.hpa,Qw,?_⟩;rw[show((PI++[pz]).map V.int).set PI.length ((λi j=>V.int (i+j)) pz 1)=(PI++[pz+1]).map V.int from Sm];exact⟨Rs++[R],S,PI++[pz+1],sv,_,lv,_,_,_,rfl,k9.put (.inr (.inl rfl)),w9.ppa n,dd.row eS eP m30,sd,by rw[Ai,Bc];lia,λe=>by have:=congrArg List.length e;rw[Ai]at this;exact absurd this (by simp)⟩
 .have y:¬((rv.length:Nat):Int)<lim:=dF y;refine⟨Rs,S,PI++[pz],sv,rv,lv,_,_,_,rfl,kq,ww,dd,sd,rl,λe=>?_⟩;rw[e]at rvl;have rvl:rv.length=0:=rvl;lia
theorem UC (T:Tx w K mg a):AI P w K mg base AN 3 a.f_R a.d_R ["_law_reads"] (Ym (CY a)):=by
 have G_V :=@UG P w K mg base a T;have G_W :=@Vm P w K mg base a T;have G_X :=@Ux P w K mg base a T;refine T.F_R.ok M5 (λvs H Q E h=>?_) (λcdv A outer s H vs Q E hr h=>?_)
 .obtain⟨_,_,_,rfl,_⟩:=h;rfl
 obtain⟨u,rv,rs,rfl,hu,aR,r29,q⟩:=h;refine⟨_,(A9 (Ao (i:=1) M5.nd rfl (.inl rfl) (Jr T.mk_Number G_V (hr.mono (by lia)) (by rfl) T.mc_Number T.b_V .nil Ar (A0 A1 A2)))
  (A9 (C2 PassesOwn.never rfl (LJ (pw 0)) (Az (i:=2) M5.nd rfl (.inl rfl))
  (Ae (Ao (i:=1) M5.nd rfl (.inl rfl) (Jr T.mk_Joined G_X (hr.mono (by lia)) (by rfl) T.mc_Joined T.b_X .nil Ar (A0 BY (A0 (pw 1) (A0 (Jr T.mk_Cell G_W (hr.mono (by lia)) (by rfl) T.mc_Cell T.b_W .nil Ar (A0 (Aa Al (pw 2) A1 (λ_ _=>rfl)) (A0 (Aa Al (pw 2) A1 (λ_ _=>rfl)) A2))) A2)))))))
  (Ae (AH (pw 1))))),?_⟩
 refine λx dx nx ndx ne=>⟨x,dx,[_],rfl,rfl,A7,λH2 k2 hx2=>⟨rfl,?_⟩⟩
 obtain⟨dx2,hx2⟩:=hx2;have e2:=K1 nx ndx k2;dsimp only[Aq];refine⟨u,rfl,⟨_,A4.of (e2 _ _ hu)⟩,?_⟩;have rvl:=aR.1;refine Na (xs:=rv) (λi σ' H'=>∃(y:V) (o2:Option V),σ'=[some (.ref u),some y,o2]/\A8 H H'/\CK (CY a) H' (i+1) y (rs.take i)) ⟨_,_,rfl,e2,.num 1 hx2⟩ (λi σ' H' _ pp=>by obtain⟨_,_,_,e,_⟩:=pp;exact A4.of (e _ _ hu)) (λi y0 σ' H' hy pp=>?_) (fun σ' H' pp=>?_)
 .obtain⟨y,o2,rfl,e,to⟩:=pp;refine Ak λ_ zA=>?_;obtain⟨r,hr',t,rfl,ht⟩:=aR.get' hy;refine zA ?_;dsimp only[Aq];have ht':=e _ _ ht;refine⟨t,_,0,_,rfl,rfl,A4.of ht',rfl,t,_,1,_,rfl,rfl,A4.of ht',rfl,λx3 dx3 nx3 ndx3 ne3=>⟨x3,dx3,[_,_],rfl,rfl,A7,λH4 k4 hx4=>⟨rfl,?_⟩⟩⟩;obtain⟨dx4,hx4⟩:=hx4;have e4:=K1 nx3 ndx3 k4;refine λx5 dx5 nx5 ndx5 ne5=>⟨x5,dx5,[_,_,_],rfl,rfl,A7,λH6 k6 hx6=>⟨rfl,?_⟩⟩
  obtain⟨dx6,hx6⟩:=hx6;have e6:=K1 nx5 ndx5 k6;refine⟨_,_,rfl,e.trans (e4.trans e6),?_⟩;rw[CL hr'];exact .joi "+" hx6 (to.over (e4.trans e6)) (CK.over e6 (.cel r.1 hx4))
 .obtain⟨y,o2,rfl,e,to⟩:=pp;rw[rvl,E1]at to;exact q y _ e to
theorem Yu (T:Tx w K mg a):AI P w K mg base AN 5 a.f_S a.d_S ["_law_rows_here"] (XE a.c_Program a.c_Deed (CY a)):=by
 have G_Y :=@aL P w K mg base a T;have G_Z :=@Wl P w K mg base a T;have G_R :=@UC P w K mg base a T;refine T.F_S.ok O2 (λvs H Q E h=>?_) (λcdv A outer s H vs Q E hr h=>?_)
 .obtain⟨_,_,_,rfl,_⟩:=h;rfl
 obtain⟨l,xs,Rs,rfl,hl,ax,n6,ok,q⟩:=h;refine⟨_,(A9 (Ao (i:=1) O2.nd rfl (.inl rfl) (BO A2))
  (A9 (C2 PassesOwn.never rfl (CQ (pv 0)) (Az (i:=2) O2.nd rfl (.inl rfl))
  (Ae (Br (BF Bw BR BS BL (pv 1) (A0 (Jr T.mk_Deed G_Y (hr.mono (by lia)) (by rfl) T.mc_Deed T.b_Y .nil Ar (A0 (Aa Al (pv 2) A1 (λ_ _=>rfl)) (A0 (Aa Al (pv 2) A1 (λ_ _=>rfl)) (A0 (Aa Al (pv 2) A1 (λ_ _=>rfl)) (A0 (Aa Al (pv 2) A1 (λ_ _=>rfl)) (A0 (Aa Al (pv 2) A1 (λ_ _=>rfl)) (A0 (Ax G_R (hr.mono (by lia)) (by rfl) T.m_R T.F_R.kp T.b_R .nil Ar (A0 (Aa Al (pv 2) A1 (λ_ _=>rfl)) A2)) (A0 (Aa Al (pv 2) A1 (λ_ _=>rfl)) A2)))))))) A2)))))
  (Ae (AH (Jr T.mk_Program G_Z (hr.mono (by lia)) (by rfl) T.mc_Program T.b_Z .nil Ar (A0 A1 (A0 (pv 1) A2))))))),?_⟩
 have xl:=ax.1;refine⟨Ap rfl,λdd hdd0=>?_⟩;have s1:=Ab hdd0 (.lst []);have hd1:(upd H dd (.lst [])) dd=some (.lst []):=A7;dsimp only[Aq];generalize upd H dd (.lst [])=H1 at s1 hd1;refine⟨_,rfl,l,rfl,⟨_,A3.of (s1 _ _ hl)⟩,?_⟩;refine EI (xs:=xs) (λi σ' H'=>∃(ys:List V) (o2:Option V),σ'=[some (.ref l),some (.ref dd),o2]/\A8 H H'/\H' dd=some (.lst ys)/\Am (CW (CY a) a.c_Deed H') ys (Rs.take i)) ⟨[],_,rfl,s1,hd1,.nil⟩ (λi σ' H' _ pp=>by obtain⟨_,_,_,e,_⟩:=pp;exact A3.of (e _ _ hl)) (λi x σ' H' hx pp=>?_) (fun σ' H' pp=>?_)
 .obtain⟨ys,o2,rfl,e,hdd,ay⟩:=pp;have yl:=ay.1;rw[BQ]at yl;refine Ak λ_ zA=>?_;obtain⟨R,hR,r,u1,u2,u3,u4,u5,ls,hs,rs,rfl,hr1,hu1,hu2,als,hu3,ahs,hu4,hu5,ars,em⟩:=ax.get' hx;refine zA ?_;have rok:=ok R (B0 hR);have hr1':=e _ _ hr1;dsimp only[Aq];refine⟨_,rfl,.inl ⟨rfl,_,A3.of hdd⟩,_,rfl,r,_,0,_,rfl,rfl,A4.of hr1',rfl,_,rfl,r,_,1,_,rfl,rfl,A4.of hr1',rfl,_,rfl,r,_,2,_,rfl,rfl,A4.of hr1',rfl,_,rfl,r,_,3,_,rfl,rfl,A4.of hr1',rfl,_,rfl,r,_,4,_,rfl,rfl,A4.of hr1',rfl,_,rfl,r,_,5,_,rfl,rfl,A4.of hr1',rfl,?_⟩;refine⟨u5,rs,R.rs,rfl,e _ _ hu5,ars.mono λ_ _ z=>z.tk (A8.tk e),by lia,λy H2 e2 to=>?_⟩;rw[←em]at to;refine⟨_,rfl,r,_,6,_,rfl,rfl,A4.of (e2 _ _ hr1'),rfl,?_⟩;intro d dx hd hdx hne2;refine⟨d,dx,_,_,_,_,_,_,_,rfl,A7,λHB kB hdB=>⟨rfl,?_⟩⟩;obtain⟨dxB,hdB⟩:=hdB;have eAB:=K1 hd hdx kB;have eB:=e2.trans eAB;have hddB:=eB _ _ hdd;refine⟨dd,_,_,rfl,rfl,hddB,BK (by lia),?_⟩;have nl:=NL.upd (o:=.lst (ys++[.ref d])) hddB;refine⟨ys++[.ref d],_,rfl,λb o hb=>by rw[Ag (Av hb hdd0)];exact eB _ _ (e _ _ hb),A7,?_⟩;rw[CL hR];exact(ay.mono λ_ _ z=>(z.over eB).nl nl).snoc (CW.nl ⟨d,dxB,u1,u2,u3,u4,y,ls,hs,rfl,hdB,eB _ _ (e _ _ hu1),eB _ _ (e _ _ hu2),als.mono λ_ _ z=>z.tk (A8.tk (e.trans eB)),eB _ _ (e _ _ hu3),ahs.mono λ_ _ z=>z.tk (A8.tk (e.trans eB)),eB _ _ (e _ _ hu4),to.over eAB⟩ nl)
 refine Ak λ_ zB=>?_;obtain⟨ys,o2,rfl,e,hdd,ay⟩:=pp;refine zB ?_;rw[xl,E1]at ay;dsimp only[Aq];refine⟨_,rfl,?_⟩;intro x dx hx hdx hxd;have ntx:dd≠x:=Av hdd hx;have ntd:dd≠dx:=Av hdd hdx;refine⟨x,dx,_,dd,ys,rfl,A7,A3.of (by rw[Ag ntx,Ag ntd];exact hdd),λd5 H6 hd5 k6 hd6 hx6=>⟨rfl,?_⟩⟩;obtain⟨dx6,hx6⟩:=hx6;have e6:=K1 hx hdx k6;have d50:H d5=none:=e.free (by
  cases h:H' d5 with
  |none=>rfl
  |some o=>rw[Ag (Av h hx),Ag (Av h hdx),h]at hd5;cases hd5)
 exact q x dx6 d5 ys H6 (e.trans e6) hx6 d50 hd6 (ay.mono λ_ _ z=>z.over e6)
theorem Z6 (T:Tx w K mg a):AI P w K mg base AN 1 a.f_T a.d_T ["_law_one","_law_other"] bI:=by
 refine T.F_T.ok NA (λvs H Q E h=>?_) (λcdv A outer s H vs Q E hr h=>?_)
 .obtain⟨_,_,_,_,_,rfl,_⟩:=h;rfl
 obtain⟨x,y,R,R',s,rfl,hx,hy,rb,rb',pl,q⟩:=h;refine⟨_,(A9 (Ao (i:=2) NA.nd rfl (.inl rfl) A1)
  (A9 (Ko PassesOwn.never ((Dy (AK Es (pv 2) (B5 (KW rfl) (by rfl) T.z_min Lo (A0 (B5 BB (by rfl) T.z_len BC (A0 (Aa Al (pv 0) A1 (λ_ _=>rfl)) A2)) (A0 (B5 BB (by rfl) T.z_len BC (A0 (Aa Al (pv 1) A1 (λ_ _=>rfl)) A2)) A2))) (AF _)) (E7 (AK (Mg (GD hr)) (Gb JQ (Aa Al (pv 0) A1 (λ_ _=>rfl)) HR (Fc (Aj BH (pv 2) A1))) (Gb JQ (Aa Al (pv 1) A1 (λ_ _=>rfl)) HR (Fc (Aj BH (pv 2) A1))) (AF _))))).pt
  (Ae (Ao (i:=2) NA.nd rfl (.inl rfl) (Aj BH (pv 2) A1))))
  (Ae (AH (pv 2))))),?_⟩
 refine Ak λ_ zA=>?_;obtain⟨r,u1,u2,u3,u4,u5,ls,hs,rs,rfl,hr1,hu1,_,_,_,_,hu4,_⟩:=hx;obtain⟨r',v1,v2,v3,v4,v5,ls',hs',rs',rfl,hr2,hv1,_,_,_,_,hv4,_⟩:=hy;obtain⟨k1,k2,_,_⟩:=id pl;refine zA ?_;have len1:((AD R.S).map V.str).length=R.S.length:=by rw[Af,EU]
 have len2:((AD R'.S).map V.str).length=R'.S.length:=by rw[Af,EU]
 have l3:=rb.len;have ct:∀(l:List Int) (i:Nat),Ci (l.map V.int) none (some ((i:Int)+1))=(l.take (i+1)).map V.int:=λl i=>by
  have:=S9 (l.map V.int) (k:=(i:Int)+1) (by lia);rw[show((i:Int)+1).toNat=i+1 by lia,←OM]at this;exact this
 refine Ni ?_;refine Dr (fun σ' H'=>A8 H H'/\σ'=[some (.ref r),some (.ref r'),some (.int (s:Int))]) (fun σ' H1 pp=>?_) (λnx=>?_)
 .obtain⟨e,rfl⟩:=pp;exact⟨_,rfl,q _ e⟩
 refine JX s (λi σ' H'=>A8 H H'/\σ'=[some (.ref r),some (.ref r'),some (.int (i:Int))]/\i<=s) ⟨A8.refl _,rfl,Bh _⟩ (λi σ' H' hi pp=>?_) (MT.and (MT.test (ME.op (MR.i0 _) (ME.var _) (ME.cb MB.min7 (MA.cons (ME.cb MB.len (MA.cons (ME.op (MR.ixT _) (ME.var _) (ME.c _)) MA.nil)) (MA.cons (ME.cb MB.len (MA.cons (ME.op (MR.ixT _) (ME.var _) (ME.c _)) MA.nil)) MA.nil))))) (MT.test (ME.op (MR.eqX _ _) (ME.sl7 (ME.op (MR.ixT _) (ME.var _) (ME.c _)) (ME.op (MR.i0 _) (ME.var _) (ME.c _))) (ME.sl7 (ME.op (MR.ixT _) (ME.var _) (ME.c _)) (ME.op (MR.i0 _) (ME.var _) (ME.c _))))));refine Ak λ_ zB=>?_;obtain⟨e,rfl,is⟩:=pp;refine zB ?_;refine⟨_,rfl,_,rfl,r,_,0,_,rfl,rfl,A4.of (e _ _ hr1),rfl,u1,_,rfl,.inr (A4.of (e _ _ hu1)),_,rfl,r',_,0,_,rfl,rfl,A4.of (e _ _ hr2),rfl,v1,_,rfl,.inr (A4.of (e _ _ hv1)),_,_,rfl,_,_,rfl,rfl,_,rfl,?_⟩;rw[len1,len2];refine BN (λy=>?_) (λy=>?_);rotate_left
 .have y:¬(i:Int)<(if((R'.S.length:Nat):Int)<((R.S.length:Nat):Int) then((R'.S.length:Nat):Int) else((R.S.length:Nat):Int)):=dF y;have:i=s:=by
   rcases Ed i s with c|c
   .exact absurd (by split<;>lia) y
   .lia
  subst this;exact nx _ _ ⟨e,rfl⟩
 refine⟨_,rfl,r,_,6,_,rfl,rfl,A4.of (e _ _ hr1),rfl,_,rfl,_,_,rfl,rfl,_,rfl,u4,_,rfl,e _ _ hu4,λp1 H1 e1 hp1=>?_⟩;refine⟨_,rfl,r',_,6,_,rfl,rfl,A4.of ((e.trans e1) _ _ hr2),rfl,_,rfl,_,_,rfl,rfl,_,rfl,v4,_,rfl,(e.trans e1) _ _ hv4,λp2 H2 e2 hp2=>?_⟩;have hp1:H1 p1=some (.tup (Ci (R.path.map V.int) none (some ((i:Int)+1)))):=hp1;have hp2:H2 p2=some (.tup (Ci (R'.path.map V.int) none (some ((i:Int)+1)))):=hp2;rw[ct]at hp1 hp2;have e02:=e.trans (e1.trans e2);refine Yd (e2 _ _ hp1) hp2 ⟨_,rfl,?_⟩;have te:=Xa rb.pl rb'.pl pl is;refine BN (λy=>?_) (λy=>?_)
 .have c:=te.mp (Fk y);exact⟨c,_,rfl,_,_,rfl,rfl,e02,rfl,c⟩
 .have:i=s:=by
   rcases Ed i s with c|c
   .exact absurd (BU (te.mpr c)) y
   .lia
  subst this;exact nx _ _ ⟨e02,rfl⟩
theorem RQ (T:Tx w K mg a):∀n:Nat,AI P w K mg base AN (n+2) a.f_g a.d_g ["_law_boughs","_law_depth"] (Rp n)
 |
  0=>by
  have no:∀vs H Q E,¬Rp 0 vs H Q E:=λvs H Q E h=>by
   obtain⟨l,d,m,B,_,_,_,hm,_⟩:=h;lia
  exact⟨λvs H Q E h=>absurd h (no vs H Q E),λA outer s H args us vs Q E _ _ _ _ h=>absurd h (no vs H Q E)⟩
 |
  n+1=>by
  have G_g:=RQ T n;refine T.F_g.ok Hc (λvs H Q E h=>?_) (λcdv A outer s H vs Q E hr h=>?_)
  .obtain⟨_,_,_,_,rfl,_⟩:=h;rfl
  obtain⟨l,d,mm,B,rfl,⟨xs0,hl,hB⟩,hF,hmn,hd,q⟩:=h;refine⟨_,(A9 (Ao (i:=2) Hc.nd rfl (.inl rfl) (BO A2))
  (A9 (Ao (i:=3) Hc.nd rfl (.inl rfl) A1)
  (A9 (Ko PassesOwn.never (AK Es (pv 3) (B5 BB (by rfl) T.z_len BC (A0 (pv 0) A2)) (AF _))
  (A9 (Ao (i:=4) Hc.nd rfl (.inl rfl) (Aj BH (pv 3) A1))
  (A9 (Bx (AK Co (B5 BB (by rfl) T.z_len BC (A0 (Aa AS (Aa AS (pv 0) (pv 3) (λ_ _=>rfl)) A1 (λ_ _=>rfl)) A2)) (pv 1) (AF _))
  (Ae (Br (BF Bw BR BS BL (pv 2) (A0 (BJ (Ac BY (Ac (Aa AS (Aa AS (pv 0) (pv 3) (λ_ _=>rfl)) A1 (λ_ _=>rfl)) (Ac (Dv F8 (by rfl) T.z_tuple Em (A0 (Aa AS (Aa AS (pv 0) (pv 3) (λ_ _=>rfl)) A1 (λ_ _=>rfl)) A2)) BG E5) DR) B3)) A2))))
  (A9 (Ko PassesOwn.never ((Dy (AK Es (pv 4) (B5 BB (by rfl) T.z_len BC (A0 (pv 0) A2)) (AF _)) (E7 (AK F4 (Aa AS (Aa AS (pv 0) (pv 4) (λ_ _=>rfl)) A1 (λ_ _=>rfl)) (pv 1) (AF _))))).pt
  (Ae (Ao (i:=4) Hc.nd rfl (.inl rfl) (Aj BH (pv 4) A1))))
  (A9 (Ao (i:=5) Hc.nd rfl (.inl rfl) (Aa AS (Aa AS (Aa AS (pv 0) (pv 3) (λ_ _=>rfl)) A1 (λ_ _=>rfl)) (pv 1) (λ_ _=>rfl)))
  (Ae (Br (BF Bw BR BS BL (pv 2) (A0 (BJ (Ac BY (Ac (Aa Al (pv 5) A1 (λ_ _=>rfl)) (Ac (Aa Al (pv 5) A1 (λ_ _=>rfl)) (Ac (Ax G_g (hr.mono (by lia)) (by rfl) T.m_g T.F_g.kp T.b_g .nil Ar (A0 (Gb Mj (pv 0) (Fc (pv 3)) (Fc (pv 4))) (A0 (Aj BH (pv 1) A1) A2))) BG E5) DR) DR) B3)) A2)))))))
  (Ae (Ao (i:=3) Hc.nd rfl (.inl rfl) (pv 4))))))
  (Ae (AH (Dv F8 (by rfl) T.z_tuple Em (A0 (pv 2) A2))))))),?_⟩
  have xl:=hB.1;have Bl:=hF.len;refine⟨Ap rfl,λit hit=>?_⟩;have e1:=Ab hit (.lst []);have hit1:(upd H it (.lst [])) it=some (.lst []):=A7;dsimp only[Aq];generalize upd H it (.lst [])=H1 at e1 hit1;show FF (O5 _ _) (NB _) _ _ _;refine Dr (fun σ' H'=>∃(xs:List V) (f:B8) (o3 o4 o5:Option V),σ'=[some (.ref l),some (.int (d:Int)),some (.ref it),o3,o4,o5]/\A8 H H'/\H' it=some (.lst xs)/\AR H' xs f/\Fo.Is f B d/\xs.length<=1000) (fun σ' H' pp=>?_) (λnx=>?_)
  .obtain⟨xs,f,o3,o4,o5,rfl,e,hx,hf,hI,xl⟩:=pp;refine⟨_,rfl,it,_,rfl,.inl ⟨A3.of hx,λt ht=>?_⟩⟩;have s1:=Ab ht (.tup xs);exact q t _ f (e.trans s1) ⟨xs,A7,AR.over s1 hf⟩ hI
  refine JX (B.length+1) (λj σ' H'=>∃(at':Nat) (xs:List V) (f:B8) (o4 o5:Option V),σ'=[some (.ref l),some (.int (d:Int)),some (.ref it),some (.int (at':Int)),o4,o5]/\A8 H H'/\H' it=some (.lst xs)/\AR H' xs f/\Fo.Is f (B.take at') d/\at'<=B.length/\j<=at'/\xs.length<=at'/\(0<at'->∀c,B[at']?=some c->c.sh=d)) ⟨0,[],.nil,none,none,rfl,e1,hit1,rfl,rfl,Bh _,Ah _,Ah _,λz=>absurd z (Ea _)⟩ (λj σ' H' hj pp=>?_) (MT.test (ME.op (MR.i0 _) (ME.var _) (ME.cb MB.len (MA.cons (ME.var _) MA.nil))));refine Ak λ_ zA=>?_;obtain⟨at',xs,f,o4,o5,rfl,e,hx,hf,hI,hat,hja,xsl,hhd⟩:=pp;refine zA ?_;have hl':=e _ _ hl;refine⟨_,rfl,_,rfl,l,_,rfl,.inl (A3.of hl'),_,_,rfl,rfl,_,rfl,?_⟩;refine BN (λc=>?_) (λc=>?_);rotate_left
  .have c:=dF c;have:at'=B.length:=by lia
   subst this;rw[E1]at hI;exact nx _ _ ⟨xs,f,_,_,_,rfl,e,hx,hf,hI,by lia⟩
  have c:=dT c;have hlt:at'<B.length:=by rw[xl]at c;exact Int.ofNat_lt.mp c
  refine⟨by lia,?_⟩;have Ba:B[at']?=some B[at']:=AE hlt;generalize hb:B[at']=b at Ba;refine Ak λ_ zB=>?_;obtain⟨x0,hx0,hbo⟩:=hB.get Ba;obtain⟨t,w0,p0,rfl,ht,⟨wx,hw,haw⟩,⟨px,hp,hap⟩⟩:=hbo.over e;refine zB ?_;have at0:B1 xs0 (at':Int)=some (.ref t):=BA hx0;have wxl:=haw.1;have memb:b∈B:=B0 Ba;refine⟨_,rfl,_,_,rfl,rfl,?_⟩;dsimp only[Aq];refine Dr (fun σ' H'=>∃(m:Nat) (xs:List V) (f:B8) (o5:Option V),σ'=[some (.ref l),some (.int (d:Int)),some (.ref it),some (.int (at':Int)),some (.int (m:Int)),o5]/\A8 H H'/\H' it=some (.lst xs)/\AR H' xs f/\Fo.Is f (B.take m) d/\at'<m/\m<=B.length/\xs.length<=m/\(∀c,B[m]?=some c->c.sh=d)) (fun σ' H2 pp=>?_) (λnx2=>?_)
  .obtain⟨m,xs2,f2,o5',rfl,e2,hx2,hf2,hI2,hm1,hm2,xl2,hh2⟩:=pp;exact⟨_,rfl,m,xs2,f2,_,_,rfl,e2,hx2,hf2,hI2,hm2,by lia,xl2,λ_=>hh2⟩
  refine⟨_,rfl,_,rfl,l,_,_,_,rfl,rfl,A3.of hl',at0,t,_,2,_,rfl,rfl,A3.of ht,rfl,w0,_,rfl,.inl (A3.of hw),_,rfl,rfl,_,rfl,?_⟩;rw[wxl];by_cases cd:b.ways.length=d
  .refine Be (v:=true) (BU (congrArg (λn:Nat=>V.int (n:Int)) cd)) (C6 ?_);refine⟨_,rfl,.inl ⟨rfl,_,A3.of hx⟩,_,rfl,_,rfl,l,_,_,_,rfl,rfl,A3.of hl',at0,t,_,0,_,rfl,rfl,A3.of ht,rfl,_,rfl,_,rfl,l,_,_,_,rfl,rfl,A3.of hl',at0,t,_,3,_,rfl,rfl,A3.of ht,rfl,p0,_,rfl,.inl ⟨A3.of hp,λpt hpt=>⟨Ap rfl,λr hr=>?_⟩⟩⟩;have s1:=(Ab hpt (.tup px)).trans (Ab hr (.tup [V.str "deed",V.int b.k,V.ref pt]));have hr1:(upd (upd H' pt (.tup px)) r (.tup [V.str "deed",V.int b.k,V.ref pt])) r=some (.tup [V.str "deed",V.int b.k,V.ref pt]):=A7;have hpt1:(upd (upd H' pt (.tup px)) r (.tup [V.str "deed",V.int b.k,V.ref pt])) pt=some (.tup px):=(Ab hr _) _ _ A7;generalize upd (upd H' pt (.tup px)) r (.tup [V.str "deed",V.int b.k,V.ref pt])=H2 at s1 hr1 hpt1;have hx2:=s1 _ _ hx;refine⟨it,_,_,rfl,rfl,hx2,BK (by lia),?_⟩;have tk:TK H2 (upd H2 it (.lst (xs++[V.ref r]))):=TK.upd hx2;refine nx2 _ _ ⟨at'+1,xs++[.ref r],Fo.app f (.leaf b.k b.pl .nil),_,rfl,λa o ha=>by rw[Ag (Av ha hit)];exact s1 _ _ (e _ _ ha),A7,?_,?_,Ig _,hlt,by rw[Ai,Bc];lia,λc hc=>?_⟩
   .exact AR.tk tk (AR.app (AR.over s1 hf) ⟨r,pt,[],rfl,hr1,⟨px,hpt1,hap.mono λx v z=>z.over s1⟩,rfl⟩)
   .rw[CL Ba];refine S3 hI (Fo.Is.leaf1 cd) (λz c hc=>?_);cases hc;exact hhd (by rcases Nat.eq_zero_or_pos at' with z0|z0;exact absurd (by rw[z0];rfl) z;exact z0) b Ba
   .have h1:=(hF.ok.ln at' b c Ba hc).1;have h2:=hF.sh at' c hc;lia
  .refine Be (v:=false) (C9 λz=>cd (O4 z)) (By ?_);have hlo:=hF.lo b memb;have hhi:=hF.hi b memb;obtain⟨mn,rfl⟩:∃k,mm=k+1:=⟨mm-1,by lia⟩
   refine Dr (fun σ' H2=>H2=H'/\∃(m:Nat),σ'=[some (.ref l),some (.int (d:Int)),some (.ref it),some (.int (at':Int)),some (.int (m:Int)),o5]/\at'<m/\m<=B.length/\(∀i c,at'<i->i<m->B[i]?=some c->d<c.sh)/\(∀c,B[m]?=some c->c.sh<=d)) (fun σ' H2 pp=>?_) (λnx3=>?_);rotate_left
   .refine JX B.length (λj σ' H2=>H2=H'/\∃(m:Nat),σ'=[some (.ref l),some (.int (d:Int)),some (.ref it),some (.int (at':Int)),some (.int (m:Int)),o5]/\m=at'+1+j/\m<=B.length/\(∀i c,at'<i->i<m->B[i]?=some c->d<c.sh)) ⟨rfl,at'+1,rfl,rfl,hlt,λi c h1 h2=>absurd h2 (Nat.not_lt.mpr h1)⟩ (λj σ' H2 hj pp=>?_) (MT.and (MT.test (ME.op (MR.i0 _) (ME.var _) (ME.cb MB.len (MA.cons (ME.var _) MA.nil)))) (MT.test (ME.op (MR.i0 _) (ME.op (MR.ixL _) (ME.op (MR.ixL _) (ME.var _) (ME.var _)) (ME.c _)) (ME.var _))));refine Ak λ_ zC=>?_;obtain⟨rfl,m,rfl,hm,hmB,hG⟩:=pp;refine zC ?_;refine⟨_,rfl,_,rfl,l,_,rfl,.inl (A3.of hl'),_,_,rfl,rfl,_,rfl,?_⟩;refine BN (λc=>?_) (λc=>nx3 _ _ ⟨rfl,m,rfl,by lia,hmB,hG,λc' hc'=>?_⟩)
    .have c:=dT c;refine Ak λ_ zD=>?_;have hmlt:m<B.length:=by rw[xl]at c;exact Int.ofNat_lt.mp c
     have Bm:B[m]?=some B[m]:=AE hmlt;obtain⟨x1,hx1,hbo1⟩:=hB.get Bm;obtain⟨t1,w1,p1,rfl,ht1,_,_⟩:=hbo1.over e;refine zD ?_;refine⟨_,rfl,_,rfl,l,_,_,_,rfl,rfl,A3.of hl',BA hx1,t1,_,1,_,rfl,rfl,A3.of ht1,rfl,_,rfl,_,_,rfl,rfl,_,rfl,?_⟩;refine BN (λc=>?_) (λc=>nx3 _ _ ⟨rfl,m,rfl,by lia,hmB,hG,λc' hc'=>?_⟩)
     .have c:=dT c;refine⟨by lia,_,rfl,_,_,rfl,rfl,rfl,m+1,rfl,by lia,hmlt,λi c' h1 h2 h3=>?_⟩;by_cases z:i=m
      .subst z;rw[Bm]at h3;cases h3;lia
      .exact hG i c' h1 (by lia) h3
     .have c:=dF c;rw[Bm]at hc';cases hc';lia
    .have c:=dF c;have:=(Aw.mp hc').1;lia
   refine Ak λ_ zE=>?_;obtain⟨rfl,m,rfl,hm1,hm2,hG,hend⟩:=pp;have hwd:d<b.ways.length:=Nat.lt_of_le_of_ne hlo (Ne.symm cd);have Wd:b.ways[d]?=some b.ways[d]:=AE hwd;obtain⟨xw,hxw,tw,rfl,htw⟩:=haw.get Wd;refine zE ?_;refine⟨_,rfl,_,rfl,l,_,_,_,rfl,rfl,A3.of hl',at0,t,_,2,_,rfl,rfl,A3.of ht,rfl,_,rfl,w0,_,_,_,rfl,rfl,A3.of hw,BA hxw,?_⟩;refine⟨_,rfl,.inl ⟨rfl,_,A3.of hx⟩,_,rfl,tw,_,0,_,rfl,rfl,A4.of htw,rfl,_,rfl,tw,_,1,_,rfl,rfl,A4.of htw,rfl,?_⟩;have cy:Ci xs0 (some (at':Int)) (some (m:Int))=(xs0.drop at').take (m-at'):=by
    have:Ci xs0 (some (at':Int)) (some (m:Int))=(xs0.drop (at':Int).toNat).take ((m:Int).toNat-(at':Int).toNat):=OY xs0 (KB _) (KB _) (by rw[xl];exact Int.ofNat_le.mpr hm2) (Int.ofNat_le.mpr (Ff hm1));rw[this,Fg,Fg]
   refine⟨_,rfl,_,rfl,_,rfl,_,rfl,_,rfl,l,_,rfl,A3.of hl',λsl hsl=>?_⟩;have s1:=Ab hsl (.lst (Ci xs0 (some (at':Int)) (some (m:Int))));have hsl1:(upd H2 sl (.lst (Ci xs0 (some (at':Int)) (some (m:Int))))) sl=some (.lst ((xs0.drop at').take (m-at'))):=by rw[←cy];exact A7
   generalize upd H2 sl (.lst (Ci xs0 (some (at':Int)) (some (m:Int))))=H3 at s1 hsl1;refine⟨_,rfl,_,_,rfl,rfl,sl,d+1,mn,(B.drop at').take (m-at'),rfl,⟨_,hsl1,((hB.mono λx v z=>z.over (e.trans s1)).drop at').take (m-at')⟩,hF.group Ba cd hm1 hG,by lia,by lia,λr H4 f' e4 hf' hI'=>⟨Ap rfl,λr2 hr2=>?_⟩⟩;have s5:=Ab hr2 (.tup [V.str "sweep",V.bl (b.ways[d]).1,V.str (b.ways[d]).2,V.ref r]);have hr5:(upd H4 r2 (.tup [V.str "sweep",V.bl (b.ways[d]).1,V.str (b.ways[d]).2,V.ref r])) r2=some (.tup [V.str "sweep",V.bl (b.ways[d]).1,V.str (b.ways[d]).2,V.ref r]):=A7;have e5:=(s1.trans e4).trans s5;have hf5:=hf'.over s5;generalize upd H4 r2 (.tup [V.str "sweep",V.bl (b.ways[d]).1,V.str (b.ways[d]).2,V.ref r])=H5 at e5 hr5 hf5;have hx5:=e5 _ _ hx;refine⟨it,_,_,rfl,rfl,hx5,BK (by lia),?_⟩;refine Ak λ_ zF=>?_;have tk:TK H5 (upd H5 it (.lst (xs++[V.ref r2]))):=TK.upd hx5;obtain⟨zs,hz1,hz2⟩:=hf5;refine zF ?_;refine nx2 _ _ ⟨m,xs++[.ref r2],Fo.app f (.node (b.ways[d]).1 (b.ways[d]).2 f' .nil),_,rfl,λa o ha=>by rw[Ag (Av ha hit)];exact e5 _ _ (e _ _ ha),A7,?_,?_,hm1,hm2,by rw[Ai,Bc];lia,λc hc=>?_⟩
   .exact AR.tk tk (AR.app (AR.over e5 hf) ⟨r2,r,zs,[],rfl,hr5,hz1,hz2,rfl⟩)
   .rw[←WU B (Ff hm1)];have sl1:(B.drop at').take (m-at')=b::(B.drop (at'+1)).take (m-at'-1):=by
     rw[GT hlt,hb];obtain⟨k,hk⟩:∃k,m-at'=k+1:=⟨m-at'-1,by lia⟩
     rw[hk];rfl
    rw[sl1]at hI' ⊢;refine S3 hI (Fo.Is.node1 Wd (λc hc=>?_) hI') (λz c hc=>?_)
    .obtain⟨i,hi⟩:=ES.mp hc;have l2:=(Aw.mp hi).1;rw[BQ]at l2;rw[Ih (by lia),MD]at hi;exact hG (at'+1+i) c (by lia) (by lia) hi
    .cases hc;exact hhd (by rcases Nat.eq_zero_or_pos at' with z0|z0;exact absurd (by rw[z0];rfl) z;exact z0) b Ba
   .have h1:=hend c hc;have h2:=hF.sh (m-1) c (by rw[show m-1+1=m by lia];exact hc);lia
theorem WX (T:Tx w K mg a):AI P w K mg base AN 2 a.f_u a.d_u ["_law_rows_here"] Vf:=by
 have G_T :=@Z6 P w K mg base a T;refine T.F_u.ok IE (λvs H Q E h=>?_) (λcdv A outer s H vs Q E hr h=>?_)
 .obtain⟨_,_,_,_,rfl,_⟩:=h;rfl
 obtain⟨l,xs,Rs,sh,rfl,hl,ax,own,q⟩:=h;refine⟨_,(A9 (Ao (i:=1) IE.nd rfl (.inl rfl) (BO A2))
  (A9 (C2 PassesOwn.never rfl (F0 (by rfl) T.z_range (A0 (B5 BB (by rfl) T.z_len BC (A0 (pw 0) A2)) A2)) (Az (i:=2) IE.nd rfl (.inl rfl))
  (A9 (Ao (i:=3) IE.nd rfl (.inl rfl) (B5 BB (by rfl) T.z_len BC (A0 (Aa Al (Aa AS (pw 0) (pw 2) (λ_ _=>rfl)) A1 (λ_ _=>rfl)) A2)))
  (A9 (Ao (i:=4) IE.nd rfl (.inl rfl) A1)
  (A9 (Bx (AK (Bi F4) (pw 2) A1 (AF _))
  (Ae (Ao (i:=4) IE.nd rfl (.inl rfl) (Ax G_T (hr.mono (by lia)) (by rfl) T.m_T T.F_T.kp T.b_T .nil Ar (A0 (Aa AS (pw 0) (Aj (Bi EO) (pw 2) A1) (λ_ _=>rfl)) (A0 (Aa AS (pw 0) (pw 2) (λ_ _=>rfl)) A2)))))
  BW)
  (Ae (Br (BF Bw BR BS BL (pw 1) (A0 (BO (A0 (pw 2) (A0 (pw 4) (A0 (Aj NZ (BO (A0 (BX (A0 F5 (A0 BY A2))) A2)) (pw 3)) (A0 (F1 ["_law_e"] [none] (by rfl) (F0 (by rfl) T.z_range (A0 (pw 3) A2)) Vb (λ_ _ _ _ _ _=>⟨(Az (i:=0) Z2 rfl (.inl rfl)),Ef,(BX (A0 (pw 0) (A0 A1 A2)))⟩)) A2))))) A2))))))))
  (Ae (AH (pw 1))))),?_⟩
 have xl:=ax.1;have n6:=own.n6;refine⟨Ap rfl,λbo hbo=>?_⟩;have s1:=Ab hbo (.lst []);have hb1:(upd H bo (.lst [])) bo=some (.lst []):=A7;dsimp only[Aq];generalize upd H bo (.lst [])=H1 at s1 hb1;refine⟨l,_,rfl,.inl (A3.of (s1 _ _ hl)),_,rfl,by lia,by lia,?_⟩;rw[Fg,xl];refine GA (lo:=0) (n:=Rs.length) (λi σ' H'=>∃(ys:List V) (o2 o3 o4:Option V),σ'=[some (.ref l),some (.ref bo),o2,o3,o4]/\A8 H H'/\H' bo=some (.lst ys)/\Am (ID (wo H' bo)) ys ((B7 Rs sh).take i)/\ys.length=i) ⟨[],_,_,_,rfl,s1,hb1,.nil,rfl⟩ (λi σ' H' hi pp=>?_) (fun σ' H' pp=>?_);rotate_left
 .obtain⟨ys,o2,o3,o4,rfl,e,hb,ab,yl⟩:=pp;refine q bo _ e ⟨ys,hb,?_⟩;rw[Gg (by rw[Af,C8,Af];exact Ah _)]at ab;exact ab.mono λ_ _ z=>z.over MW
 refine Ak λ_ zA=>?_;obtain⟨ys,o2,o3,o4,rfl,e,hb,ab,yl⟩:=pp;refine zA ?_;have hR:=(own.get hi).1;generalize hRe:Rs[i]=R at hR;refine Ak λ_ zB=>?_;obtain⟨x,hx,h6⟩:=ax.get hR;obtain⟨r,u1,u2,u3,u4,u5,ls,hs,rs,ex,hr1,hu1,hrest⟩:=id h6;refine zB ?_;have rb:=own.rb R (B0 hR);have l3:=rb.len;have at0:B1 xs (0+(i:Int))=some (.ref r):=by rw[Gi,←ex];exact BA hx
 have ml:((AD R.S).map V.str).length=R.S.length:=by rw[Af,EU]
 dsimp only[Aq];refine⟨l,_,_,_,rfl,rfl,A3.of (e _ _ hl),at0,r,_,0,_,rfl,rfl,A4.of (e _ _ hr1),rfl,u1,_,rfl,.inr (A4.of (e _ _ hu1)),?_⟩;dsimp only[Aq];rw[ml];refine Ni ?_;refine Dr (fun σ' H2=>A8 H' H2/\σ'=[some (.ref l),some (.ref bo),some (.int (0+(i:Int))),some (.int ((R.S.length:Nat):Int)),some (.int ((sh i:Nat):Int))]) (fun σ' H2 pp=>?_) (λnx=>?_);rotate_left
 .refine⟨_,rfl,?_⟩;refine BN (λy=>?_) (λy=>?_)
  .have y:(0:Int)<0+(i:Int):=dT y;refine Ak λ_ zC=>?_;obtain⟨j,rfl⟩:∃j,i=j+1:=⟨i-1,by lia⟩
   have hR0:=(own.get (k:=j) (by lia)).1;obtain⟨x0,hx0,h60⟩:=ax.get hR0;refine zC ?_;have p:=own.pl j _ R hR0 hR;have at1:B1 xs (0+((j+1:Nat):Int)-1)=some x0:=by rw[show(0+((j+1:Nat):Int)-1)=(j:Int) by lia];exact BA hx0
   refine⟨l,_,_,_,rfl,rfl,A3.of (e _ _ hl),at1,l,_,_,_,rfl,rfl,A3.of (e _ _ hl),at0,x0,.ref r,_,R,sh (j+1),rfl,h60.tk (A8.tk e),by rw[←ex];exact h6.tk (A8.tk e),(own.get (k:=j) (by lia)).2,rb,p,λH2 e2=>nx _ _ ⟨e2,rfl⟩⟩
  .have y:¬(0:Int)<0+(i:Int):=dF y;obtain rfl:i=0:=by lia
   exact nx _ _ ⟨A8.refl _,by rw[own.s0];rfl⟩
 obtain⟨e2,rfl⟩:=pp;have hb2:=e2 _ _ hb;have gb:=GC (sh:=sh) hi;have mo:=m7 hR;refine⟨.inl ⟨rfl,_,A3.of hb2⟩,Ap rfl,λu hu=>?_⟩;have s3:=Ab hu (.tup [V.bl false,V.str "up"]);have hu3:(upd H2 u (.tup [V.bl false,V.str "up"])) u=some (.tup [V.bl false,V.str "up"]):=A7;have e3:=e2.trans s3;have hb3:=s3 _ _ hb2;generalize upd H2 u (.tup [V.bl false,V.str "up"])=H3 at s3 hu3 e3 hb3;refine⟨Ap rfl,λu1 hu1=>?_⟩;have s4:=Ab hu1 (.lst [V.ref u]);have hu4:(upd H3 u1 (.lst [V.ref u])) u1=some (.lst [V.ref u]):=A7;have e4:=e3.trans s4;have hb4:=s4 _ _ hb3;have hv4:=s4 _ _ hu3;generalize upd H3 u1 (.lst [V.ref u])=H4 at s4 hu4 e4 hb4 hv4;refine⟨u1,_,_,rfl,rfl,hu4,by lia,by lia,BD (by show 1*_<=1000000;lia),λw hw=>?_⟩;rw[Fg,List.flatten_replicate_singleton];have s5:=Ab hw (.lst (List.replicate R.S.length (V.ref u)));have hw5:(upd H4 w (.lst (List.replicate R.S.length (V.ref u)))) w=some (.lst (List.replicate R.S.length (V.ref u))):=A7;have e5:=e4.trans s5;have hb5:=s5 _ _ hb4;have hv5:=s5 _ _ hv4;have nw:w≠bo:=λz=>by rw[z,hb4]at hw;cases hw
 generalize upd H4 w (.lst (List.replicate R.S.length (V.ref u)))=H5 at s5 hw5 e5 hb5 hv5;refine⟨(R.S.length:Int),rfl,by lia,by lia,?_⟩;rw[show((R.S.length:Int)).toNat=R.S.length by lia];refine NT (lo:=0) (n:=R.S.length) (λj zs' H6=>A8 H5 H6/\Am (Fp H6) zs' ((Fo.ownP R.S.length).take j)) ⟨A8.refl _,.nil⟩ (BD (by lia)) (λj zs' H6 hj pp=>by rw[pp.2.1,BQ,Ir];lia) (λj zs' H6 hj pp=>?_) (λzs' H6 pp l2 hl2=>?_)
 .obtain⟨e6,ap⟩:=pp;rw[Gi];refine⟨Ap rfl,λu2 hu2=>?_⟩;have s7:=Ab hu2 (.tup [V.int (j:Int),V.int 0]);refine⟨e6.trans s7,?_⟩;rw[P7 _ j hj];exact(ap.mono λ_ _ z=>z.over s7).snoc ⟨u2,rfl,A7⟩
 obtain⟨e6,ap⟩:=pp;rw[Gg (by rw[Ir];exact Ah _)]at ap;have hb6:=e6 _ _ hb5;have np:l2≠bo:=λz=>by rw[z,hb6]at hl2;cases hl2
 have s7:=Ab hl2 (.lst zs');have hp7:(upd H6 l2 (.lst zs')) l2=some (.lst zs'):=A7;have ap7:=ap.mono λ_ _ z=>z.over s7;have e7:=(e5.trans e6).trans s7;have hw7:=(e6.trans s7) _ _ hw5;have hv7:=(e6.trans s7) _ _ hv5;have hb7:=s7 _ _ hb6;generalize upd H6 l2 (.lst zs')=H7 at s7 hp7 ap7 e7 hw7 hv7 hb7;refine⟨Ap rfl,λt ht=>?_⟩;have nt:t≠bo:=λz=>by rw[z,hb7]at ht;cases ht
 have s8:=Ab ht (.lst [V.int (0+(i:Int)),V.int ((sh i:Nat):Int),V.ref w,V.ref l2]);have ht8:(upd H7 t (.lst [V.int (0+(i:Int)),V.int ((sh i:Nat):Int),V.ref w,V.ref l2])) t=some (.lst [V.int (0+(i:Int)),V.int ((sh i:Nat):Int),V.ref w,V.ref l2]):=A7;have e8:=e7.trans s8;have hb8:=s8 _ _ hb7;have hw8:=s8 _ _ hw7;have hv8:=s8 _ _ hv7;have hp8:=s8 _ _ hp7;have ap8:=ap7.mono λ_ _ z=>z.over s8;generalize upd H7 t (.lst [V.int (0+(i:Int)),V.int ((sh i:Nat):Int),V.ref w,V.ref l2])=H8 at s8 ht8 e8 hb8 hw8 hv8 hp8 ap8;refine⟨bo,_,_,rfl,rfl,hb8,BK (by lia),?_⟩;refine⟨ys++[.ref t],_,_,_,rfl,λb o hbb=>?_,A7,?_,by rw[Ai,yl];rfl⟩
 .have nb:b≠bo:=λz=>by rw[z,hbo]at hbb;cases hbb
  rw[Ag nb];exact(e.trans e8) _ _ hbb
 rw[Lm,CL gb];refine(ab.mono λ_ _ z=>z.over (FM e8)).snoc ?_;refine Zi hb8 nt nw np (by rw[ht8,Gi];rfl) ⟨_,hw8,?_⟩ ⟨_,hp8,?_⟩
 .show Am _ _ (List.replicate (BP (Rs.map R3.dw) i) (false,("up":Str)));rw[mo];refine⟨by rw[DB,DB],?_⟩;intro j x b hx hb';rw[List.eq_of_mem_replicate (B0 hx),List.eq_of_mem_replicate (B0 hb')];exact⟨u,rfl,hv8⟩
 .show Am _ _ (Fo.ownP (BP (Rs.map R3.dw) i));rw[mo];exact ap8
theorem Uk (T:Tx w K mg a):AI P w K mg base AN 1 a.f_j a.d_j ["_law_found"] Zc:=by
 refine T.F_j.ok Z5 (λvs H Q E h=>?_) (λcdv A outer s H vs Q E hr h=>?_)
 .obtain⟨_,_,_,rfl,_⟩:=h;rfl
 obtain⟨v,r,ys,rfl,hv,hr',q⟩:=h;refine⟨_,(Ae (AH (Kn (B5 MV (by rfl) T.z_isinstance NN (A0 (pw 0) (A0 (Nd (v:=.ty "tuple") (by rfl) T.z_tuple Em rfl) A2))) (Kn (GB Co (B5 BB (by rfl) T.z_len BC (A0 (pw 0) A2)) A1 (AF _)) (Kn (GB Co (Aa Al (pw 0) A1 (λ_ _=>rfl)) BY (AF _)) (L6 (B5 MV (by rfl) T.z_isinstance NN (A0 (Aa Al (pw 0) A1 (λ_ _=>rfl)) (A0 (Nd (v:=.ty "list") (by rfl) T.z_list GW rfl) A2))))))))),?_⟩;refine⟨_,_,_,_,true,rfl,rfl,.tup hv,rfl,_,rfl,C6 ?_⟩;refine⟨v,_,rfl,.inr (A4.of hv),rfl,_,rfl,Be (v:=true) (BU rfl) (C6 ?_)⟩;refine⟨v,_,0,_,rfl,rfl,A4.of hv,rfl,rfl,_,rfl,Be (v:=true) (BU rfl) (C6 ?_)⟩;exact⟨v,_,1,_,rfl,rfl,A4.of hv,rfl,_,_,_,_,true,rfl,rfl,.lst hr',rfl,q _ (A8.refl _)⟩
theorem ok_law (T:Tx w K mg a):AI P w K mg base AN 120 a.f_U a.d_U ["_law_script"] (Oc K):=by
 have G_a :=@Tf P w K mg base a T;have G_c :=@Of P w K mg base a T;have G_Q :=@YO P w K mg base a T;have G_S :=@Yu P w K mg base a T;have G_u :=@WX P w K mg base a T;have G_g :=@RQ P w K mg base a T 7;have G_q :=@Xj P w K mg base a T;have G_h :=@ZZ P w K mg base a T;have G_j :=@Uk P w K mg base a T;refine T.F_U.ok DV (λvs H Q E h=>?_) (λcdv A outer s H vs Q E hr h=>?_)
 .obtain⟨_,_,rfl,_⟩:=h;rfl
 obtain⟨p,ns,rfl,hp,h63,_,q⟩:=h;refine⟨_,(A9 (Ao (i:=1) DV.nd rfl (.inl rfl) A1)
  (A9 (Bx (AK Co (Aj C0 (Ax G_a (hr.mono (by lia)) (by rfl) T.m_a T.F_a.kp T.b_a .nil Ar (A0 (pv 0) (A0 A1 A2))) A1) A1 (AF _))
  (Ae (Ao (i:=1) DV.nd rfl (.inl rfl) (Aj Hy (Aj C0 (Ax G_a (hr.mono (by lia)) (by rfl) T.m_a T.F_a.kp T.b_a .nil Ar (A0 (pv 0) (A0 A1 A2))) (Aj Wj A1 A1)) (Aa Al (BX (A0 A1 (A0 (DL DH A1) A2))) (Aj C0 (Ax G_a (hr.mono (by lia)) (by rfl) T.m_a T.F_a.kp T.b_a .nil Ar (A0 (pv 0) (A0 A1 A2))) A1) (λ_ _=>rfl)))))
  BW)
  (A9 (Ao (i:=2) DV.nd rfl (.inl rfl) (Aa Al (BJ (Ac A1 (Ac A1 (Ac A1 (Ac A1 BG B3) B3) B3) B3)) (Aj C0 (Aj DK (Ax G_a (hr.mono (by lia)) (by rfl) T.m_a T.F_a.kp T.b_a .nil Ar (A0 (pv 0) (A0 A1 A2))) A1) A1) (λ_ _=>rfl)))
  (A9 (Ao (i:=3) DV.nd rfl (.inl rfl) (Aa Al (BJ (Ac A1 (Ac A1 (Ac A1 (Ac A1 (Ac A1 BG B3) B3) B3) B3) B3)) (Aj C0 (Ax G_c (hr.mono (by lia)) (by rfl) T.m_c T.F_c.kp T.b_c .nil Ar (A0 (Ax G_a (hr.mono (by lia)) (by rfl) T.m_a T.F_a.kp T.b_a .nil Ar (A0 (pv 0) (A0 A1 A2))) (A0 A1 A2))) A1) (λ_ _=>rfl)))
  (A9 (O9 (i:=4) ["_law_k","_law_script"] [none,some 0] DV.nd rfl (.inl rfl) (by rfl) (F0 (by rfl) T.z_range (A0 (Aa Al (BJ (Ac A1 (Ac A1 (Ac A1 BG B3) B3) B3)) (pv 3) (λ_ _=>rfl)) A2)) Yk (λ_ _ _ _ _ _=>⟨(Az (i:=0) Y3 rfl (.inl rfl)),Ef,(Ax G_a (hr.mono (by lia)) (by rfl) T.m_a T.F_a.kp T.b_a .nil Ar (A0 (pv 1) (A0 (Aj BH A1 (pv 0)) A2)))⟩))
  (A9 (Ao (i:=5) DV.nd rfl (.inl rfl) (Ax G_Q (hr.mono (by lia)) (by rfl) T.m_Q T.F_Q.kp T.b_Q .nil Ar (A0 (pv 4) (A0 (Aa Al (BJ (Ac (pv 2) (Ac A1 (Ac (Aj BH A1 (Aj C0 (pv 2) A1)) BG Ek) B3) Bg)) (pv 3) (λ_ _=>rfl)) (A0 (Aa Al (BJ (Ac A1 (Ac A1 (Ac A1 BG B3) B3) B3)) (pv 3) (λ_ _=>rfl)) (A0 (pv 1) A2))))))
  (A9 (Ao (i:=6) DV.nd rfl (.inl rfl) (Ax G_S (hr.mono (by lia)) (by rfl) T.m_S T.F_S.kp T.b_S .nil Ar (A0 (pv 5) A2)))
  (A9 (Ao (i:=7) DV.nd rfl (.inl rfl) (Ax G_g (hr.mono (by lia)) (by rfl) T.m_g T.F_g.kp T.b_g .nil Ar (A0 (Ax G_u (hr.mono (by lia)) (by rfl) T.m_u T.F_u.kp T.b_u .nil Ar (A0 (pv 5) A2)) (A0 A1 A2))))
  (A9 (Ao (i:=8) DV.nd rfl (.inl rfl) (Dv Kd (by rfl) T.z_list GW (A0 (B9 (pv 6) rfl) A2)))
  (A9 (Ao (i:=9) DV.nd rfl (.inl rfl) (Ax G_q (hr.mono (by lia)) (by rfl) T.m_q T.F_q.kp T.b_q .nil Ar (A0 (pv 6) A2)))
  (A9 (Ao (i:=10) DV.nd rfl (.inl rfl) (Ax G_h (hr.mono (by lia)) (by rfl) T.m_h T.F_h.kp T.b_h .nil Ar (A0 (pv 6) (A0 (pv 7) A2))))
  (A9 (Bx ((FL (Hh (Fl (B5 MV (by rfl) T.z_isinstance NN (A0 (pv 9) (A0 (Nd (v:=.ty "tuple") (by rfl) T.z_tuple Em rfl) A2))))) (FL (AK (Nw (GD hr)) (pv 9) (pv 7) (AF _)) (Jb (Hh (Fl (Ax G_j (hr.mono (by lia)) (by rfl) T.m_j T.F_j.kp T.b_j .nil Ar (A0 (pv 10) A2)))))))).pt
  (Ae (AH F5))
  BW)
  (A9 (Ao (i:=11) DV.nd rfl (.inl rfl) (Dv Kd (by rfl) T.z_list GW (A0 (Aa Al (pv 10) A1 (λ_ _=>rfl)) A2)))
  (A9 (Br (LP Bw PySem.F.slot_list_clear PySem.F.type_list_clear YN (Aa Al (pv 10) A1 (λ_ _=>rfl))))
  (A9 (Ao (i:=12) DV.nd rfl (.inl rfl) (Ax G_h (hr.mono (by lia)) (by rfl) T.m_h T.F_h.kp T.b_h .nil Ar (A0 (pv 6) (A0 (pv 9) A2))))
  (A9 (Bx ((FL (Hh (Fl (Ax G_j (hr.mono (by lia)) (by rfl) T.m_j T.F_j.kp T.b_j .nil Ar (A0 (pv 12) A2)))) (FL (AK (Nw (GD hr)) (Aa Al (pv 12) A1 (λ_ _=>rfl)) (pv 11) (AF _)) (Jb (AK (Xo (GD hr)) (B9 (pv 6) rfl) (pv 8) (AF _)))))).pt
  (Ae (AH F5))
  BW)
  (A9 (Bx (AK Co (B5 BB (by rfl) T.z_len BC (A0 (pv 5) A2)) A1 (AF _))
  (Ae (AH F5))
  BW)
  (A9 (Br (LP Bw T6 T7 MU (B9 (pv 6) rfl)))
  (A9 (Ao (i:=13) DV.nd rfl (.inl rfl) (Ax G_g (hr.mono (by lia)) (by rfl) T.m_g T.F_g.kp T.b_g .nil Ar (A0 (Ax G_u (hr.mono (by lia)) (by rfl) T.m_u T.F_u.kp T.b_u .nil Ar (A0 (Gb Mj (pv 5) HR (Fc (DL DH A1))) A2)) (A0 A1 A2))))
  (Ae (AH (Kn (GB (Mg (GD hr)) (Ax G_q (hr.mono (by lia)) (by rfl) T.m_q T.F_q.kp T.b_q .nil Ar (A0 (pv 6) A2)) (pv 13) (AF _)) (L6 (Ax G_j (hr.mono (by lia)) (by rfl) T.m_j T.F_j.kp T.b_j .nil Ar (A0 (Ax G_h (hr.mono (by lia)) (by rfl) T.m_h T.F_h.kp T.b_h .nil Ar (A0 (pv 6) (A0 (pv 13) A2))) A2))))))))))))))))))))))))),?_⟩
 refine Ni ?_;refine Dr (fun σ' H'=>∃far:Int,A8 H H'/\σ'=[some (.ref p),some (.int far),none,none,none,none,none,none,none,none,none,none,none,none]) (fun σ' H1 pp=>?_) (λnx=>?_);rotate_left
 .refine⟨_,rfl,p,ns,0,rfl,hp,by decide,_,_,rfl,rfl,(by show(0:Int)<3;decide),rfl,_,rfl,BN (λ_=>?_) (λ_=>nx _ _ ⟨0,A8.refl _,rfl⟩)⟩;refine⟨_,rfl,p,ns,1,rfl,hp,by decide,_,_,rfl,rfl,⟨by decide,by decide,by decide⟩,_,_,rfl,rfl,(by show(0:Int)<10 ^ (17:Int).toNat;decide),_,rfl,Ap rfl,λu hu=>?_⟩;have s1:=Ab hu (.tup [V.int 1,V.int (-1)]);have hu1:(upd H u (.tup [V.int 1,V.int (-1)])) u=some (.tup [V.int 1,V.int (-1)]):=A7;generalize upd H u (.tup [V.int 1,V.int (-1)])=H1 at s1 hu1;have c0:=Eb (ns.getD (2:Int).toNat 0) (show(2:Int)≠0 by decide);have c1:=Ey (ns.getD (2:Int).toNat 0) (show(0:Int)<2 by decide);obtain⟨g,hg,g0,g1⟩:=GX c0 c1;refine⟨_,rfl,p,ns,2,rfl,s1.seq hp,by decide,_,_,rfl,rfl,(by show(0:Int)<2;decide),u,_,_,_,rfl,rfl,A4.of hu1,hg,_,_,rfl,rfl,.inr ⟨by lia,by lia⟩,nx _ _ ⟨_,s1,rfl⟩⟩
 obtain⟨far,e1,rfl⟩:=pp;have hp1:=e1.seq hp;refine Dz λN hN=>?_;refine⟨Ap rfl,λu2 hu2=>?_⟩;have s2:=Ab hu2 (.tup [V.int 1,V.int 2,V.int 2,V.int 3]);have hv2:(upd H1 u2 (.tup [V.int 1,V.int 2,V.int 2,V.int 3])) u2=some (.tup [V.int 1,V.int 2,V.int 2,V.int 3]):=A7;have hp2:=s2.seq hp1;generalize upd H1 u2 (.tup [V.int 1,V.int 2,V.int 2,V.int 3])=H2 at s2 hv2 hp2;obtain⟨many,hmany,m1,m3⟩:=NI (Eb (ns.getD (0:Int).toNat 0/3) (show(4:Int)≠0 by decide)) (Ey (ns.getD (0:Int).toNat 0/3) (show(0:Int)<4 by decide));refine⟨_,rfl,p,ns,0,rfl,hp2,by decide,_,_,rfl,rfl,⟨by decide,by decide⟩,_,_,rfl,rfl,(by show(0:Int)<4;decide),u2,_,_,_,rfl,rfl,A4.of hv2,hmany,?_⟩;dsimp only[Aq];subst hN;refine Dz λN hN=>?_;refine⟨Ap rfl,λu3 hu3=>?_⟩;have s3:=Ab hu3 (.tup [V.int 0,V.int 1,V.int 2,V.int 0,V.int 0]);have hv3:(upd H2 u3 (.tup [V.int 0,V.int 1,V.int 2,V.int 0,V.int 0])) u3=some (.tup [V.int 0,V.int 1,V.int 2,V.int 0,V.int 0]):=A7;have hp3:=s3.seq hp2;generalize upd H2 u3 (.tup [V.int 0,V.int 1,V.int 2,V.int 0,V.int 0])=H3 at s3 hv3 hp3;refine⟨_,rfl,p,ns,1,rfl,hp3,by decide,_,3,rfl,λmx mx0=>?_⟩;obtain⟨kind,hkind,k3⟩:=NO (Eb mx (show(5:Int)≠0 by decide)) (Ey mx (show(0:Int)<5 by decide));refine⟨_,_,rfl,rfl,(by show(0:Int)<5;decide),u3,_,_,_,rfl,rfl,A4.of hv3,hkind,?_⟩;dsimp only[Aq];subst hN;refine Dz λN hN=>?_;refine⟨Ap rfl,λu4 hu4=>?_⟩;have s4:=Ab hu4 (.tup [V.int 4,V.int 8,V.int 5]);have hv4:(upd H3 u4 (.tup [V.int 4,V.int 8,V.int 5])) u4=some (.tup [V.int 4,V.int 8,V.int 5]):=A7;have hp4:=s4.seq hp3;generalize upd H3 u4 (.tup [V.int 4,V.int 8,V.int 5])=H4 at s4 hv4 hp4;obtain⟨cn,hcn,c3⟩:=JJ (x:=4) (y:=8) (z:=5) k3;have cn0:0<=cn/\cn<=8:=by lia
 refine⟨_,rfl,u4,_,_,_,rfl,rfl,A4.of hv4,hcn,cn,rfl,by lia,by lia,?_⟩;refine NT (lo:=0) (n:=cn.toNat) (λj zs H'=>H'=H4/\∃L:List Int,zs=L.map V.int/\L.length=j) ⟨rfl,[],rfl,rfl⟩ (BD (by lia)) (λj zs H' hj pp=>by obtain⟨_,L,rfl,h⟩:=pp;rw[Af];lia) (λj zs H' hj pp=>?_) (λzs H' pp cl hcl=>?_)
 .obtain⟨rfl,L,rfl,Ll⟩:=pp;refine⟨_,rfl,_,rfl,_,_,rfl,rfl,p,ns,_,rfl,hp4,by lia,rfl,L++[ns.getD (2+(0+(j:Int))).toNat 0],?_,by rw[Ai,Ll];rfl⟩;rw[Bv];rfl
 obtain⟨rfl,L,rfl,Ll⟩:=pp;have s5:=Ab hcl (.lst (L.map V.int));have hc5:(upd H' cl (.lst (L.map V.int))) cl=some (.lst (L.map V.int)):=A7;dsimp only[Aq];subst hN;refine Dz λN hN=>?_;generalize upd H' cl (.lst (L.map V.int))=H5 at s5 hc5;refine⟨_,rfl,_,rfl,_,rfl,_,_,rfl,rfl,(by show(0:Int)<2;decide),_,_,rfl,rfl,Ap rfl,λu5 hu5=>?_⟩;have s6:=Ab hu5 (.tup [V.int many,V.int 6,V.int (1+many%2)]);have hv6:(upd H5 u5 (.tup [V.int many,V.int 6,V.int (1+many%2)])) u5=some (.tup [V.int many,V.int 6,V.int (1+many%2)]):=A7;have hc6:=s6 _ _ hc5;generalize upd H5 u5 (.tup [V.int many,V.int 6,V.int (1+many%2)])=H6 at s6 hv6 hc6;obtain⟨lim,hlim,l3⟩:=JJ (x:=many) (y:=6) (z:=1+many%2) k3;refine⟨_,rfl,u5,_,_,_,rfl,rfl,A4.of hv6,hlim,Ap rfl,λu6 hu6=>?_⟩;have s7:=Ab hu6 (.tup [V.int 2,V.int 1,V.int 3]);have hv7:(upd H6 u6 (.tup [V.int 2,V.int 1,V.int 3])) u6=some (.tup [V.int 2,V.int 1,V.int 3]):=A7;have hc7:=s7 _ _ hc6;generalize upd H6 u6 (.tup [V.int 2,V.int 1,V.int 3])=H7 at s7 hv7 hc7;obtain⟨deep,hdeep,d3⟩:=JJ (x:=2) (y:=1) (z:=3) k3;refine⟨_,rfl,u6,_,_,_,rfl,rfl,A4.of hv7,hdeep,_,rfl,cl,L,lim,deep,far,rfl,A3.of hc7,by lia,by lia,by lia,by lia,by lia,λrl rv H8 Rs e8 _ hrl ar rbt par Rn Rl=>?_⟩;dsimp only[Aq];subst hN;refine Dz λN hN=>?_;clear hcl hu6 hu5 hu4 hu3 hu2 s2 s3 s4 s5 s6 s7 hv2 hv3 hv4 hv6 hv7 hc5 hc6 hc7;have rb:∀R∈Rs,RB R:=λR hR=>(rbt R hR).1;obtain⟨sh,own⟩:=YB Rl rb par;refine⟨_,rfl,rl,rv,Rs,rfl,hrl,ar,Rl,λR hR=>(rb R hR).m3,λx dx dl xs H9 e9 hx dl0 hdl ax=>?_⟩;dsimp only[Aq];subst hN;refine Dz λN hN=>?_;have hrl9:=e9 _ _ hrl;have ar9:=ar.mono λ_ _ z=>z.tk e9.tk;have tz9:∀R∈Rs,EV H9 R:=λR hR=>(rbt R hR).2.tk e9.tk;have okR:∀R∈Rs,R.r5.Ok:=λR hR=>by
  obtain⟨j,hj⟩:=ES.mp hR;obtain⟨y,hy,r6⟩:=ar.get hj;exact bj (rb R hR) r6
 obtain⟨Df,df9⟩:=Pg rb tz9;have ndr:rl≠dl:=Av hrl dl0;have frm:=Px own;refine⟨_,rfl,rl,rv,Rs,sh,rfl,hrl9,ar9,own,λbo H10 e10 hbo=>⟨bo,0,3,B7 Rs sh,rfl,hbo,frm,by decide,by decide,λpl H11 f e11 hpl hf=>?_⟩⟩;dsimp only[Aq];subst hN;refine Dz λN hN=>?_;have e911:=e10.trans e11;have hdl11:=e911 _ _ hdl;have ntf:=QU hf frm;refine⟨_,rfl,x,_,dx,_,_,rfl,e911 _ _ hx,T.cl_Program,T.n_Program_deeds,rfl,dl,_,rfl,.inl (A3.of hdl11),λbe hbe=>?_⟩;have s12:=Ab hbe (.lst xs);have hbe12:(upd H11 be (.lst xs)) be=some (.lst xs):=A7;have e912:=e911.trans s12;have hpl12:=hpl.over s12;dsimp only[Aq];subst hN;refine Dz λN hN=>?_;generalize upd H11 be (.lst xs)=H12 at s12 hbe12 e912 hpl12;have hW:∀HX,A8 H9 HX->Fb a.c_Deed HX dl (Rs.map R3.dw):=λHX e=>⟨xs,e _ _ hdl,Qh (ax.mono λ_ _ z=>(z.over e).wo)⟩
 refine⟨_,rfl,x,dx,dl,.int 1000003,Rs.map R3.dw,rfl,e912 _ _ hx,hW _ e912,own.okW,λto H13 g e13 hto hg=>?_⟩;rw[Fo.is_one _ _ _ _ (own.is hg) hf]at hto;clear hg g;dsimp only[Aq];subst hN;refine Dz λN hN=>?_;have e913:=e912.trans e13;refine⟨_,rfl,_,rfl,x,dx,dl,pl,.int 1000003,xs,Rs,Df,sh,f,rfl,e913 _ _ hx,e913 _ _ hdl,ax.mono λ_ _ z=>z.over e913,okR,own,df9.over e913,hpl12.over e13,hf,λv1 r1 ys1 H14 e14 r10 hv1 hr1 Gm=>?_⟩;dsimp only[Aq];subst hN;refine Dz λN hN=>?_;obtain⟨tv,hto1,hto2⟩:=id (hto.over e14);refine⟨_,rfl,_,_,_,_,true,rfl,rfl,.tup hto1,rfl,_,rfl,By ?_⟩;refine⟨_,rfl,_,rfl,Si (JO (hto.over e14)).tr (JO (hpl12.over (e13.trans e14))).tr ntf ⟨_,rfl,By ?_⟩⟩;refine⟨_,rfl,v1,r1,ys1,rfl,hv1,hr1,λH15 e15=>⟨_,rfl,By ?_⟩⟩;dsimp only[K6];subst hN;refine Dz λN hN=>?_;have hv15:=e15 _ _ hv1;have hr15:=e15 _ _ hr1;have pp15:=Gm.mono λ_ _ z=>z.over (FM (l:=r1) e15);refine⟨_,rfl,v1,_,1,_,rfl,rfl,A4.of hv15,rfl,r1,_,rfl,.inl (A3.of hr15),λpa hpa=>?_⟩;have s16:=Ab hpa (.lst ys1);have hpa16:(upd H15 pa (.lst ys1)) pa=some (.lst ys1):=A7;dsimp only[Aq];subst hN;refine Dz λN hN=>?_;generalize upd H15 pa (.lst ys1)=H16 at s16 hpa16;have hv16:=s16 _ _ hv15;have hr16:=s16 _ _ hr15;have pp16:=pp15.mono λ_ _ z=>z.over (FM (l:=r1) s16);have npa:pa≠r1:=(Av hr15 hpa).symm;have e1316:=e14.trans (e15.trans s16);refine⟨_,rfl,v1,_,1,_,rfl,rfl,A4.of hv16,rfl,.inl ⟨rfl,_,A3.of hr16⟩,r1,_,rfl,rfl,hr16,?_⟩;have k17:A8 H13 (upd H16 r1 (.lst [])):=λb o h=>by
  rw[Ag (Av h r10)];exact e1316 _ _ h
 have hpa17:(upd H16 r1 (.lst [])) pa=some (.lst ys1):=by rw[Ag npa];exact hpa16
 have pp17:Am (Ga (upd H16 r1 (.lst []))) ys1 (K4 Rs Df sh):=by
  have:Am (Ga (wo (upd H16 r1 (.lst [])) r1)) ys1 (K4 Rs Df sh):=by rw[Lm];exact pp16
  exact this.mono λ_ _ z=>z.over MW
 generalize upd H16 r1 (.lst [])=H17 at k17 hpa17 pp17;clear pp16 pp15 Gm hr16 hv16 s16 hr15 hv15 e15 hr1 hv1 npa e1316 hto1 hto2;have e917:=e913.trans k17;dsimp only;subst hN;refine Dz λN hN=>?_;refine⟨_,rfl,_,rfl,x,dx,dl,to,.int 1000003,xs,Rs,Df,sh,f,rfl,e917 _ _ hx,e917 _ _ hdl,ax.mono λ_ _ z=>z.over e917,okR,own,df9.over e917,hto.over k17,hf,λv2 r2 ys2 H18 e18 r20 hv2 hr2 pp2=>?_⟩;dsimp only[Aq];subst hN;refine Dz λN hN=>?_;have pp2:=pp2.mono λ_ _ z=>z.over MW;refine⟨_,rfl,v2,r2,ys2,rfl,hv2,hr2,λH19 e19=>⟨_,rfl,By ?_⟩⟩;have e1719:=e18.trans e19;have e919:=e917.trans e1719;refine⟨_,rfl,v2,_,1,_,rfl,rfl,A4.of (e19 _ _ hv2),rfl,_,rfl,Si (.lst (A3.of (e19 _ _ hr2)) (Nr (pp2.mono λ_ _ z=>z.over e19))) (.lst (A3.of (e1719 _ _ hpa17)) (Nr (pp17.mono λ_ _ z=>z.over e1719))) (by rw[C3];have:=Rh (K4 Rs Df sh);lia) ⟨_,rfl,By ?_⟩⟩;have hx19:=e919 _ _ hx;have hdl19:=e919 _ _ hdl;have ax19:=ax.mono λ_ _ z=>z.over e919;have hbe19:=(e13.trans (k17.trans e1719)) _ _ hbe12;refine⟨_,rfl,x,_,dx,_,_,rfl,hx19,T.cl_Program,T.n_Program_deeds,rfl,_,rfl,dl,be,xs,rfl,rfl,A3.of hdl19,A3.of hbe19,λv hv=>?_,_,rfl,By ?_⟩
 .obtain⟨j,hj⟩:=ES.mp hv;obtain⟨R,_,d,_,_,_,_,_,_,_,_,e,_⟩:=ax19.get' hj;exact⟨d,e⟩
 dsimp only[K6];subst hN;refine Dz λN hN=>?_;have hrl19:=e919 _ _ hrl9;have ar19:=ar9.mono λ_ _ z=>z.tk e919.tk;have tz19:∀R∈Rs,EV H19 R:=λR hR=>(tz9 R hR).tk e919.tk;have xl:=ax.1;have yl:=ar.1;refine⟨_,rfl,rl,_,rfl,.inl (A3.of hrl19),rfl,_,rfl,BN (λ_=>q _) (λc=>?_)⟩;dsimp only[K6];subst hN;refine Dz λN hN=>?_;have hn:0<Rs.length:=List.length_pos_iff.mpr Rn;obtain⟨m,hm⟩:∃m,Rs.length=m+1:=⟨Rs.length-1,by lia⟩
 obtain⟨xs',v',rfl,xl'⟩:=Gs (l:=xs) (n:=m) (by lia);obtain⟨rv',w',rfl,yl'⟩:=Gs (l:=rv) (n:=m) (by lia);obtain⟨Rs',R0,rfl,Rl'⟩:=Gs (l:=Rs) (n:=m) hm;refine⟨_,rfl,x,_,dx,_,_,rfl,hx19,T.cl_Program,T.n_Program_deeds,rfl,.inl ⟨rfl,_,A3.of hdl19⟩,dl,_,v',rfl,rfl,hdl19,by rw[Ai,Bc,OI,Cg (Ah _),DO];rfl,?_⟩;rw[List.dropLast_concat];have nlA:NL H19 (upd H19 dl (.lst xs')):=NL.upd hdl19;have hdA:(upd H19 dl (.lst xs')) dl=some (.lst xs'):=A7;have nxd:x≠dl:=λz=>by rw[z,hdl19]at hx19;cases hx19
 have hxA:=(Ag (H:=H19) (o:=.lst xs') nxd).trans hx19;have hrA:=(Ag (H:=H19) (o:=.lst xs') ndr).trans hrl19;have axA:Am (CW (CY a) a.c_Deed (upd H19 dl (.lst xs'))) xs' Rs':=by
  have:=(ax19.mono λ_ _ z=>z.nl nlA).take m
  rwa [MC xl',MC Rl']at this
 have arA:Am (Ew (upd H19 dl (.lst xs'))) rv' Rs':=by
  have:=(ar19.mono λ_ _ z=>z.tk nlA.tk).take m
  rwa [MC yl',MC Rl']at this
 have tzA:∀R∈Rs',EV (upd H19 dl (.lst xs')) R:=λR hR=>(tz19 R (CN _ hR)).tk nlA.tk;generalize upd H19 dl (.lst xs')=HA at hdA hxA hrA axA arA tzA;dsimp only;subst hN;refine Dz λN hN=>?_;have own':=own.init;have frm':=Px own';have okR':∀R∈Rs',R.r5.Ok:=λR hR=>okR R (CN _ hR);refine⟨_,rfl,_,rfl,_,rfl,rl,_,rfl,A3.of hrA,λl3 hl3=>?_⟩;rw[show Ci (rv'++[w']) none (some (-1))=rv' from TJ rv' [w'] (Nat.succ_pos _) rfl];have s3:=Ab hl3 (.lst rv');have hl3B:(upd HA l3 (.lst rv')) l3=some (.lst rv'):=A7;generalize upd HA l3 (.lst rv')=HB at s3 hl3B;refine⟨l3,rv',Rs',sh,rfl,hl3B,arA.mono λ_ _ z=>z.tk s3.tk,own',λbo2 HC eC hbo2=>⟨bo2,0,3,B7 Rs' sh,rfl,hbo2,frm',by decide,by decide,λp2 HD f2 eD hp2' hf2=>?_⟩⟩;dsimp only[Aq];subst hN;have eAD:=s3.trans (eC.trans eD);refine⟨_,rfl,x,dx,dl,.int 1000003,Rs'.map R3.dw,rfl,eAD _ _ hxA,QW (eAD _ _ hdA) (axA.mono λ_ _ z=>z.over eAD),own'.okW,λt2 HE g eE ht2 hg=>?_⟩;rw[Fo.is_one _ _ _ _ (own'.is hg) hf2]at ht2;refine⟨_,rfl,aG (JO ht2).tr (JO (hp2'.over eE)).tr (QU hf2 frm') ⟨_,rfl,C6 ?_⟩⟩;have eAE:=eAD.trans eE;obtain⟨Df2,df2⟩:=Pg (H:=HE) own'.rb λR hR=>(tzA R hR).tk eAE.tk;exact⟨_,rfl,_,rfl,x,dx,dl,p2,.int 1000003,xs',Rs',Df2,sh,f2,rfl,eAE _ _ hxA,eAE _ _ hdA,axA.mono λ_ _ z=>z.over eAE,okR',own',df2,hp2'.over eE,hf2,λv3 r3 ys3 HF eF r30 hv3 hr3 _=>⟨v3,r3,ys3,rfl,hv3,hr3,λHG eG=>q _⟩⟩
end
theorem DY {us:List Value}(h:us.length=1):∃x0,us=[x0]:=by
 rcases us with _|⟨x0,us⟩
 .cases h
 rcases us with _|⟨y,us⟩
 .exact⟨x0,rfl⟩
 .simp only[Bz]at h;lia
theorem EE {us:List Value}(h:us.length=2):∃x0 x1,us=[x0,x1]:=by
 rcases us with _|⟨x0,us⟩
 .cases h
 rcases us with _|⟨x1,us⟩
 .cases h
 rcases us with _|⟨y,us⟩
 .exact⟨x0,x1,rfl⟩
 .simp only[Bz]at h;lia
theorem E3 {us:List Value}(h:us.length=3):∃x0 x1 x2,us=[x0,x1,x2]:=by
 rcases us with _|⟨x0,us⟩
 .cases h
 rcases us with _|⟨x1,us⟩
 .cases h
 rcases us with _|⟨x2,us⟩
 .cases h
 rcases us with _|⟨y,us⟩
 .exact⟨x0,x1,x2,rfl⟩
 .simp only[Bz]at h;lia
theorem Kv {us:List Value}(h:us.length=4):∃x0 x1 x2 x3,us=[x0,x1,x2,x3]:=by
 rcases us with _|⟨x0,us⟩
 .cases h
 rcases us with _|⟨x1,us⟩
 .cases h
 rcases us with _|⟨x2,us⟩
 .cases h
 rcases us with _|⟨x3,us⟩
 .cases h
 rcases us with _|⟨y,us⟩
 .exact⟨x0,x1,x2,x3,rfl⟩
 .simp only[Bz]at h;lia
theorem QS {us:List Value}(h:us.length=5):∃x0 x1 x2 x3 x4,us=[x0,x1,x2,x3,x4]:=by
 rcases us with _|⟨x0,us⟩
 .cases h
 rcases us with _|⟨x1,us⟩
 .cases h
 rcases us with _|⟨x2,us⟩
 .cases h
 rcases us with _|⟨x3,us⟩
 .cases h
 rcases us with _|⟨x4,us⟩
 .cases h
 rcases us with _|⟨y,us⟩
 .exact⟨x0,x1,x2,x3,x4,rfl⟩
 .simp only[Bz]at h;lia
theorem NH {us:List Value}(h:us.length=6):∃x0 x1 x2 x3 x4 x5,us=[x0,x1,x2,x3,x4,x5]:=by
 rcases us with _|⟨x0,us⟩
 .cases h
 rcases us with _|⟨x1,us⟩
 .cases h
 rcases us with _|⟨x2,us⟩
 .cases h
 rcases us with _|⟨x3,us⟩
 .cases h
 rcases us with _|⟨x4,us⟩
 .cases h
 rcases us with _|⟨x5,us⟩
 .cases h
 rcases us with _|⟨y,us⟩
 .exact⟨x0,x1,x2,x3,x4,x5,rfl⟩
 .simp only[Bz]at h;lia
theorem Vq {us:List Value}(h:us.length=8):∃x0 x1 x2 x3 x4 x5 x6 x7,us=[x0,x1,x2,x3,x4,x5,x6,x7]:=by
 rcases us with _|⟨x0,us⟩
 .cases h
 rcases us with _|⟨x1,us⟩
 .cases h
 rcases us with _|⟨x2,us⟩
 .cases h
 rcases us with _|⟨x3,us⟩
 .cases h
 rcases us with _|⟨x4,us⟩
 .cases h
 rcases us with _|⟨x5,us⟩
 .cases h
 rcases us with _|⟨x6,us⟩
 .cases h
 rcases us with _|⟨x7,us⟩
 .cases h
 rcases us with _|⟨y,us⟩
 .exact⟨x0,x1,x2,x3,x4,x5,x6,x7,rfl⟩
 .simp only[Bz]at h;lia
theorem Yi:AX "__init__" "Number.__init__" L7 ["self","n"]:=λ_ _ _ _ _ _ _ h=>by obtain⟨_,_,rfl⟩:=EE h;rfl
theorem Ts:AX "__init__" "Cell.__init__" LU ["self","table","spots"]:=λ_ _ _ _ _ _ _ h=>by obtain⟨_,_,_,rfl⟩:=E3 h;rfl
theorem Wz:AX "__init__" "Joined.__init__" LM ["self","sign","left","right"]:=λ_ _ _ _ _ _ _ h=>by obtain⟨_,_,_,_,rfl⟩:=Kv h;rfl
theorem W9:AX "reads" "Number.reads" Lj ["self"]:=λ_ _ _ _ _ _ _ h=>by obtain⟨_,rfl⟩:=DY h;rfl
theorem X8:AX "reads" "Cell.reads" LK ["self"]:=λ_ _ _ _ _ _ _ h=>by obtain⟨_,rfl⟩:=DY h;rfl
theorem YD:AX "reads" "Joined.reads" KZ ["self"]:=λ_ _ _ _ _ _ _ h=>by obtain⟨_,rfl⟩:=DY h;rfl
theorem Wt:AX "__init__" "Deed.__init__" LN ["self","names","lows","highs","table","spots","term","path"]:=λ_ _ _ _ _ _ _ h=>by obtain⟨_,_,_,_,_,_,_,_,rfl⟩:=Vq h;rfl
theorem Y0:AX "__init__" "Program.__init__" KS ["self","size","deeds"]:=λ_ _ _ _ _ _ _ h=>by obtain⟨_,_,_,rfl⟩:=E3 h;rfl
theorem YC:AX "shared" "shared" KY ["one","other"]:=λ_ _ _ _ _ _ _ h=>by obtain⟨_,_,rfl⟩:=EE h;rfl
theorem W1:AX "alike_numbers" "alike_numbers" KI ["path","other","most"]:=λ_ _ _ _ _ _ _ h=>by obtain⟨_,_,_,rfl⟩:=E3 h;rfl
theorem Y9:AX "nested" "nested" Mf ["deeds"]:=λ_ _ _ _ _ _ _ h=>by obtain⟨_,rfl⟩:=DY h;rfl
theorem UJ:AX "items_within" "items_within" Mi ["deeds","numbers","depth"]:=λ_ _ _ _ _ _ _ h=>by obtain⟨_,_,_,rfl⟩:=E3 h;rfl
theorem YX:AX "neighbours" "neighbours" Mm ["deeds","numbers","depth"]:=λ_ _ _ _ _ _ _ h=>by obtain⟨_,_,_,rfl⟩:=E3 h;rfl
theorem YW:AX "fits" "fits" Ja ["program","plan"]:=λ_ _ _ _ _ _ _ h=>by obtain⟨_,_,rfl⟩:=EE h;rfl
theorem av:AX "deeds_within" "deeds_within" KE ["items","path","cuts"]:=λ_ _ _ _ _ _ _ h=>by obtain⟨_,_,_,rfl⟩:=E3 h;rfl
theorem ZD:AX "has_bare_sweep" "has_bare_sweep" JT ["items"]:=λ_ _ _ _ _ _ _ h=>by obtain⟨_,rfl⟩:=DY h;rfl
theorem WJ:AX "well_placed" "well_placed" K9 ["deed","places","cuts"]:=λ_ _ _ _ _ _ _ h=>by obtain⟨_,_,_,rfl⟩:=E3 h;rfl
theorem X4:AX "own_plan" "own_plan" LL ["program"]:=λ_ _ _ _ _ _ _ h=>by obtain⟨_,rfl⟩:=DY h;rfl
theorem bq:AX "own_items" "own_items" Js ["deeds","items"]:=λ_ _ _ _ _ _ _ h=>by obtain⟨_,_,rfl⟩:=EE h;rfl
theorem Wx:AX "stand" "stand" LR ["plan","k"]:=λ_ _ _ _ _ _ _ h=>by obtain⟨_,_,rfl⟩:=EE h;rfl
theorem af:AX "round_both" "round_both" KD ["plan","k","l"]:=λ_ _ _ _ _ _ _ h=>by obtain⟨_,_,_,rfl⟩:=E3 h;rfl
theorem Zr:AX "sides" "sides" Li ["program","plan","k","l"]:=λ_ _ _ _ _ _ _ h=>by obtain⟨_,_,_,_,rfl⟩:=Kv h;rfl
theorem bp:AX "side_bonds" "side_bonds" Lv ["program","plan","k","l","level","side"]:=λ_ _ _ _ _ _ _ h=>by obtain⟨_,_,_,_,_,_,rfl⟩:=NH h;rfl
theorem TN:AX "settled" "settled" JB ["count","bonds"]:=λ_ _ _ _ _ _ _ h=>by obtain⟨_,_,rfl⟩:=EE h;rfl
theorem W4:AX "lowered_in_a_round" "lowered_in_a_round" Ma ["bonds","values","lowered_by"]:=λ_ _ _ _ _ _ _ h=>by obtain⟨_,_,_,rfl⟩:=E3 h;rfl
theorem Yq:AX "ring_behind" "ring_behind" KM ["count","bonds","lowered_by","lowered"]:=λ_ _ _ _ _ _ _ h=>by obtain⟨_,_,_,_,rfl⟩:=Kv h;rfl
theorem V1:AX "touches" "touches" Kk ["deed"]:=λ_ _ _ _ _ _ _ h=>by obtain⟨_,rfl⟩:=DY h;rfl
theorem Uw:AX "loop_bonds" "loop_bonds" KO ["deed","first"]:=λ_ _ _ _ _ _ _ h=>by obtain⟨_,_,rfl⟩:=EE h;rfl
theorem XO:AX "like_bonds" "like_bonds" Mt ["spots","names","first","others","other_names","other_first"]:=λ_ _ _ _ _ _ _ h=>by obtain⟨_,_,_,_,_,_,rfl⟩:=NH h;rfl
theorem VB:AX "unknown_of" "unknown_of" LZ ["spot","names","first"]:=λ_ _ _ _ _ _ _ h=>by obtain⟨_,_,_,rfl⟩:=E3 h;rfl
theorem UU:AX "meets" "meets" L4 ["program"]:=λ_ _ _ _ _ _ _ h=>by obtain⟨_,rfl⟩:=DY h;rfl
theorem aF:AX "all_touches" "all_touches" Lk ["program"]:=λ_ _ _ _ _ _ _ h=>by obtain⟨_,rfl⟩:=DY h;rfl
theorem U7:AX "cases" "cases" Mv ["program","k","l"]:=λ_ _ _ _ _ _ _ h=>by obtain⟨_,_,_,rfl⟩:=E3 h;rfl
theorem US:AX "case_bonds" "case_bonds" LH ["program","k","a","l","b","case"]:=λ_ _ _ _ _ _ _ h=>by obtain⟨_,_,_,_,_,_,rfl⟩:=NH h;rfl
theorem Zq:AX "order_bonds" "order_bonds" M9 ["many","case","behind"]:=λ_ _ _ _ _ _ _ h=>by obtain⟨_,_,_,rfl⟩:=E3 h;rfl
theorem YJ:AX "cases_met" "cases_met" Mu ["program"]:=λ_ _ _ _ _ _ _ h=>by obtain⟨_,rfl⟩:=DY h;rfl
theorem Xx:AX "answer_of" "answer_of" K8 ["program","k","l","bonds"]:=λ_ _ _ _ _ _ _ h=>by obtain⟨_,_,_,_,rfl⟩:=Kv h;rfl
theorem Wy:AX "looked" "looked" Lr ["program","plan"]:=λ_ _ _ _ _ _ _ h=>by obtain⟨_,_,rfl⟩:=EE h;rfl
theorem V4:AX "_law_cell_at" "_law_cell_at" LB ["_law_script","_law_k"]:=λ_ _ _ _ _ _ _ h=>by obtain⟨_,_,rfl⟩:=EE h;rfl
theorem TM:AX "_law_mixed" "_law_mixed" LW ["_law_cell","_law_k"]:=λ_ _ _ _ _ _ _ h=>by obtain⟨_,_,rfl⟩:=EE h;rfl
theorem YE:AX "_law_spot" "_law_spot" L9 ["_law_names","_law_q","_law_far"]:=λ_ _ _ _ _ _ _ h=>by obtain⟨_,_,_,rfl⟩:=E3 h;rfl
theorem Wq:AX "_law_touch" "_law_touch" Lb ["_law_names","_law_q","_law_far"]:=λ_ _ _ _ _ _ _ h=>by obtain⟨_,_,_,rfl⟩:=E3 h;rfl
theorem Xd:AX "_law_loop" "_law_loop" Ln ["_law_names","_law_q","_law_far","_law_turn","_law_last"]:=λ_ _ _ _ _ _ _ h=>by obtain⟨_,_,_,_,_,rfl⟩:=QS h;rfl
theorem Za:AX "_law_row" "_law_row" Hl ["_law_stack","_law_path","_law_cell","_law_far","_law_limit"]:=λ_ _ _ _ _ _ _ h=>by obtain⟨_,_,_,_,_,rfl⟩:=QS h;rfl
theorem Y4:AX "_law_rows" "_law_rows" Ki ["_law_cells","_law_limit","_law_deep","_law_far"]:=λ_ _ _ _ _ _ _ h=>by obtain⟨_,_,_,_,rfl⟩:=Kv h;rfl
theorem XF:AX "_law_term" "_law_term" L3 ["_law_reads"]:=λ_ _ _ _ _ _ _ h=>by obtain⟨_,rfl⟩:=DY h;rfl
theorem aV:AX "_law_program" "_law_program" KR ["_law_rows_here"]:=λ_ _ _ _ _ _ _ h=>by obtain⟨_,rfl⟩:=DY h;rfl
theorem Wf:AX "_law_common" "_law_common" Lu ["_law_one","_law_other"]:=λ_ _ _ _ _ _ _ h=>by obtain⟨_,_,rfl⟩:=EE h;rfl
theorem Ud:AX "_law_items" "_law_items" Mb ["_law_boughs","_law_depth"]:=λ_ _ _ _ _ _ _ h=>by obtain⟨_,_,rfl⟩:=EE h;rfl
theorem XC:AX "_law_own_boughs" "_law_own_boughs" Kj ["_law_rows_here"]:=λ_ _ _ _ _ _ _ h=>by obtain⟨_,rfl⟩:=DY h;rfl
theorem ZG:AX "_law_good" "_law_good" LF ["_law_found"]:=λ_ _ _ _ _ _ _ h=>by obtain⟨_,rfl⟩:=DY h;rfl
theorem TY:AX "law" "law" Km ["_law_script"]:=λ_ _ _ _ _ _ _ h=>by obtain⟨_,rfl⟩:=DY h;rfl
theorem txt_mk {w:World}{K:Faa}{h:Heap}{mg:Str->Option Value}{fa:Addr}(X:K.In h)(G:h.Ns mainGlobals mg)(hfa:mg "law"=some (.ref fa))
  {C_Term:Addr} {C_Number:Addr} {C_Cell:Addr} {C_Joined:Addr} {C_Deed:Addr} {C_Program:Addr} {f1 f2 f3 f4 f5 f6 f7 f8 f9 f10 f11 f12 f13 f14 f15 f16 f17 f18 f19 f20 f21 f22 f23 f24 f25 f26 f27 f28 f29 f30 f31 f32 f33 f34 f35 f36 f37 f38 f39 f40 f41 f42 f43 f44 f45 f46 f47 f48 f49 f50 f51 f52:Addr} {d1 d2 d3 d4 d5 d6 d7 d8 d9 d10 d11 d12 d13 d14 d15 d16 d17 d18 d19 d20 d21 d22 d23 d24 d25 d26 d27 d28 d29 d30 d31 d32 d33 d34 d35 d36 d37 d38 d39 d40 d41 d42 d43 d44 d45 d46 d47 d48 d49 d50 d51 d52:FuncData} {t_MOST_PAIRS:Tok} {t_MOST_SHIFT:Tok} {u_SIDES:Addr} {n_SIDES:Nat} {u_SIDES0:Addr} {h_SIDES0:Int} {k_SIDES0:Tok} {e_SIDES0:Option Addr} {n_SIDES0:Nat} {b_SIDES0:Array (Option Value)} {t_SIDES0_0:Tok} {u_SIDES1:Addr} {h_SIDES1:Int} {k_SIDES1:Tok} {e_SIDES1:Option Addr} {n_SIDES1:Nat} {b_SIDES1:Array (Option Value)} {t_SIDES1_0:Tok} {u_SIDES2:Addr} {h_SIDES2:Int} {k_SIDES2:Tok} {e_SIDES2:Option Addr} {n_SIDES2:Nat} {b_SIDES2:Array (Option Value)} {t_SIDES2_0:Tok} {t_SIDES2_1:Tok}
  (a_Term:ClA K C_Term "Term")
  (a_Number:ClA K C_Number "Number")
  (a_Cell:ClA K C_Cell "Cell")
  (a_Joined:ClA K C_Joined "Joined")
  (a_Deed:ClA K C_Deed "Deed")
  (a_Program:ClA K C_Program "Program")
  (h1:GH K C_Number "__init__" "Number.__init__" L7 f1 d1)
  (h2:GH K C_Cell "__init__" "Cell.__init__" LU f2 d2)
  (h3:GH K C_Joined "__init__" "Joined.__init__" LM f3 d3)
  (h4:GH K C_Number "reads" "Number.reads" Lj f4 d4)
  (h5:GH K C_Cell "reads" "Cell.reads" LK f5 d5)
  (h6:GH K C_Joined "reads" "Joined.reads" KZ f6 d6)
  (h7:GH K C_Deed "__init__" "Deed.__init__" LN f7 d7)
  (h8:GH K C_Program "__init__" "Program.__init__" KS f8 d8)
  (h9:Bp K "shared" KY f9 d9)
  (h10:Bp K "alike_numbers" KI f10 d10)
  (h11:Bp K "nested" Mf f11 d11)
  (h12:Bp K "items_within" Mi f12 d12)
  (h13:Bp K "neighbours" Mm f13 d13)
  (h14:Bp K "fits" Ja f14 d14)
  (h15:Bp K "deeds_within" KE f15 d15)
  (h16:Bp K "has_bare_sweep" JT f16 d16)
  (h17:Bp K "well_placed" K9 f17 d17)
  (h18:Bp K "own_plan" LL f18 d18)
  (h19:Bp K "own_items" Js f19 d19)
  (h20:Bp K "stand" LR f20 d20)
  (h21:Bp K "round_both" KD f21 d21)
  (h22:Bp K "sides" Li f22 d22)
  (h23:Bp K "side_bonds" Lv f23 d23)
  (h24:Bp K "settled" JB f24 d24)
  (h25:Bp K "lowered_in_a_round" Ma f25 d25)
  (h26:Bp K "ring_behind" KM f26 d26)
  (h27:Bp K "touches" Kk f27 d27)
  (h28:Bp K "loop_bonds" KO f28 d28)
  (h29:Bp K "like_bonds" Mt f29 d29)
  (h30:Bp K "unknown_of" LZ f30 d30)
  (h31:Bp K "meets" L4 f31 d31)
  (h32:Bp K "all_touches" Lk f32 d32)
  (h33:Bp K "cases" Mv f33 d33)
  (h34:Bp K "case_bonds" LH f34 d34)
  (h35:Bp K "order_bonds" M9 f35 d35)
  (h36:Bp K "cases_met" Mu f36 d36)
  (h37:Bp K "answer_of" K8 f37 d37)
  (h38:Bp K "looked" Lr f38 d38)
  (h39:Bp K "_law_cell_at" LB f39 d39)
  (h40:Bp K "_law_mixed" LW f40 d40)
  (h41:Bp K "_law_spot" L9 f41 d41)
  (h42:Bp K "_law_touch" Lb f42 d42)
  (h43:Bp K "_law_loop" Ln f43 d43)
  (h44:Bp K "_law_row" Hl f44 d44)
  (h45:Bp K "_law_rows" Ki f45 d45)
  (h46:Bp K "_law_term" L3 f46 d46)
  (h47:Bp K "_law_program" KR f47 d47)
  (h48:Bp K "_law_common" Lu f48 d48)
  (h49:Bp K "_law_items" Mb f49 d49)
  (h50:Bp K "_law_own_boughs" Kj f50 d50)
  (h51:Bp K "_law_good" LF f51 d51)
  (h52:Bp K "law" Km f52 d52)
  (n_Number_n:PySem.W.findIn K (.ref C_Number) "n"=some none)
  (n_Cell_table:PySem.W.findIn K (.ref C_Cell) "table"=some none)
  (n_Cell_spots:PySem.W.findIn K (.ref C_Cell) "spots"=some none)
  (n_Joined_sign:PySem.W.findIn K (.ref C_Joined) "sign"=some none)
  (n_Joined_left:PySem.W.findIn K (.ref C_Joined) "left"=some none)
  (n_Joined_right:PySem.W.findIn K (.ref C_Joined) "right"=some none)
  (n_Deed_names:PySem.W.findIn K (.ref C_Deed) "names"=some none)
  (n_Deed_lows:PySem.W.findIn K (.ref C_Deed) "lows"=some none)
  (n_Deed_highs:PySem.W.findIn K (.ref C_Deed) "highs"=some none)
  (n_Deed_table:PySem.W.findIn K (.ref C_Deed) "table"=some none)
  (n_Deed_spots:PySem.W.findIn K (.ref C_Deed) "spots"=some none)
  (n_Deed_term:PySem.W.findIn K (.ref C_Deed) "term"=some none)
  (n_Deed_path:PySem.W.findIn K (.ref C_Deed) "path"=some none)
  (n_Program_size:PySem.W.findIn K (.ref C_Program) "size"=some none)
  (n_Program_deeds:PySem.W.findIn K (.ref C_Program) "deeds"=some none)
  (z_abs:PySem.W.nsIn K mainGlobals "abs"=some none)
  (z_all:PySem.W.nsIn K mainGlobals "all"=some none)
  (z_any:PySem.W.nsIn K mainGlobals "any"=some none)
  (z_enumerate:PySem.W.nsIn K mainGlobals "enumerate"=some none)
  (z_int:PySem.W.nsIn K mainGlobals "int"=some none)
  (z_isinstance:PySem.W.nsIn K mainGlobals "isinstance"=some none)
  (z_len:PySem.W.nsIn K mainGlobals "len"=some none)
  (z_list:PySem.W.nsIn K mainGlobals "list"=some none)
  (z_min:PySem.W.nsIn K mainGlobals "min"=some none)
  (z_range:PySem.W.nsIn K mainGlobals "range"=some none)
  (z_sorted:PySem.W.nsIn K mainGlobals "sorted"=some none)
  (z_tuple:PySem.W.nsIn K mainGlobals "tuple"=some none)
  (z_zip:PySem.W.nsIn K mainGlobals "zip"=some none)
  (g_MOST_PAIRS:PySem.W.nsIn K mainGlobals "MOST_PAIRS"=some (some (.int 6 t_MOST_PAIRS)))
  (g_MOST_SHIFT:PySem.W.nsIn K mainGlobals "MOST_SHIFT"=some (some (.int 1000000000000000000 t_MOST_SHIFT)))
  (g_SIDES:PySem.W.nsIn K mainGlobals "SIDES"=some (some (.ref u_SIDES)))
  (q_SIDES:K.lookup u_SIDES=some ⟨.type "dict",none,.dict #[⟨h_SIDES0,.str "up" k_SIDES0,.ref u_SIDES0⟩,⟨h_SIDES1,.str "down" k_SIDES1,.ref u_SIDES1⟩,⟨h_SIDES2,.str "any" k_SIDES2,.ref u_SIDES2⟩] n_SIDES,#[]⟩)
  (q_SIDES0:K.lookup u_SIDES0=some ⟨.type "tuple",e_SIDES0,.seq #[.str "more" t_SIDES0_0] n_SIDES0,b_SIDES0⟩)
  (hh_SIDES0:h_SIDES0=hashStr w "up")
  (q_SIDES1:K.lookup u_SIDES1=some ⟨.type "tuple",e_SIDES1,.seq #[.str "less" t_SIDES1_0] n_SIDES1,b_SIDES1⟩)
  (hh_SIDES1:h_SIDES1=hashStr w "down")
  (q_SIDES2:K.lookup u_SIDES2=some ⟨.type "tuple",e_SIDES2,.seq #[.str "less" t_SIDES2_0,.str "more" t_SIDES2_1] n_SIDES2,b_SIDES2⟩)
  (hh_SIDES2:h_SIDES2=hashStr w "any") :
  ∃a:Ad,Tx w K mg a/\fa=a.f_U/\(∀(s:Shared) (v:Value),BindsTo s a.d_U ⟨[v],[]⟩ [("_law_script",v)]):=by
 have e:=hfa.symm.trans (AU X G h52.a);cases e;obtain⟨_,_,_,_,_,_,_,_,_,rfl,_⟩:=h52.F.ex;exact⟨⟨f1,d1,f2,d2,f3,d3,f4,d4,f5,d5,f6,d6,f7,d7,f8,d8,f9,d9,f10,d10,f11,d11,f12,d12,f13,d13,f14,d14,f15,d15,f16,d16,f17,d17,f18,d18,f19,d19,f20,d20,f21,d21,f22,d22,f23,d23,f24,d24,f25,d25,f26,d26,f27,d27,f28,d28,f29,d29,f30,d30,f31,d31,f32,d32,f33,d33,f34,d34,f35,d35,f36,d36,f37,d37,f38,d38,f39,d39,f40,d40,f41,d41,f42,d42,f43,d43,f44,d44,f45,d45,f46,d46,f47,d47,f48,d48,f49,d49,f50,d50,f51,d51,fa,_,C_Term,C_Number,C_Cell,C_Joined,C_Deed,C_Program,.int 6 t_MOST_PAIRS,.int 1000000000000000000 t_MOST_SHIFT,u_SIDES,u_SIDES0,u_SIDES1,u_SIDES2⟩,⟨h1.F,
  h1.F.binds Yi,
  h2.F,
  h2.F.binds Ts,
  h3.F,
  h3.F.binds Wz,
  h4.F,
  h4.F.binds W9,
  h5.F,
  h5.F.binds X8,
  h6.F,
  h6.F.binds YD,
  h7.F,
  h7.F.binds Wt,
  h8.F,
  h8.F.binds Y0,
  h9.F,
  h9.F.binds YC,
  AU X G h9.a,
  h10.F,
  h10.F.binds W1,
  AU X G h10.a,
  h11.F,
  h11.F.binds Y9,
  AU X G h11.a,
  h12.F,
  h12.F.binds UJ,
  AU X G h12.a,
  h13.F,
  h13.F.binds YX,
  AU X G h13.a,
  h14.F,
  h14.F.binds YW,
  AU X G h14.a,
  h15.F,
  h15.F.binds av,
  AU X G h15.a,
  h16.F,
  h16.F.binds ZD,
  AU X G h16.a,
  h17.F,
  h17.F.binds WJ,
  AU X G h17.a,
  h18.F,
  h18.F.binds X4,
  AU X G h18.a,
  h19.F,
  h19.F.binds bq,
  AU X G h19.a,
  h20.F,
  h20.F.binds Wx,
  AU X G h20.a,
  h21.F,
  h21.F.binds af,
  AU X G h21.a,
  h22.F,
  h22.F.binds Zr,
  AU X G h22.a,
  h23.F,
  h23.F.binds bp,
  AU X G h23.a,
  h24.F,
  h24.F.binds TN,
  AU X G h24.a,
  h25.F,
  h25.F.binds W4,
  AU X G h25.a,
  h26.F,
  h26.F.binds Yq,
  AU X G h26.a,
  h27.F,
  h27.F.binds V1,
  AU X G h27.a,
  h28.F,
  h28.F.binds Uw,
  AU X G h28.a,
  h29.F,
  h29.F.binds XO,
  AU X G h29.a,
  h30.F,
  h30.F.binds VB,
  AU X G h30.a,
  h31.F,
  h31.F.binds UU,
  AU X G h31.a,
  h32.F,
  h32.F.binds aF,
  AU X G h32.a,
  h33.F,
  h33.F.binds U7,
  AU X G h33.a,
  h34.F,
  h34.F.binds US,
  AU X G h34.a,
  h35.F,
  h35.F.binds Zq,
  AU X G h35.a,
  h36.F,
  h36.F.binds YJ,
  AU X G h36.a,
  h37.F,
  h37.F.binds Xx,
  AU X G h37.a,
  h38.F,
  h38.F.binds Wy,
  AU X G h38.a,
  h39.F,
  h39.F.binds V4,
  AU X G h39.a,
  h40.F,
  h40.F.binds TM,
  AU X G h40.a,
  h41.F,
  h41.F.binds YE,
  AU X G h41.a,
  h42.F,
  h42.F.binds Wq,
  AU X G h42.a,
  h43.F,
  h43.F.binds Xd,
  AU X G h43.a,
  h44.F,
  h44.F.binds Za,
  AU X G h44.a,
  h45.F,
  h45.F.binds Y4,
  AU X G h45.a,
  h46.F,
  h46.F.binds XF,
  AU X G h46.a,
  h47.F,
  h47.F.binds aV,
  AU X G h47.a,
  h48.F,
  h48.F.binds Wf,
  AU X G h48.a,
  h49.F,
  h49.F.binds Ud,
  AU X G h49.a,
  h50.F,
  h50.F.binds XC,
  AU X G h50.a,
  h51.F,
  h51.F.binds ZG,
  AU X G h51.a,
  h52.F,
  h52.F.binds TY,
  AU X G h52.a,
  ⟨a_Term.pg,a_Term.hd,a_Term.po,a_Term.sa⟩,
  AU X G a_Term.a,
  ⟨a_Number.pg,a_Number.hd,a_Number.po,a_Number.sa⟩,
  AU X G a_Number.a,
  ⟨a_Number.mi,h1.a,h1.i,a_Number.kc⟩,
  ⟨h4.a,h4.i,h4.F.kp⟩,
  n_Number_n,
  ⟨a_Cell.pg,a_Cell.hd,a_Cell.po,a_Cell.sa⟩,
  AU X G a_Cell.a,
  ⟨a_Cell.mi,h2.a,h2.i,a_Cell.kc⟩,
  ⟨h5.a,h5.i,h5.F.kp⟩,
  n_Cell_table,
  n_Cell_spots,
  ⟨a_Joined.pg,a_Joined.hd,a_Joined.po,a_Joined.sa⟩,
  AU X G a_Joined.a,
  ⟨a_Joined.mi,h3.a,h3.i,a_Joined.kc⟩,
  ⟨h6.a,h6.i,h6.F.kp⟩,
  n_Joined_sign,
  n_Joined_left,
  n_Joined_right,
  ⟨a_Deed.pg,a_Deed.hd,a_Deed.po,a_Deed.sa⟩,
  AU X G a_Deed.a,
  ⟨a_Deed.mi,h7.a,h7.i,a_Deed.kc⟩,
  n_Deed_names,
  n_Deed_lows,
  n_Deed_highs,
  n_Deed_table,
  n_Deed_spots,
  n_Deed_term,
  n_Deed_path,
  ⟨a_Program.pg,a_Program.hd,a_Program.po,a_Program.sa⟩,
  AU X G a_Program.a,
  ⟨a_Program.mi,h8.a,h8.i,a_Program.kc⟩,
  n_Program_size,
  n_Program_deeds,
  ET X G z_abs,
  ET X G z_all,
  ET X G z_any,
  ET X G z_enumerate,
  ET X G z_int,
  ET X G z_isinstance,
  ET X G z_len,
  ET X G z_list,
  ET X G z_min,
  ET X G z_range,
  ET X G z_sorted,
  ET X G z_tuple,
  ET X G z_zip,
  AU X G g_MOST_PAIRS,
  ⟨_,rfl⟩,
  AU X G g_MOST_SHIFT,
  ⟨_,rfl⟩,
  AU X G g_SIDES,
  rfl,
  λH=>.inr ⟨_,_,_,q_SIDES0,rfl,rfl,Ap rfl,(.cons ⟨_,rfl⟩ .nil)⟩,
  λH=>.inr ⟨_,_,_,q_SIDES1,rfl,rfl,Ap rfl,(.cons ⟨_,rfl⟩ .nil)⟩,
  λH=>.inr ⟨_,_,_,q_SIDES2,rfl,rfl,Ap rfl,(.cons ⟨_,rfl⟩ (.cons ⟨_,rfl⟩ .nil))⟩,
  λP=>Yh q_SIDES hh_SIDES0 hh_SIDES1 hh_SIDES2 (by decide +kernel)⟩,rfl,λs v=>.of_eq rfl⟩
end Fw
open PySem PySem.W PyProof.Rows
namespace PySem.W.Fast
def tw10034904328562474342:=True
def tw10062618858266535697:=True
def tw1010520639131731883:=True
def tw10105487249851575177:=True
def tw10113756295068694669:=True
def tw10117637647276987346:=True
def tw10144157658636343827:=True
def tw1023382205479370390:=True
def tw10306264034737453738:=True
def tw10308584645551165727:=True
def tw10397927662958124214:=True
def tw10397992374880993376:=True
def tw10488685645527970492:=True
def tw10494927858457926692:=True
def tw10537278736347213643:=True
def tw10567809526325124930:=True
def tw10589896591818944874:=True
def tw10597331391088496622:=True
def tw10612322723307775507:=True
def tw10625688165758030310:=True
def tw10750620499132109182:=True
def tw10862373693845202044:=True
def tw10917661083752855578:=True
def tw10994462124948714659:=True
def tw1100721743841178513:=True
def tw11017595648441453225:=True
def tw11025842439598049116:=True
def tw11036262447534411883:=True
def tw11043004133909478833:=True
def tw11053682217806232047:=True
def tw11062797219593219799:=True
def tw11093648298183463327:=True
def tw1112364333636215559:=True
def tw11170144303344285533:=True
def tw11209024309242596489:=True
def tw11241119456229107117:=True
def tw11257720821842950297:=True
def tw11264649679304197308:=True
def tw11298189786193116288:=True
def tw11395605379922288603:=True
def tw1140268683111751669:=True
def tw11417477978267801462:=True
def tw11421763748569185937:=True
def tw11437474011422658768:=True
def tw11445491440710186342:=True
def tw1147146270526010966:=True
def tw11534555358026793595:=True
def tw11575997299810261522:=True
def tw11601416110020062027:=True
def tw11700672392823903862:=True
def tw11822861273279185719:=True
def tw11844117520807544967:=True
def tw11922262044657880001:=True
def tw1192340124983184783:=True
def tw11928643471590112452:=True
def tw1195261449156680808:=True
def tw12058917698394602207:=True
def tw1205973492482154627:=True
def tw12080688103874955777:=True
def tw12140050844241216826:=True
def tw12146393244391559641:=True
def tw12159264890521185035:=True
def tw12275827659402222694:=True
def tw12284712680178506814:=True
def tw12337871458831401566:=True
def tw12398407741582954823:=True
def tw12415681803047663740:=True
def tw12456509720938168282:=True
def tw12491364300991560920:=True
def tw12554791154207305983:=True
def tw1256450015826570434:=True
def tw12599234643242795614:=True
def tw12629151597484867772:=True
def tw12633786469103306718:=True
def tw12647019035657352677:=True
def tw12647605519502992267:=True
def tw12667667739686532507:=True
def tw12719921434751334025:=True
def tw12742581713193023609:=True
def tw12836298863911740000:=True
def tw12852088186755678364:=True
def tw12902536020315855402:=True
def tw12911938508181647636:=True
def tw12928017493256397903:=True
def tw12960885005352786508:=True
def tw13011935753978450654:=True
def tw1301781296612528218:=True
def tw13060721501779400499:=True
def tw13096105850418783116:=True
def tw1312145005038522760:=True
def tw13130849727534535921:=True
def tw13135187710366023508:=True
def tw13151768780598060113:=True
def tw13207994617765238437:=True
def tw13213842406359842234:=True
def tw13229372428569984027:=True
def tw13242491716344224820:=True
def tw13256876268132800487:=True
def tw13350893709286336876:=True
def tw13374857205978746310:=True
def tw13395209141536596820:=True
def tw13425687088491786285:=True
def tw13429684649181538903:=True
def tw13462894709299226162:=True
def tw13488487540326854907:=True
def tw13495574061934679990:=True
def tw13497632666178338681:=True
def tw1351953089527259122:=True
def tw13541186208125917459:=True
def tw13557185924967267286:=True
def tw13602599462280552503:=True
def tw13606075873512214251:=True
def tw13646968396661348748:=True
def tw13650475222987554340:=True
def tw13659432123107436031:=True
def tw13666389719713344410:=True
def tw13678350346511293459:=True
def tw13707290535922580494:=True
def tw13830561508929502587:=True
def tw1385535148466826048:=True
def tw13884733485348627826:=True
def tw13886570391845646945:=True
def tw13887874903822704556:=True
def tw13889355618244045344:=True
def tw13927553687672364073:=True
def tw13993344979440403572:=True
def tw13997225035833870949:=True
def tw14033023765971730449:=True
def tw14054053287813181177:=True
def tw14087378737436435893:=True
def tw14095219044313190841:=True
def tw14109265958145882491:=True
def tw14159255632730202755:=True
def tw14182631130781059106:=True
def tw14197703348867527057:=True
def tw14239084232532747810:=True
def tw14258545668882059721:=True
def tw14275183693007069172:=True
def tw14303347467837626148:=True
def tw14323784354941628780:=True
def tw14412872444387302563:=True
def tw14415602215395776318:=True
def tw1441722534423530217:=True
def tw14467612215415004462:=True
def tw14574580977478235281:=True
def tw14589165810919261088:=True
def tw1463099679320018912:=True
def tw14639003030460838922:=True
def tw14726465391508148285:=True
def tw14753808966678451290:=True
def tw14883825197719437942:=True
def tw14907795326205138114:=True
def tw14938526116020446690:=True
def tw14959869167124091737:=True
def tw14966541417142881668:=True
def tw1500231352488306374:=True
def tw15030583665648864611:=True
def tw15049380946458381941:=True
def tw15056606660814708097:=True
def tw15089479955700251532:=True
def tw15090185244955650051:=True
def tw15102290870391389584:=True
def tw15158586708418572780:=True
def tw15159181124705139114:=True
def tw15231951759544791579:=True
def tw1526434748301638076:=True
def tw15421136354576462366:=True
def tw154612584210689821:=True
def tw15485034660051748764:=True
def tw15485953262376323881:=True
def tw15494741948222741261:=True
def tw15516222177752338250:=True
def tw15528021439023084404:=True
def tw15528448392921510146:=True
def tw15540899746128212076:=True
def tw15547612341116417012:=True
def tw15578444646057207179:=True
def tw15615754719086334445:=True
def tw15615971963710131772:=True
def tw15691417087571071394:=True
def tw15736978019036726913:=True
def tw15766910258598079210:=True
def tw15864576426238573514:=True
def tw15868730626623529349:=True
def tw15900346083361701066:=True
def tw1590128655158009296:=True
def tw15933122626207523026:=True
def tw15968317475936185791:=True
def tw15998644121499610557:=True
def tw16037897800169807968:=True
def tw16042608598314398645:=True
def tw16065139594354064072:=True
def tw16113315522115641256:=True
def tw16126190375281840785:=True
def tw16240954702074350448:=True
def tw1625134585202585184:=True
def tw16253641318348936932:=True
def tw16322525267450796536:=True
def tw16345044424399426068:=True
def tw16354298407272179632:=True
def tw16385179120412330140:=True
def tw16409975395088154830:=True
def tw16411338989864306482:=True
def tw16436859468446702207:=True
def tw16462001073036121909:=True
def tw16490529223152209860:=True
def tw16495160403938483593:=True
def tw16553327754288571659:=True
def tw16563603523132794647:=True
def tw16581133929729908418:=True
def tw16609632566433618237:=True
def tw16647192788642605317:=True
def tw16705932284571019295:=True
def tw16712147681374102292:=True
def tw16715874689913389061:=True
def tw16720310480377899255:=True
def tw16770967792671721765:=True
def tw16772872630373820243:=True
def tw16820362147095316895:=True
def tw16924999661326760681:=True
def tw16929339999104933501:=True
def tw16944091041553992662:=True
def tw16946939818594150900:=True
def tw16960592744946523012:=True
def tw16972231259381927965:=True
def tw16998121357037139967:=True
def tw17034278855199781405:=True
def tw17056691523938861694:=True
def tw17056876697053649714:=True
def tw17068640277210157396:=True
def tw17140804286998170388:=True
def tw1714594335878750663:=True
def tw17160037543028374211:=True
def tw17223064675370004972:=True
def tw17239029209731169492:=True
def tw17263200889963521211:=True
def tw17267985749214420417:=True
def tw17317186004292626800:=True
def tw17322038482401868768:=True
def tw17326667840248995738:=True
def tw17339547107663744174:=True
def tw1746223672691391:=True
def tw17491428591284308681:=True
def tw17572939633576501980:=True
def tw17579549828421928121:=True
def tw17586939622788893664:=True
def tw17603151196108815682:=True
def tw17660726664329363749:=True
def tw17704820748193472848:=True
def tw17784952140684369434:=True
def tw17883452720813537065:=True
def tw1791915625396813216:=True
def tw17927870580111632920:=True
def tw17930590777935612968:=True
def tw17952932452161762296:=True
def tw17954486322443522705:=True
def tw17982793744223197760:=True
def tw18006007770263357556:=True
def tw1820265258316831651:=True
def tw18207418866535732086:=True
def tw18217975835948168778:=True
def tw18220687136822388402:=True
def tw18225991396629358111:=True
def tw18294751831695702743:=True
def tw18367755455235942178:=True
def tw18408806446953588033:=True
def tw18429677804232162607:=True
def tw1888666194803337818:=True
def tw1893029926717607370:=True
def tw1908232902706777457:=True
def tw195507165697611900:=True
def tw1960699756170401732:=True
def tw197560562778303106:=True
def tw2048874401263066092:=True
def tw2138295752025266330:=True
def tw2157790408852209803:=True
def tw2172380393775518869:=True
def tw2243894581285510017:=True
def tw225360339200145405:=True
def tw228199343521776342:=True
def tw2295559157094434826:=True
def tw2333292959208282103:=True
def tw2341209775421150058:=True
def tw235447976976373301:=True
def tw2365122787780986684:=True
def tw2382863362965330917:=True
def tw2420562683195740562:=True
def tw2442235481127238725:=True
def tw2481043444099145746:=True
def tw2493972063707998869:=True
def tw2494182962936767785:=True
def tw2502814610656125031:=True
def tw2527057634806735109:=True
def tw252991025516423963:=True
def tw2536613816369013682:=True
def tw2547224256630982708:=True
def tw2609867843692322005:=True
def tw2615568461057729436:=True
def tw2628640263208585885:=True
def tw2693713062894905124:=True
def tw2758840521663159145:=True
def tw2775630258585574499:=True
def tw2830719401469458385:=True
def tw2875304242885535144:=True
def tw2955078766397991557:=True
def tw3011549786138749251:=True
def tw3032015410614341399:=True
def tw3034667461221315747:=True
def tw3044456453482502821:=True
def tw3067082250353497830:=True
def tw3115295842043771416:=True
def tw313245107022576447:=True
def tw3154546310772963876:=True
def tw3158063686497656709:=True
def tw3178162830635422243:=True
def tw3188187016310729987:=True
def tw3189808669574006367:=True
def tw3207844918151659492:=True
def tw3224305736955973179:=True
def tw3278876373573646149:=True
def tw3340792497989074122:=True
def tw336985829104843120:=True
def tw3379199967667577614:=True
def tw3391605552136055756:=True
def tw3398882716589487683:=True
def tw3420276360192508045:=True
def tw3485390604801122199:=True
def tw3504155012032255560:=True
def tw3504754036608497549:=True
def tw3520571369843624561:=True
def tw3526474766959226776:=True
def tw358551713212636532:=True
def tw3588418475921283574:=True
def tw3597103825218422123:=True
def tw3638048815506106836:=True
def tw3717208237319998009:=True
def tw3720064364644666366:=True
def tw373782797269499923:=True
def tw3789943732458297749:=True
def tw3819942986351757891:=True
def tw3837879387177218451:=True
def tw3907176620227333618:=True
def tw3911536147443920913:=True
def tw3916529749616675:=True
def tw3941771798566827339:=True
def tw3971773364787488311:=True
def tw3993473337634373137:=True
def tw3993568276118485121:=True
def tw4041205049255138473:=True
def tw4061349684902188231:=True
def tw4079103992325848349:=True
def tw4154479049476788233:=True
def tw4197103517702142207:=True
def tw4215112040975395918:=True
def tw4239622014851771403:=True
def tw4243386321168080672:=True
def tw4259018703307673496:=True
def tw4265912777031382669:=True
def tw4277646142985692329:=True
def tw4312531740154994703:=True
def tw4318164288596486026:=True
def tw4341267788884708610:=True
def tw4380974712435348603:=True
def tw4381793851334357565:=True
def tw4416993810037730392:=True
def tw4570255232840701601:=True
def tw4586622724995281194:=True
def tw4617041003600664554:=True
def tw4661300154864313696:=True
def tw4712605127703319935:=True
def tw4754043950380650612:=True
def tw4820643541294372175:=True
def tw485832601847465553:=True
def tw4862017966290721335:=True
def tw5050676135930717396:=True
def tw5058812540007106330:=True
def tw5076199085056254832:=True
def tw5105357879930527418:=True
def tw5130709061823364148:=True
def tw5146324456354462304:=True
def tw5162226063134259276:=True
def tw5175351109635978713:=True
def tw5190990987227732441:=True
def tw5194350957721835799:=True
def tw5198398657694469219:=True
def tw5225271825989284852:=True
def tw522649249788730521:=True
def tw5227406020513770166:=True
def tw5253652660067427671:=True
def tw5267369864758785648:=True
def tw5342958065101819470:=True
def tw536589681714270971:=True
def tw5383713518266910022:=True
def tw5413219977062601786:=True
def tw5425336200211432773:=True
def tw5435835126937214055:=True
def tw5474476226662507736:=True
def tw5489349736111048220:=True
def tw5520706044603807160:=True
def tw5544995961904917243:=True
def tw5601146977337490492:=True
def tw5611967385608526165:=True
def tw5654881876827454512:=True
def tw5669919456703734361:=True
def tw56764550483076440:=True
def tw5699586261247983870:=True
def tw57441734662402057:=True
def tw5820872603910607176:=True
def tw5830941485246557359:=True
def tw5831995167296950155:=True
def tw5836422359523309992:=True
def tw583737406076753782:=True
def tw5863040640738642085:=True
def tw5883316484958814031:=True
def tw5946942405265845409:=True
def tw5966872499517064249:=True
def tw5991391474208567644:=True
def tw5996872679104629729:=True
def tw601771351515523336:=True
def tw6043614671634299401:=True
def tw6075865288581292522:=True
def tw6100601458218296640:=True
def tw6108662333362058074:=True
def tw616766911846477013:=True
def tw6180781793223302956:=True
def tw6233285220759894411:=True
def tw6256955297061142329:=True
def tw6272405720604964628:=True
def tw6320929261696809696:=True
def tw6383704092099869850:=True
def tw6402354918083167203:=True
def tw6545773008815072886:=True
def tw6574084529423765643:=True
def tw6612342240439883934:=True
def tw6628549765357637417:=True
def tw6635950325977299162:=True
def tw6639958652266358968:=True
def tw6649533569086220315:=True
def tw6694188999035459669:=True
def tw6725082058847760800:=True
def tw6754267089807013506:=True
def tw6778641544509295290:=True
def tw6788772848434126787:=True
def tw682161576350812411:=True
def tw6850080443999741572:=True
def tw6869444650885009425:=True
def tw6903935832046938386:=True
def tw6913700937771554592:=True
def tw6916046250241541514:=True
def tw693857440538898113:=True
def tw6983458784221182664:=True
def tw7069556734628074038:=True
def tw707466252663148514:=True
def tw709246538687546612:=True
def tw7113948970091769015:=True
def tw7168777497327172134:=True
def tw7192459344496605274:=True
def tw7199929166260122332:=True
def tw7207451552938749896:=True
def tw7216356159965330238:=True
def tw7221725961821642709:=True
def tw7315872680397988604:=True
def tw7353234149223686198:=True
def tw738885732027151813:=True
def tw7392894969825295061:=True
def tw7423829344491669758:=True
def tw7460595523308336239:=True
def tw7462869203856051621:=True
def tw7500548665205980800:=True
def tw7555847654446783832:=True
def tw7566930672411750019:=True
def tw7577332542782742630:=True
def tw7628013712263746367:=True
def tw7663487090143083109:=True
def tw7685210656485010274:=True
def tw7718744926224432713:=True
def tw7726452691073462009:=True
def tw7741898153421365267:=True
def tw7782257592639749801:=True
def tw7908745395991371477:=True
def tw7947803169778510255:=True
def tw7958358061906570621:=True
def tw7982943938170342259:=True
def tw8006022256881922573:=True
def tw8026693392666000181:=True
def tw803206120862069205:=True
def tw8151516011485428910:=True
def tw820628215751086549:=True
def tw8293199566968978005:=True
def tw8295821117859945652:=True
def tw8349989220315306382:=True
def tw8365128522981677431:=True
def tw8369262795942866242:=True
def tw8380344639564542705:=True
def tw8428145593086456448:=True
def tw8452505740250899985:=True
def tw8460406272117610857:=True
def tw8462063327040273874:=True
def tw8474781045140333452:=True
def tw8492451486847661700:=True
def tw8520494591693512090:=True
def tw8558269673347357513:=True
def tw8597271734190040117:=True
def tw8671796407774927593:=True
def tw8696333042413210733:=True
def tw8711776511137121222:=True
def tw8741320602211903081:=True
def tw8767382220837057728:=True
def tw8779229859992112496:=True
def tw8793282741134238972:=True
def tw8837661301729234847:=True
def tw8863554016162383483:=True
def tw8893397100528628170:=True
def tw8957610097561948553:=True
def tw8976345959093097547:=True
def tw9174414432762374243:=True
def tw9322338584637105965:=True
def tw932314621008375416:=True
def tw9323414866864225742:=True
def tw9346757693623854247:=True
def tw9362432496270147297:=True
def tw9363122399694551356:=True
def tw9381798382965589973:=True
def tw9387644835422969595:=True
def tw9467531512779513868:=True
def tw9544895274122482188:=True
def tw9560411497298476726:=True
def tw9567011687756542421:=True
def tw9572297201149732313:=True
def tw9595523505441992303:=True
def tw965551073504691169:=True
def tw9662490251459164381:=True
def tw9683944877761512559:=True
def tw9710284562574684332:=True
def tw9734121204893435753:=True
def tw9746011564737850895:=True
def tw975837724337209804:=True
def tw9768463422427155220:=True
def tw9836334412206072468:=True
def tw9851211560896964939:=True
def tw9871256476096515199:=True
def tw9880477725096398528:=True
def tw991765880985028595:=True
def tw9918598646318088022:=True
def tw9998813292313488877:=True
end PySem.W.Fast
set_option maxRecDepth 100000 in
set_option maxHeartbeats 0 in
theorem PySem.Challenge.cw_furrow_k76_own_plan_is_good_holds : PySem.Challenge.rw_furrow_k76_own_plan_is_good.Holds := by
 w_on;o_law;k_head;(case hw=>w_witness2)
 k_fill
 refine L2.law_walk (l:=PySem.Challenge.rw_furrow_k76_own_plan_is_good) (x:="_law_script") 120 (by decide) rfl rfl (λw h Y=>PySem.W.kIn_of Y) ?F
 case F=>
  intro w mg fa h KX G hmg
  suffices hh:∃a:Fw.Ad,Fw.Tx w _ mg a/\fa=a.f_U/\(∀(s:Shared) (v:Value),BindsTo s a.d_U ⟨[v],[]⟩ [("_law_script",v)]) by
   obtain⟨a,T,e,b⟩:=hh;subst e;exact⟨a.d_U,b,λbase _ _=>Fw.ok_law T⟩
  refine' Fw.txt_mk KX G hmg ?a_Term ?a_Number ?a_Cell ?a_Joined ?a_Deed ?a_Program ?h1 ?h2 ?h3 ?h4 ?h5 ?h6 ?h7 ?h8 ?h9 ?h10 ?h11 ?h12 ?h13 ?h14 ?h15 ?h16 ?h17 ?h18 ?h19 ?h20 ?h21 ?h22 ?h23 ?h24 ?h25 ?h26 ?h27 ?h28 ?h29 ?h30 ?h31 ?h32 ?h33 ?h34 ?h35 ?h36 ?h37 ?h38 ?h39 ?h40 ?h41 ?h42 ?h43 ?h44 ?h45 ?h46 ?h47 ?h48 ?h49 ?h50 ?h51 ?h52 ?n_Number_n ?n_Cell_table ?n_Cell_spots ?n_Joined_sign ?n_Joined_left ?n_Joined_right ?n_Deed_names ?n_Deed_lows ?n_Deed_highs ?n_Deed_table ?n_Deed_spots ?n_Deed_term ?n_Deed_path ?n_Program_size ?n_Program_deeds ?z_abs ?z_all ?z_any ?z_enumerate ?z_int ?z_isinstance ?z_len ?z_list ?z_min ?z_range ?z_sorted ?z_tuple ?z_zip ?g_MOST_PAIRS ?g_MOST_SHIFT ?g_SIDES ?q_SIDES ?q_SIDES0 ?hh_SIDES0 ?q_SIDES1 ?hh_SIDES1 ?q_SIDES2 ?hh_SIDES2
  any_goals first|refine'⟨?_,L2.fun_mk ?_ ?_ ?_⟩|refine'⟨?_,?_,L2.fun_mk ?_ ?_ ?_⟩|refine' Fw.ClA.mk ?_ ?_ ?_ ?_ ?_ ?_ ?_
  any_goals first|k_is|kit_is|exact rfl|kernel_rfl|decide
#print axioms PySem.Challenge.cw_furrow_k76_own_plan_is_good_holds
