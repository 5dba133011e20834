import PyProof.Rows.All
import Wide.All
import OpenK.AllK
import Wide.FinOn
import Lean
import PyProof.EqAt
import PyProof.EqKinds
import PyProof.TupleCall
import PyProof.ListMulRoad
import PySem.Challenge.RW_furrow_k29_read_and_written_again
set_option genSizeOf false
set_option genInjectivity false
set_option compiler.extract_closed false
set_option Elab.async false
set_option linter.all false
set_option maxRecDepth 100000
set_option maxHeartbeats 4000000
noncomputable section
abbrev Ya:=PySem.W.Frag
def Ab:=@if_neg
def Af:=@if_pos
def Ah:=@List.length_append
def Aj:=@Nat.le_refl
def An:=@List.length_map
def AA:=@List.mem_cons_self
def AG:=@List.mem_cons
def AJ:=@PySem.W.mg_of
def AQ:=@List.length_cons
def AZ:=@List.map_append
def B1:=@decide_eq_true
def B7:=@PySem.wpAny_bind
def B8:=@List.mem_cons_of_mem
def Bh:=@PySem.F.plainAttrs_list
def Bl:=@List.mem_append
def Bo:=@decide_eq_false
def Bs:=@List.length_singleton
def Bt:=@List.length_take
def Bw:=@Nat.zero_le
def By:=@List.size_toArray
def BA:=@PySem.Heap.lt_size
def BB:=@List.getElem?_eq_getElem
def BC:=@List.append_assoc
def BE:=@List.getElem?_eq_some_iff
def BI:=@Nat.le_trans
def BN:=@List.map_cons
def BQ:=@Bool.false_ne_true
def BR:=@PySem.Heap.get?_push_of_some
def BS:=@PySem.F.slot_list_append
def BU:=@PySem.F.type_list_append
def BX:=@Option.some.inj
def BY:=@Int.emod_nonneg
def C5:=@List.length_drop
def C8:=@List.mem_of_getElem?
def C9:=@Int.emod_lt_of_pos
def Ca:=@PySem.wpAny_pure
def Co:=@Nat.ne_of_lt
def Cp:=@List.mem_append_right
def Cq:=@List.append_nil
def Cy:=@List.cons_ne_nil
def CJ:=@List.getElem?_append_right
def CK:=@List.mem_map
def CL:=@List.not_mem_nil
def CO:=@Nat.sub_self
def CY:=@Nat.lt_of_lt_of_le
def CZ:=@List.getD_eq_getElem?_getD
def D8:=@List.mem_singleton
def Dl:=@PySem.Heap.get?_push_size
def Dm:=@List.getElem?_map
def Dz:=@List.cons_append
def DM:=@List.getElem?_append_left
def DN:=@PySem.F.plainAttrs_str
def DV:=@List.filter_cons
def DW:=@PySem.wpAny_mono
def DX:=@decide_eq_true_eq
def E9:=@beq_iff_eq
def En:=@Bool.eq_iff_iff
def Eo:=@List.take_length
def Ep:=@bne_iff_ne
def EJ:=@Nat.lt_irrefl
def EK:=@PySem.F.slot_list_pop
def EL:=@PySem.F.type_list_pop
def F5:=@PySem.W.kia_one
def F6:=@List.getElem_mem
def F7:=@List.drop_eq_getElem_cons
def F8:=@if_true
def F9:=@PyProof.Rows.joinParts_cons
def Fy:=@List.take_of_length_le
def Fz:=@List.dropWhile_cons
def FA:=@PySem.W.mg_none_of
def FV:=@List.mem_append_left
def FW:=@Int.toNat_natCast
def FX:=@List.lookup_cons
def FY:=@List.all_eq_true
def FZ:=@List.mem_of_mem_drop
def G0:=@List.filter_append
def G3:=@List.mem_of_mem_take
def GA:=@Nat.le_of_lt
def GB:=@List.nodup_cons
def GC:=@Bool.and_eq_true
def GD:=@Nat.succ_pos
def GE:=@PySem.wpAny_Call_Name_kw
def GF:=@PySem.call_meets
def Ht:=@PySem.Heap.size_push
def Hu:=@Nat.le_succ
def Hv:=@List.take_left
def Hw:=@Classical.byContradiction
def Hx:=@List.reverse_cons
def Hy:=@beq_eq_false_iff_ne
def Hz:=@PySem.wpAny_truthy_bool
def HD:=@PySem.wpAny_passesOwn
def HE:=@PySem.sizeLine_eq
def HF:=@PySem.typeIs_str
def IJ:=@List.mem_range
def IK:=@Nat.lt_succ_self
def IL:=@List.any_cons
def IM:=@List.drop_zero
def IP:=@Nat.min_eq_left
def IQ:=@List.drop_eq_nil_of_le
def IR:=@List.drop_drop
def IS:=@List.takeWhile_cons
def IT:=@List.getLast?_cons_cons
def IU:=@List.drop_length
def IV:=@List.map_map
def IW:=@List.eq_of_mem_replicate
def IX:=@PySem.F.slot_str_join
def IY:=@PySem.F.type_str_join
def IZ:=@PySem.codeAny_mono
def J0:=@if_false
def J1:=@PySem.wpAny_Constant_str
def J2:=@PySem.wpAny_field
def KN:=@Nat.ne_of_gt
def KO:=@PySem.mem_of_lookup
def KP:=@List.length_replicate
def KQ:=@List.drop_left
def KR:=@List.take_left'
def KS:=@List.sum_cons
def KU:=@List.nil_append
def KW:=@List.length_reverse
def KY:=@PySem.F.slot_str_partition
def KZ:=@PySem.F.type_str_partition
def L0:=@List.eq_nil_of_length_eq_zero
def L1:=@PySem.wpAny_execs_nil
def L3:=@PySem.wpAny_execs_cons
def L4:=@PySem.wpAny_pyIter_list
def L5:=@of_decide_eq_true
def L6:=@PySem.wpAny_setField_rec
def MO:=@List.mem_filter
def MP:=@PyProof.Rows.callWith_type1
def MQ:=@Bool.or_false
def MS:=@PySem.Heap.get?_update_other
def MU:=@List.all_cons
def MV:=@List.find?_cons
def MW:=@List.length_nil
def MX:=@List.map_nil
def MY:=@List.take_append_drop
def MZ:=@Bool.or_eq_true
def N0:=@List.flatten_cons
def N1:=@List.reverse_reverse
def N8:=@Nat.succ_le_succ
def Na:=@Bool.false_eq_true
def Nb:=@List.length_range
def Nc:=@Nat.zero_add
def Nd:=@List.map_eq_nil_iff
def Nf:=@Nat.eq_or_lt_of_le
def Ng:=@List.getLast?_append
def Nh:=@List.take_take
def Ni:=@List.reverse_append
def Nj:=@List.all_map
def Nk:=@List.length_filter_le
def Nl:=@PySem.seqIndex_neg
def Nm:=@PySem.wpAny_Call_method_late
def Qi:=@List.getElem?_eq_none_iff
def Qj:=@List.filterMap_cons
def Qk:=@Array.mem_toList_iff
def Ql:=@PySem.W.callWith_K
def Qm:=@List.of_mem_zip
def Qn:=@List.map_congr_left
def Qo:=@List.mem_iff_getElem
def Qp:=@List.filter_eq_self
def Qq:=@Nat.le_succ_of_le
def Qr:=@PyProof.Rows.toString_length_le
def Qs:=@Nat.le_add_right
def Qt:=@List.mem_of_getLast?
def Qu:=@List.take_append_of_le_length
def Qv:=@List.filter_reverse
def Qw:=@List.append_eq_nil_iff
def Qx:=@List.replicate_succ
def Qy:=@PySem.F.slot_str_split
def Qz:=@PySem.F.type_str_split
def QA:=@ne_true_of_eq_false
def QB:=@not_false_eq_true
def QC:=@decide_eq_decide
def Y3:=@List.drop_append_of_le_length
def Y4:=@List.dropLast_concat_getLast
def Y5:=@PySem.F.slot_dict_setdefault
namespace L2
open PySem PySem.Spec PyProof.Rows
abbrev Be:=Sum Int Str
def GL:Be->Value->Bool
 |.inl k,v=>Value.isInt k v
 |.inr x,v=>Value.isStrOf x v
def VE (w:World):Be->Int
 |.inl k=>hashInt k
 |.inr x=>hashStr w x
theorem Ff:∀{k:Be} {v:Value},GL k v=true->(∃i t,k=Sum.inl i/\v=Value.int i t)\/(∃x t,k=Sum.inr x/\v=Value.str x t)
 |
  .inl i,v,h=>by
  obtain⟨t,e⟩:=Value.isInt_shape (k:=i) (v:=v) h
  exact .inl ⟨i,t,rfl,e⟩
 |
  .inr x,v,h=>by
  obtain⟨t,e⟩:=Value.isStrOf_shape (x:=x) (v:=v) h
  exact .inr ⟨x,t,rfl,e⟩
theorem Te (i:Int)(t:Tok):GL (.inl i) (.int i t)=true:=by simp[GL,Value.isInt]
theorem W5 (x:Str)(t:Tok):GL (.inr x) (.str x t)=true:=by simp[GL,Value.isStrOf]
theorem R3 (a b:Int):decide ((Sum.inl a:Be)=Sum.inl b)=(a==b):=by
 by_cases e:a=b
 .subst e;simp
 .have h:¬(Sum.inl a:Be)=Sum.inl b:=fun q=>e (Sum.inl.inj q)
  rw[Bo h]
  exact(Hy.mpr e).symm
theorem Sr (a b:Str):decide ((Sum.inr a:Be)=Sum.inr b)=decide (a=b):=by
 by_cases e:a=b
 .subst e;simp
 .have h:¬(Sum.inr a:Be)=Sum.inr b:=fun q=>e (Sum.inr.inj q)
  rw[Bo h,Bo e]
theorem SA (a:Int)(b:Str):decide ((Sum.inl a:Be)=Sum.inr b)=false:=Bo (fun q=>nomatch q)
theorem Y1 (a:Str)(b:Int):decide ((Sum.inr a:Be)=Sum.inl b)=false:=Bo (fun q=>nomatch q)
def Dq (prog:Program)(w:World):PySem.KeyKind prog w Be where
 is:=GL
 hash:=VE w
 inj:=fun v a b ha hb=>by
  rcases Ff ha with⟨i,t,rfl,rfl⟩|⟨x,t,rfl,rfl⟩
  .rcases Ff hb with⟨j,u,rfl,e⟩|⟨y,u,rfl,e⟩
   .injection e with e1 _;rw[e1]
   .exact nomatch e
  .rcases Ff hb with⟨j,u,rfl,e⟩|⟨y,u,rfl,e⟩
   .exact nomatch e
   .injection e with e1 _;rw[e1]
 byValue:=fun k v h=>by
  rcases Ff h with⟨i,t,rfl,rfl⟩|⟨x,t,rfl,rfl⟩<;>rfl
 pyHash:=fun hv h=>by
  rcases Ff hv with⟨i,t,rfl,rfl⟩|⟨x,t,rfl,rfl⟩
  .exact wpAny_pyHash_int h
  .exact wpAny_pyHash_str h
 eqBool:=fun hu hv h=>by
  rcases Ff hu with⟨i,t,rfl,rfl⟩|⟨x,t,rfl,rfl⟩
  .rcases Ff hv with⟨j,u,rfl,rfl⟩|⟨y,u,rfl,rfl⟩
   .rw[R3]at h;exact wpAny_eqBool_int h
   .rw[SA]at h;exact SeqAt.EqAt.int_str i t y u _ _ _ _ h
  .rcases Ff hv with⟨j,u,rfl,rfl⟩|⟨y,u,rfl,rfl⟩
   .rw[Y1]at h;exact SeqAt.EqAt.str_int x t j u _ _ _ _ h
   .rw[Sr]at h;exact wpAny_eqBool_str h
 «strs» := fun k x t v h=>by
  rcases Ff h with⟨i,u,rfl,e⟩|⟨y,u,rfl,e⟩
  .exact nomatch e
  .injection e with e1 _
   subst e1
   cases v<;>rfl
theorem QP (prog:Program)(w:World)(i:Int)(t:Tok):(Dq prog w).is (.inl i) (.int i t)=true:=Te i t
theorem WA (prog:Program)(w:World)(x:Str)(t:Tok):(Dq prog w).is (.inr x) (.str x t)=true:=W5 x t
set_option genInjectivity true in
inductive V where
 |non|bl (b:Bool)|int (i:Int)|str (x:Str)|byt (b:Array UInt8)|flt (b:UInt64)|ref (a:Addr)|ty (n:String)
 deriving DecidableEq
def AM:V->Value->Prop
 |.non,u=>u=Value.none
 |.bl b,u=>u=Value.bool b
 |.int i,u=>∃t,u=Value.int i t
 |.str x,u=>∃t,u=Value.str x t
 |.byt b,u=>∃t,u=Value.bytes b t
 |.flt b,u=>∃t,u=Value.float b t
 |.ref a,u=>u=Value.ref a
 |.ty n,u=>u=Value.type n
abbrev AD:List V->List Value->Prop:=Paired AM
theorem AD.length {xs:List V}{us:List Value}(r:AD xs us):xs.length=us.length:=Paired.length r
theorem AD.get:∀{xs:List V} {us:List Value} {i:Nat} {x:V},AD xs us->xs[i]?=some x->∃u,us[i]?=some u/\AM x u
 |_,_,_,_,.nil,e=>by simp at e
 |_,_,0,_,.cons r _,e=>by simp at e;subst e;exact⟨_,rfl,r⟩
 |
  _,_,i+1,x,.cons _ t,e=>by
  obtain⟨u,h1,h2⟩:=AD.get (i:=i) (x:=x) t (by simpa using e)
  exact⟨u,by simpa using h1,h2⟩
theorem AD.set {x:V}{u:Value}(r:AM x u):∀{xs:List V} {us:List Value} (i:Nat),AD xs us->AD (xs.set i x) (us.set i u)
 |_,_,_,.nil=>.nil
 |_,_,0,.cons _ t=>.cons r t
 |_,_,i+1,.cons q t=>.cons q (AD.set r i t)
theorem AD.append:∀{xs ys:List V} {us ws:List Value},AD xs us->AD ys ws->AD (xs++ys) (us++ws)
 |_,_,_,_,.nil,s=>s
 |_,_,_,_,.cons r t,s=>.cons r (AD.append t s)
theorem AD.take:∀{xs:List V} {us:List Value} (n:Nat),AD xs us->AD (xs.take n) (us.take n)
 |_,_,0,_=>.nil
 |_,_,_+1,.nil=>.nil
 |_,_,n+1,.cons r t=>.cons r (AD.take n t)
theorem AD.drop:∀{xs:List V} {us:List Value} (n:Nat),AD xs us->AD (xs.drop n) (us.drop n)
 |_,_,0,r=>r
 |_,_,_+1,.nil=>.nil
 |_,_,n+1,.cons _ t=>AD.drop n t
theorem AD.none_of:∀{xs:List V} {us:List Value} {i:Nat},AD xs us->xs[i]?=none->us[i]?=none:=fun{xs us i} r e=>by
 have h1:=r.length
 have h2:xs.length<=i:=Qi.mp e
 exact Qi.mpr (by omega)
def Fx:Option V->Option Value->Prop
 |some v,some u=>AM v u
 |none,none=>True
 |_,_=>False
def KV {κ:Type}:List (κ×V)->List (κ×Value)->Prop:=Paired fun(p:κ×V) (q:κ×Value)=>p.1=q.1/\AM p.2 q.2
def kV:Be->V
 |.inl i=>.int i
 |.inr x=>.str x
set_option genInjectivity true in
inductive HO where
 |lst (xs:List V)
 |tup (xs:List V)
 |dK (kvs:List (Be×V))|dT (kvs:List (List Be×V))
 |set (S:Int->Bool) (n:Nat)
 |ins (C dx:Addr) (fs:List (Str×V))
 |own (x:Addr)
 |xd (fs:List (Str×V))
 |met (f x:Addr)
 |rng (lo hi:Int)
 |frz (o:Obj) (u:HO)
 |tbl (ps:Array Value)
 |ext (φ:Heap->Prop)
abbrev Hp:=Addr->Option HO
def upd (H:Hp)(a:Addr)(o:HO):Hp:=fun b=>if b=a then some o else H b
theorem A6 {H:Hp}{a:Addr}{o:HO}:upd H a o a=some o:=by unfold upd;rw[Af rfl]
theorem A8 {H:Hp}{a b:Addr}{o:HO}(h:b≠a):upd H a o b=H b:=by unfold upd;rw[Ab h]
theorem ND {H:Hp}{a:Addr}{o u:HO}:upd (upd H a o) a u=upd H a u:=by
 funext b;unfold upd;split<;>rfl
theorem Df {H:Hp}{a b:Addr}{o u:HO}(h:H a=some o)(h':H b=some u)(d:o≠u):a≠b:=by
 intro e;subst e;rw[h]at h';exact d (BX h')
theorem AC {H:Hp}{a b:Addr}{o:HO}(h:H a=some o)(h':H b=none):a≠b:=by
 intro e;subst e;rw[h]at h';cases h'
section
variable (P:Program)(w:World)
def FS (h:Heap)(a:Addr)(its:Array Value):Prop := ∃o,h.get? a=some o/\o.cls = .type "tuple"/\(∃n,o.data = .seq its n)/\o.dict=none
theorem FS.tup {h:Heap}{a:Addr}{its:Array Value}(x:FS h a its):IsTup h a its:=by obtain⟨o,e,c,d,_⟩:=x;exact⟨o,e,c,d⟩
theorem FS.new (h:Heap)(its:Array Value):FS (h.push {cls:=.type "tuple",data:=.seq its}) h.objs.size its:=⟨_,Dl _ rfl,rfl,⟨_,rfl⟩,rfl⟩
def BV (H:Hp)(h:Heap)(a:Addr):HO->Prop
 |.lst xs=>xs.length<=sizeLine/\∃(its:List Value) (n:Nat),AD xs its/\h.get? a=some {cls:=.type "list",data:=.seq its.toArray n}
 |.tup xs=>xs.length<=sizeLine/\∃its:List Value,AD xs its/\FS h a its.toArray
 |.dK kvs=>kvs.length<=sizeLine/\(a==sysModules)=false/\∃vs,KV kvs vs/\h.DictOf (Dq P w) a vs
 |.dT kvs=>kvs.length<=sizeLine/\(a==sysModules)=false/\∃xs:List (List Be×Addr×Value),
  Paired (fun(p:List Be×V) (q:List Be×Addr×Value)=>p.1=q.1/\H q.2.1=some (.tup (p.1.map kV))/\AM p.2 q.2.2) kvs xs/\
  ∃o es ep,h.get? a=some o/\o.ExactDict/\o.data = .dict es ep/\es.toList=xs.map (entryOfKey (tupleKind (Dq P w)))/\(xs.map (·.1)).Nodup
 |.set S n=>h.SetOf (intKind P w) a S n
 |.ins C dx fs=>H dx=some (.own a)/\fs.length<=1000/\dx≠a/\h.get? a=some (PySem.W.instObj C dx)/\
  ∃mA,h.Ns1 dx mA/\(∀f,Fx (fs.lookup f) (mA f))/\PySem.Within mA (fs.map (·.1))
 |.own _=>∃o,h.get? a=some o
 |.xd fs=>∃mA,h.Ns1 a mA/\∀f,Fx (fs.lookup f) (mA f)
 |.rng lo hi=>∃t u v,h.get? a=some {cls:=.type "range",data:=.fields #[.int lo t,.int hi u,.int 1 v]}
 |.frz o u=>h.get? a=some o/\BV H h a u
 |.tbl ps=>h.get? a=some {cls:=.none,data:=.fields ps}
 |.met f x=>h.get? a=some (PySem.W.methodObj (.ref f) (.ref x))
 |.ext φ=>φ h/\(∃o,h.get? a=some o)/\∀h1 h2:Heap,φ h1->(∀o,h1.get? a=some o->h2.get? a=some o)->φ h2
def BF (H:Hp)(h:Heap):Prop := ∀a o,H a=some o->BV P w H h a o
end
section
variable {P:Program}{w:World}{H H':Hp}{h h':Heap}{a:Addr}{o:HO}
theorem BV.lt (x:BV P w H h a o):a<h.objs.size:=by
 cases o with
 |lst xs=>obtain⟨_,_,_,_,e⟩:=x;exact BA e
 |tup xs=>obtain⟨_,_,_,p⟩:=x;exact p.tup.lt
 |dK kvs=>obtain⟨_,_,_,_,o,_,_,e,_⟩:=x;exact BA e
 |dT kvs=>obtain⟨_,_,_,_,o,_,_,e,_⟩:=x;exact BA e
 |set S n=>obtain⟨o,_,_,_,e,_⟩:=x;exact BA e
 |ins C dx fs=>obtain⟨_,_,_,e,_⟩:=x;exact BA e
 |own y=>obtain⟨_,e⟩:=x;exact BA e
 |xd fs=>obtain⟨_,⟨_,_,_,e,_⟩,_⟩:=x;exact BA e
 |rng lo hi=>obtain⟨_,_,_,e⟩:=x;exact BA e
 |frz ob u=>obtain⟨e,_⟩:=x;exact BA e
 |tbl ps=>exact BA (show h.get? a=some _ from x)
 |met f y=>exact BA (show h.get? a=some _ from x)
 |ext φ=>obtain⟨_,⟨_,e⟩,_⟩:=x;exact BA e
theorem Paired.mapP {α β:Type}{F G:α->β->Prop}:∀{l₁:List α} {l₂:List β},Paired F l₁ l₂->(∀a b,F a b->G a b)->Paired G l₁ l₂
 |_,_,.nil,_=>.nil
 |_,_,.cons r t,f=>.cons (f _ _ r) (Paired.mapP t f)
theorem BV.stay (x:BV P w H h a o)(k:∀b u,(b=a\/H b=some (.own a))->h.get? b=some u->h'.get? b=some u)
  (ho:∀b,H b=some (.own a)->H' b=some (.own a)) (ht:∀b xs,H b=some (.tup xs)->H' b=some (.tup xs)):BV P w H' h' a o:=by
 induction o with
 |lst xs=>obtain⟨z,its,n,r,e⟩:=x;exact⟨z,its,n,r,k _ _ (.inl rfl) e⟩
 |tup xs=>obtain⟨z,its,r,ob,e,c⟩:=x;exact⟨z,its,r,ob,k _ _ (.inl rfl) e,c⟩
 |dK kvs=>obtain⟨z,y,vs,r,ob,es,ep,e,c⟩:=x;exact⟨z,y,vs,r,ob,es,ep,k _ _ (.inl rfl) e,c⟩
 |
  dT kvs=>
  obtain⟨z,y,xs,r,ob,es,ep,e,c⟩:=x
  exact⟨z,y,xs,Paired.mapP r fun p q z=>⟨z.1,ht _ _ z.2.1,z.2.2⟩,ob,es,ep,k _ _ (.inl rfl) e,c⟩
 |set S n=>obtain⟨ob,es,ep,t,e,c⟩:=x;exact⟨ob,es,ep,t,k _ _ (.inl rfl) e,c⟩
 |
  ins C dx fs=>
  obtain⟨d,z,ne,e,mA,⟨od,es,ep,e2,c⟩,r⟩:=x
  exact⟨ho _ d,z,ne,k _ _ (.inl rfl) e,mA,⟨od,es,ep,k _ _ (.inr d) e2,c⟩,r⟩
 |own y=>obtain⟨ob,e⟩:=x;exact⟨ob,k _ _ (.inl rfl) e⟩
 |xd fs=>obtain⟨mA,⟨od,es,ep,e,c⟩,r⟩:=x;exact⟨mA,⟨od,es,ep,k _ _ (.inl rfl) e,c⟩,r⟩
 |rng lo hi=>obtain⟨t,u,v,e⟩:=x;exact⟨t,u,v,k _ _ (.inl rfl) e⟩
 |frz ob u ih=>obtain⟨e,q⟩:=x;exact⟨k _ _ (.inl rfl) e,ih q⟩
 |
  tbl ps=>
  have e:h.get? a=some {cls:=.none,data:=.fields ps}:=x
  show h'.get? a=some {cls:=.none,data:=.fields ps}
  exact k a _ (.inl rfl) e
 |
  met f y=>
  have e:h.get? a=some (PySem.W.methodObj (.ref f) (.ref y)):=x
  show h'.get? a=some (PySem.W.methodObj (.ref f) (.ref y))
  exact k a _ (.inl rfl) e
 |ext φ=>obtain⟨p,⟨o,e⟩,st⟩:=x;exact⟨st _ _ p fun o q=>k _ _ (.inl rfl) q,⟨o,k _ _ (.inl rfl) e⟩,st⟩
theorem BF.lt (x:BF P w H h)(e:H a=some o):a<h.objs.size:=(x a o e).lt
theorem BF.fresh (x:BF P w H h)(e:h.objs.size<=a):H a=none:=by
 cases q:H a with
 |none=>rfl
 |some u=>exact absurd (CY (x.lt q) e) (EJ _)
theorem BF.kept (x:BF P w H h)(k:∀b u,h.get? b=some u->h'.get? b=some u):BF P w H h':=fun a o e=>
 (x a o e).stay (fun b u _ q=>k b u q) (fun _ q=>q) fun _ _ q=>q
theorem BF.laid (x:BF P w H h)(k:∀b u,h.get? b=some u->h'.get? b=some u)(hp:h.objs.size<=a)(new:BV P w (upd H a o) h' a o):BF P w (upd H a o) h':=fun b u e=>by
 have hn:=x.fresh hp
 by_cases hb:b=a
 .subst hb;rw[A6]at e;cases e;exact new
 .rw[A8 hb]at e
  exact(x b u e).stay (fun c v _ q=>k c v q) (fun c q=>by rw[A8 (AC q hn)];exact q) fun c xs q=>by rw[A8 (AC q hn)];exact q
end
def Rd (H:Hp)(a:Addr)(u:HO):Prop:=H a=some u\/∃o,H a=some (.frz o u)
theorem Rd.ok {P:Program}{w:World}{H:Hp}{h:Heap}{a:Addr}{u:HO}(r:Rd H a u)(x:BF P w H h):BV P w H h a u:=by
 rcases r with r|⟨o,r⟩
 .exact x a u r
 .obtain⟨_,q⟩:=x a _ r
  exact q
def IA:Option HO->Prop
 |some (.lst _)=>True
 |some (.dK _)=>True
 |some (.dT _)=>True
 |some (.set _ _)=>True
 |some (.ins _ _ _)=>True
 |some (.ext _)=>True
 |_=>False
section
variable {P:Program}{w:World}{H:Hp}{h h':Heap}{x e:Addr}{o':HO}
theorem BF.write (ok:BF P w H h)(mu:IA (H x))(he:e=x\/H e=some (.own x))(k:∀b u,b≠e->h.get? b=some u->h'.get? b=some u)(heo:∃u,h'.get? e=some u)
  (new:BV P w (upd H x o') h' x o'):BF P w (upd H x o') h':=fun b u q=>by
 have nown:∀c y,H c=some (.own y)->c≠x:=fun c y r z=>by subst z;rw[r]at mu;exact mu
 have ntup:∀c xs,H c=some (.tup xs)->c≠x:=fun c xs r z=>by subst z;rw[r]at mu;exact mu
 by_cases hb:b=x
 .subst hb;rw[A6]at q;cases q;exact new
 .rw[A8 hb]at q
  by_cases hbe:b=e
  .have q':H b=some (.own x):=by
    rcases he with z|z
    .exact absurd (hbe.trans z) hb
    .rw[hbe];exact z
   rw[q]at q';cases q'
   obtain⟨v,hv⟩:=heo
   exact⟨v,by rw[hbe];exact hv⟩
  .refine(ok b u q).stay (fun c v hc r=>k c v ?_ r) (fun c r=>by rw[A8 (nown c b r)];exact r) fun c xs r=>by rw[A8 (ntup c xs r)];exact r
   rcases hc with rfl|hc
   .exact hbe
   .rintro rfl
    rcases he with z|z
    .exact nown c b hc z
    .rw[hc]at z;cases z;exact hb rfl
end
structure Un (fs ex:List Addr)(H H':Hp)(h h':Heap):Prop where
 keep:∀b o,h.get? b=some o->H b=none->b∉fs->b∉ex->h'.get? b=some o
 slot:∀b o,h.get? b=some o->H b=none->b∈fs->b∉ex->∃sl,h'.get? b=some {o with slots:=sl}
 free:∀b o,h.get? b=some o->H b=none->b∉ex->H' b=none
 there:∀b o,h.get? b=some o->b∉ex->∃o',h'.get? b=some o'
 tups:∀b xs,H b=some (.tup xs)->H' b=some (.tup xs)
 frzs:∀b o u,H b=some (.frz o u)->H' b=some (.frz o u)
 tbls:∀b ps,H b=some (.tbl ps)->∃more,H' b=some (.tbl (ps++more))
section
variable {fs fs' ex ex':List Addr}{H H1 H2:Hp}{h h1 h2 h':Heap}{a x e:Addr}{o:HO}
theorem Un.any (u:Un fs ex H H1 h h1){b:Addr}{ob:Obj}(q:h.get? b=some ob)(n:H b=none)(hx:b∉ex):∃sl,h1.get? b=some {ob with slots:=sl}:=by
 by_cases hb:b∈fs
 .exact u.slot b ob q n hb hx
 .exact⟨ob.slots,u.keep b ob q n hb hx⟩
theorem Un.kept (k:∀b u,h.get? b=some u->h'.get? b=some u):Un fs ex H H h h':=
 ⟨fun b ob q _ _ _=>k b ob q,fun b ob q _ _ _=>⟨ob.slots,k b ob q⟩,fun _ _ _ n _=>n,fun b ob q _=>⟨ob,k b ob q⟩,fun _ _ q=>q,fun _ _ _ q=>q,fun _ ps q=>⟨#[],by rw[q];simp⟩⟩
theorem Un.refl:Un fs ex H H h h:=Un.kept fun _ _ q=>q
theorem Un.laid (k:∀b u,h.get? b=some u->h'.get? b=some u)(hp:h.objs.size<=a)(hn:H a=none):Un fs ex H (upd H a o) h h' where
 keep:=fun b u q _ _ _=>k b u q
 slot:=fun b u q _ _ _=>⟨u.slots,k b u q⟩
 free:=fun b u q n _=>by rw[A8 (Co (CY (BA q) hp))];exact n
 there:=fun b u q _=>⟨u,k b u q⟩
 tups:=fun b xs q=>by rw[A8 (AC q hn)];exact q
 frzs:=fun b u xs q=>by rw[A8 (AC q hn)];exact q
 tbls:=fun b ps q=>⟨#[],by rw[A8 (AC q hn),q];simp⟩
theorem Un.write (mu:IA (H x))(he:e=x\/H e=some (.own x))(k:∀b u,b≠e->h.get? b=some u->h'.get? b=some u)(heo:∃u,h'.get? e=some u):Un fs ex H (upd H x o) h h':=by
 have hx:∀b,H b=none->b≠x:=fun b n z=>by subst z;rw[n]at mu;exact mu
 have hb:∀b,H b=none->b≠e:=fun b n z=>by
  subst z
  rcases he with r|r
  .exact hx b n r
  .rw[n]at r;cases r
 have hm:∀b u,H b=some u->¬IA (some u)->b≠x:=fun b u q nm z=>by subst z;rw[q]at mu;exact nm mu
 refine⟨fun b u q n _ _=>k b u (hb b n) q,fun b u q n _ _=>⟨u.slots,k b u (hb b n) q⟩,fun b u q n _=>by rw[A8 (hx b n)];exact n,fun b u q _=>?_,
  fun b xs q=>by rw[A8 (hm b _ q fun z=>z)];exact q,fun b u xs q=>by rw[A8 (hm b _ q fun z=>z)];exact q,fun b ps q=>⟨#[],by rw[A8 (hm b _ q fun z=>z),q];simp⟩⟩
 by_cases hbe:b=e
 .subst hbe;exact heo
 .exact⟨u,k b u hbe q⟩
end
def J3 (h:Heap)(H:Hp):List Addr:=(List.range h.objs.size).filter fun a=>(H a).isSome
def Fl (h:Heap)(H:Hp):Heap:=PySem.W.hideAll h (J3 h H)
theorem WJ (h:Heap)(H:Hp):(Fl h H).objs.size=h.objs.size:=PySem.W.hideAll_size _ _
theorem VY {h:Heap}{H:Hp}{b:Addr}{o:Obj}(e:h.get? b=some o)(n:H b=none):(Fl h H).get? b=some o:=
 PySem.W.hideAll_get _ e fun hm=>by
  have q:(H b).isSome=true:=(MO.mp hm).2
  rw[n]at q;simp at q
theorem Rp {h:Heap}{H:Hp}{b:Addr}{o:Obj}(e:(Fl h H).get? b=some o):h.get? b=some o/\H b=none:=by
 have e':h.get? b=some o:=PySem.W.of_hideAll (J3 h H) e
 refine⟨e',?_⟩
 cases q:H b with
 |none=>rfl
 |
  some x=>
  have hm:b∈J3 h H:=MO.mpr ⟨IJ.mpr (BA e'),by simp[q]⟩
  have z:(Fl h H).get? b=none:=PySem.W.hideAll_none (J3 h H) hm
  rw[z]at e;cases e
structure Mod (K:Ya)(mg:Str->Option Value)(base:Heap):Prop where
 kin:K.In base
 glob:base.Ns mainGlobals mg
 blt:∃mb,base.Ns builtinsNs mb/\∀x:Str,x≠"__name__"->mb x=bootBuiltins x
 nolimit:base.NoLimit
structure Cx where
 prog:Program
 w:World
 K:Ya
 mg:Str->Option Value
 base:Heap
 A:Around
 N:List Str
 s₀:Shared
 H₀:Hp
 env:Env
 outer:List Env
 stack:List Env
 ex:List Addr
 fn:Str->Bool
 calm:Bool
 pn:List (Addr×Obj)
 xe:Value->Shared->Prop
def E8 (l:List Env):List Addr:=l.filterMap (·.frame)
abbrev Cx.fs (X:Cx):List Addr:=E8 X.outer
def Il (sc:Scope)(x:Str):Prop:=sc.names.lookup x=some .local\/sc.names.lookup x=some .cell\/sc.names.lookup x=some .free
def FO (sc:Scope)(x:Str):Prop:=sc.names.lookup x=some .local\/sc.names.lookup x=some .cell
def RI (env:Env)(h:Heap)(m:Str->Option Value)(x:Str)(u:Value):Prop:=
 (env.kindOf x=some .local/\m x=some u)\/((env.kindOf x=some .cell\/env.kindOf x=some .free)/\∃c,env.cells.lookup x=some c/\h.IsCell c (some u))
structure Cx.Ok (X:Cx):Prop where
 mod:Mod X.K X.mg X.base
 kind:X.env.scope.kind = .function
 glob:X.env.globals=mainGlobals
 blt:X.env.builtins=builtinsNs
 above:X.s₀.heap.objs.size<=X.env.locals
 inj:∀x y c,X.env.cells.lookup x=some c->X.env.cells.lookup y=some c->x=y
 has:∀x,(X.env.kindOf x=some .cell\/X.env.kindOf x=some .free)->∃c,X.env.cells.lookup x=some c
 cab:∀x c,X.fn x=true->X.env.cells.lookup x=some c->X.s₀.heap.objs.size<=c
 hd:X.calm=true->X.A.handled=none
 frames:X.A.frames=some X.stack
 stk:X.stack=X.outer\/(X.stack=X.env::X.outer/\X.env.frame=some X.env.locals)
 exf:∀b∈X.ex,b≠X.env.locals/\∀x c,X.env.cells.lookup x=some c->c≠b
 bs:∀b o,X.base.get? b=some o->X.s₀.heap.get? b=some o/\X.H₀ b=none
 bsz:X.base.objs.size<=X.s₀.heap.objs.size
 noex:∀b o,X.base.get? b=some o->b∉X.ex
 exfs:∀b∈X.ex,b∉X.fs
 funs:X.s₀.heap.FunFrames X.base X.outer
 frf:∀b∈X.fs,X.H₀ b=none
structure A5 (X:Cx)(pins:List (Addr×Obj))(σ:List (Option V))(H:Hp)(s:Shared):Prop where
 ok:X.Ok
 os:s.os=X.s₀.os
 bare:AllBare s.gens
 base:Un X.fs X.ex X.H₀ H X.s₀.heap s.heap
 loc:∃m,s.heap.Ns X.env.locals m/\∀(i:Nat) (x:Str) (v:V),X.N[i]?=some x->σ[i]?=some (some v)->Il X.env.scope x->∃u,AM v u/\RI X.env s.heap m x u
 cell:∀x c,X.env.cells.lookup x=some c->∃v,s.heap.IsCell c v
 free:H X.env.locals=none
 freeC:∀x c,X.env.cells.lookup x=some c->H c=none
 pin:∀p∈X.pn++pins,s.heap.get? p.1=some p.2/\H p.1=none/\p.1≠X.env.locals/\p.1∉X.fs/\∀v,p.2.data≠.cell v
 hok:BF X.prog X.w H s.heap
 len:σ.length=X.N.length
section
variable {X:Cx}{pins:List (Addr×Obj)}{σ:List (Option V)}{H H':Hp}{s:Shared}{h':Heap}
theorem Cx.Ok.nofr (ok:X.Ok){b:Addr}{o:Obj}(e:X.base.get? b=some o):b∉X.fs:=fun hb=>by
 have:=(ok.funs.mem hb).1
 rw[e]at this;cases this
theorem A5.bs (I:A5 X pins σ H s):∀b o,X.base.get? b=some o->s.heap.get? b=some o/\H b=none:=fun b o e=>
 ⟨I.base.keep b o (I.ok.bs b o e).1 (I.ok.bs b o e).2 (I.ok.nofr e) (I.ok.noex b o e),I.base.free b o (I.ok.bs b o e).1 (I.ok.bs b o e).2 (I.ok.noex b o e)⟩
theorem A5.bk (I:A5 X pins σ H s):∀b o,X.base.get? b=some o->s.heap.get? b=some o:=fun b o e=>(I.bs b o e).1
theorem A5.mod (I:A5 X pins σ H s):Mod X.K X.mg X.base:=I.ok.mod
theorem A5.kIn (I:A5 X pins σ H s):X.K.In s.heap:=I.ok.mod.kin.keeps I.bk
theorem A5.lt (I:A5 X pins σ H s):X.env.locals<s.heap.objs.size:=by obtain⟨_,hn,_⟩:=I.loc;exact hn.lt
theorem A5.sz (I:A5 X pins σ H s):X.s₀.heap.objs.size<=s.heap.objs.size:=BI I.ok.above (GA I.lt)
theorem A5.nofs (I:A5 X pins σ H s){a:Addr}(h:s.heap.objs.size<=a):a∉X.fs:=fun hb=>by
 obtain⟨_,o,ho,_⟩:=I.ok.funs.mem hb
 exact absurd (CY (BA ho) (BI I.sz h)) (EJ _)
theorem A5.cne (I:A5 X pins σ H s):∀x c,X.env.cells.lookup x=some c->c≠X.env.locals:=fun x c e z=>by
 obtain⟨v,o,ho,hd⟩:=I.cell x c e
 obtain⟨m,⟨o',es,ep,ho',hd',_⟩,_⟩:=I.loc
 rw[z,ho']at ho;cases ho;rw[hd']at hd;cases hd
theorem A5.funs (I:A5 X pins σ H s):s.heap.FunFrames X.base X.outer:=by
 have all:∀(l:List Env),(∀b∈E8 l,b∈X.fs)->X.s₀.heap.FunFrames X.base l->s.heap.FunFrames X.base l:=by
  intro l
  induction l with
  |nil=>intro _ _;trivial
  |
   cons env r ih=>
   intro hs hl
   obtain⟨hk,⟨L,o,hf,hn,ho,hd⟩,hr⟩:=hl
   have hL:L∈X.fs:=hs L (by unfold E8;rw[Qj,hf];exact AA)
   obtain⟨sl,e⟩:=I.base.slot L o ho (I.ok.frf L hL) hL fun z=>I.ok.exfs L z hL
   exact⟨hk,⟨L,_,hf,hn,e,hd⟩,ih (fun b hb=>hs b (by unfold E8;rw[Qj,hf];exact B8 _ hb)) hr⟩
 exact all X.outer (fun _ hb=>hb) I.ok.funs
theorem A5.stack (I:A5 X pins σ H s):s.heap.FunFrames X.base X.stack:=by
 rcases I.ok.stk with e|⟨e,hf⟩
 .rw[e];exact I.funs
 .rw[e]
  obtain⟨m,hn,_⟩:=I.loc
  refine .cons (by rw[I.ok.kind];decide) hf hn ?_ I.funs
  exact Heap.get?_none_of_le (BI I.ok.bsz I.ok.above)
theorem A5.stkSub (I:A5 X pins σ H s):∀b∈E8 X.stack,b∈X.env.locals::X.fs:=fun b hb=>by
 rcases I.ok.stk with e|⟨e,hf⟩
 .rw[e]at hb;exact B8 _ hb
 .rw[e]at hb
  unfold E8 at hb
  rw[Qj,hf]at hb
  exact hb
theorem A5.stkFree (I:A5 X pins σ H s):∀b∈E8 X.stack,H b=none:=fun b hb=>by
 rcases AG.mp (I.stkSub b hb) with e|hb
 .rw[e];exact I.free
 .obtain⟨_,o,ho,_⟩:=I.ok.funs.mem hb
  exact I.base.free b o ho (I.ok.frf b hb) fun z=>I.ok.exfs b z hb
theorem A5.step {g':Array GenState}{t':Nat}{d':Drawn}{ch:List Addr}(I:A5 X pins σ H s)
  (hch:∀b∈ch,(b∈X.ex\/X.s₀.heap.objs.size<=b)/\b≠X.env.locals/\(∀x c,X.env.cells.lookup x=some c->c≠b)/\∀p∈X.pn++pins,p.1≠b)
  (keep:∀b o,b≠X.env.locals->b∉X.fs->b∉ch->s.heap.get? b=some o->H b=none->h'.get? b=some o)
  (slot:∀b o,b≠X.env.locals->b∈X.fs->b∉ch->s.heap.get? b=some o->H b=none->∃sl,h'.get? b=some {o with slots:=sl}) (free:∀b o,b∉ch->s.heap.get? b=some o->H b=none->H' b=none)
  (there:∀b o,b∉ch->s.heap.get? b=some o->∃o',h'.get? b=some o')
  (tups:∀b xs,H b=some (.tup xs)->H' b=some (.tup xs)) (frzs:∀b o u,H b=some (.frz o u)->H' b=some (.frz o u)) (tbls:∀b ps,H b=some (.tbl ps)->∃more,H' b=some (.tbl (ps++more)))
  (ns:∀m,s.heap.Ns X.env.locals m->h'.Ns X.env.locals m) (hok:BF X.prog X.w H' h') (hg:AllBare g') :
  A5 X pins σ H' {s with heap:=h',gens:=g',drawn:=d',toks:=t'}:=by
 have neL:∀b o,X.s₀.heap.get? b=some o->b≠X.env.locals:=fun b o e=>Co (CY (BA e) I.ok.above)
 have neC:∀b o,X.s₀.heap.get? b=some o->b∉X.ex->b∉ch:=fun b o e hx hb=>by
  rcases(hch b hb).1 with z|z
  .exact hx z
  .exact absurd (CY (BA e) z) (EJ _)
 have cellK:∀x c,X.env.cells.lookup x=some c->∀v,s.heap.IsCell c v->h'.IsCell c v:=fun x c e v ⟨o,ho,hd⟩=>by
  have nch:c∉ch:=fun z=>(hch c z).2.2.1 x c e rfl
  by_cases hc:c∈X.fs
  .obtain⟨sl,q⟩:=slot c o (I.cne x c e) hc nch ho (I.freeC x c e)
   exact⟨_,q,hd⟩
  .exact⟨o,keep c o (I.cne x c e) hc nch ho (I.freeC x c e),hd⟩
 refine⟨I.ok,I.os,hg,⟨fun b o e n hb hx=>?_,fun b o e n hb hx=>?_,fun b o e n hx=>?_,fun b o e hx=>?_,fun b xs e=>tups b xs (I.base.tups b xs e),fun b o xs e=>frzs b o xs (I.base.frzs b o xs e),fun b ps e=>?_⟩,?_,fun x c e=>?_,?_,fun x c e=>?_,fun p hp=>?_,hok,I.len⟩
 .exact keep b o (neL b o e) hb (neC b o e hx) (I.base.keep b o e n hb hx) (I.base.free b o e n hx)
 .obtain⟨sl,e1⟩:=I.base.slot b o e n hb hx
  obtain⟨sl',e2⟩:=slot b _ (neL b o e) hb (neC b o e hx) e1 (I.base.free b o e n hx)
  exact⟨sl',e2⟩
 .obtain⟨o',e1⟩:=I.base.there b o e hx
  exact free b o' (neC b o e hx) e1 (I.base.free b o e n hx)
 .obtain⟨o',e1⟩:=I.base.there b o e hx
  exact there b o' (neC b o e hx) e1
 .obtain⟨m1,e1⟩:=I.base.tbls b ps e
  obtain⟨m2,e2⟩:=tbls b _ e1
  exact⟨m1++m2,by rw[e2,Array.append_assoc]⟩
 .obtain⟨m,hn,hl⟩:=I.loc
  refine⟨m,ns m hn,fun i x v e1 e2 e3=>?_⟩
  obtain⟨u,r,l⟩:=hl i x v e1 e2 e3
  refine⟨u,r,?_⟩
  rcases l with l|⟨k,c,e,z⟩
  .exact .inl l
  .exact .inr ⟨k,c,e,cellK x c e _ z⟩
 .obtain⟨v,z⟩:=I.cell x c e
  exact⟨v,cellK x c e v z⟩
 .obtain⟨m,⟨o,_,_,ho,_⟩,_⟩:=I.loc
  exact free _ o (fun z=>(hch _ z).2.1 rfl) ho I.free
 .obtain⟨v,o,ho,hd⟩:=I.cell x c e
  exact free c o (fun z=>(hch c z).2.2.1 x c e rfl) ho (I.freeC x c e)
 .obtain⟨e,n,ne,nf,d⟩:=I.pin p hp
  have nch:p.1∉ch:=fun z=>(hch p.1 z).2.2.2 p hp rfl
  exact⟨keep p.1 p.2 ne nf nch e n,free p.1 p.2 nch e n,ne,nf,d⟩
theorem A5.un {t':Nat}(I:A5 X pins σ H s)(u:Un X.fs [] H H' s.heap h')(hok:BF X.prog X.w H' h'):A5 X pins σ H' {s with heap:=h',toks:=t'}:=by
 obtain⟨m,⟨o,es,ep,ho,r⟩,_⟩:=id I.loc
 obtain⟨sl,hL⟩:=u.any ho I.free (by simp)
 exact I.step (g':=s.gens) (d':=s.drawn) (ch:=[]) (fun _ z=>nomatch z) (fun b o _ hb _ e n=>u.keep b o e n hb (by simp)) (fun b o _ hb _ e n=>u.slot b o e n hb (by simp)) (fun b o _ e n=>u.free b o e n (by simp)) (fun b o _ e=>u.there b o e (by simp)) u.tups u.frzs u.tbls (fun m' hm=>by
  obtain⟨o',es',ep',ho',r'⟩:=hm
  rw[ho]at ho';cases ho'
  exact⟨_,es',ep',hL,r'⟩) hok I.bare
theorem A5.call {g':Array GenState}{t':Nat}{d':Drawn}{ch:List Addr}(I:A5 X pins σ H s)(u:Un (E8 X.stack) ch H H' s.heap h')(hok:BF X.prog X.w H' h')(hg:AllBare g')
  (hch:∀b∈ch,(b∈X.ex\/X.s₀.heap.objs.size<=b)/\b≠X.env.locals/\(∀x c,X.env.cells.lookup x=some c->c≠b)/\∀p∈X.pn++pins,p.1≠b) :
  A5 X pins σ H' {s with heap:=h',gens:=g',drawn:=d',toks:=t'}:=by
 obtain⟨m,⟨o,es,ep,ho,r⟩,_⟩:=id I.loc
 obtain⟨sl,hL⟩:=u.any ho I.free fun z=>(hch _ z).2.1 rfl
 exact I.step (ch:=ch) hch (fun b o hL hb hc e n=>u.keep b o e n (fun z=>(AG.mp (I.stkSub b z)).elim hL hb) hc) (fun b o _ _ hc e n=>u.any e n hc) (fun b o hc e n=>u.free b o e n hc) (fun b o hc e=>u.there b o e hc) u.tups u.frzs u.tbls (fun m' hm=>by
  obtain⟨o',es',ep',ho',r'⟩:=hm
  rw[ho]at ho';cases ho'
  exact⟨_,es',ep',hL,r'⟩) hok hg
theorem A5.turned {t':Nat}{it:Addr}(I:A5 X pins σ H s)(k:∀b o,b≠it->s.heap.get? b=some o->h'.get? b=some o)(hn:H it=none)(hL:it≠X.env.locals)
  (h1:it∈X.ex\/X.s₀.heap.objs.size<=it) (h2:∀x c,X.env.cells.lookup x=some c->c≠it) (h3:∀p∈X.pn++pins,p.1≠it):A5 X pins σ H {s with heap:=h',toks:=t'}:=by
 have nit:∀b u,H b=some u->b≠it:=fun b u e z=>by rw[z,hn]at e;cases e
 refine I.step (g':=s.gens) (d':=s.drawn) (ch:=[it]) (fun b hb=>?_) (fun b o _ _ hc e _=>k b o (fun z=>hc (by simp[z])) e) (fun b o _ _ hc e _=>⟨o.slots,k b o (fun z=>hc (by simp[z])) e⟩) (fun _ _ _ _ n=>n)
  (fun b o hc e=>⟨o,k b o (fun z=>hc (by simp[z])) e⟩) (fun _ _ e=>e) (fun _ _ _ e=>e) (fun b ps e=>⟨#[],by rw[e];simp⟩) (fun m hm=>?_) (fun b u e=>?_) I.bare
 .have e:b=it:=by simpa using hb
  subst e
  exact⟨h1,hL,h2,h3⟩
 .obtain⟨o,es,ep,ho,r⟩:=hm
  exact⟨o,es,ep,k _ o (Ne.symm hL) ho,r⟩
 .refine(I.hok b u e).stay (fun c v hc q=>k c v ?_ q) (fun _ q=>q) fun _ _ q=>q
  rcases hc with z|z
  .rw[z];exact nit b u e
  .exact nit c _ z
theorem A5.tok (I:A5 X pins σ H s)(t:Nat):A5 X pins σ H {s with toks:=t}:=I.un (h':=s.heap) (t':=t) Un.refl I.hok
theorem A5.kept {t':Nat}(I:A5 X pins σ H s)(k:∀b u,s.heap.get? b=some u->h'.get? b=some u):A5 X pins σ H {s with heap:=h',toks:=t'}:=I.un (Un.kept k) (I.hok.kept k)
theorem A5.laid {a:Addr}{o:HO}{t':Nat}(I:A5 X pins σ H s)(k:∀b u,s.heap.get? b=some u->h'.get? b=some u)(hp:s.heap.objs.size<=a)(new:BV X.prog X.w (upd H a o) h' a o) :
 A5 X pins σ (upd H a o) {s with heap:=h',toks:=t'}:=I.un (Un.laid k hp (I.hok.fresh hp)) (I.hok.laid k hp new)
theorem A5.write {x e:Addr}{o:HO}{t':Nat}(I:A5 X pins σ H s)(mu:IA (H x))(he:e=x\/H e=some (.own x))(k:∀b u,b≠e->s.heap.get? b=some u->h'.get? b=some u)(heo:∃u,h'.get? e=some u)
 (new:BV X.prog X.w (upd H x o) h' x o):A5 X pins σ (upd H x o) {s with heap:=h',toks:=t'}:=I.un (Un.write mu he k heo) (I.hok.write mu he k heo new)
theorem A5.weak {σ':List (Option V)}(I:A5 X pins σ H s)(hl:σ'.length=σ.length)(w:∀(i:Nat) v,σ'[i]?=some (some v)->σ[i]?=some (some v)):A5 X pins σ' H s:=
 ⟨I.ok,I.os,I.bare,I.base,let ⟨m,hn,hl'⟩:=I.loc;⟨m,hn,fun i x v e1 e2 e3=>hl' i x v e1 (w i v e2) e3⟩,I.cell,I.free,I.freeC,I.pin,I.hok,hl.trans I.len⟩
theorem A5.pins_of {pins':List (Addr×Obj)}(I:A5 X pins σ H s)(h:∀p∈pins',s.heap.get? p.1=some p.2/\H p.1=none/\p.1≠X.env.locals/\p.1∉X.fs/\∀v,p.2.data≠.cell v):A5 X pins' σ H s:=
 ⟨I.ok,I.os,I.bare,I.base,I.loc,I.cell,I.free,I.freeC,fun p hp=>(Bl.mp hp).elim (fun z=>I.pin p (FV _ z)) (h p),I.hok,I.len⟩
theorem Oc {N:List Str}(hN:N.Nodup){i j:Nat}{x:Str}(a:N[i]?=some x)(b:N[j]?=some x):i=j:=by
 obtain⟨h1,e1⟩:=BE.mp a
 obtain⟨h2,e2⟩:=BE.mp b
 exact(List.getElem_inj hN).mp (e1.trans e2.symm)
theorem Vn {M:Model}{A:Around}{E:Value->Shared->Prop}{i:Nat}{x:Str}{v:V}{u:Value}{Q:Unit->Shared->Prop}(I:A5 X pins σ H s)(hN:X.N.Nodup)(hi:X.N[i]?=some x)(hx:FO X.env.scope x)(r:AM v u)
  (h:∀s',A5 X pins (σ.set i (some v)) H s'->(∃a,Heap.SameBut a s.heap s'.heap/\(a=X.env.locals\/X.env.cells.lookup x=some a))->Q () s') (hf:X.fn x=true\/X.env.scope.names.lookup x=some .local:=by first|exact .inl rfl|exact .inr rfl|assumption):wpAny M A (storeName X.env x u) Q E s:=by
 obtain⟨m,hn,hl⟩:=id I.loc
 have hcls:(X.env.scope.kind == .class||(X.env.scope.kind == .module&&X.env.locals != X.env.globals))=false:=by rw[I.ok.kind];rfl
 have hiσ:i<σ.length:=by rw[I.len];exact(BE.mp hi).1
 have cne:=I.cne
 have tracked:∀{a:Addr} {h':Heap},(∃o,s.heap.get? a=some o/\H a=none)->Heap.SameBut a s.heap h'->BF X.prog X.w H h':=fun{a h'} ha hs b ob e=>by
  obtain⟨_,_,hfree⟩:=ha
  refine(I.hok b ob e).stay (fun c w' hc q=>(hs.2 c ?_).trans q) (fun _ q=>q) fun _ _ q=>q
  rintro rfl
  rcases hc with rfl|hc
  .rw[hfree]at e;cases e
  .rw[hfree]at hc;cases hc
 rcases hx with hk|hk
 .refine wpAny_storeName_local hk hn (fun h' hn' hs=>?_) hcls
  obtain⟨oL,_,_,hoL,_⟩:=id hn
  refine h _ ⟨I.ok,I.os,I.bare,⟨fun b o e n hb hx=>?_,fun b o e n hb hx=>?_,I.base.free,fun b o e hx=>?_,I.base.tups,I.base.frzs,I.base.tbls⟩,⟨_,hn',fun j y v' e1 e2 e3=>?_⟩,fun y c e=>?_,I.free,I.freeC,fun p hp=>?_,tracked ⟨oL,hoL,I.free⟩ hs,by simpa using I.len⟩ ⟨_,hs,.inl rfl⟩
  .exact(hs.2 b (Co (CY (BA e) I.ok.above))).trans (I.base.keep b o e n hb hx)
  .obtain⟨sl,e1⟩:=I.base.slot b o e n hb hx
   exact⟨sl,(hs.2 b (Co (CY (BA e) I.ok.above))).trans e1⟩
  .obtain⟨o',e1⟩:=I.base.there b o e hx
   exact⟨o',(hs.2 b (Co (CY (BA e) I.ok.above))).trans e1⟩
  .by_cases hj:j=i
   .subst hj
    rw[hi]at e1;cases e1
    rw[List.getElem?_set_self hiσ]at e2
    cases e2
    exact⟨u,r,.inl ⟨hk,by simp⟩⟩
   .rw[List.getElem?_set_ne (Ne.symm hj)]at e2
    obtain⟨u',r',q⟩:=hl j y v' e1 e2 e3
    refine⟨u',r',?_⟩
    rcases q with⟨k,e⟩|⟨k,c,e,z⟩
    .refine .inl ⟨k,?_⟩
     have:y≠x:=fun e=>hj (Oc hN e1 (e▸hi))
     simp[this,e]
    .exact .inr ⟨k,c,e,z.sameBut hs (cne y c e)⟩
  .obtain⟨w',z⟩:=I.cell y c e
   exact⟨w',z.sameBut hs (cne y c e)⟩
  .obtain⟨e,n,ne,nf,d⟩:=I.pin p hp
   exact⟨(hs.2 p.1 ne).trans e,n,ne,nf,d⟩
 .have hfn:X.fn x=true:=by
   rcases hf with z|z
   .exact z
   .rw[z]at hk;cases hk
  obtain⟨c,hc⟩:=I.ok.has x (.inl hk)
  obtain⟨w',z⟩:=I.cell x c hc
  refine wpAny_storeName_cell I.ok.kind hk hc z (fun h' hc' hs=>?_)
  obtain⟨oc,hoc,hocd⟩:=id z
  refine h {s with heap:=h'} ⟨I.ok,I.os,I.bare,⟨fun b o e n hb hx=>?_,fun b o e n hb hx=>?_,I.base.free,fun b o e hx=>?_,I.base.tups,I.base.frzs,I.base.tbls⟩,⟨m,hn.sameBut hs (Ne.symm (cne x c hc)),fun j y v' e1 e2 e3=>?_⟩,fun y c' e=>?_,I.free,I.freeC,fun p hp=>?_,tracked ⟨oc,hoc,I.freeC x c hc⟩ hs,by simpa using I.len⟩ ⟨c,hs,.inr hc⟩
  .exact(hs.2 b (Co (CY (BA e) (I.ok.cab x c hfn hc)))).trans (I.base.keep b o e n hb hx)
  .obtain⟨sl,e1⟩:=I.base.slot b o e n hb hx
   exact⟨sl,(hs.2 b (Co (CY (BA e) (I.ok.cab x c hfn hc)))).trans e1⟩
  .obtain⟨o',e1⟩:=I.base.there b o e hx
   exact⟨o',(hs.2 b (Co (CY (BA e) (I.ok.cab x c hfn hc)))).trans e1⟩
  .by_cases hj:j=i
   .subst hj
    rw[hi]at e1;cases e1
    rw[List.getElem?_set_self hiσ]at e2
    cases e2
    exact⟨u,r,.inr ⟨.inl hk,c,hc,hc'⟩⟩
   .rw[List.getElem?_set_ne (Ne.symm hj)]at e2
    obtain⟨u',r',q⟩:=hl j y v' e1 e2 e3
    refine⟨u',r',?_⟩
    rcases q with q|⟨k,c',e,z'⟩
    .exact .inl q
    .refine .inr ⟨k,c',e,z'.sameBut hs ?_⟩
     rintro rfl
     exact hj (Oc hN e1 (I.ok.inj _ _ _ e hc▸hi))
  .by_cases hcc:c'=c
   .subst hcc;exact⟨_,hc'⟩
   .obtain⟨w2,z2⟩:=I.cell y c' e
    exact⟨w2,z2.sameBut hs hcc⟩
  .obtain⟨e,n,ne,nf,d⟩:=I.pin p hp
   refine⟨(hs.2 p.1 ?_).trans e,n,ne,nf,d⟩
   intro q
   rw[q,hoc]at e
   have q':oc=p.2:=BX e
   exact d w' (by rw[←q'];exact hocd)
theorem II {M:Model}{A:Around}{E:Value->Shared->Prop}{i:Nat}{x:Str}{v:V}{u:Value}{Q:Unit->Shared->Prop}(I:A5 X pins σ H s)(hN:X.N.Nodup)(hi:X.N[i]?=some x)(hx:FO X.env.scope x)(r:AM v u)
  (h:∀s',A5 X pins (σ.set i (some v)) H s'->Q () s') (hf:X.fn x=true\/X.env.scope.names.lookup x=some .local:=by first|exact .inl rfl|exact .inr rfl|assumption):wpAny M A (storeName X.env x u) Q E s:=
 Vn I hN hi hx r (fun s' I' _=>h s' I') hf
theorem A5.call' {s':Shared}{ch:List Addr}(I:A5 X pins σ H s)(ho:s'.os=s.os)(u:Un (E8 X.stack) ch H H' s.heap s'.heap)(hok:BF X.prog X.w H' s'.heap)(hg:AllBare s'.gens)
  (hch:∀b∈ch,(b∈X.ex\/X.s₀.heap.objs.size<=b)/\b≠X.env.locals/\(∀x c,X.env.cells.lookup x=some c->c≠b)/\∀p∈X.pn++pins,p.1≠b):A5 X pins σ H' s':=by
 obtain⟨h',g',d',t',o'⟩:=s'
 have e:o'=s.os:=ho
 subst e
 exact I.call (g':=g') (t':=t') (d':=d') u hok hg hch
end
abbrev XK:=Value->Option Addr->Hp->Prop
abbrev St:=List (Option V)
abbrev VK:=V->Hp->Prop
abbrev TE:=St->Hp->VK->Prop
abbrev TT:=St->Hp->(Bool->Hp->Prop)->Prop
abbrev TA:=St->Hp->(List V->Hp->Prop)->Prop
structure DG where
 nx:St->Hp->Prop
 rt:VK
 bk:St->Hp->Prop:=fun _ _=>False
 ct:St->Hp->Prop:=fun _ _=>False
abbrev TS:=DG->St->Hp->Prop
def EP (X:Cx)(pins:List (Addr×Obj))(σ:St)(Q:VK)(u:Value)(s':Shared):Prop := ∃v H',A5 X pins σ H' s'/\AM v u/\Q v H'
def TP (X:Cx)(pins:List (Addr×Obj))(σ:St)(Q:Bool->Hp->Prop)(b:Bool)(s':Shared):Prop := ∃H',A5 X pins σ H' s'/\Q b H'
def AP (X:Cx)(pins:List (Addr×Obj))(σ:St)(Q:List V->Hp->Prop)(us:List Value)(s':Shared):Prop := ∃vs H',A5 X pins σ H' s'/\AD vs us/\Q vs H'
def SP (X:Cx)(pins:List (Addr×Obj))(D:DG)(f:Flow)(s':Shared):Prop:=
 match f with
 |.next=>∃σ' H',A5 X pins σ' H' s'/\D.nx σ' H'
 |.brk=>∃σ' H',A5 X pins σ' H' s'/\D.bk σ' H'
 |.cont=>∃σ' H',A5 X pins σ' H' s'/\D.ct σ' H'
 |.ret u=>∃v σ' H',A5 X pins σ' H' s'/\AM v u/\D.rt v H'
def PE (X:Cx)(e:Expr)(t:TE):Prop:=
 ∀(pins:List (Addr×Obj)) (s:Shared) (σ:St) (H:Hp) (Q:VK),A5 X pins σ H s->t σ H Q->wpAny (model X.prog X.w) X.A (eval e X.env) (EP X pins σ Q) X.xe s
def PT (X:Cx)(e:Expr)(t:TT):Prop:=
 ∀(pins:List (Addr×Obj)) (s:Shared) (σ:St) (H:Hp) (Q:Bool->Hp->Prop),A5 X pins σ H s->t σ H Q->wpAny (model X.prog X.w) X.A (isTrue e X.env (eval e X.env)) (TP X pins σ Q) X.xe s
def PW (X:Cx)(e:Expr)(t:TT):Prop:=
 ∀(whole:Sem Value) (pins:List (Addr×Obj)) (s:Shared) (σ:St) (H:Hp) (Q:Bool->Hp->Prop),A5 X pins σ H s->t σ H Q->wpAny (model X.prog X.w) X.A (isTrue e X.env whole) (TP X pins σ Q) X.xe s
theorem PW.pt {X:Cx}{e:Expr}{t:TT}(h:PW X e t):PT X e t:=h _
def PA (X:Cx)(es:List Expr)(t:TA):Prop:=
 ∀(pos:Pos) (pins:List (Addr×Obj)) (s:Shared) (σ:St) (H:Hp) (Q:List V->Hp->Prop),A5 X pins σ H s->t σ H Q->wpAny (model X.prog X.w) X.A (spliced (backTo pos (starEach es X.env))) (AP X pins σ Q) X.xe s
def PS (X:Cx)(st:Stmt)(t:TS):Prop:=
 ∀(pins:List (Addr×Obj)) (s:Shared) (σ:St) (H:Hp) (D:DG),A5 X pins σ H s->t D σ H->wpAny (model X.prog X.w) X.A (exec st X.env) (SP X pins D) X.xe s
def DL (X:Cx)(st:List Stmt)(t:TS):Prop:=
 ∀(pins:List (Addr×Obj)) (s:Shared) (σ:St) (H:Hp) (D:DG),A5 X pins σ H s->t D σ H->wpAny (model X.prog X.w) X.A (execs st X.env) (SP X pins D) X.xe s
theorem Ao {α:Type}{t:Sem α}{Q Q':α->Shared->Prop}{M:Model}{A:Around}{E:Value->Shared->Prop}{s:Shared}(h:wpAny M A t Q E s)(hQ:∀a s,Q a s->Q' a s):wpAny M A t Q' E s:=DW h hQ fun _ _ x=>x
section
variable {X:Cx}
def EE (i:Nat):TE:=fun σ H Q=>∃v,σ[i]?=some (some v)/\Q v H
def tC (v:V):TE:=fun _ H Q=>Q v H
theorem Ss {i:Nat}{x:Str}{pos:Pos}(hN:X.N[i]?=some x)(hv:Il X.env.scope x)(hd:(x==("__debug__":Str))=false:=by decide)(hcd:(x==("__classdict__":Str))=false:=by decide):PE X (.Name x pos) (EE i):=by
 intro pins s σ H Q I h
 obtain⟨v,e,h⟩:=h
 obtain⟨m,hn,hl⟩:=I.loc
 obtain⟨u,r,l⟩:=hl i x v hN e hv
 have fin:EP X pins σ Q u s:=⟨v,H,I,r,h⟩
 rcases l with⟨hk,hm⟩|⟨hk,c,hc,hcell⟩
 .exact wpAny_Name (wpAny_loadName_local I.ok.kind hk hn hm fin) hd
 .rcases hk with hk|hk
  .exact wpAny_Name (wpAny_loadName_cell I.ok.kind hk hc hcell fin) hd
  .exact wpAny_Name (wpAny_loadName_free I.ok.kind hk hc hcell fin hcd) hd
theorem A2 {i j pos}:PE X (.Constant (.int i) j pos) (tC (.int i)):=fun _ _ _ H _ I h=>wpAny_Constant_int ⟨.int i,H,I.tok _,⟨_,rfl⟩,h⟩
theorem Cv {b j pos}:PE X (.Constant (.bool b) j pos) (tC (.bl b)):=fun _ _ _ H _ I h=>Constant_bool ⟨.bl b,H,I,rfl,h⟩
theorem BO {j pos}:PE X (.Constant .none j pos) (tC .non):=fun _ _ _ H _ I h=>Constant_none ⟨.non,H,I,rfl,h⟩
theorem Ar {x j pos}:PE X (.Constant (.str x) j pos) (tC (.str x)):=fun _ _ _ H _ I h=>Calls.Constant_str ⟨.str x,H,I.tok _,⟨_,rfl⟩,h⟩
def Gl (X:Cx)(x:Str):Prop:=X.env.kindOf x=some .globalImplicit
theorem Iv {E:Value->Shared->Prop}{pins:List (Addr×Obj)}{s:Shared}{σ:St}{H:Hp}{x:Str}{u:Value}{pos:Pos}{Q:Value->Shared->Prop}(I:A5 X pins σ H s)(hg:Gl X x)(hm:X.mg x=some u)(h:Q u s)
  (hd:(x==("__debug__":Str))=false:=by decide):wpAny (model X.prog X.w) X.A (eval (.Name x pos) X.env) Q E s:=
 Calls.Name_function_global I.ok.kind hg (Calls.loadGlobal_global (by rw[I.ok.glob];exact I.mod.glob.keeps I.bk) hm h) hd
theorem GQ {E:Value->Shared->Prop}{pins:List (Addr×Obj)}{s:Shared}{σ:St}{H:Hp}{x:Str}{u:Value}{pos:Pos}{Q:Value->Shared->Prop}(I:A5 X pins σ H s)(hg:Gl X x)(hm:X.mg x=none)(hv:bootBuiltins x=some u)(h:Q u s)
  (hn:x≠"__name__":=by decide) (hd:(x==("__debug__":Str))=false:=by decide):wpAny (model X.prog X.w) X.A (eval (.Name x pos) X.env) Q E s:=by
 obtain⟨mb,h1,h2⟩:=I.mod.blt
 exact Calls.Name_function_global I.ok.kind hg (Calls.loadGlobal_builtin (by rw[I.ok.glob];exact I.mod.glob.keeps I.bk) hm (by rw[I.ok.blt];exact h1.keeps I.bk) ((h2 x hn).trans hv) h) hd
theorem C7 {x:Str}{v:V}{u:Value}{pos:Pos}(hg:Gl X x)(hm:X.mg x=some u)(r:AM v u)(hd:(x==("__debug__":Str))=false:=by decide):PE X (.Name x pos) (tC v):=
 fun _ _ _ H _ I h=>Iv I hg hm ⟨v,H,I,r,h⟩ hd
variable {a b:Expr}{ta tb:TE}{pos:Pos}
def tB (t:TE):TT:=fun σ H Q=>t σ H fun x H1=>∃c,x = .bl c/\Q c H1
theorem Cd {e:Expr}{t:TE}(h:PE X e t)(he:∀whole,isTrue e X.env whole=(do let v ←whole;standAt e.pos;holding [v] (truthy v)):=by intro _;rfl):PT X e (tB t):=by
 intro pins s σ H Q I hw
 refine isTrue_plain (Ao (h pins s σ H _ I hw) fun v s1 zz=>?_) (he _)
 obtain⟨x,H1,I1,r1,q1⟩:=zz
 obtain⟨d,rfl,q⟩:=q1
 cases r1
 exact Hz ⟨H1,I1,q⟩
variable {tA tB':TT}{rest:List Expr}
def Ts (t u:TT):TT:=fun σ H Q=>t σ H fun c H1=>if c=true then u σ H1 Q else Q false H1
def Ta (t u:TT):TT:=fun σ H Q=>t σ H fun c H1=>if c=true then Q true H1 else u σ H1 Q
def WZ (t:TT):TT:=fun σ H Q=>t σ H fun c H1=>Q (!c) H1
theorem DT (ha:PT X a tA):PW X (.BoolOp .And [a] pos) tA:=by
 intro wh pins s σ H Q I h
 refine isTrue_and (Ao (ha pins s σ H Q I h) fun c s1 e=>?_)
 cases c with
 |true=>exact isTrue_and_nil e
 |false=>exact e
theorem Dt (ha:PT X a tA):PW X (.BoolOp .Or [a] pos) tA:=by
 intro wh pins s σ H Q I h
 refine isTrue_or (Ao (ha pins s σ H Q I h) fun c s1 e=>?_)
 cases c with
 |false=>exact isTrue_or_nil e
 |true=>exact e
theorem Dg (ha:PT X a tA)(hb:PW X (.BoolOp .And (b::rest) pos) tB'):PW X (.BoolOp .And (a::b::rest) pos) (Ts tA tB'):=by
 intro wh pins s σ H Q I h
 refine isTrue_and (Ao (ha pins s σ H _ I h) fun c s1 zz=>?_)
 obtain⟨H1,I1,q1⟩:=zz
 cases c with
 |true=>exact hb wh pins s1 σ H1 Q I1 q1
 |false=>exact⟨H1,I1,q1⟩
theorem Cu (ha:PT X a tA)(hb:PW X (.BoolOp .Or (b::rest) pos) tB'):PW X (.BoolOp .Or (a::b::rest) pos) (Ta tA tB'):=by
 intro wh pins s σ H Q I h
 refine isTrue_or (Ao (ha pins s σ H _ I h) fun c s1 zz=>?_)
 obtain⟨H1,I1,q1⟩:=zz
 cases c with
 |true=>exact⟨H1,I1,q1⟩
 |false=>exact hb wh pins s1 σ H1 Q I1 q1
theorem Ew (ha:PT X a tA):PT X (.UnaryOp .Not a pos) (WZ tA):=by
 intro pins s σ H Q I h
 exact isTrue_not (ha pins s σ H (fun c H1=>Q (!c) H1) I h)
def Lr (ta tb:TE):TE:=fun σ H Q=>ta σ H fun x H1=>∃c,x = .bl c/\if c=true then tb σ H1 Q else Q (.bl false) H1
def NX (ta tb:TE):TE:=fun σ H Q=>ta σ H fun x H1=>∃c,x = .bl c/\if c=true then Q (.bl true) H1 else tb σ H1 Q
theorem FD {op}{t:TE}(h:PE X a t):PE X (.BoolOp op [a] pos) t:=fun pins s σ H Q I hw=>BoolOp_one (h pins s σ H Q I hw)
theorem ID (ha:PE X a ta)(hb:PE X (.BoolOp .And (b::rest) pos) tb):PE X (.BoolOp .And (a::b::rest) pos) (Lr ta tb):=by
 intro pins s σ H Q I h
 refine BoolOp_and (Ao (ha pins s σ H _ I h) fun v s1 zz=>?_)
 obtain⟨x,H1,I1,r1,q1⟩:=zz
 obtain⟨c,rfl,q1⟩:=q1
 cases r1
 refine Hz ?_
 cases c with
 |true=>exact hb pins s1 σ H1 Q I1 q1
 |false=>exact⟨.bl false,H1,I1,rfl,q1⟩
theorem M9 (ha:PE X a ta)(hb:PE X (.BoolOp .Or (b::rest) pos) tb):PE X (.BoolOp .Or (a::b::rest) pos) (NX ta tb):=by
 intro pins s σ H Q I h
 refine BoolOp_or (Ao (ha pins s σ H _ I h) fun v s1 zz=>?_)
 obtain⟨x,H1,I1,r1,q1⟩:=zz
 obtain⟨c,rfl,q1⟩:=q1
 cases r1
 refine Hz ?_
 cases c with
 |false=>exact hb pins s1 σ H1 Q I1 q1
 |true=>exact⟨.bl true,H1,I1,rfl,q1⟩
end
def A3 (K:Ya)(H:Hp)(a:Addr)(xs:List V):Prop:=
 Rd H a (.lst xs)\/
  ∃(o:Obj) (its:Array Value) (n:Nat),K.lookup a=some o/\o.cls = .type "list"/\o.dict=none/\o.data = .seq its n/\its.size<=sizeLine/\AD xs its.toList
def Aw (K:Ya)(H:Hp)(a:Addr)(xs:List V):Prop:=
 Rd H a (.tup xs)\/
  ∃(o:Obj) (its:Array Value) (n:Nat),K.lookup a=some o/\o.cls = .type "tuple"/\o.data = .seq its n/\its.size<=sizeLine/\AD xs its.toList
def VQ:Value->Option V
 |.none=>some .non
 |.bool b=>some (.bl b)
 |.int i _=>some (.int i)
 |.str x _=>some (.str x)
 |.bytes b _=>some (.byt b)
 |.float b _=>some (.flt b)
 |.ref a=>some (.ref a)
 |.type n=>some (.ty n)
 |_=>none
theorem AM.abs {x:V}{u:Value}(r:AM x u):VQ u=some x:=by
 cases x with
 |non=>cases r;rfl
 |bl _=>cases r;rfl
 |int _=>obtain⟨t,rfl⟩:=r;rfl
 |str _=>obtain⟨t,rfl⟩:=r;rfl
 |byt _=>obtain⟨t,rfl⟩:=r;rfl
 |flt _=>obtain⟨t,rfl⟩:=r;rfl
 |ref _=>cases r;rfl
 |ty _=>cases r;rfl
theorem AM.inj {x y:V}{u:Value}(r:AM x u)(q:AM y u):x=y:=BX (r.abs.symm.trans q.abs)
theorem AD.inj:∀{xs ys:List V} {us:List Value},AD xs us->AD ys us->xs=ys:=by
 intro xs
 induction xs with
 |
  nil=>
  intro ys us h k
  cases h
  cases k
  rfl
 |
  cons x xs ih=>
  intro ys us h k
  cases h with
  |
   cons r t=>
   cases k with
   |cons r' t'=>rw[r.inj r',ih t t']
section
variable {X:Cx}{pins:List (Addr×Obj)}{σ:St}{H:Hp}{s:Shared}{a:Addr}{xs ys:List V}
theorem A3.of {K:Ya}(h:H a=some (.lst xs)):A3 K H a xs:=.inl (.inl h)
theorem Aw.of {K:Ya}(h:H a=some (.tup xs)):Aw K H a xs:=.inl (.inl h)
theorem A5.list (I:A5 X pins σ H s)(h:A3 X.K H a xs):∃its:List Value,AD xs its/\PlainL s.heap a its.toArray/\xs.length<=sizeLine:=by
 rcases h with h|⟨o,its,n,hk,hc,hd,hs,hz,r⟩
 .obtain⟨z,its,n,r,e⟩:=h.ok I.hok
  exact⟨its,r,⟨_,n,e,rfl,rfl,rfl⟩,z⟩
 .refine⟨its.toList,r,⟨o,n,I.kIn a o hk,hc,hd,by simpa using hs⟩,?_⟩
  have e:=r.length
  simp only[Array.length_toList]at e
  omega
theorem A5.tuple (I:A5 X pins σ H s)(h:Aw X.K H a xs):∃its:List Value,AD xs its/\IsTup s.heap a its.toArray/\xs.length<=sizeLine:=by
 rcases h with h|⟨o,its,n,hk,hc,hs,hz,r⟩
 .obtain⟨z,its,r,p⟩:=h.ok I.hok
  exact⟨its,r,p.tup,z⟩
 .refine⟨its.toList,r,⟨o,I.kIn a o hk,hc,n,by simpa using hs⟩,?_⟩
  have e:=r.length
  simp only[Array.length_toList]at e
  omega
theorem A5.list_inj (I:A5 X pins σ H s)(h:A3 X.K H a xs)(h':A3 X.K H a ys):xs=ys:=by
 obtain⟨its,r,⟨o,n,e,_,_,d⟩,_⟩:=I.list h
 obtain⟨its',r',⟨o',n',e',_,_,d'⟩,_⟩:=I.list h'
 rw[e]at e';cases e'
 rw[d]at d'
 injection d' with d1 _
 have:its=its':=by simpa using congrArg Array.toList d1
 subst this
 exact r.inj r'
theorem A5.tuple_inj (I:A5 X pins σ H s)(h:Aw X.K H a xs)(h':Aw X.K H a ys):xs=ys:=by
 obtain⟨its,r,⟨o,e,_,n,d⟩,_⟩:=I.tuple h
 obtain⟨its',r',⟨o',e',_,n',d'⟩,_⟩:=I.tuple h'
 rw[e]at e';cases e'
 rw[d]at d'
 injection d' with d1 _
 have:its=its':=by simpa using congrArg Array.toList d1
 subst this
 exact r.inj r'
end
abbrev Cx.wish (X:Cx)(E:Value->Shared->Prop):Cx:={X with xe:=E}
abbrev Cx.nox (X:Cx):Cx:=X.wish fun _ _=>False
theorem Cx.Ok.wish {X:Cx}(ok:X.Ok)(E:Value->Shared->Prop):(X.wish E).Ok:=
 ⟨ok.mod,ok.kind,ok.glob,ok.blt,ok.above,ok.inj,ok.has,ok.cab,ok.hd,ok.frames,ok.stk,ok.exf,ok.bs,ok.bsz,ok.noex,ok.exfs,ok.funs,ok.frf⟩
theorem Cx.Ok.unwish {X:Cx}{E:Value->Shared->Prop}(ok:(X.wish E).Ok):X.Ok:=
 ⟨ok.mod,ok.kind,ok.glob,ok.blt,ok.above,ok.inj,ok.has,ok.cab,ok.hd,ok.frames,ok.stk,ok.exf,ok.bs,ok.bsz,ok.noex,ok.exfs,ok.funs,ok.frf⟩
section
variable {X:Cx}{pins:List (Addr×Obj)}{σ:St}{H:Hp}{s:Shared}{E:Value->Shared->Prop}
theorem A5.wish (I:A5 X pins σ H s)(E:Value->Shared->Prop):A5 (X.wish E) pins σ H s:=⟨I.ok.wish E,I.os,I.bare,I.base,I.loc,I.cell,I.free,I.freeC,I.pin,I.hok,I.len⟩
theorem A5.unwish (I:A5 (X.wish E) pins σ H s):A5 X pins σ H s:=⟨I.ok.unwish,I.os,I.bare,I.base,I.loc,I.cell,I.free,I.freeC,I.pin,I.hok,I.len⟩
theorem SP.unwish {D:DG}{f:Flow}{s':Shared}(h:SP (X.wish E) pins D f s'):SP X pins D f s':=by
 cases f with
 |next=>obtain⟨σ',H',I,q⟩:=h;exact⟨σ',H',I.unwish,q⟩
 |brk=>obtain⟨σ',H',I,q⟩:=h;exact⟨σ',H',I.unwish,q⟩
 |cont=>obtain⟨σ',H',I,q⟩:=h;exact⟨σ',H',I.unwish,q⟩
 |ret u=>obtain⟨v,σ',H',I,r,q⟩:=h;exact⟨v,σ',H',I.unwish,r,q⟩
theorem DL.nox {st:List Stmt}{t:TS}(h:DL X.nox st t):DL X st t:=fun pins s σ H D I hw=>
 DW (h pins s σ H D (I.wish _) hw) (fun _ _ q=>q.unwish) fun _ _ z=>False.elim z
end
section
variable {X:Cx}{st:Stmt}{rest:List Stmt}{t u:TS}{e:Expr}{te:TE}{pos:Pos}
def Ia:TS:=fun D σ H=>D.nx σ H
def DO (t u:TS):TS:=fun D σ H=>t {D with nx:=u D} σ H
theorem AU:DL X [] Ia:=fun _ _ σ H _ I h=>L1 ⟨σ,H,I,h⟩
theorem A4 (h1:PS X st t)(h2:DL X rest u):DL X (st::rest) (DO t u):=by
 intro pins s σ H D I h
 refine L3 (Ao (h1 pins s σ H {D with nx:=u D} I h) fun f s1 q=>?_)
 cases f with
 |
  next=>
  obtain⟨σ',H',I',q⟩:=q
  exact h2 pins s1 σ' H' D I' q
 |ret v=>exact q
 |brk=>exact q
 |cont=>exact q
theorem Aa (h1:PS X st t):DL X [st] t:=by
 intro pins s σ H D I h
 refine L3 (Ao (h1 pins s σ H D I h) fun f s1 q=>?_)
 cases f with
 |next=>exact L1 q
 |ret v=>exact q
 |brk=>exact q
 |cont=>exact q
def Vf:TS:=fun D σ H=>D.bk σ H
theorem W6:PS X (.Break pos) Vf:=fun _ _ σ H _ I h=>wpAny_Break ⟨σ,H,I,h⟩
theorem A5.quiet {pins:List (Addr×Obj)}{σ:St}{H:Hp}{s:Shared}(I:A5 X pins σ H s):interactive X.env=false:=by simp[interactive,I.ok.kind]
def UB (te:TE):TS:=fun D σ H=>te σ H fun _ H1=>D.nx σ H1
theorem Bp (he:PE X e te)(hs:swapsWith e none pos.line X.env=pure false:=by rfl):PS X (.Expr e pos) (UB te):=by
 intro pins s σ H D I h
 refine wpAny_Expr_any (Ao (he pins s σ H _ I h) fun v s1 zz=>?_) I.quiet hs
 obtain⟨x,H1,I1,r1,q1⟩:=zz
 exact⟨σ,H1,I1,q1⟩
def Gm (te:TE):TS:=fun D σ H=>te σ H D.rt
theorem Aq (he:PE X e te):PS X (.Return (some e) pos) (Gm te):=by
 intro pins s σ H D I h
 refine wpAny_Return_some (Ao (he pins s σ H _ I h) fun v s1 zz=>?_)
 obtain⟨x,H1,I1,r1,q1⟩:=zz
 exact⟨x,σ,H1,I1,r1,q1⟩
def JJ (c:TT)(t u:TS):TS:=fun D σ H=>c σ H fun b H1=>if b=true then t D σ H1 else u D σ H1
theorem AK {c:Expr}{a b:List Stmt}{tc:TT}(hc:PT X c tc)(ha:DL X a t)(hb:DL X b u):PS X (.If c a b pos) (JJ tc t u):=by
 intro pins s σ H D I h
 refine wpAny_If (Ao (hc pins s σ H _ I h) fun d s1 zz=>?_)
 obtain⟨H1,I1,q1⟩:=zz
 cases d with
 |true=>exact ha pins s1 σ H1 D I1 q1
 |false=>exact hb pins s1 σ H1 D I1 q1
def Wm:TS:=fun _ _ _=>False
theorem O0:PS X st Wm:=fun _ _ _ _ _ _ h=>h.elim
end
abbrev TG:=V->St->Hp->(St->Hp->Prop)->Prop
abbrev Gd:=List V->St->Hp->(St->Hp->Prop)->Prop
def PG (X:Cx)(target:Expr)(t:TG):Prop:=
 ∀(pins:List (Addr×Obj)) (s:Shared) (σ:St) (H:Hp) (v:V) (u:Value) (Q:St->Hp->Prop),A5 X pins σ H s->AM v u->t v σ H Q->
  wpAny (model X.prog X.w) X.A (assign target X.env u) (fun _ s'=>∃σ' H',A5 X pins σ' H' s'/\Q σ' H') X.xe s
def Jr (X:Cx)(ts:List Expr)(t:Gd):Prop:=
 ∀(pins:List (Addr×Obj)) (s:Shared) (σ:St) (H:Hp) (vs:List V) (us:List Value) (Q:St->Hp->Prop),A5 X pins σ H s->AD vs us->t vs σ H Q->
  wpAny (model X.prog X.w) X.A (assignInOrder ((assignEach ts X.env).map (·.2)) us) (fun _ s'=>∃σ' H',A5 X pins σ' H' s'/\Q σ' H') X.xe s
abbrev LO:=V->V->V->Hp->(Hp->Prop)->Prop
def P3 (X:Cx)(t:LO):Prop:=
 ∀(pins:List (Addr×Obj)) (s:Shared) (σ:St) (H:Hp) (o i v:V) (ov iv u:Value) (Q:Hp->Prop),A5 X pins σ H s->AM o ov->AM i iv->AM v u->t o i v H Q->
  wpAny (model X.prog X.w) X.A (setItem ov iv u) (fun _ s'=>∃H',A5 X pins σ H' s'/\Q H') X.xe s
abbrev GZ:=V->V->Hp->VK->Prop
def Ls (X:Cx)(op:Operator)(t:GZ):Prop:=
 ∀(pins:List (Addr×Obj)) (s:Shared) (σ:St) (H:Hp) (x y:V) (v u:Value) (Q:VK),A5 X pins σ H s->AM x v->AM y u->t x y H Q->
  wpAny (model X.prog X.w) X.A (inplaceOp op v u) (EP X pins σ Q) X.xe s
section
variable {X:Cx}{pos:Pos}
def Am (i:Nat):TG:=fun v σ H Q=>Q (σ.set i (some v)) H
theorem Bz {i:Nat}{x:Str}(hN:X.N.Nodup)(hi:X.N[i]?=some x)(hx:FO X.env.scope x)(hf:X.fn x=true\/X.env.scope.names.lookup x=some .local:=by first|exact .inl rfl|exact .inr rfl|assumption):PG X (.Name x pos) (Am i):=by
 intro pins s σ H v u Q I r h
 exact wpAny_assign_Name (II I hN hi hx r (fun s' I'=>⟨_,H,I',h⟩) hf)
def Ro:Gd:=fun vs σ H Q=>vs=[]/\Q σ H
def Vu (t:TG)(u:Gd):Gd:=fun vs σ H Q=>∃v r,vs=v::r/\t v σ H fun σ' H'=>u r σ' H' Q
theorem Hm:Jr X [] Ro:=by
 intro pins s σ H vs us Q I r h
 obtain⟨e,h⟩:=h
 subst e
 cases r
 exact assignInOrder_nil ⟨σ,H,I,h⟩
theorem E5 {e:Expr}{es:List Expr}{t:TG}{u:Gd}(h1:PG X e t)(h2:Jr X es u)
  (hs:(assignEach (e::es) X.env).map (·.2)=assign e X.env::(assignEach es X.env).map (·.2):=by rfl):Jr X (e::es) (Vu t u):=by
 intro pins s σ H vs us Q I r h
 obtain⟨v,vr,e1,h⟩:=h
 subst e1
 cases r with
 |
  cons r rr=>
  rw[hs]
  refine assignInOrder_cons (Ao (h1 pins s σ H _ _ _ I r h) fun _ s1 zz=>?_)
  obtain⟨σ1,H1,I1,q1⟩:=zz
  exact h2 pins s1 σ1 H1 _ _ Q I1 rr q1
def LV (K:Ya)(n:Nat)(t:Gd):TG:=fun v σ H Q=>∃a xs,v = .ref a/\Aw K H a xs/\xs.length=n/\t xs σ H Q
theorem Hj {es:List Expr}{k:Nat}{t:Gd}{n:Nat}(hc:X.calm=true)(h:Jr X es t)
  (hn:(assignEach es X.env).length=n:=by rfl) (hst:(assignEach es X.env).findIdx? (·.1)=none:=by rfl):PG X (.Tuple es k pos) (LV X.K n t):=by
 intro pins s σ H v u Q I r hw
 obtain⟨a,xs,e1,hq,hl,hw⟩:=hw
 subst e1
 cases r
 obtain⟨its,rv,ht,hz⟩:=I.tuple hq
 refine assign_Tuple_tuple (I.ok.hd hc) ht (by simp[hn,←hl,rv.length]) hst fun h' hx=>?_
 have I1:A5 X pins σ H {s with heap:=h'}:=I.kept (t':=s.toks) fun b o e=>hx b o (Co (BA e)) e
 exact h pins _ σ H xs _ Q I1 (by simpa using rv) hw
def Gb (te:TE)(g:TG):TS:=fun D σ H=>te σ H fun x H1=>g x σ H1 D.nx
theorem OL {tg e:Expr}{te:TE}{g:TG}(he:PE X e te)(hg:PG X tg g)(hs:swapsWithSole [tg] e pos.line X.env=pure false:=by rfl)(hw:swappedStores [tg] e X.env=pure none:=by rfl)
  (h1:(assignEach [tg] X.env).map (·.2)=[assign tg X.env]:=by rfl):PS X (.Assign [tg] e pos) (Gb te g):=by
 intro pins s σ H D I h
 refine wpAny_Assign_stores (Ao (he pins s σ H _ I h) fun v s1 zz=>?_) hs hw
 obtain⟨x,H1,I1,r1,q1⟩:=zz
 rw[h1]
 exact Ao (hg pins s1 σ H1 x v _ I1 r1 q1) fun _ s2 q=>q
theorem Al {i:Nat}{x:Str}{e:Expr}{te:TE}{pos':Pos}(hN:X.N.Nodup)(hi:X.N[i]?=some x)(hx:FO X.env.scope x)(he:PE X e te)(hs:swapsWith e (some (.Name x pos')) pos.line X.env=pure false:=by rfl)(hf:X.fn x=true\/X.env.scope.names.lookup x=some .local:=by first|exact .inl rfl|exact .inr rfl|assumption) :
  PS X (.Assign [.Name x pos'] e pos) (Gb te (Am i)):=by
 intro pins s σ H D I h
 refine wpAny_Assign_Name (Ao (he pins s σ H _ I h) fun v s1 zz=>?_) hs
 obtain⟨y,H1,I1,r1,q1⟩:=zz
 exact II I1 hN hi hx r1 (fun s2 I2=>⟨_,H1,I2,q1⟩) hf
def LR (i:Nat)(te:TE)(ti:GZ):TS:=fun D σ H=>∃x,σ[i]?=some (some x)/\te σ H fun y H1=>ti x y H1 fun z H2=>D.nx (σ.set i (some z)) H2
theorem WC {i:Nat}{x:Str}{e:Expr}{te:TE}{op:Operator}{ti:GZ}{pos':Pos}(hN:X.N.Nodup)(hi:X.N[i]?=some x)(hx:FO X.env.scope x)(he:PE X e te)(ho:Ls X op ti)(hf:X.fn x=true\/X.env.scope.names.lookup x=some .local:=by first|exact .inl rfl|exact .inr rfl|assumption) :
  PS X (.AugAssign (.Name x pos') op e pos) (LR i te ti):=by
 intro pins s σ H D I h
 obtain⟨v,e1,h⟩:=h
 obtain⟨m,hn,hl⟩:=I.loc
 have vis:Il X.env.scope x:=by rcases hx with k|k;exact .inl k;exact .inr (.inl k)
 obtain⟨u,r,l⟩:=hl i x v hi e1 vis
 refine wpAny_AugAssign_Name ?_
 have go:wpAny (model X.prog X.w) X.A (eval e X.env) (fun w s₂=>wpAny (model X.prog X.w) X.A (inplaceOp op u w) (fun r s₃=>wpAny (model X.prog X.w) X.A (storeName X.env x r) (fun _=>SP X pins D .next) X.xe s₃) X.xe s₂) X.xe s:=by
  refine Ao (he pins s σ H _ I h) fun w s1 zz=>?_
  obtain⟨y,H1,I1,r1,q1⟩:=zz
  refine Ao (ho pins s1 σ H1 v y u w _ I1 r r1 q1) fun z s2 zz=>?_
  obtain⟨zv,H2,I2,r2,q2⟩:=zz
  exact II I2 hN hi hx r2 (fun s3 I3=>⟨_,H2,I3,q2⟩) hf
 rcases l with⟨hk,hm⟩|⟨hk,c,hc,hcell⟩
 .exact wpAny_loadName_local I.ok.kind hk hn hm go
 .rcases hk with hk|hk
  .exact wpAny_loadName_cell I.ok.kind hk hc hcell go
  .rcases hx with k|k
   .have:X.env.scope.names.lookup x=some .free:=hk
    rw[k]at this;cases this
   .have:X.env.scope.names.lookup x=some .free:=hk
    rw[k]at this;cases this
def Vc (to ti te:TE)(tget:V->V->Hp->VK->Prop)(tip:GZ)(tset:LO):TS:=fun D σ H=>to σ H fun o H1=>ti σ H1 fun i H2=>tget o i H2 fun x H3=>te σ H3 fun y H4=>tip x y H4 fun z H5=>tset o i z H5 fun H6=>D.nx σ H6
def Px (X:Cx)(t:V->V->Hp->VK->Prop):Prop:=
 ∀(pins:List (Addr×Obj)) (s:Shared) (σ:St) (H:Hp) (o i:V) (ov iv:Value) (Q:VK),A5 X pins σ H s->AM o ov->AM i iv->t o i H Q->
  wpAny (model X.prog X.w) X.A (getItem ov iv) (EP X pins σ Q) X.xe s
theorem Pz {o i e:Expr}{to ti te:TE}{tget:V->V->Hp->VK->Prop}{tip:GZ}{tset:LO}{op:Operator}{tpos:Pos}(ho:PE X o to)(hi:PE X i ti)(hg:Px X tget)(he:PE X e te)(hp:Ls X op tip)(hs:P3 X tset)
  (ha:∀ov iv new,augStore i ov iv new=(do holding [new,ov,iv] (setItem ov iv new);release [new,ov,iv] [];pure .next):=by intros;rfl):PS X (.AugAssign (.Subscript o i tpos) op e pos) (Vc to ti te tget tip tset):=by
 intro pins s σ H D I h
 refine wpAny_AugAssign_SubscriptAny (Ao (ho pins s σ H _ I h) fun ov s1 zz=>?_) ha
 obtain⟨x1,H1,I1,r1,q1⟩:=zz
 refine Ao (hi pins s1 σ H1 _ I1 q1) fun iv s2 zz=>?_
 obtain⟨x2,H2,I2,r2,q2⟩:=zz
 refine Ao (hg pins s2 σ H2 x1 x2 ov iv _ I2 r1 r2 q2) fun old s3 zz=>?_
 obtain⟨x3,H3,I3,r3,q3⟩:=zz
 refine Ao (he pins s3 σ H3 _ I3 q3) fun v s4 zz=>?_
 obtain⟨x4,H4,I4,r4,q4⟩:=zz
 refine Ao (hp pins s4 σ H4 x3 x4 old v _ I4 r3 r4 q4) fun new s5 zz=>?_
 obtain⟨x5,H5,I5,r5,q5⟩:=zz
 refine Ao (hs pins s5 σ H5 x1 x2 x5 ov iv new _ I5 r1 r2 r5 q5) fun _ s6 zz=>?_
 obtain⟨H6,I6,q6⟩:=zz
 exact⟨σ,H6,I6,q6⟩
def MM (f:Int->Int->Int):GZ:=fun x y H Q=>∃i j,x = .int i/\y = .int j/\Q (.int (f i j)) H
theorem Ln:Ls X .Add (MM fun i j=>i+j):=by
 intro pins s σ H x y v u Q I r1 r2 h
 obtain⟨i,j,e1,e2,q⟩:=h
 subst e1;subst e2
 obtain⟨t,rfl⟩:=r1
 obtain⟨t',rfl⟩:=r2
 exact iadd_int ⟨.int _,H,I.tok _,⟨_,rfl⟩,q⟩
end
section
variable {X:Cx}{pos:Pos}
def JG (c:TT)(tb:TS):TS:=fun D σ H=>∃W:Nat->St->Hp->Prop,(∃m,W m σ H)/\∀m σ H,W m σ H->
 c σ H fun b H1=>if b=true then ∃N:St->Hp->Prop,(∀σ' H',N σ' H'->∃m',m'<m/\W m' σ' H')/\tb {D with nx:=N,ct:=N,bk:=D.nx} σ H1 else D.nx σ H1
theorem HQ {c:Expr}{body:List Stmt}{tc:TT}{tb:TS}(hp:PassesOwn (model X.prog X.w) X.A X.env X.xe)(hc:PT X c tc)(hb:DL X body tb):PS X (.While c body [] pos) (JG tc tb):=by
 intro pins s σ H D I h
 obtain⟨W,⟨m0,w0⟩,turn⟩:=h
 refine wpAny_While (codeAny_whileLoop (fun n s'=>∃σ' H',A5 X pins σ' H' s'/\W n σ' H') ?_ m0 ⟨σ,H,I,w0⟩)
 rintro n s1 ⟨σ1,H1,I1,w1⟩
 refine HD hp (Ao (hc pins s1 σ1 H1 _ I1 (turn n σ1 H1 w1)) fun b s2 zz=>?_)
 obtain⟨H2,I2,q2⟩:=zz
 cases b with
 |
  true=>
  obtain⟨N,hN,q2⟩:=q2
  rw[Af rfl]
  refine HD hp (Ao (hb pins s2 σ1 H2 _ I2 q2) fun f s3 q3=>?_)
  cases f with
  |
   next=>
   obtain⟨σ3,H3,I3,n3⟩:=q3
   obtain⟨m',hm,w3⟩:=hN σ3 H3 n3
   exact⟨m',hm,σ3,H3,I3,w3⟩
  |
   cont=>
   obtain⟨σ3,H3,I3,n3⟩:=q3
   obtain⟨m',hm,w3⟩:=hN σ3 H3 n3
   exact⟨m',hm,σ3,H3,I3,w3⟩
  |brk=>exact q3
  |ret v=>exact q3
 |
  false=>
  rw[Ab BQ]
  exact L1 ⟨σ1,H2,I2,q2⟩
end
structure It where
 go:Nat->Hp->Prop
 yld:Nat->Hp->V->Hp->Prop
 stop:Nat->Hp->Prop
def Ei (X:Cx)(pins:List (Addr×Obj))(H:Hp)(b:Addr):Prop:=
 H b=none/\b≠X.env.locals/\b∉X.fs/\(b∈X.ex\/X.s₀.heap.objs.size<=b)/\(∀x c,X.env.cells.lookup x=some c->c≠b)/\∀p∈X.pn++pins,p.1≠b
theorem A5.fpOk {X:Cx}{pins:List (Addr×Obj)}{σ:St}{H H':Hp}{s:Shared}{b:Addr}(I:A5 X pins σ H s)(hb:s.heap.objs.size<=b)(hn:H' b=none):Ei X pins H' b:=by
 refine⟨hn,KN (CY I.lt hb),I.nofs hb,.inr (BI I.sz hb),fun x c e z=>?_,fun p hp z=>?_⟩
 .obtain⟨v,q⟩:=I.cell x c e
  exact absurd (CY q.lt (by rw[z];exact hb)) (EJ _)
 .exact absurd (CY (BA (I.pin p hp).1) (by rw[z];exact hb)) (EJ _)
structure He (P:Program)(w:World)(K:Ya)(tg:Expr)(J:It)(fp:List Addr)(it:Addr)(tn:Nat->Heap->Prop):Prop where
 mem:it∈fp
 obj:∀i h,tn i h->∀b∈fp,∃o,h.get? b=some o/\∀v,o.data≠.cell v
 keep:∀i h h',tn i h->(∀b∈fp,∀o,h.get? b=some o->h'.get? b=some o)->tn i h'
 item:∀(X:Cx),X.prog=P->X.w=w->X.K=K->X.calm=true->∀(i:Nat) (pins:List (Addr×Obj)) (s:Shared) (σ:St) (H:Hp) (E:Value->Shared->Prop),A5 X pins σ H s->(∀b∈fp,Ei X pins H b)->tn i s.heap->J.go i H->
  wpAny (model P w) X.A (pyNext (.ref it)) (fun r s1=>∃u,r=some u/\
   wpAny (model P w) X.A (letOwnedTupleGo tg (.ref it) u) (fun _ s2=>∃x H',A5 X pins σ H' s2/\AM x u/\J.yld i H x H'/\tn (i+1) s2.heap/\∀b∈fp,H' b=none) E s1) E s
 done:∀(X:Cx),X.prog=P->X.w=w->X.K=K->X.calm=true->∀(i:Nat) (pins:List (Addr×Obj)) (s:Shared) (σ:St) (H:Hp) (E:Value->Shared->Prop),A5 X pins σ H s->(∀b∈fp,Ei X pins H b)->tn i s.heap->J.stop i H->
  wpAny (model P w) X.A (pyNext (.ref it)) (fun r s1=>r=none/\A5 X pins σ H s1) E s
 self:∀(A:Around) (i:Nat) (s:Shared) (Q:Value->Shared->Prop) (E:Value->Shared->Prop),tn i s.heap->Q (.ref it) s->wpAny (model P w) A (pyIter (.ref it)) Q E s
abbrev TI:=St->Hp->(It->Hp->Prop)->Prop
def OP (X:Cx)(pins:List (Addr×Obj))(σ:St)(tg:Expr)(R:It->Hp->Prop)(itv:Value)(s2:Shared):Prop:=
 ∃(it:Addr) (fp:List Addr) (tn:Nat->Heap->Prop) (J:It) (H':Hp),itv = .ref it/\A5 X pins σ H' s2/\He X.prog X.w X.K tg J fp it tn/\tn 0 s2.heap/\(∀b∈fp,Ei X pins H' b)/\R J H'
def PI (X:Cx)(tg iter:Expr)(wi:TI):Prop:=
 ∀(pins:List (Addr×Obj)) (s:Shared) (σ:St) (H:Hp) (R:It->Hp->Prop),A5 X pins σ H s->wi σ H R->
  wpAny (model X.prog X.w) X.A (eval iter X.env) (fun v s1=>wpAny (model X.prog X.w) X.A (pyIter v) (OP X pins σ tg R) X.xe s1) X.xe s
theorem Kw {M:Model}{A:Around}{E:Value->Shared->Prop}{s:Shared}{tg:Expr}{it:Addr}{u:Value}{o:Obj}{n:String}{vs:Array Value}{Q:Unit->Shared->Prop}(ho:s.heap.get? it=some o)(hc:o.cls = .type n)(hd:o.data = .fields vs)
  (hn:["enumerate","zip","dict_itemiterator","dict_reverseitemiterator","odict_iterator","itertools.zip_longest","itertools.pairwise"].contains n=false) (hQ:Q () s):wpAny M A (letOwnedTupleGo tg (.ref it) u) Q E s:=by
 unfold letOwnedTupleGo
 cases tg<;>first
  |exact Ca hQ
  |(cases u<;>first
   |exact Ca hQ
   |(
    refine B7 (wpAny_load ho ?_)
    rw[hc,hd]
    show wpAny M A (if(["enumerate","zip","dict_itemiterator","dict_reverseitemiterator","odict_iterator","itertools.zip_longest","itertools.pairwise"].contains n&&vs[0]?==some (rawInt _))=true then _ else _) Q E s
    rw[Ab (by intro h;rw[hn,Bool.false_and]at h;cases h)]
    exact Ca hQ))
def Gz (K:Ya)(a:Addr):It:=
 ⟨fun i H=>∃xs x,A3 K H a xs/\xs[i]?=some x,fun i H x H'=>H'=H/\∀xs,A3 K H a xs->xs[i]?=some x,fun i H=>∃xs,A3 K H a xs/\xs.length<=i⟩
def Le (K:Ya)(a:Addr):It:=
 ⟨fun i H=>∃xs x,Aw K H a xs/\xs[i]?=some x,fun i H x H'=>H'=H/\∀xs,Aw K H a xs->xs[i]?=some x,fun i H=>∃xs,Aw K H a xs/\xs.length<=i⟩
def Gr (lo:Int)(n:Nat):It:=⟨fun i _=>i<n,fun i H x H'=>H'=H/\x = .int (lo+i),fun i _=>n<=i⟩
theorem Sg {P:Program}{w:World}{K:Ya}{tg:Expr}(a it:Addr):He P w K tg (Gz K a) [it] it (fun i h=>h.IsListIter it a i) where
 mem:=by simp
 obj:=fun i h st b hb=>by
  have e:b=it:=by simpa using hb
  subst e
  obtain⟨o,e,c,d⟩:=st
  exact⟨o,e,fun v z=>by rw[d]at z;cases z⟩
 keep:=fun i h h' st k=>st.at fun o e=>k it (by simp) o e
 item:=by
  intro X hP hw hK hc i pins s σ H E I hf st hg
  subst hP hw hK
  obtain⟨xs,x,hq,hx⟩:=hg
  obtain⟨its,rv,p,hz⟩:=I.list hq
  obtain⟨u,hu,ru⟩:=rv.get hx
  obtain⟨f0,f1,f2,f3,f4,f5⟩:=hf it (by simp)
  refine wpAny_pyNext_list_item st p.isList (x:=u) (by simpa using hu) fun h' st' sb=>?_
  have I1:A5 X pins σ H {s with heap:=h'}:=I.turned (t':=s.toks) (fun b o hb e=>(sb.2 b hb).trans e) f0 f1 f3 f4 f5
  obtain⟨o,e,c,d⟩:=id st'
  exact⟨u,rfl,Kw (s:={s with heap:=h'}) e c d (by decide) ⟨x,H,I1,ru,⟨rfl,fun ys hy=>by rw[I.list_inj hy hq];exact hx⟩,st',fun b hb=>(hf b hb).1⟩⟩
 done:=by
  intro X hP hw hK hc i pins s σ H E I hf st hg
  subst hP hw hK
  obtain⟨xs,hq,hx⟩:=hg
  obtain⟨its,rv,p,hz⟩:=I.list hq
  obtain⟨f0,f1,f2,f3,f4,f5⟩:=hf it (by simp)
  have hl:=rv.length
  exact wpAny_pyNext_list_end (I.ok.hd hc) st p.isList (by simp;omega) fun h' eb=>⟨rfl,I.turned (t':=s.toks) (fun b o hb e=>eb b o hb e) f0 f1 f3 f4 f5⟩
 self:=fun _ _ _ _ _ st h=>wpAny_pyIter_listiter st h
theorem Xf {P:Program}{w:World}{K:Ya}{tg:Expr}(a it:Addr):He P w K tg (Le K a) [it] it (fun i h=>h.IsTupleIter it a i) where
 mem:=by simp
 obj:=fun i h st b hb=>by
  have e:b=it:=by simpa using hb
  subst e
  obtain⟨o,e,c,d⟩:=st
  exact⟨o,e,fun v z=>by rw[d]at z;cases z⟩
 keep:=fun i h h' st k=>st.at fun o e=>k it (by simp) o e
 item:=by
  intro X hP hw hK hc i pins s σ H E I hf st hg
  subst hP hw hK
  obtain⟨xs,x,hq,hx⟩:=hg
  obtain⟨its,rv,p,hz⟩:=I.tuple hq
  obtain⟨u,hu,ru⟩:=rv.get hx
  obtain⟨f0,f1,f2,f3,f4,f5⟩:=hf it (by simp)
  refine wpAny_pyNext_tuple_item st (show s.heap.IsTuple a its.toArray from p) (x:=u) (by simpa using hu) fun h' st' sb=>?_
  have I1:A5 X pins σ H {s with heap:=h'}:=I.turned (t':=s.toks) (fun b o hb e=>(sb.2 b hb).trans e) f0 f1 f3 f4 f5
  obtain⟨o,e,c,d⟩:=id st'
  exact⟨u,rfl,Kw (s:={s with heap:=h'}) e c d (by decide) ⟨x,H,I1,ru,⟨rfl,fun ys hy=>by rw[I.tuple_inj hy hq];exact hx⟩,st',fun b hb=>(hf b hb).1⟩⟩
 done:=by
  intro X hP hw hK hc i pins s σ H E I hf st hg
  subst hP hw hK
  obtain⟨xs,hq,hx⟩:=hg
  obtain⟨its,rv,p,hz⟩:=I.tuple hq
  obtain⟨f0,f1,f2,f3,f4,f5⟩:=hf it (by simp)
  have hl:=rv.length
  exact wpAny_pyNext_tuple_end (I.ok.hd hc) st (show s.heap.IsTuple a its.toArray from p) (by simp;omega) fun h' eb=>⟨rfl,I.turned (t':=s.toks) (fun b o hb e=>eb b o hb e) f0 f1 f3 f4 f5⟩
 self:=fun _ _ _ _ _ st h=>wpAny_pyIter_tupleiter st h
theorem RC {P:Program}{w:World}{K:Ya}{tg:Expr}(it:Addr)(lo:Int)(n:Nat):He P w K tg (Gr lo n) [it] it (fun i h=>IsRangeIter h it (lo+(i:Nat)*1) ((n:Int)-(i:Nat)) 1) where
 mem:=by simp
 obj:=fun i h st b hb=>by
  have e:b=it:=by simpa using hb
  subst e
  exact⟨_,st,fun v z=>by
   have z':Data.fields _=Data.cell v:=z
   cases z'⟩
 keep:=fun i h h' st k=>k it (by simp) _ st
 item:=by
  intro X hP hw hK hc i pins s σ H E I hf st hg
  subst hP hw hK
  obtain⟨f0,f1,f2,f3,f4,f5⟩:=hf it (by simp)
  have W:=Walks.range (prog:=X.prog) (w:=X.w) (I.ok.hd hc) it lo 1 n
  refine W.item i s _ _ hg st fun v h' tk hv st' kk=>?_
  obtain⟨t,rfl⟩:=hv
  have I1:A5 X pins σ H {s with heap:=h',toks:=tk}:=I.turned (fun b o hb e=>kk b o (by simpa using hb) e) f0 f1 f3 f4 f5
  refine⟨_,rfl,Kw (s:={s with heap:=h',toks:=tk}) (n:="range_iterator") st' rfl rfl (by decide) ⟨.int (lo+i),H,I1,⟨t,?_⟩,⟨rfl,rfl⟩,st',fun b hb=>(hf b hb).1⟩⟩
  rw[Int.mul_one]
 done:=by
  intro X hP hw hK hc i pins s σ H E I hf st hg
  subst hP hw hK
  obtain⟨f0,f1,f2,f3,f4,f5⟩:=hf it (by simp)
  exact wpAny_pyNext_range_end (I.ok.hd hc) st (by have:n<=i:=hg;omega) fun h' eb=>⟨rfl,I.turned (t':=s.toks) (fun b o hb e=>eb b o hb e) f0 f1 f3 f4 f5⟩
 self:=fun _ _ _ _ _ st h=>wpAny_pyIter_rangeiter st h
section
variable {X:Cx}{tg:Expr}
def Tf (K:Ya)(tl:TE):TI:=fun σ H R=>tl σ H fun x H1=>∃a,x = .ref a/\(∃xs,A3 K H1 a xs)/\R (Gz K a) H1
def U5 (K:Ya)(tl:TE):TI:=fun σ H R=>tl σ H fun x H1=>∃a,x = .ref a/\(∃xs,Aw K H1 a xs)/\R (Le K a) H1
theorem Dv {l:Expr}{tl:TE}(hl:PE X l tl):PI X tg l (Tf X.K tl):=by
 intro pins s σ H R I h
 refine Ao (hl pins s σ H _ I h) fun v s1 zz=>?_
 obtain⟨x,H1,I1,r1,q1⟩:=zz
 obtain⟨a,e,⟨xs,hq⟩,q⟩:=q1
 subst e
 cases r1
 obtain⟨its,rv,p,hz⟩:=I1.list hq
 refine L4 p.isList ?_
 refine⟨s1.heap.objs.size,[s1.heap.objs.size],_,_,H1,rfl,I1.kept (t':=s1.toks) fun b o e=>BR _ e,Sg a _,⟨_,Dl _ rfl,rfl,rfl⟩,fun b hb=>?_,q⟩
 have e:b=s1.heap.objs.size:=by simpa using hb
 subst e
 exact I1.fpOk (Aj _) (I1.hok.fresh (Aj _))
theorem Kg {l:Expr}{tl:TE}(hl:PE X l tl):PI X tg l (U5 X.K tl):=by
 intro pins s σ H R I h
 refine Ao (hl pins s σ H _ I h) fun v s1 zz=>?_
 obtain⟨x,H1,I1,r1,q1⟩:=zz
 obtain⟨a,e,⟨xs,hq⟩,q⟩:=q1
 subst e
 cases r1
 obtain⟨its,rv,p,hz⟩:=I1.tuple hq
 refine wpAny_pyIter_tuple (show s1.heap.IsTuple a its.toArray from p) ?_
 refine⟨s1.heap.objs.size,[s1.heap.objs.size],_,_,H1,rfl,I1.kept (t':=s1.toks) fun b o e=>BR _ e,Xf a _,⟨_,Dl _ rfl,rfl,rfl⟩,fun b hb=>?_,q⟩
 have e:b=s1.heap.objs.size:=by simpa using hb
 subst e
 exact I1.fpOk (Aj _) (I1.hok.fresh (Aj _))
theorem VZ {pins:List (Addr×Obj)}{σ:St}{H:Hp}{s:Shared}{R:It->Hp->Prop}{E:Value->Shared->Prop}{lo hi:Int}{t u v:Tok}{tk:Nat}(I:A5 X pins σ H s)(h1 : -(2 ^ 62)<=lo)(h2:lo<2 ^ 62)(h3 : -(2 ^ 62)<=hi)(h4:hi<2 ^ 62)
  (q:R (Gr lo (hi-lo).toNat) H):wpAny (model X.prog X.w) X.A (pyIter (.ref s.heap.objs.size)) (OP X pins σ tg R) E {s with heap:=s.heap.push {cls:=.type "range",data:=.fields #[.int lo t,.int hi u,.int 1 v]},toks:=tk}:=by
 refine wpAny_pyIter_range (IsRange.new ..) (small_one h1 h2 h3 h4) ?_
 have I1:A5 X pins σ H {s with heap:=s.heap.push {cls:=.type "range",data:=.fields #[.int lo t,.int hi u,.int 1 v]},toks:=tk}:=I.kept fun b o e=>BR _ e
 refine⟨(s.heap.push {cls:=.type "range",data:=.fields #[.int lo t,.int hi u,.int 1 v]}).objs.size,[(s.heap.push {cls:=.type "range",data:=.fields #[.int lo t,.int hi u,.int 1 v]}).objs.size],_,_,H,rfl,
  I1.kept (t':=tk) fun b o e=>BR _ e,RC _ lo (hi-lo).toNat,?_,fun b hb=>?_,q⟩
 .have e1:lo+((0:Nat):Int)*1=lo:=by simp
  have e2:(((hi-lo).toNat:Nat):Int)-((0:Nat):Int)=Builtin.Range.rangeSize lo hi 1:=by rw[rangeSize_one];split<;>omega
  show IsRangeIter _ _ (lo+((0:Nat):Int)*1) ((((hi-lo).toNat:Nat):Int)-((0:Nat):Int)) 1
  rw[e1,e2]
  exact Dl _ rfl
 .have e:b=(s.heap.push {cls:=.type "range",data:=.fields #[.int lo t,.int hi u,.int 1 v]}).objs.size:=by simpa using hb
  subst e
  exact I1.fpOk (Aj _) (I1.hok.fresh (Aj _))
def Xx (ta:TA):TI:=fun σ H R=>ta σ H fun vs H1=>∃j:Int,vs=[.int j]/\-(2 ^ 62)<=j/\j<2 ^ 62/\R (Gr 0 j.toNat) H1
theorem Kh {a:Expr}{ta:TA}{p pos:Pos}(hg:Gl X "range")(hm:X.mg "range"=none)(ha:PA X [a] ta)(hs:starEach [a] X.env=[(false,eval a X.env)]:=by rfl):PI X tg (.Call (.Name "range" p) [a] [] pos) (Xx ta):=by
 intro pins s σ H R I h
 refine Call_ (GQ I hg hm boot_range (MP (Ao (ha pos pins s σ H _ I h) fun us s1 zz=>?_) hs rfl))
 obtain⟨vs,H1,I1,r1,q1⟩:=zz
 obtain⟨j,e,q1,q2,q⟩:=q1
 subst e
 cases r1 with
 |
  cons r rr=>
  cases rr
  obtain⟨t,rfl⟩:=r
  exact call_range_1 (VZ I1 (by omega) (by omega) q1 q2 (by simpa using q))
def RJ (wi:TI)(g:TG)(tb:TS):TS:=fun D σ H=>wi σ H fun J H1=>∃W:Nat->Nat->St->Hp->Prop,(∃m,W 0 m σ H1)/\∀i m σ H,W i m σ H->
 (J.stop i H/\D.nx σ H)\/(J.go i H/\∃N:St->Hp->Prop,(∀σ' H',N σ' H'->∃m',m'<m/\W (i+1) m' σ' H')/\∀x H',J.yld i H x H'->g x σ H' fun σ2 H2=>tb {D with nx:=N,ct:=N,bk:=D.nx} σ2 H2)
def GX (fp:List Addr)(h:Heap):List (Addr×Obj):=fp.filterMap fun b=>(h.get? b).map fun o=>(b,o)
theorem IH {fp:List Addr}{h:Heap}{b:Addr}{o:Obj}(hb:b∈fp)(e:h.get? b=some o):(b,o)∈GX fp h:=List.mem_filterMap.mpr ⟨b,hb,by rw[e];rfl⟩
theorem VT {fp:List Addr}{h:Heap}{p:Addr×Obj}(hp:p∈GX fp h):p.1∈fp/\h.get? p.1=some p.2:=by
 obtain⟨b,hb,e⟩:=List.mem_filterMap.mp hp
 cases q:h.get? b with
 |none=>rw[q]at e;cases e
 |
  some o=>
  rw[q]at e
  have e':(b,o)=p:=BX e
  subst e'
  exact⟨hb,q⟩
theorem A5.pinned {pins:List (Addr×Obj)}{σ:St}{H:Hp}{s:Shared}{fp:List Addr}(I:A5 X pins σ H s)(hf:∀b∈fp,Ei X pins H b)(ho:∀b∈fp,∃o,s.heap.get? b=some o/\∀v,o.data≠.cell v):A5 X (pins++GX fp s.heap) σ H s:=
 I.pins_of fun p hp=>(Bl.mp hp).elim (fun z=>I.pin p (Cp _ z)) fun z=>by
  obtain⟨hb,e⟩:=VT z
  obtain⟨f0,f1,f2,_⟩:=hf p.1 hb
  obtain⟨o,e',d⟩:=ho p.1 hb
  rw[e]at e';cases e'
  exact⟨e,f0,f1,f2,d⟩
theorem A5.unpinned {pins pl:List (Addr×Obj)}{σ:St}{H:Hp}{s:Shared}(I:A5 X (pins++pl) σ H s):A5 X pins σ H s:=I.pins_of fun p hp=>I.pin p (Cp _ (FV _ hp))
theorem Ed {iter:Expr}{body:List Stmt}{wi:TI}{g:TG}{tb:TS}{pos:Pos}(hp:PassesOwn (model X.prog X.w) X.A X.env X.xe)(hc:X.calm=true)(hi:PI X tg iter wi)(hg:PG X tg g)(hb:DL X body tb)
  (hs:∀x,foldedSetIterable iter X.env x=pure x:=by intro _;rfl):PS X (.For tg iter body [] pos) (RJ wi g tb):=by
 intro pins s σ H D I h
 refine wpAny_For (Ao (hi pins s σ H _ I h) fun v s1 h1=>Ao h1 fun itv s2 h2=>?_) hs
 obtain⟨it,fp,tn,J,H2,e,I2,T,st2,f2,W,⟨m0,w0⟩,turn⟩:=h2
 subst e
 have stat:∀{H':Hp},(∀b∈fp,H' b=none)->∀b∈fp,Ei X pins H' b:=fun hn b hb=>⟨hn b hb,(f2 b hb).2⟩
 refine codeAny_forLoop_any (fun n s'=>∃i σ' H',A5 X pins σ' H' s'/\tn i s'.heap/\(∀b∈fp,H' b=none)/\W i n σ' H') ?_ m0 ⟨0,σ,H2,I2,st2,fun b hb=>(f2 b hb).1,w0⟩
 rintro n s3 ⟨i,σ3,H3,I3,st3,fr3,w3⟩
 rcases turn i n σ3 H3 w3 with⟨stop,qn⟩|⟨go,N,hN,step⟩
 .refine HD hp (Ao (T.done X rfl rfl rfl hc i pins s3 σ3 H3 X.xe I3 (stat fr3) st3 stop) fun r s4 zz=>?_)
  obtain⟨hr,I4⟩:=zz
  subst hr
  exact L1 ⟨σ3,H3,I4,qn⟩
 .refine HD hp (Ao (T.item X rfl rfl rfl hc i pins s3 σ3 H3 X.xe I3 (stat fr3) st3 go) fun r s4 zz=>?_)
  obtain⟨u,hr,h4⟩:=zz
  subst hr
  refine HD hp (Ao h4 fun _ s5 zz=>?_)
  obtain⟨x,H5,I5,r5,y5,st5,fr5⟩:=zz
  have I5':=I5.pinned (stat fr5) (T.obj _ _ st5)
  refine HD hp (Ao (hg _ s5 σ3 H5 x u _ I5' r5 (step x H5 y5)) fun _ s6 zz=>?_)
  obtain⟨σ6,H6,I6,q6⟩:=zz
  refine HD hp (Ao (hb _ s6 σ6 H6 _ I6 q6) fun f s7 q7=>?_)
  have again:∀{σ7:St} {H7:Hp},A5 X (pins++GX fp s5.heap) σ7 H7 s7->N σ7 H7->∃m,m<n/\∃i σ' H',A5 X pins σ' H' s7/\tn i s7.heap/\(∀b∈fp,H' b=none)/\W i m σ' H':=fun{σ7 H7} I7 n7=>by
   obtain⟨m',hm,w7⟩:=hN σ7 H7 n7
   refine⟨m',hm,i+1,σ7,H7,I7.unpinned,T.keep _ _ _ st5 fun b hb o e=>(I7.pin (b,o) (Cp _ (Cp _ (IH hb e)))).1,fun b hb=>?_,w7⟩
   obtain⟨o,e,d⟩:=T.obj _ _ st5 b hb
   exact(I7.pin (b,o) (Cp _ (Cp _ (IH hb e)))).2.1
  cases f with
  |next=>obtain⟨σ7,H7,I7,n7⟩:=q7;exact again I7 n7
  |cont=>obtain⟨σ7,H7,I7,n7⟩:=q7;exact again I7 n7
  |brk=>obtain⟨σ7,H7,I7,q7⟩:=q7;exact⟨σ7,H7,I7.unpinned,q7⟩
  |ret v=>obtain⟨x7,σ7,H7,I7,r7,q7⟩:=q7;exact⟨x7,σ7,H7,I7.unpinned,r7,q7⟩
end
theorem FG {K:Ya}{a:Addr}{xs:List V}{g:TG}{tb:TS}{D:DG}{σ:St}{H:Hp}(Pv:Nat->St->Hp->Prop)(h0:Pv 0 σ H)(hl:∀i σ H,i<=xs.length->Pv i σ H->A3 K H a xs)
  (hs:∀i x σ H,xs[i]?=some x->Pv i σ H->g x σ H fun σ2 H2=>tb {D with nx:=Pv (i+1),ct:=Pv (i+1),bk:=D.nx} σ2 H2) (hd:∀σ H,Pv xs.length σ H->D.nx σ H) :
  ∃W:Nat->Nat->St->Hp->Prop,(∃m,W 0 m σ H)/\∀i m σ H,W i m σ H->
   ((Gz K a).stop i H/\D.nx σ H)\/((Gz K a).go i H/\∃N:St->Hp->Prop,(∀σ' H',N σ' H'->∃m',m'<m/\W (i+1) m' σ' H')/\∀x H',(Gz K a).yld i H x H'->g x σ H' fun σ2 H2=>tb {D with nx:=N,ct:=N,bk:=D.nx} σ2 H2):=by
 refine⟨fun i m σ H=>m=xs.length-i/\i<=xs.length/\Pv i σ H,⟨xs.length,by simp,Bw _,h0⟩,?_⟩
 rintro i m σ H ⟨rfl,hi,p⟩
 have q:=hl i σ H hi p
 by_cases hlt:i<xs.length
 .refine .inr ⟨⟨xs,xs[i],q,by simp[hlt]⟩,Pv (i+1),fun σ' H' p'=>⟨xs.length-(i+1),by omega,rfl,hlt,p'⟩,fun x H' y=>?_⟩
  obtain⟨e,y⟩:=y
  subst e
  exact hs i x σ _ (y xs q) p
 .have e:i=xs.length:=by omega
  subst e
  exact .inl ⟨⟨xs,q,Aj _⟩,hd σ H p⟩
theorem Mu {lo:Int}{n:Nat}{g:TG}{tb:TS}{D:DG}{σ:St}{H:Hp}(Pv:Nat->St->Hp->Prop)(h0:Pv 0 σ H)
  (hs:∀i σ H,i<n->Pv i σ H->g (.int (lo+i)) σ H fun σ2 H2=>tb {D with nx:=Pv (i+1),ct:=Pv (i+1),bk:=D.nx} σ2 H2) (hd:∀σ H,Pv n σ H->D.nx σ H) :
  ∃W:Nat->Nat->St->Hp->Prop,(∃m,W 0 m σ H)/\∀i m σ H,W i m σ H->
   ((Gr lo n).stop i H/\D.nx σ H)\/((Gr lo n).go i H/\∃N:St->Hp->Prop,(∀σ' H',N σ' H'->∃m',m'<m/\W (i+1) m' σ' H')/\∀x H',(Gr lo n).yld i H x H'->g x σ H' fun σ2 H2=>tb {D with nx:=N,ct:=N,bk:=D.nx} σ2 H2):=by
 refine⟨fun i m σ H=>m=n-i/\i<=n/\Pv i σ H,⟨n,by simp,Bw _,h0⟩,?_⟩
 rintro i m σ H ⟨rfl,hi,p⟩
 by_cases hlt:i<n
 .refine .inr ⟨hlt,Pv (i+1),fun σ' H' p'=>⟨n-(i+1),by omega,rfl,hlt,p'⟩,fun x H' y=>?_⟩
  obtain⟨e,y⟩:=y
  subst e y
  exact hs i σ _ hlt p
 .have e:i=n:=by omega
  subst e
  exact .inl ⟨Aj _,hd σ H p⟩
abbrev R2:=V->V->Hp->VK->Prop
def BG (X:Cx)(f:Value->Value->Sem Value)(r:R2):Prop:=
 ∀(pins:List (Addr×Obj)) (s:Shared) (σ:St) (H:Hp) (x y:V) (v u:Value) (Q:VK),A5 X pins σ H s->AM x v->AM y u->r x y H Q->
  wpAny (model X.prog X.w) X.A (f v u) (EP X pins σ Q) X.xe s
def Lo (X:Cx)(f:Value->Sem Value)(r:V->Hp->VK->Prop):Prop:=
 ∀(pins:List (Addr×Obj)) (s:Shared) (σ:St) (H:Hp) (x:V) (v:Value) (Q:VK),A5 X pins σ H s->AM x v->r x H Q->
  wpAny (model X.prog X.w) X.A (f v) (EP X pins σ Q) X.xe s
def Eb (X:Cx)(f:Value)(r:List V->Hp->VK->Prop):Prop:=
 ∀(pins:List (Addr×Obj)) (s:Shared) (σ:St) (H:Hp) (xs:List V) (us:List Value) (Q:VK),A5 X pins σ H s->AD xs us->r xs H Q->
  wpAny (model X.prog X.w) X.A (call f us) (EP X pins σ Q) X.xe s
def Ri (X:Cx)(r:V->Hp->(Bool->Hp->Prop)->Prop):Prop:=
 ∀(pins:List (Addr×Obj)) (s:Shared) (σ:St) (H:Hp) (x:V) (v:Value) (Q:Bool->Hp->Prop),A5 X pins σ H s->AM x v->r x H Q->
  wpAny (model X.prog X.w) X.A (truthy v) (TP X pins σ Q) X.xe s
def EU (r:R2)(ta tb:TE):TE:=fun σ H Q=>ta σ H fun x H1=>tb σ H1 fun y H2=>r x y H2 Q
def QO (r:V->Hp->VK->Prop)(ta:TE):TE:=fun σ H Q=>ta σ H fun x H1=>r x H1 Q
def rI (C:Int->Int->Prop)(g:Int->Int->V):R2:=fun x y H Q=>∃i j,x = .int i/\y = .int j/\C i j/\Q (g i j) H
def Fp (g:Int->Int->V):R2:=fun x y H Q=>∃i j,x = .int i/\y = .int j/\Q (g i j) H
def rU (g:Int->V):V->Hp->VK->Prop:=fun x H Q=>∃i,x = .int i/\Q (g i) H
section
variable {X:Cx}{a b c:Expr}{ta tb tc:TE}{pos:Pos}
theorem Lm (ha:PE X a ta)(hb:PE X b tb){pins:List (Addr×Obj)}{s:Shared}{σ:St}{H:Hp}{R:V->V->Hp->Prop}(I:A5 X pins σ H s)
  (h:ta σ H fun x H1=>tb σ H1 fun y H2=>R x y H2) {Q:Value->Shared->Prop} {f:Value->Value->Sem Value}
  (hf:∀v u s2 x y H2,A5 X pins σ H2 s2->AM x v->AM y u->R x y H2->wpAny (model X.prog X.w) X.A (f v u) Q X.xe s2) :
  wpAny (model X.prog X.w) X.A (eval a X.env) (fun v s₁=>wpAny (model X.prog X.w) X.A (eval b X.env) (fun u s₂=>wpAny (model X.prog X.w) X.A (f v u) Q X.xe s₂) X.xe s₁) X.xe s:=by
 refine Ao (ha pins s σ H _ I h) fun v s1 zz=>?_
 obtain⟨x,H1,I1,r1,q1⟩:=zz
 refine Ao (hb pins s1 σ H1 _ I1 q1) fun u s2 zz=>?_
 obtain⟨y,H2,I2,r2,q2⟩:=zz
 exact hf v u s2 x y H2 I2 r1 r2 q2
theorem A9 {op:Operator}{r:R2}(ho:BG X (binaryOp op) r)(ha:PE X a ta)(hb:PE X b tb):PE X (.BinOp a op b pos) (EU r ta tb):=by
 intro pins s σ H Q I h
 exact wpAny_BinOp (Lm ha hb I h fun v u s2 x y H2 I2 rx ry q=>ho pins s2 σ H2 x y v u Q I2 rx ry q)
theorem CW {op:UnaryOp}{r:V->Hp->VK->Prop}(ho:Lo X (unaryOp op) r)(ha:PE X a ta):PE X (.UnaryOp op a pos) (QO r ta):=by
 intro pins s σ H Q I h
 refine UnaryOp_ (Ao (ha pins s σ H _ I h) fun v s1 zz=>?_)
 obtain⟨x,H1,I1,r1,q1⟩:=zz
 exact ho pins s1 σ H1 x v Q I1 r1 q1
theorem Jj {f:Value->Value->Sem Value}{C:Int->Int->Prop}{g:Int->Int->Int}
  (rule:∀(i j:Int) (t u:Tok) (s:Shared) (Q:Value->Shared->Prop) (E:Value->Shared->Prop),C i j->Q (.int (g i j) s.toks) {s with toks:=s.toks+1}->wpAny (model X.prog X.w) X.A (f (.int i t) (.int j u)) Q E s) :
  BG X f (rI C fun i j=>.int (g i j)):=by
 intro pins s σ H x y v u Q I rx ry h
 obtain⟨i,j,rfl,rfl,hc,q⟩:=h
 obtain⟨t,rfl⟩:=rx
 obtain⟨t',rfl⟩:=ry
 exact rule i j t t' s _ _ hc ⟨.int (g i j),H,I.tok _,⟨_,rfl⟩,q⟩
theorem Pg {f:Value->Value->Sem Value}{g:Int->Int->Int}
  (rule:∀(i j:Int) (t u:Tok) (s:Shared) (Q:Value->Shared->Prop) (E:Value->Shared->Prop),Q (.int (g i j) s.toks) {s with toks:=s.toks+1}->wpAny (model X.prog X.w) X.A (f (.int i t) (.int j u)) Q E s) :
  BG X f (Fp fun i j=>.int (g i j)):=by
 intro pins s σ H x y v u Q I rx ry h
 obtain⟨i,j,rfl,rfl,q⟩:=h
 obtain⟨t,rfl⟩:=rx
 obtain⟨t',rfl⟩:=ry
 exact rule i j t t' s _ _ ⟨.int (g i j),H,I.tok _,⟨_,rfl⟩,q⟩
theorem JL {f:Value->Value->Sem Value}{g:Int->Int->Bool}
  (rule:∀(i j:Int) (t u:Tok) (s:Shared) (Q:Value->Shared->Prop) (E:Value->Shared->Prop),Q (.bool (g i j)) s->wpAny (model X.prog X.w) X.A (f (.int i t) (.int j u)) Q E s) :
  BG X f (Fp fun i j=>.bl (g i j)):=by
 intro pins s σ H x y v u Q I rx ry h
 obtain⟨i,j,rfl,rfl,q⟩:=h
 obtain⟨t,rfl⟩:=rx
 obtain⟨t',rfl⟩:=ry
 exact rule i j t t' s _ _ ⟨.bl (g i j),H,I,rfl,q⟩
def VV (i j:Int):Prop:=0<j/\j<1073741824
def VP (i j:Int):Prop:=0<=j/\j<=1000000/\i.natAbs<2 ^ 64
def Mm (i j:Int):Prop:=(-(2 ^ 64)<i/\i<2 ^ 64)\/(-(2 ^ 64)<j/\j<2 ^ 64)
theorem Mm.ok {i j:Int}(h:Mm i j):IntMulOk i j:=by
 rcases h with⟨h1,h2⟩|⟨h1,h2⟩
 .exact .of_left (intBits_le_64 h1 h2)
 .exact .of_right (intBits_le_64 h1 h2)
theorem C4:BG X (binaryOp .Add) (Fp fun i j=>.int (i+j)):=Pg fun _ _ _ _ _ _ _ q=>add_int q
theorem FF:BG X (binaryOp .Sub) (Fp fun i j=>.int (i-j)):=Pg fun _ _ _ _ _ _ _ q=>sub_int q
theorem FE:BG X (binaryOp .Mult) (rI Mm fun i j=>.int (i*j)):=Jj fun _ _ _ _ _ _ _ hc q=>mul_int q hc.ok
theorem CA:BG X (binaryOp .FloorDiv) (rI VV fun i j=>.int (i/j)):=Jj fun i j _ _ _ _ _ hc q=>by
 have h1:(0:Int)<j:=hc.1
 have h2:j<1073741824:=hc.2
 exact floordiv_int (by omega) (by rw[Int.fdiv_eq_ediv_of_nonneg i (by omega)];exact q) (.inl (PyProof.noPylong_small (by omega)))
theorem Bq:BG X (binaryOp .Mod) (rI (fun _ j=>0<j) fun i j=>.int (i%j)):=Jj fun i j _ _ _ _ _ hc q=>by
 have h1:(0:Int)<j:=hc
 exact mod_int' (by omega) (by rw[Int.fmod_eq_emod_of_nonneg i (by omega)];exact q)
theorem Mi:BG X (binaryOp .Pow) (rI VP fun i j=>.int (i ^ j.toNat)):=Jj fun _ _ _ _ _ _ _ hc q=>pow_int_small hc.1 hc.2.1 hc.2.2 q
theorem S3 {f:Value->Sem Value}{g:Int->Int}
  (rule:∀(i:Int) (t:Tok) (s:Shared) (Q:Value->Shared->Prop) (E:Value->Shared->Prop),Q (.int (g i) s.toks) {s with toks:=s.toks+1}->wpAny (model X.prog X.w) X.A (f (.int i t)) Q E s) :
  Lo X f (rU fun i=>.int (g i)):=by
 intro pins s σ H x v Q I rx h
 obtain⟨i,rfl,q⟩:=h
 obtain⟨t,rfl⟩:=rx
 exact rule i t s _ _ ⟨.int (g i),H,I.tok _,⟨_,rfl⟩,q⟩
theorem CV:Lo X (unaryOp .USub) (rU fun i=>.int (-i)):=S3 fun _ _ _ _ _ q=>neg_int q
end
def Oj:V->V->Bool
 |.non,.non=>true|.non,.int _=>true|.int _,.non=>true|.non,.bl _=>true|.bl _,.non=>true|.non,.str _=>true|.str _,.non=>true
 |.int _,.int _=>true|.bl _,.bl _=>true|.str _,.str _=>true|.byt _,.byt _=>true
 |.int _,.str _=>true|.str _,.int _=>true|.bl _,.str _=>true|.str _,.bl _=>true
 |_,_=>false
def PX:R2:=fun x y H Q=>Oj x y=true/\Q (.bl (decide (x=y))) H
def Ny:R2:=fun x y H Q=>Oj x y=true/\Q (.bl (!decide (x=y))) H
theorem Ov {i j:Int}:decide (V.int i=V.int j)=(i==j):=by
 rw[En]
 simp
theorem OW {i j:Bool}:decide (V.bl i=V.bl j)=(i==j):=by
 rw[En]
 simp
theorem OB {i j:Str}:decide (V.str i=V.str j)=(i==j):=by
 rw[En]
 simp
theorem O7 {i j:Array UInt8}:decide (V.byt i=V.byt j)=(i.toList==j.toList):=by
 rw[En]
 cases i
 cases j
 simp
section
variable {X:Cx}{a b c:Expr}{ta tb tc:TE}{pos:Pos}
theorem BH {pins:List (Addr×Obj)}{σ:St}{H:Hp}{s:Shared}{Q:VK}{k k':Bool}(I:A5 X pins σ H s)(q:Q (.bl k) H)(e:k=k'):EP X pins σ Q (.bool k') s:=by
 subst e
 exact⟨.bl k,H,I,rfl,q⟩
theorem Bv:BG X (compareOp .Eq) PX:=by
 intro pins s σ H x y v u Q I rx ry h
 obtain⟨hs,q⟩:=h
 cases x with
 |
  non=>
  cases rx
  cases y with
  |non=>cases ry;exact PySem.EqNone.eq_none_none (BH I q (by simp))
  |bl j=>cases ry;exact PySem.EqNone.eq_none_bool (BH I q (by simp))
  |int j=>obtain⟨t',rfl⟩:=ry;exact PySem.EqNone.eq_none_int (BH I q (by simp))
  |str j=>obtain⟨t',rfl⟩:=ry;exact PySem.EqNone.eq_none_str (BH I q (by simp))
  |_=>exact absurd (show false=true from hs) BQ
 |
  bl i=>
  cases rx
  cases y with
  |non=>cases ry;exact PySem.EqNone.eq_bool_none (BH I q (by simp))
  |bl j=>cases ry;exact eq_bool (BH I q OW)
  |str j=>obtain⟨t',rfl⟩:=ry;exact PySem.EqMixed.eq_bool_str (BH I q (by simp))
  |_=>exact absurd (show false=true from hs) BQ
 |
  int i=>
  obtain⟨t,rfl⟩:=rx
  cases y with
  |non=>cases ry;exact PySem.EqNone.eq_int_none (BH I q (by simp))
  |int j=>obtain⟨t',rfl⟩:=ry;exact eq_int (BH I q Ov)
  |str j=>obtain⟨t',rfl⟩:=ry;exact PySem.EqMixed.eq_int_str (BH I q (by simp))
  |_=>exact absurd (show false=true from hs) BQ
 |
  str i=>
  obtain⟨t,rfl⟩:=rx
  cases y with
  |non=>cases ry;exact PySem.EqNone.eq_str_none (BH I q (by simp))
  |bl j=>cases ry;exact PySem.EqMixed.eq_str_bool (BH I q (by simp))
  |int j=>obtain⟨t',rfl⟩:=ry;exact PySem.EqMixed.eq_str_int (BH I q (by simp))
  |str j=>obtain⟨t',rfl⟩:=ry;exact eq_str (BH I q OB)
  |_=>exact absurd (show false=true from hs) BQ
 |
  byt i=>
  obtain⟨t,rfl⟩:=rx
  cases y with
  |byt j=>obtain⟨t',rfl⟩:=ry;exact PySem.W.eq_bytes (BH I q O7)
  |_=>exact absurd (show false=true from hs) BQ
 |_=>cases y<;>exact absurd (show false=true from hs) BQ
theorem E4:BG X (compareOp .NotEq) Ny:=by
 intro pins s σ H x y v u Q I rx ry h
 obtain⟨hs,q⟩:=h
 cases x with
 |
  non=>
  cases rx
  cases y with
  |non=>cases ry;exact PySem.EqNone.ne_none_none (BH I q (by simp))
  |bl j=>cases ry;exact PySem.EqNone.ne_none_bool (BH I q (by simp))
  |int j=>obtain⟨t',rfl⟩:=ry;exact PySem.EqNone.ne_none_int (BH I q (by simp))
  |str j=>obtain⟨t',rfl⟩:=ry;exact PySem.EqNone.ne_none_str (BH I q (by simp))
  |_=>exact absurd (show false=true from hs) BQ
 |
  bl i=>
  cases rx
  cases y with
  |non=>cases ry;exact PySem.EqNone.ne_bool_none (BH I q (by simp))
  |bl j=>cases ry;exact ne_bool (BH I q (congrArg not OW))
  |str j=>obtain⟨t',rfl⟩:=ry;exact PySem.EqMixed.ne_bool_str (BH I q (by simp))
  |_=>exact absurd (show false=true from hs) BQ
 |
  int i=>
  obtain⟨t,rfl⟩:=rx
  cases y with
  |non=>cases ry;exact PySem.EqNone.ne_int_none (BH I q (by simp))
  |int j=>obtain⟨t',rfl⟩:=ry;exact ne_int (BH I q (congrArg not Ov))
  |str j=>obtain⟨t',rfl⟩:=ry;exact PySem.EqMixed.ne_int_str (BH I q (by simp))
  |_=>exact absurd (show false=true from hs) BQ
 |
  str i=>
  obtain⟨t,rfl⟩:=rx
  cases y with
  |non=>cases ry;exact PySem.EqNone.ne_str_none (BH I q (by simp))
  |bl j=>cases ry;exact PySem.EqMixed.ne_str_bool (BH I q (by simp))
  |int j=>obtain⟨t',rfl⟩:=ry;exact PySem.EqMixed.ne_str_int (BH I q (by simp))
  |str j=>obtain⟨t',rfl⟩:=ry;exact ne_str (BH I q (congrArg not OB))
  |_=>exact absurd (show false=true from hs) BQ
 |
  byt i=>
  obtain⟨t,rfl⟩:=rx
  cases y with
  |byt j=>obtain⟨t',rfl⟩:=ry;exact PySem.W.ne_bytes (BH I q (congrArg not O7))
  |_=>exact absurd (show false=true from hs) BQ
 |_=>cases y<;>exact absurd (show false=true from hs) BQ
theorem Ey:BG X (compareOp .Lt) (Fp fun i j=>.bl (decide (i<j))):=JL fun _ _ _ _ _ _ _ q=>lt_int q
theorem WT:BG X (compareOp .LtE) (Fp fun i j=>.bl (decide (i<=j))):=JL fun _ _ _ _ _ _ _ q=>le_int q
theorem Fm:BG X (compareOp .Gt) (Fp fun i j=>.bl (decide (j<i))):=JL fun _ _ _ _ _ _ _ q=>gt_int q
theorem Sf:BG X (compareOp .GtE) (Fp fun i j=>.bl (decide (j<=i))):=JL fun _ _ _ _ _ _ _ q=>ge_int q
theorem KA:BG X (compareOp .In) (fun x y H Q=>∃i j,x = .str i/\y = .str j/\Q (.bl (!(Builtin.Str.occurrences j i 0 j.length 1).isEmpty)) H):=by
 intro pins s σ H x y v u Q I rx ry h
 obtain⟨i,j,rfl,rfl,q⟩:=h
 obtain⟨t,rfl⟩:=rx
 obtain⟨t',rfl⟩:=ry
 exact in_str (BH I q rfl)
theorem Ee:BG X (compareOp .Is) (fun x y H Q=>y = .non/\Q (.bl (decide (x = .non))) H):=by
 intro pins s σ H x y v u Q I rx ry h
 obtain⟨rfl,q⟩:=h
 cases ry
 refine is_none_gen (BH I q ?_)
 cases x<;>first
  |(cases rx;rfl)
  |(obtain⟨t,rfl⟩:=rx;rfl)
theorem LU:BG X (compareOp .IsNot) (fun x y H Q=>y = .non/\Q (.bl (!decide (x = .non))) H):=by
 intro pins s σ H x y v u Q I rx ry h
 obtain⟨rfl,q⟩:=h
 cases ry
 refine isnot_none_gen (BH I q ?_)
 cases x<;>first
  |(cases rx;rfl)
  |(obtain⟨t,rfl⟩:=rx;rfl)
theorem Av (b:Expr){op:CmpOp}(h:op≠.In:=by decide)(h2:op≠.NotIn:=by decide):behindInMarks op b=false:=by
 have e1:(op==CmpOp.In)=false:=by cases op<;>first|rfl|exact absurd rfl h
 have e2:(op==CmpOp.NotIn)=false:=by cases op<;>first|rfl|exact absurd rfl h2
 cases b<;>simp[behindInMarks,e1,e2]
theorem DS {op:CmpOp}{r:R2}(ho:BG X (compareOp op) r)(ha:PE X a ta)(hb:PE X b tb)(hm:behindInMarks op b=false):PE X (.Compare a [op] [b] pos) (EU r ta tb):=by
 intro pins s σ H Q I h
 exact wpAny_Compare1 (Lm ha hb I h fun v u s2 x y H2 I2 rx ry q=>ho pins s2 σ H2 x y v u Q I2 rx ry q) hm
def Pe (t:TE):TT:=fun σ H Q=>t σ H fun x H'=>∃k,x = .bl k/\Q k H'
theorem Au {op:CmpOp}{r:R2}(ho:BG X (compareOp op) r)(ha:PE X a ta)(hb:PE X b tb)(hm:behindInMarks op b=false):PT X (.Compare a [op] [b] pos) (Pe (EU r ta tb)):=by
 intro pins s σ H Q I h
 refine wpAny_isTrue_Compare1 (Ao (ha pins s σ H _ I h) fun v s1 ⟨x,H1,I1,r1,q1⟩=>Ao (hb pins s1 σ H1 _ I1 q1) fun u s2 ⟨y,H2,I2,r2,q2⟩=>
  Ao (ho pins s2 σ H2 x y v u _ I2 r1 r2 q2) fun c s3 ⟨z,H3,I3,r3,k,e,q3⟩=>?_) hm
 subst e
 cases r3
 exact Hz ⟨H3,I3,q3⟩
def Nq (K:Ya)(x:V)(H:Hp)(k:Bool):Prop:=
 match x with
 |.non=>k=false
 |.bl b=>k=b
 |.int i=>k=(i != 0)
 |.str y=>y.length<=sizeLine/\k=((y.length:Int) != 0)
 |.byt y=>y.size<=sizeLine/\k=((y.size:Int) != 0)
 |.ref p=>(∃xs,A3 K H p xs/\k=!xs.isEmpty)\/(∃xs,Aw K H p xs/\k=!xs.isEmpty)\/∃kvs,H p=some (.dK kvs)/\k=!kvs.isEmpty
 |_=>False
theorem Xw {κ:Type}{kvs:List (κ×V)}{vs:List (κ×Value)}(r:KV kvs vs):(!vs.isEmpty)=!kvs.isEmpty:=by
 cases r<;>rfl
theorem Oa {xs:List V}{its:List Value}(r:AD xs its):(!its.toArray.isEmpty)=!xs.isEmpty:=by
 cases r<;>simp
theorem FU:(sizeLine:Nat)<2 ^ 63:=by rw[HE];decide
theorem R4:Ri X (fun x H Q=>∃k,Nq X.K x H k/\Q k H):=by
 intro pins s σ H x v Q I rx h
 obtain⟨k,e,q⟩:=h
 have hl:=FU
 have hs:sizeLine=16777216:=HE
 cases x with
 |
  non=>
  cases rx
  have e':k=false:=e
  subst e'
  exact truthy_none ⟨H,I,q⟩
 |
  bl b=>
  cases rx
  have e':k=b:=e
  subst e'
  exact Hz ⟨H,I,q⟩
 |
  int i=>
  obtain⟨t,rfl⟩:=rx
  have e':k=(i != 0):=e
  subst e'
  exact PySem.P.truthy_int ⟨H,I,q⟩
 |
  str y=>
  obtain⟨t,rfl⟩:=rx
  obtain⟨hy,e'⟩:y.length<=sizeLine/\k=((y.length:Int) != 0):=e
  subst e'
  exact PySem.P.truthy_str (by omega) ⟨H,I.tok _,q⟩
 |
  byt y=>
  obtain⟨t,rfl⟩:=rx
  obtain⟨hy,e'⟩:y.size<=sizeLine/\k=((y.size:Int) != 0):=e
  subst e'
  exact PySem.W.truthy_bytes (by omega) ⟨H,I.tok _,q⟩
 |
  ref p=>
  cases rx
  have e':(∃xs,A3 X.K H p xs/\k=!xs.isEmpty)\/(∃xs,Aw X.K H p xs/\k=!xs.isEmpty)\/∃kvs,H p=some (.dK kvs)/\k=!kvs.isEmpty:=e
  rcases e' with⟨xs,hx,e'⟩|⟨xs,hx,e'⟩|⟨kvs,hx,e'⟩
  .subst e'
   obtain⟨its,r,pl,hz⟩:=I.list hx
   have hlen:=r.length
   exact wpAny_truthy_list pl.isList (by simp only[By];omega) ⟨H,I.tok _,by rw[Oa r];exact q⟩
  .subst e'
   obtain⟨its,r,pl,hz⟩:=I.tuple hx
   have hlen:=r.length
   exact truthy_tuple pl (by simp only[By];omega) ⟨H,I.tok _,by rw[Oa r];exact q⟩
  .subst e'
   obtain⟨hz,hS,vs,r,m⟩:kvs.length<=sizeLine/\(p==sysModules)=false/\∃vs,KV kvs vs/\s.heap.DictOf (Dq X.prog X.w) p vs:=I.hok p _ hx
   have hlen:kvs.length=vs.length:=Paired.length r
   exact wpAny_truthy_dict hS m (by omega) ⟨H,I.tok _,by rw[Xw r];exact q⟩
 |_=>exact(show False from e).elim
theorem W9 (ha:PE X a ta)(he:∀whole,isTrue a X.env whole=(do let v ←whole;standAt a.pos;holding [v] (truthy v))) :
  PT X a (fun σ H Q=>ta σ H fun x H'=>∃k,Nq X.K x H' k/\Q k H'):=by
 intro pins s σ H Q I h
 refine isTrue_plain (Ao (ha pins s σ H _ I h) fun v s1 zz=>?_) (he _)
 obtain⟨x,H1,I1,r1,q1⟩:=zz
 exact R4 pins s1 σ H1 x v Q I1 r1 q1
theorem Bk:BG X (binaryOp .Add) (fun x y H Q=>∃i j,x = .str i/\y = .str j/\i.length+j.length<=sizeLine/\Q (.str (i++j)) H):=by
 intro pins s σ H x y v u Q I rx ry h
 obtain⟨i,j,rfl,rfl,hz,q⟩:=h
 obtain⟨t,rfl⟩:=rx
 obtain⟨t',rfl⟩:=ry
 exact add_str (fun t' tk=>⟨.str (i++j),H,I.tok _,⟨_,rfl⟩,q⟩) hz
theorem EH {x:V}{us:List Value}(r:AD [x] us):∃u,us=[u]/\AM x u:=by
 cases r with
 |cons r1 r2=>cases r2;exact⟨_,rfl,r1⟩
theorem NQ:Eb X (.builtin "abs") (fun xs H Q=>∃i,xs=[.int i]/\Q (.int (if i<0 then -i else i)) H):=by
 intro pins s σ H xs us Q I r h
 obtain⟨i,rfl,q⟩:=h
 obtain⟨u,rfl,t,rfl⟩:=EH r
 exact call_abs_int fun u tk=>⟨.int (if i<0 then -i else i),H,I.tok _,⟨_,rfl⟩,q⟩
theorem NN:Eb X (.type "int") (fun xs H Q=>(∃i,xs=[.int i]/\Q (.int i) H)\/∃k,xs=[.bl k]/\Q (.int (if k then 1 else 0)) H):=by
 intro pins s σ H xs us Q I r h
 rcases h with⟨i,rfl,q⟩|⟨k,rfl,q⟩
 .obtain⟨u,rfl,t,rfl⟩:=EH r
  exact call_int_int ⟨.int i,H,I,⟨_,rfl⟩,q⟩
 .obtain⟨u,rfl,r1⟩:=EH r
  cases r1
  exact call_int_bool ⟨.int (if k then 1 else 0),H,I.tok _,⟨_,rfl⟩,q⟩
theorem Gk:Eb X (.type "str") (fun xs H Q=>∃i,xs=[.int i]/\i.natAbs.log2<1920/\Q (.str (toString i)) H):=by
 intro pins s σ H xs us Q I r h
 obtain⟨i,rfl,hz,q⟩:=h
 obtain⟨u,rfl,t,rfl⟩:=EH r
 exact PySem.P.str_of_int hz ⟨.str _,H,I.tok _,⟨_,rfl⟩,q⟩
end
structure GJ (h:Heap)(x dx C:Addr)(mA:Str->Option Value):Prop where
 obj:h.get? x=some (PySem.W.instObj C dx)
 ns:h.Ns1 dx mA
 ne:dx≠x
theorem X8 {h:Heap}{dx:Addr}{mA:Str->Option Value}(n:h.Ns1 dx mA):∃od,h.get? dx=some od/\∀name,PySem.W.lookIn name od=some (mA name):=by
 obtain⟨o,es,ep,ho,hd,hk,_,hm⟩:=n
 refine⟨o,ho,fun name=>?_⟩
 have e:=hm name
 unfold nsFind findBy at e
 rw[←Array.find?_toList]at e
 unfold PySem.W.lookIn
 rw[hd]
 dsimp only
 split
 .rename_i y q
  rw[q]at e
  exact congrArg some e
 .rename_i q
  rw[q]at e
  have a:es.toList.any (·.refKey)=false:=by
   rw[List.any_eq_false]
   intro y hy
   obtain⟨z,t,hkey⟩:=hk y (Qk.mp hy)
   simp[DictEntry.refKey,hkey]
  have a':¬es.toList.any (·.refKey)=true:=by rw[a];exact BQ
  rw[Ab a']
  exact congrArg some e
theorem GJ.look {h:Heap}{x dx C:Addr}{mA:Str->Option Value}(I:GJ h x dx C mA):∃od,PySem.W.InstAt h x (PySem.W.instObj C dx) C (some od)/\∀name,PySem.W.lookIn name od=some (mA name):=
 let ⟨od,ho,hl⟩:=X8 I.ns
 ⟨od,⟨I.obj,rfl,rfl,ho⟩,hl⟩
section
variable {prog:Program}{w:World}{A:Around}{E:Value->Shared->Prop}{s:Shared}{K:Ya}{x dx C f:Addr}{mA:Str->Option Value}{name:Str}{v:Value}
theorem Ua {expr:Bool}{Q:Value->Shared->Prop}(X:K.In s.heap)(I:GJ s.heap x dx C mA)(hg:PySem.W.plainGet K C name=true)(hh:PySem.W.hasDictIn K C=true)
  (ha:PySem.W.findIn K (.ref C) name=some none) (hv:mA name=some v) (hv':PySem.W.handedIn v=true) (h:Q v {s with toks:=s.toks+1}) :
  wpAny (model prog w) A (getAttr (.ref x) name expr) Q E s:=by
 obtain⟨od,J,hl⟩:=I.look
 exact PySem.W.get_value X J (PySem.W.plainGet_of hg).1 (PySem.W.findObj_own hh ha rfl (by rw[hl,hv])) hv' h
theorem Sv {ns:List Str}{Q:Unit->Shared->Prop}(X:K.In s.heap)(I:GJ s.heap x dx C mA)
  (hs:PySem.W.findIn K (.ref C) "__setattr__"=some (some (.builtin "object.__setattr__"))) (hp:PySem.W.plainOver K C=true) (ht:PySem.W.takerIn K C name=some none) (hh:PySem.W.hasDictIn K C=true)
  (hw:PySem.Within mA ns) (hsz:ns.length<=sizeLine)
  (h:∀h',GJ h' x dx C (fun y=>if y=name then some v else mA y)->Heap.SameBut dx s.heap h'->Q () {s with heap:=h',toks:=s.toks+2}) :
  wpAny (model prog w) A (setAttr (.ref x) name v) Q E s:=by
 obtain⟨od,J,hl⟩:=I.look
 refine PySem.W.set_plain X J hs (PySem.W.osa_open (s:={s with toks:=s.toks+1}) (r:=none) X J hp ht fun b=>?_)
 obtain⟨cd,hc,hd'⟩:=PySem.W.any_some hh
 have hx:s.heap.get? x=some ⟨.ref C,some dx,.plain,#[]⟩:=I.obj
 refine B7 (Ca (B7 (B7 (wpAny_loadPart hx (B7 (PySem.W.Looks.here (s:={s with toks:=s.toks+1}) (PySem.W.looks_clsIn X hc) ?_))))))
 rw[hd']
 refine Ca (a:=some dx) (B7 (Ca (B7 ?_)))
 refine wpAny_nsSet1 (s:={s with toks:=s.toks+1}) I.ns fun h' hn2 hs2=>?_
 obtain⟨oD,esD,epD,hoD,hdD,hcD⟩:=hn2.count (PySem.Within.cons name v hw)
 refine B7 (wpAny_lookBehind hoD (by rw[hdD];exact pastItsLine_dict (BI hcD (by rw[AQ];omega))) ?_)
 exact Ca (h _ ⟨(hs2.2 _ (Ne.symm I.ne)).trans I.obj,hn2,I.ne⟩ hs2)
theorem Uo {R:Result->Shared->Prop}{vs:List Value}{kw:List (Str×Value)}(X:K.In s.heap)(hm:PySem.W.makesIn K C=true)
  (hi:PySem.W.findIn K (.ref C) "__init__"=some (some (.ref f))) (hf:PySem.W.typeIn K (.ref f)=some (.type "function"))
  (h:codeAny (model prog w) (A.under (.builtin "type.__call__" ⟨.ref C::vs,kw⟩)) (.call (.ref f) ⟨.ref (s.heap.objs.size+1)::vs,kw⟩) (PySem.W.InitBack (s.heap.objs.size+1) R)
   {s with heap:=(s.heap.push PySem.W.emptyDict).push (PySem.W.instObj C s.heap.objs.size)}) :
  codeAny (model prog w) A (.call (.ref C) ⟨vs,kw⟩) R s:=by
 obtain⟨hh,g,d,t,os⟩:=s
 exact PySem.W.make_core (PySem.W.makes_of X hm) (PySem.W.looks_findIn X hi) (fun self=>PySem.W.bind_fn X self hf) (.inl rfl) h
end
def Ae (f:Str)(v:V):List (Str×V)->List (Str×V)
 |[]=>[(f,v)]
 |(g,x)::r=>if g=f then(g,v)::r else(g,x)::Ae f v r
theorem OH (f g:Str)(v:V):∀fs:List (Str×V),(Ae f v fs).lookup g=if g=f then some v else fs.lookup g
 |
  []=>by
  show List.lookup g [(f,v)]=_
  by_cases h:g=f
  .have hb:(g==f)=true:=E9.mpr h
   simp only[List.lookup,hb,Af h]
  .have hb:(g==f)=false:=Hy.mpr h
   simp only[List.lookup,hb,Ab h]
 |
  (k,x)::r=>by
  have ih:=OH f g v r
  rw[show Ae f v ((k,x)::r)=(if k=f then(k,v)::r else(k,x)::Ae f v r) from rfl]
  by_cases hk:k=f
  .rw[Af hk]
   by_cases h:g=k
   .have hb:(g==k)=true:=E9.mpr h
    simp only[List.lookup,hb,Af (h.trans hk)]
   .have hb:(g==k)=false:=Hy.mpr h
    simp only[List.lookup,hb,Ab (fun e:g=f=>h (e.trans hk.symm))]
  .rw[Ab hk]
   by_cases h:g=k
   .have hb:(g==k)=true:=E9.mpr h
    simp only[List.lookup,hb,Ab (fun e:g=f=>hk (h.symm.trans e))]
   .have hb:(g==k)=false:=Hy.mpr h
    simp only[List.lookup,hb]
    exact ih
theorem Mo (f:Str)(v:V):∀fs:List (Str×V),f∈(Ae f v fs).map (·.1)/\∀g,g∈fs.map (·.1)->g∈(Ae f v fs).map (·.1)
 |[]=>⟨by simp[Ae],fun g h=>by simp at h⟩
 |
  (k,x)::r=>by
  obtain⟨i1,i2⟩:=Mo f v r
  rw[show Ae f v ((k,x)::r)=(if k=f then(k,v)::r else(k,x)::Ae f v r) from rfl]
  by_cases hk:k=f
  .rw[Af hk]
   subst hk
   exact⟨by simp,fun g h=>by simpa using h⟩
  .rw[Ab hk]
   refine⟨?_,fun g h=>?_⟩
   .rw[BN]
    exact B8 _ i1
   .rw[BN]at h ⊢
    rcases AG.mp h with e|e
    .exact AG.mpr (.inl e)
    .exact B8 _ (i2 g e)
theorem O4 (f:Str)(v:V):∀fs:List (Str×V),(Ae f v fs).length<=fs.length+1
 |[]=>by simp[Ae]
 |
  (k,x)::r=>by
  have ih:=O4 f v r
  rw[show Ae f v ((k,x)::r)=(if k=f then(k,v)::r else(k,x)::Ae f v r) from rfl]
  by_cases hk:k=f
  .rw[Af hk,AQ,AQ];omega
  .rw[Ab hk,AQ,AQ];omega
theorem Fx.some_of {v:V}{o:Option Value}(r:Fx (some v) o):∃u,o=some u/\AM v u:=by
 cases o with
 |none=>exact(show False from r).elim
 |some u=>exact⟨u,rfl,r⟩
theorem Vz {v:V}{u:Value}(r:AM v u):PySem.W.handedIn u=true:=by
 cases v with
 |non=>cases (show u=Value.none from r);rfl
 |bl b=>cases (show u=Value.bool b from r);rfl
 |int i=>obtain⟨t,e⟩:=(show ∃t,u=Value.int i t from r);cases e;rfl
 |str x=>obtain⟨t,e⟩:=(show ∃t,u=Value.str x t from r);cases e;rfl
 |byt b=>obtain⟨t,e⟩:=(show ∃t,u=Value.bytes b t from r);cases e;rfl
 |flt b=>obtain⟨t,e⟩:=(show ∃t,u=Value.float b t from r);cases e;rfl
 |ref a=>cases (show u=Value.ref a from r);rfl
 |ty n=>cases (show u=Value.type n from r);rfl
section
variable {P:Program}{w:World}{H H':Hp}{h h':Heap}{a C dx:Addr}{fs fs':List (Str×V)}
theorem Lb (hok:BF P w H h)(e:H a=some (.ins C dx fs)):∃mA,GJ h a dx C mA/\(∀f,Fx (fs.lookup f) (mA f))/\PySem.Within mA (fs.map (·.1))/\fs.length<=1000/\H dx=some (.own a):=by
 obtain⟨d,z,ne,ob,mA,n,r,q⟩:=(show BV P w H h a (.ins C dx fs) from hok a _ e)
 exact⟨mA,⟨ob,n,ne⟩,r,q,z,d⟩
end
structure DA (K:Ya)(C:Addr):Prop where
 pg:PySem.W.plainGet K C Str.empty=true
 hd:PySem.W.hasDictIn K C=true
 po:PySem.W.plainOver K C=true
 sa:PySem.W.findIn K (.ref C) "__setattr__"=some (some (.builtin "object.__setattr__"))
theorem DA.get {K:Ya}{C:Addr}(c:DA K C)(f:Str):PySem.W.plainGet K C f=true:=c.pg
def BP (K:Ya)(C:Addr)(f:Str):Prop:=PySem.W.findIn K (.ref C) f=some none
theorem BP.taker {K:Ya}{C:Addr}{f:Str}(n:BP K C f):PySem.W.takerIn K C f=some none:=by
 unfold PySem.W.takerIn
 rw[show PySem.W.findIn K (.ref C) f=some none from n]
 rfl
section
variable {X:Cx}{pins:List (Addr×Obj)}{σ:St}{H:Hp}{s:Shared}{a C dx:Addr}{fs:List (Str×V)}{f:Str}{v:V}{A:Around}{E:Value->Shared->Prop}
theorem QR {b:Bool}{Q:Value->Shared->Prop}(I:A5 X pins σ H s)(e:H a=some (.ins C dx fs))(c:DA X.K C)(n:BP X.K C f)(l:fs.lookup f=some v)
  (h:∀u s',A5 X pins σ H s'->AM v u->Q u s'):wpAny (model X.prog X.w) A (getAttr (.ref a) f b) Q E s:=by
 obtain⟨mA,O,r,_,_,_⟩:=Lb I.hok e
 obtain⟨u,hu,ru⟩:=Fx.some_of (v:=v) (o:=mA f) (by rw[←l];exact r f)
 exact Ua I.kIn O (c.get f) c.hd n hu (Vz ru) (h u _ (I.tok _) ru)
theorem Xu {y:V}{u:Value}{Q:Unit->Shared->Prop}(I:A5 X pins σ H s)(e:H a=some (.ins C dx fs))(c:DA X.K C)(n:BP X.K C f)(hl:fs.length<1000)(ry:AM y u)
  (h:∀s',A5 X pins σ (upd H a (.ins C dx (Ae f y fs))) s'->Q () s'):wpAny (model X.prog X.w) A (setAttr (.ref a) f u) Q E s:=by
 obtain⟨mA,O,r,wi,_,ho⟩:=Lb I.hok e
 have hz:(fs.map (·.1)).length<=sizeLine:=by rw[An,HE];omega
 refine Sv I.kIn O c.sa c.po n.taker c.hd wi hz fun h' O' sb=>h _ ?_
 have hd:∃o,h'.get? dx=some o:=by obtain⟨o,_,_,e',_⟩:=O'.ns;exact⟨o,e'⟩
 refine I.write (x:=a) (e:=dx) (by rw[e];exact True.intro) (.inr ho) (fun b q hb z=>(sb.2 b hb).trans z) hd ?_
 refine⟨by rw[A8 O.ne];exact ho,?_,O.ne,O'.obj,_,O'.ns,fun g=>?_,fun g hg=>?_⟩
 .have:=O4 f y fs;omega
 .show Fx ((Ae f y fs).lookup g) (if g=f then some u else mA g)
  rw[OH]
  by_cases q:g=f
  .rw[Af q,Af q];exact ry
  .rw[Ab q,Ab q];exact r g
 .by_cases q:g=f
  .rw[q];exact(Mo f y fs).1
  .refine(Mo f y fs).2 g (wi g fun z=>hg ?_)
   show(if g=f then some u else mA g)=none
   rw[Ab q];exact z
theorem A5.made (I:A5 X pins σ H s):A5 X pins σ (upd (upd H s.heap.objs.size (.own (s.heap.objs.size+1))) (s.heap.objs.size+1) (.ins C s.heap.objs.size []))
  {s with heap:=(s.heap.push PySem.W.emptyDict).push (PySem.W.instObj C s.heap.objs.size)}:=by
 have e1:(s.heap.push PySem.W.emptyDict).get? s.heap.objs.size=some PySem.W.emptyDict:=Dl s.heap rfl
 have e2:((s.heap.push PySem.W.emptyDict).push (PySem.W.instObj C s.heap.objs.size)).get? (s.heap.objs.size+1)=some (PySem.W.instObj C s.heap.objs.size):=by
  have:=Dl (s.heap.push PySem.W.emptyDict) (o:=PySem.W.instObj C s.heap.objs.size) rfl
  rwa [Ht]at this
 have e3:(s.heap.push PySem.W.emptyDict).Ns s.heap.objs.size (fun _=>none):=⟨PySem.W.emptyDict,#[],_,e1,rfl,(fun e he=>absurd he (by simp)),fun _=>rfl⟩
 have I1:=I.laid (a:=s.heap.objs.size) (o:=.own (s.heap.objs.size+1)) (h':=s.heap.push PySem.W.emptyDict) (t':=s.toks) (fun b u q=>BR _ q) (Aj _) ⟨_,e1⟩
 refine I1.laid (a:=s.heap.objs.size+1) (o:=.ins C s.heap.objs.size []) (t':=s.toks) (fun b u q=>BR _ q) (Nat.le_of_eq (Ht _ _)) ?_
 have ne:s.heap.objs.size≠s.heap.objs.size+1:=Co (IK _)
 refine⟨by rw[A8 ne,A6],Bw _,ne,e2,fun _=>none,(Heap.Ns1.of_empty e3).at fun o q=>BR _ q,fun _=>True.intro,fun y hy=>absurd rfl hy⟩
theorem Sx {prog:Program}{w:World}{env:Env}{e:Expr}{f:Str}{pos:Pos}{s:Shared}{Q:Value->Shared->Prop}(hb:attributeBase e f env (eval e env)=eval e env)
  (h:wpAny (model prog w) A (eval e env) (fun o s₁=>wpAny (model prog w) A (getAttr o f true) Q E s₁) E s):wpAny (model prog w) A (eval (.Attribute e f pos) env) Q E s:=
 Attribute_any_ h (by rw[arm_eval_Attribute,hb])
end
def Pd (K:Ya)(ta:TE)(f:Str):TE:=fun σ H Q=>ta σ H fun x H1=>∃a C dx fs v,x = .ref a/\H1 a=some (.ins C dx fs)/\DA K C/\BP K C f/\fs.lookup f=some v/\Q v H1
def Wr (K:Ya)(ta tv:TE)(f:Str):TS:=fun D σ H=>tv σ H fun y H1=>ta σ H1 fun x H2=>∃a C dx fs,x = .ref a/\H2 a=some (.ins C dx fs)/\DA K C/\BP K C f/\fs.length<1000/\
 D.nx σ (upd H2 a (.ins C dx (Ae f y fs)))
section
variable {X:Cx}{o e value:Expr}{f:Str}{pos pos' tpos:Pos}{ta tv:TE}
theorem B0 (he:PE X e ta)(hb:attributeBase e f X.env (eval e X.env)=eval e X.env):PE X (.Attribute e f pos) (Pd X.K ta f):=by
 intro pins s σ H Q I h
 refine Sx hb (Ao (he pins s σ H _ I h) fun u s1 zz=>?_)
 obtain⟨x,H1,I1,rx,a,C,dx,fs,v,ex,ea,c,n,l,q⟩:=zz
 subst ex
 obtain rfl:u=Value.ref a:=rx
 exact QR I1 ea c n l fun u' s2 I2 ru=>⟨v,H1,I2,ru,q⟩
theorem Cc (ha:PE X o ta)(hv:PE X value tv)(hs:swapsWith value (some (.Attribute o f pos')) pos.line X.env=pure false):PS X (.Assign [.Attribute o f pos'] value pos) (Wr X.K ta tv f):=by
 intro pins s σ H D I h
 refine plainObj_wpAny_Assign_Attribute (Ao (hv pins s σ H _ I h) fun u s1 zz=>?_) hs
 obtain⟨y,H1,I1,ry,q⟩:=zz
 refine Ao (ha pins s1 σ H1 _ I1 q) fun ov s2 zz=>?_
 obtain⟨x,H2,I2,rx,a,C,dx,fs,ex,ea,c,n,l,q2⟩:=zz
 subst ex
 obtain rfl:ov=Value.ref a:=rx
 exact Xu I2 ea c n l ry fun s3 I3=>⟨σ,_,I3,q2⟩
end
section
variable {X:Cx}{pins:List (Addr×Obj)}{σ:St}{H:Hp}{s:Shared}{A:Around}{E:Value->Shared->Prop}{Q:Value->Shared->Prop}{c:Value}{b:Bool}
inductive CH (K:Ya)(H:Hp):V->Value->Prop where
 |non:CH K H .non (.type "NoneType")
 |bl (x:Bool):CH K H (.bl x) (.type "bool")
 |int (i:Int):CH K H (.int i) (.type "int")
 |str (x:Str):CH K H (.str x) (.type "str")
 |flt (x:UInt64):CH K H (.flt x) (.type "float")
 |lst {a:Addr} {xs:List V} (e:H a=some (.lst xs)):CH K H (.ref a) (.type "list")
 |frz {a:Addr} {o:Obj} {xs:List V} (e:H a=some (.frz o (.lst xs))):CH K H (.ref a) (.type "list")
 |tup {a:Addr} {xs:List V} (e:H a=some (.tup xs)):CH K H (.ref a) (.type "tuple")
 |dK {a:Addr} {kvs:List (Be×V)} (e:H a=some (.dK kvs)):CH K H (.ref a) (.type "dict")
 |dT {a:Addr} {kvs:List (List Be×V)} (e:H a=some (.dT kvs)):CH K H (.ref a) (.type "dict")
 |ins {a C dx:Addr} {fs:List (Str×V)} (e:H a=some (.ins C dx fs)) (cl:DA K C) (ha:PySem.W.findIn K (.ref C) "__class__"=some (some (.builtin "object.__class__")))
  (hn:PySem.W.specialIn K (.builtin "object.__class__") "__get__"=some (some (.builtin "getset_descriptor.__get__"))) (htk:PySem.W.takesIn K (.builtin "object.__class__")=some true)
  (hm:PySem.W.mroIn K C (.type "object")=some true):CH K H (.ref a) (.ref C)
theorem Ub {x:V}{u t:Value}(I:A5 X pins σ H s)(rx:AM x u)(ty:CH X.K H x t)(e:PySem.W.kitOne X.K t c=some b)(h:∀tk,Q (.bool b) {s with toks:=tk}) :
  wpAny (model X.prog X.w) A (call (.builtin "isinstance") [u,c]) Q E s:=by
 cases ty with
 |non=>cases (show u=Value.none from rx);exact F5 PySem.W.kitx_none I.kIn True.intro e (fun z=>nomatch z) h
 |bl y=>cases (show u=Value.bool y from rx);exact F5 PySem.W.kitx_bool I.kIn True.intro e (fun z=>nomatch z) h
 |int i=>obtain⟨t,q⟩:=(show ∃t,u=Value.int i t from rx);cases q;exact F5 PySem.W.kitx_int I.kIn True.intro e (fun z=>nomatch z) h
 |str y=>obtain⟨t,q⟩:=(show ∃t,u=Value.str y t from rx);cases q;exact F5 PySem.W.kitx_str I.kIn True.intro e (fun z=>nomatch z) h
 |flt y=>obtain⟨t,q⟩:=(show ∃t,u=Value.float y t from rx);cases q;exact F5 PySem.W.kitx_float I.kIn True.intro e (fun z=>nomatch z) h
 |
  @lst a xs ea=>
  cases (show u=Value.ref a from rx)
  obtain⟨_,_,n,_,h1⟩:=(show BV X.prog X.w H s.heap a (.lst xs) from I.hok a _ ea)
  exact F5 PySem.W.kitx_list I.kIn ⟨_,h1,rfl⟩ e (fun z=>nomatch z) h
 |
  @frz a ob xs ea=>
  cases (show u=Value.ref a from rx)
  obtain⟨_,_,_,n,_,h1⟩:=(show BV X.prog X.w H s.heap a (.frz ob (.lst xs)) from I.hok a _ ea)
  exact F5 PySem.W.kitx_list I.kIn ⟨_,h1,rfl⟩ e (fun z=>nomatch z) h
 |
  @tup a xs ea=>
  cases (show u=Value.ref a from rx)
  obtain⟨_,_,_,p⟩:=(show BV X.prog X.w H s.heap a (.tup xs) from I.hok a _ ea)
  obtain⟨o,h1,h2,_⟩:=p
  exact F5 PySem.W.kitx_tuple I.kIn ⟨o,h1,h2⟩ e (fun z=>nomatch z) h
 |
  @dK a kvs ea=>
  cases (show u=Value.ref a from rx)
  obtain⟨_,_,vs,_,p⟩:=(show BV X.prog X.w H s.heap a (.dK kvs) from I.hok a _ ea)
  obtain⟨o,es,ep,h1,h2,_⟩:=p
  exact F5 PySem.W.kitx_dict I.kIn ⟨o,h1,h2.1⟩ e (fun z=>nomatch z) h
 |
  @dT a kvs ea=>
  cases (show u=Value.ref a from rx)
  obtain⟨_,_,xs,_,o,es,ep,h1,h2,_⟩:=(show BV X.prog X.w H s.heap a (.dT kvs) from I.hok a _ ea)
  exact F5 PySem.W.kitx_dict I.kIn ⟨o,h1,h2.1⟩ e (fun z=>nomatch z) h
 |
  @ins a C dx fs ea cl ha hn htk hm=>
  cases (show u=Value.ref a from rx)
  obtain⟨mA,O,_⟩:=Lb I.hok ea
  obtain⟨od,J,_⟩:=O.look
  exact F5 (PySem.W.kitx_own (cl.get _) cl.hd ha hn htk hm) I.kIn J e (fun z=>nomatch z) h
end
structure Ci (k:Nat)(A:Around):Prop where
 hd:A.handled=none
 dp:A.depth+3*k+5<recursionLimit
 un:A.units+16*k+200<cLine
 gd:A.guards=some []
theorem Ci.mono {j k:Nat}{A:Around}(r:Ci k A)(h:j<=k):Ci j A:=⟨r.hd,by have:=r.dp;omega,by have:=r.un;omega,r.gd⟩
theorem Ci.deeper {k:Nat}{A:Around}(r:Ci (k+1) A)(env:Env):Ci k (A.deeper env):=
 ⟨r.hd,by have:=r.dp;show A.depth+1+3*k+5<_;omega,by have:=r.un;show A.units+3+16*k+200<_;omega,r.gd⟩
theorem VL {A:Around}{C:Addr}{us:List Value}{kw:List (Str×Value)}:(A.under (.builtin "type.__call__" ⟨.ref C::us,kw⟩)).depth=A.depth+1:=by
 first|rfl|simp[Around.under,Code.weight,Code.isCreation,Code.isGuard,Code.isCaller,Code.frames,Code.isFrame,guardIds]
theorem SF {A:Around}{C:Addr}{us:List Value}{kw:List (Str×Value)}:(A.under (.builtin "type.__call__" ⟨.ref C::us,kw⟩)).units=A.units+1:=by
 first|rfl|simp[Around.under,Code.cUnits,Code.frames,Code.isFrame]
theorem Rh {A:Around}{C:Addr}{us:List Value}{kw:List (Str×Value)}:(A.under (.builtin "type.__call__" ⟨.ref C::us,kw⟩)).guards=A.guards:=by
 have:Code.guards (.builtin "type.__call__" ⟨.ref C::us,kw⟩)=[]:=by first|rfl|simp[Code.guards,Code.isGuard,guardIds]
 show pushGuards (Code.guards (.builtin "type.__call__" ⟨.ref C::us,kw⟩)) A.guards=A.guards
 rw[this]
 cases A.guards<;>rfl
theorem Ci.make {k:Nat}{A:Around}(r:Ci (k+1) A)(C:Addr)(us:List Value)(kw:List (Str×Value)):Ci k (A.under (.builtin "type.__call__" ⟨.ref C::us,kw⟩)):=
 ⟨r.hd,by have:=r.dp;rw[VL];omega,by have:=r.un;rw[SF];omega,by rw[Rh];exact r.gd⟩
theorem Ci.depth {k:Nat}{A:Around}(r:Ci k A):A.depth<recursionLimit:=by have:=r.dp;omega
def FB:TA:=fun _ H Q=>Q [] H
def Gg (ta:TE)(tr:TA):TA:=fun σ H Q=>ta σ H fun x H1=>tr σ H1 fun xs H2=>Q (x::xs) H2
section
variable {X:Cx}{e:Expr}{es:List Expr}{te:TE}{t:TA}{pos:Pos}
theorem A1:PA X [] FB:=fun _ _ _ _ H Q I h=>Calls.spliced_nil ⟨[],H,I,.nil,h⟩
theorem A0 (ha:PE X e te)(hr:PA X es t)(hs:starEach (e::es) X.env=(false,eval e X.env)::starEach es X.env:=by rfl):PA X (e::es) (Gg te t):=by
 intro pos pins s σ H Q I h
 rw[hs]
 show wpAny _ _ (spliced ((false,eval e X.env)::backTo pos (starEach es X.env))) _ _ s
 refine Calls.spliced_cons (Ao (ha pins s σ H _ I h) fun u s1 zz=>?_)
 obtain⟨x,H1,I1,r1,q1⟩:=zz
 refine Ao (hr pos pins s1 σ H1 _ I1 q1) fun us s2 zz=>?_
 obtain⟨xs,H2,I2,r2,q2⟩:=zz
 exact⟨x::xs,H2,I2,.cons r1 r2,q2⟩
def Pn (t:TA):TE:=fun σ H Q=>t σ H fun xs H1=>xs.length<=sizeLine/\∀p,H1 p=none->Q (.ref p) (upd H1 p (.tup xs))
def Mz (t:TA):TE:=fun σ H Q=>t σ H fun xs H1=>xs.length<=sizeLine/\∀p,H1 p=none->Q (.ref p) (upd H1 p (.lst xs))
theorem CQ {x1}(h:PA X es t):PE X (.Tuple es x1 pos) (Pn t):=by
 intro pins s σ H Q I hq
 refine wpAny_Tuple_spliced (Ao (h pos pins s σ H _ I hq) fun us s1 zz=>?_)
 obtain⟨xs,H1,I1,r,z,q⟩:=zz
 refine⟨by rw[←r.length];exact z,?_⟩
 have hf:H1 s1.heap.objs.size=none:=I1.hok.fresh (Aj _)
 refine⟨.ref s1.heap.objs.size,upd H1 s1.heap.objs.size (.tup xs),I1.laid (t':=s1.toks) (fun b u e=>BR _ e) (Aj _) ?_,rfl,q _ hf⟩
 exact⟨z,us,r,⟨_,Dl _ rfl,rfl,⟨_,rfl⟩,rfl⟩⟩
theorem Bj (h:PA X es t):PE X (.List es pos) (Mz t):=by
 intro pins s σ H Q I hq
 refine wpAny_List_spliced (Ao (h pos pins s σ H _ I hq) fun us s1 zz=>?_)
 obtain⟨xs,H1,I1,r,z,q⟩:=zz
 refine⟨by rw[←r.length];exact z,?_⟩
 have hf:H1 s1.heap.objs.size=none:=I1.hok.fresh (Aj _)
 refine⟨.ref s1.heap.objs.size,upd H1 s1.heap.objs.size (.lst xs),I1.laid (t':=s1.toks) (fun b u e=>BR _ e) (Aj _) ?_,rfl,q _ hf⟩
 exact⟨z,us,0,r,Dl _ rfl⟩
end
abbrev Sp:=List V->Hp->VK->XK->Prop
abbrev E1:=List Env->Hp->Shared->XK->Value->Shared->Prop
structure G8 (P:Program)(w:World)(K:Ya)(mg:Str->Option Value)(base:Heap)(A:Around)(outer:List Env)(s:Shared)(H:Hp):Prop where
 frames:A.frames=some outer
 mod:Mod K mg base
 bs:∀b o,base.get? b=some o->s.heap.get? b=some o/\H b=none
 bsz:base.objs.size<=s.heap.objs.size
 funs:s.heap.FunFrames base outer
 frf:∀b∈E8 outer,H b=none
 hok:BF P w H s.heap
 bare:AllBare s.gens
def CE (outer:List Env)(P:Program)(w:World)(H:Hp)(s:Shared)(Q:VK)(u:Value)(s':Shared):Prop:=
 ∃v H',s'.os=s.os/\AllBare s'.gens/\Un (E8 outer) [] H H' s.heap s'.heap/\BF P w H' s'.heap/\AM v u/\Q v H'
def CR (CX:E1)(outer:List Env)(P:Program)(w:World)(H:Hp)(s:Shared)(Q:VK)(E:XK)(r:Result)(s':Shared):Prop:=
 match r with
 |.ok (.ret u)=>CE outer P w H s Q u s'
 |.ok _=>False
 |.error e=>CX outer H s E e s'
structure AI (P:Program)(w:World)(K:Ya)(mg:Str->Option Value)(base:Heap)(CX:E1)(k:Nat)(f:Addr)(fd:FuncData)(ps:List Str)(sp:Sp):Prop where
 len:∀vs H Q E,sp vs H Q E->vs.length=ps.length
 run:∀(A:Around) (outer:List Env) (s:Shared) (H:Hp) (args:Args) (us:List Value) (vs:List V) (Q:VK) (E:XK),Ci k A->G8 P w K mg base A outer s H->BindsTo s fd args (ps.zip us)->AD vs us->sp vs H Q E->
  codeAny (model P w) A (.call (.ref f) args) (CR CX outer P w H s Q E) s
theorem G8.make {P:Program}{w:World}{K:Ya}{mg:Str->Option Value}{base:Heap}{A:Around}{outer:List Env}{s:Shared}{H:Hp}(e:G8 P w K mg base A outer s H)(C:Addr)(us:List Value)(kw:List (Str×Value)) :
 G8 P w K mg base (A.under (.builtin "type.__call__" ⟨.ref C::us,kw⟩)) outer s H:=⟨by first|exact e.frames|(simpa[Around.under,Code.envs,Code.isFrame,pushEnvs] using e.frames),e.mod,e.bs,e.bsz,e.funs,e.frf,e.hok,e.bare⟩
section
variable {X:Cx}{pins:List (Addr×Obj)}{σ:St}{H:Hp}{s s':Shared}
theorem A5.env0 (I:A5 X pins σ H s):G8 X.prog X.w X.K X.mg X.base X.A X.stack s H:=
 ⟨I.ok.frames,I.ok.mod,I.bs,BI I.ok.bsz I.sz,I.stack,I.stkFree,I.hok,I.bare⟩
theorem A5.after {Q:VK}{u:Value}(I:A5 X pins σ H s)(h:CE X.stack X.prog X.w H s Q u s'):EP X pins σ Q u s':=by
 obtain⟨v,H',os,bare,un,hok,r,q⟩:=h
 obtain⟨hh,g,d,t,os'⟩:=s'
 obtain rfl:os'=s.os:=os
 exact⟨v,H',I.call (h':=hh) (g':=g) (d':=d) (t':=t) (ch:=[]) un hok bare (fun b z=>absurd z (by simp)),r,q⟩
end
def O2 (sp:Sp)(dvs:List V)(E:XK)(t:TA):TE:=fun σ H Q=>t σ H fun vs H1=>sp (vs++dvs) H1 Q E
def Qb (C:Addr)(sp:Sp)(dvs:List V)(E:XK)(t:TA):TE:=fun σ H Q=>t σ H fun vs H1=>∀x dx,H1 x=none->H1 dx=none->dx≠x->
 sp (.ref x::(vs++dvs)) (upd (upd H1 dx (.own x)) x (.ins C dx [])) (fun v H2=>v = .non/\Q (.ref x) H2) E
def AL (K:Ya)(fd:FuncData)(ps:List Str)(ds:List Value):Prop:=
 ∀(s:Shared) (us:List Value),K.In s.heap->(us++ds).length=ps.length->BindsTo s fd ⟨us,[]⟩ (ps.zip (us++ds))
theorem AL.all {K:Ya}{fd:FuncData}{ps:List Str}(h:∀us:List Value,us.length=ps.length->bindArgs fd ⟨us,[]⟩=pure (ps.zip us)):AL K fd ps []:=fun s us _ hl=>by
 rw[Cq]at hl ⊢
 exact .of_eq (h us hl)
def Gv (CX:E1)(X:Cx)(E:XK):Prop := ∀(pins:List (Addr×Obj)) (σ:St) (H:Hp) (s:Shared) (e:Value) (s':Shared),A5 X pins σ H s->CX X.stack H s E e s'->X.xe e s'
section
variable {X:Cx}{CX:E1}{k:Nat}{f C:Addr}{fd:FuncData}{ps:List Str}{sp:Sp}{dvs:List V}{ds:List Value}{E:XK}{x m:Str}{p pos apos:Pos}{e o:Expr}{es:List Expr}{ta:TE}{t:TA}
theorem PF {pins:List (Addr×Obj)}{σ:St}{H:Hp}{s:Shared}{Q:VK}{us:List Value}{vs:List V}(F:AI X.prog X.w X.K X.mg X.base CX k f fd ps sp)(hr:Ci k X.A)(hb:AL X.K fd ps ds)(hd:AD dvs ds)(hx:Gv CX X E)
  (I:A5 X pins σ H s) (r:AD vs us) (h:sp (vs++dvs) H Q E):wpAny (model X.prog X.w) X.A (call (.ref f) us) (EP X pins σ Q) X.xe s:=by
 have r2:AD (vs++dvs) (us++ds):=r.append hd
 have hl:(us++ds).length=ps.length:=by rw[←r2.length];exact F.len _ _ _ _ h
 refine wpAny_call (IZ (F.run X.A X.stack s H ⟨us,[]⟩ (us++ds) (vs++dvs) Q E hr I.env0 (hb s us I.kIn hl) r2 h) fun r s' hq=>?_)
 cases r with
 |error e=>exact hx pins σ H s e s' I hq
 |
  ok fl=>
  cases fl with
  |ret u=>exact I.after hq
  |next=>exact False.elim hq
  |brk=>exact False.elim hq
  |cont=>exact False.elim hq
theorem As (F:AI X.prog X.w X.K X.mg X.base CX k f fd ps sp)(hr:Ci k X.A)(hg:Gl X x)(hm:X.mg x=some (.ref f))(hk:PySem.W.keepIn X.K (.ref f)=true)(hb:AL X.K fd ps ds)(hd:AD dvs ds)(hx:Gv CX X E)
  (ha:PA X (e::es) t) (hdb:(x==("__debug__":Str))=false:=by decide) (he:starEach (e::es) X.env=(false,eval e X.env)::starEach es X.env:=by rfl) (hpl:(backTo pos (starEach es X.env)).any (·.1)=false:=by rfl) :
  PE X (.Call (.Name x p) (e::es) [] pos) (O2 sp dvs E t):=by
 intro pins s σ H Q I h
 refine GE (Iv I hg hm ?_ hdb)
 refine Ql (h₀:=X.base) I.ok.mod.kin hk (Ao (ha pos pins s σ H _ I h) fun us s1 zz=>?_) he hpl
 obtain⟨vs,H1,I1,r,q⟩:=zz
 refine⟨I1.kIn,?_⟩
 exact PF F hr hb hd hx I1 r q
structure Mk (K:Ya)(C f:Addr):Prop where
 makes:PySem.W.makesIn K C=true
 init:PySem.W.findIn K (.ref C) "__init__"=some (some (.ref f))
 fn:PySem.W.isFn K (.ref f)=true
 kp:PySem.W.keepIn K (.ref C)=true
theorem PR {pins:List (Addr×Obj)}{σ:St}{H:Hp}{s:Shared}{Q:VK}{us:List Value}{vs:List V}(M:Mk X.K C f)(F:AI X.prog X.w X.K X.mg X.base CX k f fd ps sp)(hr:Ci (k+1) X.A)(hb:AL X.K fd ps ds)(hd:AD dvs ds)
  (hx:Gv CX X E) (I:A5 X pins σ H s) (r:AD vs us)
  (h:∀x dx,H x=none->H dx=none->dx≠x->sp (.ref x::(vs++dvs)) (upd (upd H dx (.own x)) x (.ins C dx [])) (fun v H2=>v = .non/\Q (.ref x) H2) E) :
  wpAny (model X.prog X.w) X.A (call (.ref C) us) (EP X pins σ Q) X.xe s:=by
 have hq:=h (s.heap.objs.size+1) s.heap.objs.size (I.hok.fresh (Hu _)) (I.hok.fresh (Aj _)) (Co (IK _))
 have I2:=A5.made (C:=C) I
 have r2:AD (V.ref (s.heap.objs.size+1)::(vs++dvs)) (Value.ref (s.heap.objs.size+1)::(us++ds)):=.cons rfl (r.append hd)
 have hl:(Value.ref (s.heap.objs.size+1)::us++ds).length=ps.length:=by
  have e:=r2.length
  rw[F.len _ _ _ _ hq]at e
  exact e.symm
 refine wpAny_call (Uo (f:=f) I.kIn M.makes M.init (E9.mp M.fn) (IZ (F.run _ X.stack _ _ ⟨Value.ref (s.heap.objs.size+1)::us,[]⟩ (Value.ref (s.heap.objs.size+1)::(us++ds)) _ _ E (hr.make C us [])
  (I2.env0.make C us []) (hb _ (Value.ref (s.heap.objs.size+1)::us) I2.kIn hl) r2 hq) fun r s' hq'=>?_))
 cases r with
 |error e=>exact hx pins σ _ _ e s' I2 hq'
 |
  ok fl=>
  cases fl with
  |
   ret u=>
   obtain⟨v,H',I3,rv,ev,q3⟩:=I2.after hq'
   subst ev
   exact⟨rv,⟨V.ref (s.heap.objs.size+1),H',I3,rfl,q3⟩⟩
  |next=>exact False.elim hq'
  |brk=>exact False.elim hq'
  |cont=>exact False.elim hq'
theorem Hd (M:Mk X.K C f)(F:AI X.prog X.w X.K X.mg X.base CX k f fd ps sp)(hr:Ci (k+1) X.A)(hg:Gl X x)(hm:X.mg x=some (.ref C))(hb:AL X.K fd ps ds)(hd:AD dvs ds)(hx:Gv CX X E)
  (ha:PA X (e::es) t) (hdb:(x==("__debug__":Str))=false:=by decide) (he:starEach (e::es) X.env=(false,eval e X.env)::starEach es X.env:=by rfl) (hpl:(backTo pos (starEach es X.env)).any (·.1)=false:=by rfl) :
  PE X (.Call (.Name x p) (e::es) [] pos) (Qb C sp dvs E t):=by
 intro pins s σ H Q I h
 refine GE (Iv I hg hm ?_ hdb)
 refine Ql (h₀:=X.base) I.ok.mod.kin M.kp (Ao (ha pos pins s σ H _ I h) fun us s1 zz=>?_) he hpl
 obtain⟨vs,H1,I1,r,q⟩:=zz
 refine⟨I1.kIn,?_⟩
 exact PR M F hr hb hd hx I1 r q
theorem Tr (M:Mk X.K C f)(F:AI X.prog X.w X.K X.mg X.base CX k f fd ps sp)(hr:Ci (k+1) X.A)(hg:Gl X x)(hm:X.mg x=some (.ref C))(hb:AL X.K fd ps ds)(hd:AD dvs ds)(hx:Gv CX X E)
  (hdb:(x==("__debug__":Str))=false:=by decide):PE X (.Call (.Name x p) [] [] pos) (Qb C sp dvs E FB):=by
 intro pins s σ H Q I h
 refine GE (Iv I hg hm ?_ hdb)
 exact PySem.W.callWith_K0 I.kIn M.kp (PR (us:=[]) M F hr hb hd hx I .nil h)
end
section
variable {X:Cx}{CX:E1}{k:Nat}{f C:Addr}{fd:FuncData}{ps ks:List Str}{sp:Sp}{E:XK}{x m:Str}{p pos apos kpos:Pos}{e o:Expr}{es:List Expr}{kws:List Keyword}{te ta:TE}{t tk:TA}{nm:Option Str}
variable {g:List Value->List Value->List Value}{gV:List V->List V->List V}
end
structure AR (N P:List Str)(sc:Scope):Prop where
 kind:sc.kind = .function
 co:sc.isCoroutine=false
 gen:sc.isGenerator=false
 nd:N.Nodup
 pre:N.take P.length=P
 par:∀x∈P,sc.names.lookup x=some .local\/sc.names.lookup x=some .cell
 nofree:∀y∈sc.names,y.2≠.free
theorem Qh {kindOf:Str->Option NameKind}{x:Str}:∀{binds:List (Str×Value)} {m:Str->Option Value},(∀v,(x,v)∉binds)->bindL kindOf binds m x=m x
 |[],_,_=>rfl
 |
  (n,v)::r,m,h=>by
  unfold bindL
  rw[Qh fun w hw=>h w (B8 _ hw)]
  split
  .have:x≠n:=by rintro rfl;exact h v AA
   simp[this]
  .rfl
theorem Ot {kindOf:Str->Option NameKind}{x:Str}:∀{binds:List (Str×Value)} {m:Str->Option Value},(∀v,(x,v)∉binds)->bindC kindOf binds m x=m x
 |[],_,_=>rfl
 |
  (n,v)::r,m,h=>by
  unfold bindC
  rw[Ot fun w hw=>h w (B8 _ hw)]
  split
  .rfl
  .have:x≠n:=by rintro rfl;exact h v AA
   simp[this]
theorem Nn {kindOf:Str->Option NameKind}{x:Str}{v:Value}:∀{P:List Str} {vs:List Value} {i:Nat} {m:Str->Option Value},P.Nodup->P[i]?=some x->vs[i]?=some v->kindOf x=some .local->
  bindL kindOf (P.zip vs) m x=some v
 |[],_,_,_,_,h,_,_=>by simp at h
 |_::_,[],_,_,_,_,h,_=>by simp at h
 |
  p::P,w::vs,0,m,nd,h1,h2,hk=>by
  simp at h1 h2;subst h1;subst h2
  show bindL kindOf ((p,w)::P.zip vs) m p=_
  unfold bindL
  rw[Qh fun v hv=>(GB.mp nd).1 (Qm hv).1,Af hk]
  simp
 |
  p::P,w::vs,i+1,m,nd,h1,h2,hk=>by
  show bindL kindOf ((p,w)::P.zip vs) m x=_
  unfold bindL
  exact Nn (i:=i) (GB.mp nd).2 (by simpa using h1) (by simpa using h2) hk
theorem Qd {kindOf:Str->Option NameKind}{x:Str}{v:Value}:∀{P:List Str} {vs:List Value} {i:Nat} {m:Str->Option Value},P.Nodup->P[i]?=some x->vs[i]?=some v->kindOf x≠some .local->
  bindC kindOf (P.zip vs) m x=some v
 |[],_,_,_,_,h,_,_=>by simp at h
 |_::_,[],_,_,_,_,h,_=>by simp at h
 |
  p::P,w::vs,0,m,nd,h1,h2,hk=>by
  simp at h1 h2;subst h1;subst h2
  show bindC kindOf ((p,w)::P.zip vs) m p=_
  unfold bindC
  rw[Ot fun v hv=>(GB.mp nd).1 (Qm hv).1,Ab hk]
  simp
 |
  p::P,w::vs,i+1,m,nd,h1,h2,hk=>by
  show bindC kindOf ((p,w)::P.zip vs) m x=_
  unfold bindC
  exact Qd (i:=i) (GB.mp nd).2 (by simpa using h1) (by simpa using h2) hk
def start (N:List Str)(vs:List V):St:=vs.map some++List.replicate (N.length-vs.length) none
def Hn (CX:E1)(P:Program)(w:World)(K:Ya)(mg:Str->Option Value)(base:Heap)(N:List Str)(qual:Str)(scope:Scope)(f:Addr)(cd:Value)(A:Around)(outer:List Env)(s:Shared)(H:Hp)(E:XK):Cx where
 prog:=P
 w:=w
 K:=K
 mg:=mg
 base:=base
 A:=A.deeper (envOfC qual scope s.heap.objs.size f cd)
 N:=N
 s₀:=s
 H₀:=H
 env:=envOfC qual scope s.heap.objs.size f cd
 outer:=outer
 stack:=envOfC qual scope s.heap.objs.size f cd::outer
 ex:=[]
 calm:=true
 fn:=fun _=>true
 pn:=[]
 xe:=fun e s'=>wpAny (model P w) (A.deeper (envOfC qual scope s.heap.objs.size f cd)) (leaving (envOfC qual scope s.heap.objs.size f cd) e) (fun _ s''=>CX outer H s E e s'') (fun e' s''=>CX outer H s E e' s'') s'
theorem Q7 {sc:Scope}{n:Nat}{x:Str}(h:sc.names.lookup x=some .cell):∃c,(cellsFrom n sc.names []).lookup x=some c:=by
 have q:=PySem.W.cellsFrom_some sc.names n [] (.inl h)
 exact Option.isSome_iff_exists.mp q
theorem UJ {CX:E1}{P:Program}{w:World}{K:Ya}{mg:Str->Option Value}{base:Heap}{N ps:List Str}{qual:Str}{scope:Scope}{f:Addr}{cd:Value}{A:Around}{outer:List Env}{s s1:Shared}{H:Hp}{E:XK}{us:List Value}{vs:List V}
  (S:AR N ps scope) (hd:A.handled=none) (e0:G8 P w K mg base A outer s H) (hl:vs.length=ps.length) (r:AD vs us)
  (x:InCallC s s.heap.objs.size (bindL (envOfC qual scope s.heap.objs.size f cd).kindOf (ps.zip us) fun _=>none) (cellsFrom (s.heap.objs.size+1) scope.names []) (bindC (envOfC qual scope s.heap.objs.size f cd).kindOf (ps.zip us) fun _=>none) s1) :
  A5 (Hn CX P w K mg base N qual scope f cd A outer s H E) [] (start N vs) H s1:=by
 have hpl:ps.length<=N.length:=by have:=congrArg List.length S.pre;rw[Bt]at this;omega
 obtain⟨h1,tk,rfl,hk⟩:=x.done
 have noA:∀b:Addr,b∉(Hn CX P w K mg base N qual scope f cd A outer s H E).ex:=fun b z=>absurd (show b∈([]:List Addr) from z) (by simp)
 refine⟨⟨e0.mod,S.kind,rfl,rfl,Aj _,fun y z c h1 h2=>?_,fun y hy=>?_,fun y c _ h=>?_,fun _=>hd,Around.frames_deeper e0.frames,.inr ⟨rfl,rfl⟩,fun b z=>absurd z (noA b),e0.bs,e0.bsz,fun b _ _=>noA b,fun b z=>absurd z (noA b),e0.funs,e0.frf⟩,
  rfl,e0.bare,Un.kept hk,⟨_,x.toInCall.ns,fun i y v h1 h2 h3=>?_⟩,fun y c h=>⟨_,x.cell y c h⟩,e0.hok.fresh (Aj _),fun y c h=>?_,fun p hp=>absurd (show p∈([]:List (Addr×Obj)) from hp) (by simp),e0.hok.kept hk,?_⟩
 .exact name_of_addr x.apart (KO h1) (KO h2)
 .have hy:scope.names.lookup y=some .cell\/scope.names.lookup y=some .free:=hy
  rcases hy with hy|hy
  .exact Q7 hy
  .exact absurd rfl (S.nofree _ (KO hy))
 .exact GA (x.above y c (KO h))
 .have hi:i<vs.length:=by
   unfold start at h2
   by_cases hi:i<vs.length
   .exact hi
   .rw[CJ (by simpa using hi)]at h2
    rw[List.getElem?_replicate]at h2
    split at h2<;>cases h2
  have ha:vs[i]?=some v:=by
   unfold start at h2
   rw[DM (by simpa using hi),Dm]at h2
   cases e:vs[i]? with
   |none=>rw[e]at h2;cases h2
   |some a=>rw[e]at h2;cases h2;rfl
  obtain⟨u,hu,rv⟩:=r.get ha
  have hp:ps[i]?=some y:=by
   rw[←S.pre,List.getElem?_take_of_lt (by omega)];exact h1
  have ndP:ps.Nodup:=by rw[←S.pre];exact S.nd.sublist (List.take_sublist _ _)
  refine⟨u,rv,?_⟩
  rcases S.par y (C8 hp) with k|k
  .exact .inl ⟨k,Nn ndP hp hu k⟩
  .obtain⟨c,e⟩:=Q7 (n:=s.heap.objs.size+1) k
   refine .inr ⟨.inl k,c,e,?_⟩
   have q:=x.cell y c e
   rw[Qd ndP hp hu (by show scope.names.lookup y≠_;rw[k];decide)]at q
   exact q
 .exact e0.hok.fresh (GA (x.above y c (KO h)))
 .unfold start
  show _=N.length
  rw[Ah,An,KP]
  omega
theorem X5 {CX:E1}{P:Program}{w:World}{K:Ya}{mg:Str->Option Value}{base:Heap}{k:Nat}{f:Addr}{name qual:Str}{params:Arguments}{body:List Stmt}{scope:Scope}{dV kV doc pm cdv ct oc:Value}{an od:Option Addr}
  {osl:Array (Option Value)} {N ps:List Str} {sp:Sp} (lk:K.lookup f=some ⟨oc,od,.func (PySem.W.fnOf name qual params body scope dV kV doc pm an cdv ct),osl⟩) (hcd:PySem.W.codeIn K cdv qual=true) (S:AR N ps scope)
  (len:∀vs H Q E,sp vs H Q E->vs.length=ps.length)
  (hbody:∀(A:Around) (outer:List Env) (s:Shared) (H:Hp) (vs:List V) (Q:VK) (E:XK),Ci k (A.deeper (envOfC qual scope s.heap.objs.size f cdv))->sp vs H Q E->
   ∃t,DL (Hn CX P w K mg base N qual scope f cdv A outer s H E) body t/\t {nx:=fun _ H'=>Q .non H',rt:=Q} (start N vs) H) :
  AI P w K mg base CX (k+1) f (PySem.W.fnOf name qual params body scope dV kV doc pm an cdv ct) ps sp:=by
 refine⟨len,fun A outer s H args us vs Q E hr e0 hb r hsp=>?_⟩
 have hl:=len _ _ _ _ hsp
 have KX:K.In s.heap:=e0.mod.kin.keeps fun b o e=>(e0.bs b o e).1
 have lim:s.heap.NoLimit:=e0.mod.nolimit.keeps fun b o e=>(e0.bs b o e).1
 have hkind:∀y∈ps.zip us,scope.names.lookup y.1=some .local\/(scope.names.lookup y.1=some .cell/\((cellsFrom (s.heap.objs.size+1) scope.names []).lookup y.1).isSome=true):=fun⟨n,v⟩ hy=>by
  rcases S.par n (Qm hy).1 with q|q
  .exact .inl q
  .exact .inr ⟨q,PySem.W.cellsFrom_some _ _ _ (.inl q)⟩
 refine codeAny_call_function hr.depth (KX _ _ lk) rfl S.co S.gen rfl (PySem.W.codeRec_of KX hcd) (hb _ _ _ _ ?_)
 refine wpAny_newFunctionEnv_cells S.kind hkind fun env he s1 x=>?_
 subst he
 refine⟨lim.keeps x.toInCall.keep,codeAny_func ?_⟩
 obtain⟨t,ht,hq⟩:=hbody A outer s H vs Q E (hr.deeper _) hsp
 have I:A5 (Hn CX P w K mg base N qual scope f cdv A outer s H E) [] (start N vs) H s1:=UJ S hr.hd e0 hl r x
 refine DW (ht [] s1 (start N vs) H _ I hq) (fun fl s' hs=>?_) fun e s' hs=>hs
 have fin:∀{σ':St} {H':Hp} {v:V} {u:Value},A5 (Hn CX P w K mg base N qual scope f cdv A outer s H E) [] σ' H' s'->AM v u->Q v H'->CE outer P w H s Q u s':=
  fun{σ' H' v u} J rv q=>⟨v,H',J.os,J.bare,J.base,J.hok,rv,q⟩
 cases fl with
 |
  ret u=>
  obtain⟨v,σ',H',J,rv,q⟩:=hs
  exact fin J rv q
 |
  next=>
  obtain⟨σ',H',J,q⟩:=hs
  exact fin (v:=V.non) (u:=Value.none) J rfl q
 |
  brk=>
  obtain⟨_,_,_,q⟩:=hs
  exact False.elim q
 |
  cont=>
  obtain⟨_,_,_,q⟩:=hs
  exact False.elim q
section
variable {X:Cx}{x:Str}{p pos:Pos}{e:Expr}{es:List Expr}{t:TA}{id T:String}{r:List V->Hp->VK->Prop}
def Ju (r:List V->Hp->VK->Prop)(t:TA):TE:=fun σ H Q=>t σ H fun vs H1=>r vs H1 Q
theorem Bb (hc:Eb X (.builtin id) r)(hg:Gl X x)(hm:X.mg x=none)(hv:bootBuiltins x=some (.builtin id))(ha:PA X (e::es) t)(hn:x≠"__name__":=by decide)(hdb:(x==("__debug__":Str))=false:=by decide)
  (he:starEach (e::es) X.env=(false,eval e X.env)::starEach es X.env:=by rfl) (hpl:(backTo pos (starEach es X.env)).any (·.1)=false:=by rfl):PE X (.Call (.Name x p) (e::es) [] pos) (Ju r t):=by
 intro pins s σ H Q I h
 refine GE (GQ I hg hm hv ?_ hn hdb)
 refine PyProof.Rows.callWith_builtin1 (Ao (ha pos pins s σ H _ I h) fun us s1 zz=>?_) he hpl
 obtain⟨vs,H1,I1,r1,q1⟩:=zz
 exact hc pins s1 σ H1 vs us Q I1 r1 q1
theorem D7 (hc:Eb X (.type T) r)(hg:Gl X x)(hm:X.mg x=none)(hv:bootBuiltins x=some (.type T))(ha:PA X (e::es) t)(hn:x≠"__name__":=by decide)(hdb:(x==("__debug__":Str))=false:=by decide)
  (he:starEach (e::es) X.env=(false,eval e X.env)::starEach es X.env:=by rfl) (hpl:(backTo pos (starEach es X.env)).any (·.1)=false:=by rfl):PE X (.Call (.Name x p) (e::es) [] pos) (Ju r t):=by
 intro pins s σ H Q I h
 refine GE (GQ I hg hm hv ?_ hn hdb)
 refine MP (Ao (ha pos pins s σ H _ I h) fun us s1 zz=>?_) he hpl
 obtain⟨vs,H1,I1,r1,q1⟩:=zz
 exact hc pins s1 σ H1 vs us Q I1 r1 q1
end
end L2
namespace HT
open PySem PyProof.Rows
section
open PySem.SeqAt
open PySem.AutoSeq1 (wpAny_loadPart')
open PySem.MeetsSeq PySem.MeetsSeq2 PySem.MeetsSeq3
end
section
variable {prog:Program}{w:World}{A:Around}{E:Value->Shared->Prop}{s:Shared}
def sIx (n d:Nat):Option Int->Nat
 |none=>d
 |some v=>if v<0 then(v+(n:Int)).toNat else min v.toNat n
theorem sIx_none (n d:Nat):sIx n d none=d:=rfl
theorem sIx_nat (n d k:Nat):sIx n d (some (k:Int))=min k n:=by
 show(if(k:Int)<0 then((k:Int)+(n:Int)).toNat else min (k:Int).toNat n)=min k n
 rw[Ab (by omega),FW]
theorem sIx_le (n d:Nat)(hd:d<=n)(o:Option Int):sIx n d o<=n:=by
 cases o with
 |none=>exact hd
 |
  some v=>
  show(if v<0 then(v+(n:Int)).toNat else min v.toNat n)<=n
  by_cases hv:v<0
  .rw[Af hv];omega
  .rw[Ab hv];exact Nat.min_le_right _ _
end
end HT
namespace L2
open PySem PySem.Spec PyProof.Rows
abbrev TO:=St->Hp->(Option Int->Hp->Prop)->Prop
def PO (X:Cx)(e:Option Expr)(t:TO):Prop:=
 ∀(pins:List (Addr×Obj)) (s:Shared) (σ:St) (H:Hp) (Q:Option Int->Hp->Prop),A5 X pins σ H s->t σ H Q->
  wpAny (model X.prog X.w) X.A (evalPart e X.env) (fun u s'=>∃o H',A5 X pins σ H' s'/\IsPart u o/\Q o H') X.xe s
def Uy:TO:=fun _ H Q=>Q none H
def Su (t:TE):TO:=fun σ H Q=>t σ H fun x H1=>∃i,x = .int i/\Q (some i) H1
section
variable {X:Cx}{e:Expr}{te:TE}{lo hi:Option Expr}{tl th:TO}{pos p2:Pos}
theorem E7:PO X none Uy:=by
 intro pins s σ H Q I h
 rw[evalPart_none]
 exact Ca ⟨none,H,I,.none,h⟩
theorem Cz (h:PE X e te):PO X (some e) (Su te):=by
 intro pins s σ H Q I hw
 rw[evalPart_some]
 refine Ao (h pins s σ H _ I hw) fun u s1 zz=>?_
 obtain⟨x,H1,I1,r1,q1⟩:=zz
 obtain⟨i,rfl,q⟩:=q1
 obtain⟨t,rfl⟩:=r1
 exact⟨some i,H1,I1,.int i t,q⟩
def LJ (X:Cx)(r:V->Option Int->Option Int->Hp->VK->Prop):Prop:=
 ∀(pins:List (Addr×Obj)) (s:Shared) (σ:St) (H:Hp) (x:V) (v vl vu:Value) (lo hi:Option Int) (sl:Addr) (Q:VK),A5 X pins σ H s->AM x v->s.heap.IsSliceOf sl vl vu .none->IsPart vl lo->IsPart vu hi->r x lo hi H Q->
  ∃T id,typeLookup (.type T) "__getitem__"=pure (some (.builtin id))/\s.TypeIs v T/\wpAny (model X.prog X.w) X.A (getItem v (.ref sl)) (EP X pins σ Q) X.xe s
def Sj (r:V->Option Int->Option Int->Hp->VK->Prop)(te:TE)(tl th:TO):TE:=fun σ H Q=>te σ H fun x H1=>tl σ H1 fun l H2=>th σ H2 fun u H3=>r x l u H3 Q
theorem Di {r:V->Option Int->Option Int->Hp->VK->Prop}(hr:LJ X r)(he:PE X e te)(hl:PO X lo tl)(hu:PO X hi th):PE X (.Subscript e (.Slice lo hi none p2) pos) (Sj r te tl th):=by
 intro pins s σ H Q I h
 refine Subscript_ (Ao (he pins s σ H _ I h) fun v s1 zz=>?_)
 obtain⟨x,H1,I1,r1,q1⟩:=zz
 refine wpAny_Slice (Ao (hl pins s1 σ H1 _ I1 q1) fun vl s2 zz=>?_)
 obtain⟨l,H2,I2,pl,q2⟩:=zz
 refine Ao (hu pins s2 σ H2 _ I2 q2) fun vu s3 zz=>?_
 obtain⟨u,H3,I3,pu,q3⟩:=zz
 rw[evalPart_none]
 refine Ca ?_
 have I4:A5 X pins σ H3 {s3 with heap:=s3.heap.push {cls:=.type "slice",data:=.fields #[vl,vu,.none]}}:=I3.kept (t':=s3.toks) fun b ob q=>BR _ q
 obtain⟨T,id,hT,ht,hg⟩:=hr pins {s3 with heap:=s3.heap.push {cls:=.type "slice",data:=.fields #[vl,vu,.none]}} σ H3 x v vl vu l u s3.heap.objs.size Q I4 r1 (Heap.IsSliceOf.new ..) pl pu q3
 show wpAny (model X.prog X.w) X.A (subscriptTail e (.Slice lo hi none p2) v (.ref s3.heap.objs.size)) (EP X pins σ Q) X.xe {s3 with heap:=s3.heap.push {cls:=.type "slice",data:=.fields #[vl,vu,.none]}}
 exact tail_any (ops:=[.ref s3.heap.objs.size,v]) ht hT hg (by with_unfolding_all rfl)
def De (xs:List V)(lo hi:Option Int):List V:=(xs.drop (HT.sIx xs.length 0 lo)).take (HT.sIx xs.length xs.length hi-HT.sIx xs.length 0 lo)
theorem R6 (xs:List V)(lo hi:Option Int):(De xs lo hi).length<=xs.length:=by
 unfold De
 rw[Bt,C5]
 omega
end
def E3 (n:Nat)(i:Int):Option Nat:=if 0<=i then(if i<n then some i.toNat else none) else if -(n:Int)<=i then some (i+n).toNat else none
def Bu {α:Type}(xs:List α)(i:Int):Option α:=(E3 xs.length i).bind fun j=>xs[j]?
theorem PD {n:Nat}{i:Int}{j:Nat}(h:E3 n i=some j):seqIndex? i n=some j/\j<n/\-(n:Int)<=i/\i<n:=by
 unfold E3 at h
 by_cases h0:0<=i
 .rw[Af h0]at h
  by_cases h1:i<n
  .rw[Af h1]at h
   have e:i.toNat=j:=BX h
   exact⟨by rw[seqIndex_of h0 h1,e],by omega,by omega,h1⟩
  .rw[Ab h1]at h;cases h
 .rw[Ab h0]at h
  by_cases h1 : -(n:Int)<=i
  .rw[Af h1]at h
   have e:(i+n).toNat=j:=BX h
   exact⟨by rw[Nl (by omega) h1,e],by omega,h1,by omega⟩
  .rw[Ab h1]at h;cases h
theorem JV {α:Type}{xs:List α}{i:Int}{v:α}(h:Bu xs i=some v):∃j,seqIndex? i xs.length=some j/\xs[j]?=some v/\j<xs.length/\-(xs.length:Int)<=i/\i<xs.length:=by
 unfold Bu at h
 cases e:E3 xs.length i with
 |none=>rw[e]at h;cases h
 |
  some j=>
  rw[e]at h
  obtain⟨h1,h2,h3,h4⟩:=PD e
  exact⟨j,h1,h,h2,h3,h4⟩
theorem D6 {α:Type}{xs:List α}{j:Nat}{v:α}(h:xs[j]?=some v):Bu xs (j:Int)=some v:=by
 have hj:j<xs.length:=(BE.mp h).1
 have e:E3 xs.length (j:Int)=some j:=by
  unfold E3
  rw[Af (by omega),Af (by omega)];simp
 unfold Bu;rw[e];exact h
theorem La {α:Type}(xs:List α)(v:α):Bu (xs++[v]) (-1)=some v:=by
 have hl:(xs++[v]).length=xs.length+1:=by simp
 have e:E3 (xs++[v]).length (-1)=some xs.length:=by
  unfold E3
  rw[hl,Ab (by decide),Af (by omega)]
  congr 1
  omega
 unfold Bu
 rw[e]
 show(xs++[v])[xs.length]?=some v
 simp
def SD (b:Expr):Prop := ∀o i,subscripted b false o i=operate [o,i] (getItem o i)
def EM (X:Cx)(r:R2):Prop:=
 ∀(value slice:Expr) (pins:List (Addr×Obj)) (s:Shared) (σ:St) (H:Hp) (x y:V) (v u:Value) (Q:VK),A5 X pins σ H s->AM x v->AM y u->r x y H Q->
  subscripted slice false v u=operate [v,u] (getItem v u)->wpAny (model X.prog X.w) X.A (subscriptTail value slice v u) (EP X pins σ Q) X.xe s
def G6 (X:Cx)(id:String)(r:V->List V->Hp->VK->Prop):Prop:=
 ∀(pins:List (Addr×Obj)) (s:Shared) (σ:St) (H:Hp) (x:V) (xs:List V) (v:Value) (us:List Value) (Q:VK),A5 X pins σ H s->AM x v->AD xs us->r x xs H Q->
  wpAny (model X.prog X.w) X.A (call (.builtin id) (v::us)) (EP X pins σ Q) X.xe s
section
variable {X:Cx}{a b:Expr}{ta tb:TE}{pos:Pos}
theorem Ag {r:R2}(hr:EM X r)(ha:PE X a ta)(hb:PE X b tb)(hs:SD b):PE X (.Subscript a b pos) (EU r ta tb):=by
 intro pins s σ H Q I h
 exact Subscript_ (Lm ha hb I h fun v u s2 x y H2 I2 rx ry q=>hr a b pins s2 σ H2 x y v u Q I2 rx ry q (hs _ _))
def Lz (K:Ya):R2:=fun x y H Q=>∃p xs i v,x = .ref p/\y = .int i/\A3 K H p xs/\Bu xs i=some v/\Q v H
def HK (K:Ya):R2:=fun x y H Q=>∃p xs i v,x = .ref p/\y = .int i/\Aw K H p xs/\Bu xs i=some v/\Q v H
def Lj:R2:=fun x y H Q=>∃z i c,x = .str z/\y = .int i/\z.length<=sizeLine/\Bu z.cps.toList i=some c/\Q (.str ⟨#[c]⟩) H
theorem AX:EM X (Lz X.K):=by
 intro value slice pins s σ H x y v u Q I rx ry h hs
 obtain⟨p,xs,i,z,rfl,rfl,hq,he,q⟩:=h
 cases rx
 obtain⟨t,rfl⟩:=ry
 obtain⟨its,r,pl,hz⟩:=I.list hq
 obtain⟨j,h1,h2,h3,h4,h5⟩:=JV he
 obtain⟨w,ew,rw'⟩:=r.get h2
 have hl:=r.length
 have hn:=FU
 have fin:EP X pins σ Q w s:=⟨z,H,I,rw',q⟩
 by_cases h0:0<=i
 .have hj:i.toNat=j:=by
   rw[seqIndex_of h0 h5]at h1
   exact BX h1
  exact item_listR pl.isList h0 (by omega) (by rw[hj];simpa using ew) fin hs
 .have hj:(i+(its.toArray.size:Int)).toNat=j:=by
   rw[Nl (by omega) h4]at h1
   rw[By,←hl]
   exact BX h1
  exact subscriptTail_builtinR (x:=w) pl.isList.typeIs slot_list_getitem.lookup
   (wpAny_getItem_list_neg (Q:=fun r s'=>r=w/\EP X pins σ Q r s') pl.isList (by omega) (by rw[By]<;>omega) (by omega) (by rw[hj];simpa using ew) ⟨rfl,fin⟩) hs
theorem B4:EM X (HK X.K):=by
 intro value slice pins s σ H x y v u Q I rx ry h hs
 obtain⟨p,xs,i,z,rfl,rfl,hq,he,q⟩:=h
 cases rx
 obtain⟨t,rfl⟩:=ry
 obtain⟨its,r,pl,hz⟩:=I.tuple hq
 obtain⟨j,h1,h2,h3,h4,h5⟩:=JV he
 obtain⟨w,ew,rw'⟩:=r.get h2
 have hl:=r.length
 have hn:=FU
 have fin:EP X pins σ Q w s:=⟨z,H,I,rw',q⟩
 exact subscriptTail_builtinR (x:=w) pl.typeIs slot_tuple_getitem.lookup
  (getItem_tuple (j:=j) (Q:=fun r s'=>r=w/\EP X pins σ Q r s') pl (by omega) (by omega) (by rw[By,←hl];exact h1) (by simpa using ew) ⟨rfl,fin⟩) hs
theorem EB:EM X Lj:=by
 intro value slice pins s σ H x y v u Q I rx ry h hs
 obtain⟨z,i,c,rfl,rfl,hz,he,q⟩:=h
 obtain⟨t,rfl⟩:=rx
 obtain⟨t',rfl⟩:=ry
 obtain⟨j,h1,h2,h3,h4,h5⟩:=JV he
 have hl:z.cps.toList.length=z.length:=by simp[Str.length]
 rw[hl]at h1 h4 h5
 have hn:=FU
 exact tail_any (HF s z t) slot_str_getitem.lookup (getItem_str (c:=c) (by
  have e1:decide (i < -(2 ^ 63:Int))=false:=Bo (by omega)
  have e2:decide (i≥2 ^ 63)=false:=Bo (by omega)
  rw[e1,e2,MQ]) (by rw[h1];simpa using h2) ⟨.str ⟨#[c]⟩,H,I.tok _,⟨_,rfl⟩,q⟩) hs
theorem Tc (its:List Value)(n j:Nat)(u:Value):Obj.mapSeq (·.setIfInBounds j u) {cls:=.type "list",data:=.seq its.toArray n}={cls:=.type "list",data:=.seq (its.set j u).toArray n}:=by
 simp[Obj.mapSeq]
theorem A5.lst {pins:List (Addr×Obj)}{σ:St}{H:Hp}{s:Shared}{p:Addr}{xs:List V}(I:A5 X pins σ H s)(h:H p=some (.lst xs)) :
  ∃(its:List Value) (n:Nat),AD xs its/\s.heap.get? p=some {cls:=.type "list",data:=.seq its.toArray n}/\xs.length<=sizeLine:=by
 obtain⟨z,its,n,r,e⟩:=I.hok p _ h
 exact⟨its,n,r,e,z⟩
theorem A5.lstUpd {pins:List (Addr×Obj)}{σ:St}{H:Hp}{s:Shared}{p:Addr}{xs ys:List V}{its its':List Value}{n n':Nat}{f:Obj->Obj}(I:A5 X pins σ H s)(h:H p=some (.lst xs))
  (ho:s.heap.get? p=some {cls:=.type "list",data:=.seq its.toArray n}) (hf:f {cls:=.type "list",data:=.seq its.toArray n}={cls:=.type "list",data:=.seq its'.toArray n'}) (r:AD ys its') (hz:ys.length<=sizeLine) (t:Nat) :
  A5 X pins σ (upd H p (.lst ys)) {s with heap:=s.heap.update p f,toks:=t}:=by
 have e:(s.heap.update p f).get? p=some {cls:=.type "list",data:=.seq its'.toArray n'}:=by
  rw[Heap.get?_update_self f ho (by rw[hf]<;>rfl),hf]
 refine I.write (x:=p) (e:=p) (by rw[h];trivial) (.inl rfl) (fun b u hb q=>(MS _ _ (Ne.symm hb)).trans q) ⟨_,e⟩ ?_
 exact⟨hz,its',n',r,e⟩
def Ws:V->V->V->Hp->(Hp->Prop)->Prop:=fun o i v H Q=>∃p xs k j,o = .ref p/\i = .int k/\H p=some (.lst xs)/\E3 xs.length k=some j/\Q (upd H p (.lst (xs.set j v)))
theorem Pi:P3 X Ws:=by
 intro pins s σ H o i v ov iv u Q I ro ri rv h
 obtain⟨p,xs,k,j,rfl,rfl,hp,hj,q⟩:=h
 cases ro
 obtain⟨t,rfl⟩:=ri
 obtain⟨its,n,r,ho,hz⟩:=I.lst hp
 obtain⟨h1,h2,h3,h4⟩:=PD hj
 have hl:=r.length
 have hn:=FU
 have I':A5 X pins σ (upd H p (.lst (xs.set j v))) {s with heap:=s.heap.update p (Obj.mapSeq (·.setIfInBounds j u))}:=
  I.lstUpd hp ho (Tc its n j u) (r.set rv j) (by rw[List.length_set];exact hz) s.toks
 by_cases h0:0<=k
 .have hk:k.toNat=j:=by
   rw[seqIndex_of h0 h4]at h1
   exact BX h1
  exact PySem.W.ki_setAt ho h0 (by omega) (by rw[By,←hl];exact h4) (by rw[hk];exact⟨_,I',q⟩)
 .have hk:(k+(its.toArray.size:Int)).toNat=j:=by
   rw[Nl (by omega) h3]at h1
   rw[By,←hl]
   exact BX h1
  exact PySem.W.ki_setBack ho (by omega) (by rw[By,←hl];exact h3) (by omega) (by rw[hk];exact⟨_,I',q⟩)
theorem Ut (lo hi:Option Int)(n:Nat):(sliceBounds lo hi none n).1=((HT.sIx n 0 lo:Nat):Int)/\(sliceBounds lo hi none n).2.1=((HT.sIx n n hi:Nat):Int)/\(sliceBounds lo hi none n).2.2=1:=by
 refine⟨?_,?_,rfl⟩
 .cases lo with
  |none=>simp[sliceBounds,HT.sIx]
  |
   some i=>
   simp only[sliceBounds,HT.sIx,Option.getD_none,show(1:Int)>0 by decide,F8]
   by_cases h:i<0
   .simp only[h,F8]<;>omega
   .simp only[h,J0]<;>omega
 .cases hi with
  |none=>simp[sliceBounds,HT.sIx]
  |
   some i=>
   simp only[sliceBounds,HT.sIx,Option.getD_none,show(1:Int)>0 by decide,F8]
   by_cases h:i<0
   .simp only[h,F8]<;>omega
   .simp only[h,J0]<;>omega
theorem VG (its:List Value)(lo hi:Option Int):slicePick its.toArray lo hi none=((its.drop (HT.sIx its.length 0 lo)).take (HT.sIx its.length its.length hi-HT.sIx its.length 0 lo)).toArray:=by
 obtain⟨h1,h2,h3⟩:=Ut lo hi its.toArray.size
 unfold slicePick
 rw[h1,h2,h3]
 simp only[sliceRange_one,pick_run,By]<;>rfl
def V1 (K:Ya):V->Option Int->Option Int->Hp->VK->Prop:=fun x lo hi H Q=>∃a xs,x = .ref a/\A3 K H a xs/\∀p,H p=none->Q (.ref p) (upd H p (.lst (De xs lo hi)))
theorem Fv:LJ X (V1 X.K):=by
 intro pins s σ H x v vl vu lo hi sl Q I rx hs pl pu h
 obtain⟨a,xs,rfl,hx,q⟩:=h
 cases rx
 obtain⟨its,r,ht,hz⟩:=I.list hx
 have hlen:=r.length
 refine⟨"list",_,slot_list_getitem.lookup,ht.isList.typeIs,?_⟩
 refine wpAny_getItem_list_slice ht.isList hs pl pu .none (by simp) ?_ (by rw[By]<;>omega)
 rw[VG,←hlen]
 refine⟨.ref s.heap.objs.size,_,I.laid (t':=s.toks) (o:=.lst (De xs lo hi)) (fun b ob q=>BR _ q) (Aj _) ?_,rfl,q _ (I.hok.fresh (Aj _))⟩
 exact⟨BI (R6 xs lo hi) hz,_,0,(r.drop (HT.sIx xs.length 0 lo)).take (HT.sIx xs.length xs.length hi-HT.sIx xs.length 0 lo),Dl _ rfl⟩
def ED:V->Bool
 |.non=>true
 |.bl _=>true
 |.int _=>true
 |.str _=>true
 |_=>false
def ET:V->V->Bool
 |.non,.non=>true
 |.bl a,.bl b=>a==b
 |.bl a,.int b=>(if a then 1 else 0)==b
 |.int a,.bl b=>a==(if b then 1 else 0)
 |.int a,.int b=>a==b
 |.str a,.str b=>a==b
 |_,_=>false
theorem Vb {A:Around}{s:Shared}{y x:V}{u v:Value}(ry:AM y u)(rx:AM x v)(fy:ED y=true)(fx:ED x=true):SeqAt.EqAt A s u v (ET y x):=by
 cases y with
 |
  non=>
  cases ry
  cases x with
  |non=>cases rx;exact SeqAt.EqAt.same _
  |bl b=>cases rx;exact SeqAt.EqAt.none_bool b
  |int b=>obtain⟨t,rfl⟩:=rx;exact SeqAt.EqAt.none_int b t
  |str b=>obtain⟨t,rfl⟩:=rx;exact SeqAt.EqAt.none_str b t
  |_=>exact absurd (show false=true from fx) BQ
 |
  bl a=>
  cases ry
  cases x with
  |non=>cases rx;exact SeqAt.EqAt.bool_none a
  |bl b=>cases rx;exact SeqAt.EqAt.bool_bool a b
  |int b=>obtain⟨t,rfl⟩:=rx;exact SeqAt.EqAt.bool_int a b t
  |str b=>obtain⟨t,rfl⟩:=rx;exact SeqAt.EqAt.bool_str a b t
  |_=>exact absurd (show false=true from fx) BQ
 |
  int a=>
  obtain⟨t',rfl⟩:=ry
  cases x with
  |non=>cases rx;exact SeqAt.EqAt.int_none a t'
  |bl b=>cases rx;exact SeqAt.EqAt.int_bool a t' b
  |int b=>obtain⟨t,rfl⟩:=rx;exact SeqAt.EqAt.int_int a t' b t
  |str b=>obtain⟨t,rfl⟩:=rx;exact SeqAt.EqAt.int_str a t' b t
  |_=>exact absurd (show false=true from fx) BQ
 |
  str a=>
  obtain⟨t',rfl⟩:=ry
  cases x with
  |non=>cases rx;exact SeqAt.EqAt.str_none a t'
  |bl b=>cases rx;exact SeqAt.EqAt.str_bool a t' b
  |int b=>obtain⟨t,rfl⟩:=rx;exact SeqAt.EqAt.str_int a t' b t
  |str b=>obtain⟨t,rfl⟩:=rx;exact SeqAt.EqAt.str_str a t' b t
  |_=>exact absurd (show false=true from fx) BQ
 |_=>exact absurd (show false=true from fy) BQ
def DK (x:V)(u:Value):Bool:=match u with
 |.none=>ET .non x
 |.bool b=>ET (.bl b) x
 |.int i _=>ET (.int i) x
 |.str z _=>ET (.str z) x
 |_=>false
theorem Nx {x y:V}{u:Value}(r:AM y u)(f:ED y=true):DK x u=ET y x:=by
 cases y with
 |non=>cases r;rfl
 |bl b=>cases r;rfl
 |int i=>obtain⟨t,rfl⟩:=r;rfl
 |str z=>obtain⟨t,rfl⟩:=r;rfl
 |_=>exact absurd (show false=true from f) BQ
theorem Ib {x:V}:∀{xs:List V} {us:List Value},AD xs us->xs.all ED=true->us.any (DK x)=xs.any fun y=>ET y x
 |_,_,.nil,_=>rfl
 |
  y::xs,u::us,.cons r t,f=>by
  rw[MU,GC]at f
  rw[IL,IL,Nx r f.1,Ib t f.2]
theorem HW {A:Around}{s:Shared}{x:V}{v:Value}(rx:AM x v)(fx:ED x=true):∀{xs:List V} {us:List Value},AD xs us->xs.all ED=true->∀u∈us,SeqAt.EqAt A s u v (DK x u)
 |_,_,.nil,_=>fun u hu=>by cases hu
 |
  y::xs,u::us,.cons r t,f=>fun u' hu=>by
  rw[MU,GC]at f
  rcases AG.mp hu with rfl|hu
  .rw[Nx r f.1];exact Vb r rx f.1 fx
  .exact HW rx fx t f.2 u' hu
def Do (x:V)(xs:List V):Bool:=xs.any fun y=>ET y x
def Kz (K:Ya)(neg:Bool):R2:=fun x y H Q=>∃p xs,y = .ref p/\(A3 K H p xs\/Aw K H p xs)/\ED x=true/\xs.all ED=true/\Q (.bl (if neg then !Do x xs else Do x xs)) H
theorem Hb:BG X (compareOp .In) (Kz X.K false):=by
 intro pins s σ H x y v u Q I rx ry h
 obtain⟨p,xs,rfl,hq,fx,fs,q⟩:=h
 cases ry
 rcases hq with hq|hq
 .obtain⟨its,r,pl,hz⟩:=I.list hq
  refine SeqAt.in_listAt (DK x) pl.isList (fun w hw=>HW rx fx r fs w (by simpa using hw)) ⟨.bl _,H,I,rfl,?_⟩
  rw[show its.toArray.any (DK x)=its.any (DK x) by simp,Ib r fs]
  exact q
 .obtain⟨its,r,pl,hz⟩:=I.tuple hq
  refine SeqAt.in_tupleAt (DK x) pl (fun w hw=>HW rx fx r fs w (by simpa using hw)) ⟨.bl _,H,I,rfl,?_⟩
  rw[show its.toArray.any (DK x)=its.any (DK x) by simp,Ib r fs]
  exact q
theorem MC:BG X (compareOp .NotIn) (Kz X.K true):=by
 intro pins s σ H x y v u Q I rx ry h
 obtain⟨p,xs,rfl,hq,fx,fs,q⟩:=h
 cases ry
 rcases hq with hq|hq
 .obtain⟨its,r,pl,hz⟩:=I.list hq
  refine SeqAt.notIn_listAt (DK x) pl.isList (fun w hw=>HW rx fx r fs w (by simpa using hw)) ⟨.bl _,H,I,rfl,?_⟩
  rw[show its.toArray.any (DK x)=its.any (DK x) by simp,Ib r fs]
  exact q
 .obtain⟨its,r,pl,hz⟩:=I.tuple hq
  refine SeqAt.notIn_tupleAt (DK x) pl (fun w hw=>HW rx fx r fs w (by simpa using hw)) ⟨.bl _,H,I,rfl,?_⟩
  rw[show its.toArray.any (DK x)=its.any (DK x) by simp,Ib r fs]
  exact q
theorem Um:BG X (compareOp .NotIn) (fun x y H Q=>∃i j,x = .str i/\y = .str j/\Q (.bl (!(!(Builtin.Str.occurrences j i 0 j.length 1).isEmpty))) H):=by
 intro pins s σ H x y v u Q I rx ry h
 obtain⟨i,j,rfl,rfl,q⟩:=h
 obtain⟨t,rfl⟩:=rx
 obtain⟨t',rfl⟩:=ry
 exact notIn_str ⟨.bl _,H,I,rfl,q⟩
theorem C6:Eb X (.builtin "len") (fun xs H Q=>∃p ys,xs=[.ref p]/\(A3 X.K H p ys\/Aw X.K H p ys)/\Q (.int ys.length) H):=by
 intro pins s σ H xs us Q I r h
 obtain⟨p,ys,rfl,hq,q⟩:=h
 obtain⟨u,rfl,rx⟩:=EH r
 cases rx
 have hn:=FU
 rcases hq with hq|hq
 .obtain⟨its,r',pl,hz⟩:=I.list hq
  have hlen:=r'.length
  exact Calls.call_len_list pl.isList (by simp only[By]<;>omega) ⟨.int ys.length,H,I.tok _,⟨s.toks+1,by rw[By,hlen]⟩,q⟩
 .obtain⟨its,r',pl,hz⟩:=I.tuple hq
  have hlen:=r'.length
  exact len_tuple pl (by simp only[By]<;>omega) ⟨.int ys.length,H,I.tok _,⟨s.toks+1,by rw[By,hlen]⟩,q⟩
theorem Ih:Eb X (.builtin "len") (fun xs H Q=>∃z,xs=[.str z]/\z.length<=sizeLine/\Q (.int z.length) H):=by
 intro pins s σ H xs us Q I r h
 obtain⟨z,rfl,hz,q⟩:=h
 obtain⟨u,rfl,t,rfl⟩:=EH r
 have hn:=FU
 exact len_str (by omega) ⟨.int z.length,H,I.tok _,⟨_,rfl⟩,q⟩
theorem Xk:Eb X (.type "list") (fun xs H Q=>∃p ys,xs=[.ref p]/\(A3 X.K H p ys\/Aw X.K H p ys)/\∀l,H l=none->Q (.ref l) (upd H l (.lst ys))):=by
 intro pins s σ H xs us Q I r h
 obtain⟨p,ys,rfl,hq,q⟩:=h
 obtain⟨u,rfl,rx⟩:=EH r
 cases rx
 have fin:∀(its:List Value),AD ys its->ys.length<=sizeLine->∀(h':Heap) (c':Nat),(∀b o',s.heap.get? b=some o'->h'.get? b=some o')->
   h'.get? s.heap.objs.size=some {cls:=.type "list",dict:=none,data:=.seq its.toArray c',slots := #[]}->EP X pins σ Q (.ref s.heap.objs.size) {s with heap:=h'}:=fun its r' hz h' c' kp e=>
  ⟨.ref s.heap.objs.size,_,I.laid (t':=s.toks) kp (Aj _) (show BV X.prog X.w _ h' _ (.lst ys) from⟨hz,its,c',r',e⟩),rfl,q _ (I.hok.fresh (Aj _))⟩
 rcases hq with hq|hq
 .obtain⟨its,r',pl,hz⟩:=I.list hq
  have hlen:=r'.length
  obtain⟨o,ho,hc,n,hd⟩:=pl.isList
  exact call_list_seq p (.inl rfl) ho hc hd (fun h' c' kp e=>fin its r' hz h' c' kp e) (by simp only[By]<;>omega)
 .obtain⟨its,r',pl,hz⟩:=I.tuple hq
  have hlen:=r'.length
  obtain⟨o,ho,hc,n,hd⟩:=pl
  exact call_list_seq p (.inr rfl) ho hc hd (fun h' c' kp e=>fin its r' hz h' c' kp e) (by simp only[By]<;>omega)
theorem Gu:Eb X (.type "tuple") (fun xs H Q=>∃p ys,xs=[.ref p]/\((A3 X.K H p ys/\∀l,H l=none->Q (.ref l) (upd H l (.tup ys)))\/(Aw X.K H p ys/\Q (.ref p) H))):=by
 intro pins s σ H xs us Q I r h
 obtain⟨p,ys,rfl,h⟩:=h
 obtain⟨u,rfl,rx⟩:=EH r
 cases rx
 rcases h with⟨hq,q⟩|⟨hq,q⟩
 .obtain⟨its,r',pl,hz⟩:=I.list hq
  have hlen:=r'.length
  refine call_tuple_list pl.isList (fun h' kp=>?_) (by simp only[By]<;>omega)
  have I1:A5 X pins σ H {s with heap:=h'}:=I.kept (t':=s.toks) kp
  have I2:A5 X pins σ (upd H h'.objs.size (.tup ys)) {s with heap:=h'.push {cls:=.type "tuple",data:=.seq its.toArray}}:=
   I1.laid (t':=s.toks) (fun b o e=>BR _ e) (Aj _) (show BV X.prog X.w _ _ _ (.tup ys) from⟨hz,its,r',FS.new _ _⟩)
  exact⟨.ref h'.objs.size,_,I2,rfl,q _ (I1.hok.fresh (Aj _))⟩
 .obtain⟨its,r',pl,hz⟩:=I.tuple hq
  exact call_tuple_same pl ⟨.ref p,H,I,rfl,q⟩
def Kl (K:Ya)(T:String)(x:V)(H:Hp):Prop:=match x with
 |.str _=>T="str"
 |.int _=>T="int"
 |.ref p=>(T="list"/\∃xs,A3 K H p xs)\/(T="tuple"/\∃o,K.lookup p=some o/\o.cls = .type "tuple"/\o.dict=none)\/
  (T="dict"/\((∃kvs,H p=some (.dK kvs))\/∃kvs,H p=some (.dT kvs)))\/(T="set"/\∃S n,H p=some (.set S n))
 |_=>False
theorem IC {pins:List (Addr×Obj)}{σ:St}{H:Hp}{s:Shared}{T:String}{x:V}{v:Value}(I:A5 X pins σ H s)(r:AM x v)(ty:Kl X.K T x H) :
  s.TypeIs v T/\∀a,v = .ref a->∃ob,s.heap.get? a=some ob/\ob.dict=none:=by
 cases x with
 |
  str z=>
  obtain⟨t,rfl⟩:=r
  cases (show T="str" from ty)
  exact⟨HF s z t,fun _ e=>nomatch e⟩
 |
  int i=>
  obtain⟨t,rfl⟩:=r
  cases (show T="int" from ty)
  exact⟨typeIs_int s i t,fun _ e=>nomatch e⟩
 |
  ref p=>
  cases r
  rcases ty with⟨rfl,xs,hq⟩|⟨rfl,o,hk,hc,hd⟩|⟨rfl,hk⟩|⟨rfl,S,n,hk⟩
  .obtain⟨its,_,pl,_⟩:=I.list hq
   refine⟨pl.isList.typeIs,fun a e=>?_⟩
   cases e
   obtain⟨o,n,e,c,hd,_⟩:=pl
   exact⟨o,e,hd⟩
  .refine⟨⟨o,I.kIn p o hk,hc⟩,fun a e=>?_⟩
   cases e
   exact⟨o,I.kIn _ o hk,hd⟩
  .have z:∃o,s.heap.get? p=some o/\o.ExactDict:=by
    rcases hk with⟨kvs,hk⟩|⟨kvs,hk⟩
    .obtain⟨_,_,_,_,o,_,_,e,ex,_⟩:=I.hok p _ hk
     exact⟨o,e,ex⟩
    .obtain⟨_,_,_,_,o,_,_,e,ex,_⟩:=I.hok p _ hk
     exact⟨o,e,ex⟩
   obtain⟨o,e,ex⟩:=z
   refine⟨⟨o,e,ex.1⟩,fun a e2=>?_⟩
   cases e2
   exact⟨o,e,ex.2.1⟩
  .obtain⟨o,_,_,_,e,ex,_⟩:=I.hok p _ hk
   refine⟨⟨o,e,ex.1⟩,fun a e2=>?_⟩
   cases e2
   exact⟨o,e,ex.2.1⟩
 |_=>exact False.elim ty
def TN (K:Ya)(T:String)(r:V->List V->Hp->VK->Prop)(to:TE):TE:=fun σ H Q=>to σ H fun x H1=>Kl K T x H1/\r x [] H1 Q
def Mc (K:Ya)(T:String)(r:V->List V->Hp->VK->Prop)(to:TE)(t:TA):TE:=fun σ H Q=>to σ H fun x H1=>Kl K T x H1/\t σ H1 fun xs H2=>r x xs H2 Q
variable {o e:Expr}{es:List Expr}{to:TE}{t:TA}{name:Str}{apos cpos:Pos}{T id:String}{r:V->List V->Hp->VK->Prop}
theorem Ec (pa:PlainAttrs T)(slot:Slot T name id)(hty:typeOf (.builtin id)=pure (.type "method_descriptor"))(hm:G6 X id r)(ho:PE X o to)
  (hbase:attributeBase o name X.env (eval o X.env)=eval o X.env:=by rfl) (hline:(apos.endLine==cpos.line)=true:=by rfl):PE X (.Call (.Attribute o name apos) [] [] cpos) (TN X.K T r to):=by
 intro pins s σ H Q I h
 refine wpAny_Call_method0_late hbase hline (Ao (ho pins s σ H _ I h) fun v s1 zz=>?_)
 obtain⟨x,H1,I1,r1,ty,q1⟩:=zz
 obtain⟨h1,h2⟩:=IC I1 r1 ty
 exact⟨T,id,pa,slot,hty,h1,h2,Calls.callWith_builtin rfl (PySem.evalArgs_none (hm pins s1 σ H1 x [] v [] Q I1 r1 .nil q1))⟩
theorem B9 (pa:PlainAttrs T)(slot:Slot T name id)(hty:typeOf (.builtin id)=pure (.type "method_descriptor"))(hm:G6 X id r)(ho:PE X o to)(ha:PA X (e::es) t)
  (hbase:attributeBase o name X.env (eval o X.env)=eval o X.env:=by rfl)
  (hfew:((backTo cpos (starEach (e::es) X.env)).all (fun x=>!x.1)&&(backToKw cpos (keywordEach [] X.env)).all (fun x=>x.1.isSome)
   && decide ((e::es).length+([]:List Keyword).length+(if([]:List Keyword).isEmpty then 0 else 1)<30))=true:=by rfl)
  (hline:(apos.endLine==cpos.line)=true:=by rfl) (hs:starEach (e::es) X.env=(false,eval e X.env)::starEach es X.env:=by rfl) (hplain:(backTo cpos (starEach es X.env)).any (·.1)=false:=by rfl) :
  PE X (.Call (.Attribute o name apos) (e::es) [] cpos) (Mc X.K T r to t):=by
 intro pins s σ H Q I h
 refine Nm hbase hfew hline rfl (Ao (ho pins s σ H _ I h) fun v s1 zz=>?_)
 obtain⟨x,H1,I1,r1,ty,q1⟩:=zz
 obtain⟨h1,h2⟩:=IC I1 r1 ty
 refine⟨T,id,pa,slot,hty,h1,h2,?_⟩
 have hA:=ha cpos pins s1 σ H1 _ I1 q1
 rw[hs]at hA ⊢
 refine Calls.callWith_builtin (by show(false||(backTo cpos (starEach es X.env)).any (·.1))=false;rw[hplain]<;>rfl) (Calls.evalArgs_plain ?_)
 refine Ao hA fun us s2 zz=>?_
 obtain⟨vs,H2,I2,r2,q2⟩:=zz
 exact hm pins s2 σ H2 x vs v us Q I2 r1 r2 q2
end
def LH (X:Cx)(id:String)(r:V->List V->Hp->VK->Prop):Prop:=
 ∀(pins:List (Addr×Obj)) (s:Shared) (σ:St) (H:Hp) (x:V) (xs:List V) (v:Value) (us:List Value) (Q:VK),A5 X pins σ H s->AM x v->AD xs us->r x xs H Q->
  wpAny (model X.prog X.w) X.A (call (.builtin id) (v::us)) (EP X pins σ Q) X.xe s
theorem AD.one:∀{x:V} {us:List Value},AD [x] us->∃u,us=[u]/\AM x u:=by
 intro x us h
 cases h with
 |
  cons r q=>
  cases q
  exact⟨_,rfl,r⟩
theorem AD.two:∀{x y:V} {us:List Value},AD [x,y] us->∃u v,us=[u,v]/\AM x u/\AM y v:=by
 intro x y us h
 cases h with
 |
  cons r q=>
  obtain⟨v,rfl,z⟩:=AD.one q
  exact⟨_,_,rfl,r,z⟩
theorem AD.zero:∀{us:List Value},AD [] us->us=[]
 |_,.nil=>rfl
theorem AD.dropLast {xs:List V}{us:List Value}(h:AD xs us):AD xs.dropLast us.dropLast:=by
 induction h with
 |nil=>exact .nil
 |
  cons r t ih=>
  cases t with
  |nil=>exact .nil
  |cons q t'=>exact .cons r ih
theorem Ul {α:Type}(l:List α):l.eraseIdx (l.length-1)=l.dropLast:=by
 induction l with
 |nil=>rfl
 |
  cons a r ih=>
  cases r with
  |nil=>rfl
  |
   cons b r=>
   have e:(a::b::r).length-1=((b::r).length-1)+1:=by
    have h1:(a::b::r).length=r.length+2:=rfl
    have h2:(b::r).length=r.length+1:=rfl
    omega
   rw[e,List.eraseIdx_cons_succ,ih]
   all_goals rfl
section
variable {X:Cx}{pins:List (Addr×Obj)}{σ:St}{H:Hp}{s:Shared}{l b:Addr}{xs ys zs:List V}
theorem A5.lset {its its':List Value}{n:Nat}{f:Array Value->Array Value}{t':Nat}(I:A5 X pins σ H s)(hH:H l=some (.lst xs))
  (e:s.heap.get? l=some {cls:=.type "list",data:=.seq its.toArray n}) (hf:f its.toArray=its'.toArray) (hv:AD ys its') (hz:ys.length<=sizeLine) :
  A5 X pins σ (upd H l (.lst ys)) {s with heap:=s.heap.update l (Obj.mapSeq f),toks:=t'}:=by
 have q:=PySem.IsL.update e f
 rw[hf]at q
 refine I.write (x:=l) (e:=l) (by rw[hH];exact trivial) (.inl rfl) (fun b' u hb hu=>(MS s.heap (Obj.mapSeq f) (Ne.symm hb)).trans hu) ⟨_,q⟩ ?_
 exact⟨hz,its',_,hv,q⟩
theorem A5.lnew {its:List Value}{t':Nat}(I:A5 X pins σ H s)(hv:AD ys its)(hz:ys.length<=sizeLine) :
  A5 X pins σ (upd H s.heap.objs.size (.lst ys)) {s with heap:=s.heap.push {cls:=.type "list",data:=.seq its.toArray},toks:=t'}:=
 I.laid (fun _ _ q=>BR _ q) (Aj _) ⟨hz,its,0,hv,Dl _ rfl⟩
theorem A5.fresh (I:A5 X pins σ H s):H s.heap.objs.size=none:=I.hok.fresh (Aj _)
theorem A5.lstM (I:A5 X pins σ H s)(hH:H l=some (.lst xs)):xs.length<=sizeLine/\∃(its:List Value) (n:Nat),AD xs its/\xs.length=its.length/\s.heap.get? l=some {cls:=.type "list",data:=.seq its.toArray n}:=by
 obtain⟨z,its,n,r,e⟩:=I.hok l _ hH
 exact⟨z,its,n,r,r.length,e⟩
theorem Xl {n:Nat}(h:n<=sizeLine):Builtin.List.listTooLong n=false:=by
 unfold Builtin.List.listTooLong
 exact Bo (by omega)
end
section
variable {X:Cx}
def Of:V->List V->Hp->VK->Prop:=fun x vs H Q=>∃l xs y,x = .ref l/\vs=[y]/\H l=some (.lst xs)/\xs.length<sizeLine/\Q .non (upd H l (.lst (xs++[y])))
theorem BM:LH X "list.append" Of:=by
 intro pins s σ H x vs v us Q I rx rv h
 obtain⟨l,xs,y,rfl,rfl,hH,hz,q⟩:=h
 cases rx
 obtain⟨u,rfl,ru⟩:=rv.one
 obtain⟨z,its,n,r,hl,e⟩:=I.lstM hH
 refine GF F.slot_list_append ⟨_,e,rfl⟩ F.entry_list_append (F.args_list_append_2 _ _) (PySem.list_append l its.toArray n u (by rw[By];omega)) ⟨e,?_⟩
 refine⟨.non,_,I.lset (its':=its++[u]) hH e (by simp) (r.append (.cons ru .nil)) ?_,rfl,q⟩
 rw[Ah,Bs]
 omega
def XA:V->List V->Hp->VK->Prop:=fun x vs H Q=>∃l b xs zs,x = .ref l/\vs=[.ref b]/\H l=some (.lst xs)/\H b=some (.lst zs)/\xs.length+zs.length<=sizeLine/\Q .non (upd H l (.lst (xs++zs)))
theorem OR:LH X "list.extend" XA:=by
 intro pins s σ H x vs v us Q I rx rv h
 obtain⟨l,b,xs,zs,rfl,rfl,hH,hB,hz,q⟩:=h
 cases rx
 obtain⟨u,rfl,ru⟩:=rv.one
 cases ru
 obtain⟨z,its,n,r,hl,e⟩:=I.lstM hH
 obtain⟨z2,its2,n2,r2,hl2,e2⟩:=I.lstM hB
 have hsz:its.toArray.size+its2.toArray.size<=sizeLine:=by rw[By,By];omega
 have hlong:¬(!its.toArray.isEmpty&&Builtin.List.listTooLong (its.toArray.size+its2.toArray.size))=true:=by
  rw[Xl hsz,Bool.and_false]
  exact BQ
 refine GF F.slot_list_extend ⟨_,e,rfl⟩ F.entry_list_extend (F.args_list_extend_2 _ _)
  (AutoSeq1.list_extend_list_list_0 l its.toArray n b its2.toArray n2 hlong (by rw[By];omega) (by omega)) ⟨e,e2,?_⟩
 refine⟨.non,_,I.lset (its':=its++its2) hH e (by simp) (r.append r2) ?_,rfl,q⟩
 rw[Ah]
 omega
def WI:V->List V->Hp->VK->Prop:=fun x vs H Q=>∃l xs y,x = .ref l/\vs=[]/\H l=some (.lst xs)/\xs[xs.length-1]?=some y/\Q y (upd H l (.lst xs.dropLast))
theorem Em:LH X "list.pop" WI:=by
 intro pins s σ H x vs v us Q I rx rv h
 obtain⟨l,xs,y,rfl,rfl,hH,hy,q⟩:=h
 cases rx
 have hus:=rv.zero
 subst hus
 obtain⟨z,its,n,r,hl,e⟩:=I.lstM hH
 obtain⟨u,hu,ru⟩:=r.get hy
 have hy':its.toArray[its.toArray.size-1]?=some u:=by
  show its.toArray[its.length-1]?=some u
  rw[←Array.getElem?_toList,←hl]
  exact hu
 refine GF F.slot_list_pop ⟨_,e,rfl⟩ F.entry_list_pop (F.args_list_pop_1 _) (MeetsSeq.list_pop_last l its.toArray n u hy' (by rw[By];omega)) ⟨e,?_⟩
 refine⟨y,_,I.lset (its':=its.dropLast) hH e ?_ r.dropLast ?_,ru,q⟩
 .show its.toArray.eraseIdxIfInBounds (its.toArray.size-1)=its.dropLast.toArray
  rw[By,List.eraseIdxIfInBounds_toArray,Ul]
 .rw[List.length_dropLast]
  omega
def QN:R2:=fun x y H Q=>∃l b xs zs,x = .ref l/\y = .ref b/\H l=some (.lst xs)/\H b=some (.lst zs)/\xs.length+zs.length<=sizeLine/\∀p,H p=none->Q (.ref p) (upd H p (.lst (xs++zs)))
theorem EZ:BG X (binaryOp .Add) QN:=by
 intro pins s σ H x y v u Q I rx ry h
 obtain⟨l,b,xs,zs,rfl,rfl,hH,hB,hz,q⟩:=h
 cases rx
 cases ry
 obtain⟨z,its,n,r,hl,e⟩:=I.lstM hH
 obtain⟨z2,its2,n2,r2,hl2,e2⟩:=I.lstM hB
 refine PySem.P.add_list e e2 ?_ (by rw[By,By];omega)
 have ea:its.toArray++its2.toArray=(its++its2).toArray:=by simp
 rw[ea]
 exact⟨.ref _,_,I.lnew (t':=s.toks) (r.append r2) (by rw[Ah];omega),rfl,q _ I.fresh⟩
end
section
variable {prog:Program}{w:World}{A:Around}{E:Value->Shared->Prop}{s:Shared}
set_option maxRecDepth 100000 in
end
section
variable {X:Cx}
end
section
variable {κ:Type}[DecidableEq κ]
def D1 (kvs:List (κ×V))(k:κ):Option V:=(kvs.find? fun kv=>decide (kv.1=k)).map (·.2)
def Fi (kvs:List (κ×V))(k:κ)(v:V):List (κ×V):=
 if(kvs.any fun kv=>decide (kv.1=k))=true then kvs.map (fun kv=>if kv.1=k then(kv.1,v) else kv) else kvs++[(k,v)]
theorem Vs {p:κ×V}{r:List (κ×V)}{k:κ}(e:p.1=k):D1 (p::r) k=some p.2:=by simp[D1,MV,e]
theorem RY {p:κ×V}{r:List (κ×V)}{k:κ}(e:¬p.1=k):D1 (p::r) k=D1 r k:=by simp[D1,MV,e]
theorem Xs (kvs:List (κ×V))(k:κ)(v:V):(Fi kvs k v).length<=kvs.length+1:=by
 unfold Fi
 split
 .rw[An];omega
 .rw[Ah,AQ,MW];omega
theorem KV.val {kvs:List (κ×V)}{vs:List (κ×Value)}(r:KV kvs vs)(k:κ):Fx (D1 kvs k) (valueAt vs k):=by
 unfold KV at r
 induction r with
 |nil=>exact True.intro
 |
  @cons p q ps qs h t ih=>
  obtain⟨h1,h2⟩:=h
  by_cases e:p.1=k
  .have e':q.1=k:=h1.symm.trans e
   have b:valueAt (q::qs) k=some q.2:=by simp[valueAt,MV,e']
   rw[Vs e,b];exact h2
  .have e':¬q.1=k:=fun z=>e (h1.trans z)
   have b:valueAt (q::qs) k=valueAt qs k:=by simp[valueAt,MV,e']
   rw[RY e,b];exact ih
theorem KV.any {kvs:List (κ×V)}{vs:List (κ×Value)}(r:KV kvs vs)(k:κ):(kvs.any fun kv=>decide (kv.1=k))=vs.any fun kv=>decide (kv.1=k):=by
 unfold KV at r
 induction r with
 |nil=>rfl
 |cons h t ih=>rw[IL,IL,ih,h.1]
theorem KV.repl {kvs:List (κ×V)}{vs:List (κ×Value)}(r:KV kvs vs)(k:κ){y:V}{u:Value}(ry:AM y u) :
  KV (kvs.map fun kv=>if kv.1=k then(kv.1,y) else kv) (vs.map fun kv=>if kv.1=k then(kv.1,u) else kv):=by
 unfold KV at r ⊢
 induction r with
 |nil=>exact .nil
 |
  @cons p q ps qs h t ih=>
  rw[BN,BN]
  refine .cons ?_ ih
  obtain⟨h1,h2⟩:=h
  by_cases e:p.1=k
  .rw[Af e,Af (h1.symm.trans e)];exact⟨h1,ry⟩
  .rw[Ab e,Ab (fun z=>e (h1.trans z))];exact⟨h1,h2⟩
theorem KV.put {kvs:List (κ×V)}{vs:List (κ×Value)}(r:KV kvs vs)(k:κ){y:V}{u:Value}(ry:AM y u):KV (Fi kvs k y) (stored vs k u):=by
 unfold Fi stored
 rw[r.any k]
 by_cases e:(vs.any fun kv=>decide (kv.1=k))=true
 .rw[Af e,Af e];exact r.repl k ry
 .rw[Ab e,Ab e];exact Paired.snoc r ⟨rfl,ry⟩
theorem KV.length {kvs:List (κ×V)}{vs:List (κ×Value)}(r:KV kvs vs):kvs.length=vs.length:=Paired.length r
end
theorem KC {P:Program}{w:World}{k:Be}{u:Value}(r:AM (kV k) u):(Dq P w).is k u=true:=by
 cases k with
 |inl i=>obtain⟨t,e⟩:=(show ∃t,u=Value.int i t from r);subst e;exact QP P w i t
 |inr x=>obtain⟨t,e⟩:=(show ∃t,u=Value.str x t from r);subst e;exact WA P w x t
theorem Pm {P:Program}{w:World}:∀{ks:List Be} {us:List Value},AD (ks.map kV) us->ItemsAre (Dq P w) ks us
 |[],_,r=>by rw[MX]at r;cases r;exact .nil
 |
  k::ks,_,r=>by
  rw[BN]at r
  cases r with
  |cons h t=>exact .cons (KC h) (Pm t)
abbrev KT (H:Hp):List (List Be×V)->List (List Be×Addr×Value)->Prop:=Paired fun p q=>p.1=q.1/\H q.2.1=some (.tup (p.1.map kV))/\AM p.2 q.2.2
section
variable {P:Program}{w:World}{H:Hp}{h:Heap}{a:Addr}
theorem NH {u:HO}(ok:BF P w H h)(e:Rd H a u):BV P w H h a u:=e.ok ok
theorem Nt {kvs:List (Be×V)}(ok:BF P w H h)(e:Rd H a (.dK kvs)):kvs.length<=sizeLine/\(a==sysModules)=false/\∃vs,KV kvs vs/\h.DictOf (Dq P w) a vs:=
 show BV P w H h a (.dK kvs) from NH ok e
theorem U4 {kvs:List (Be×V)}(ok:BF P w H h)(e:H a=some (.dK kvs)):kvs.length<=sizeLine/\(a==sysModules)=false/\∃vs,KV kvs vs/\h.DictOf (Dq P w) a vs:=Nt ok (.inl e)
theorem QE {ks:List Be}(ok:BF P w H h)(e:H a=some (.tup (ks.map kV))):(tupleKind (Dq P w)).is h ks a:=by
 obtain⟨_,its,r,o,h1,h2,⟨n,h3⟩,_⟩:=(show BV P w H h a (.tup (ks.map kV)) from ok a _ e)
 exact⟨o,its.toArray,n,h1,h2,h3,by simpa using Pm r⟩
theorem UM {kvs:List (List Be×V)}(ok:BF P w H h)(e:Rd H a (.dT kvs)):kvs.length<=sizeLine/\(a==sysModules)=false/\
  ∃xs,KT H kvs xs/\h.DictOfH (tupleKind (Dq P w)) a xs:=by
 obtain⟨z,y,xs,r,o,es,ep,h1,h2,h3,h4,h5⟩:=(show BV P w H h a (.dT kvs) from NH ok e)
 refine⟨z,y,xs,r,o,es,ep,h1,h2,h3,h4,fun x hx=>?_,h5⟩
 have all:∀{l:List (List Be×V)} {m:List (List Be×Addr×Value)},KT H l m->∀x∈m,(tupleKind (Dq P w)).is h x.1 x.2.1:=by
  intro l m q
  induction q with
  |nil=>intro x hx;exact nomatch hx
  |
   @cons p q ps qs hq t ih=>
   intro x hx
   rcases AG.mp hx with e|hx
   .subst e
    exact QE ok (by rw[←hq.1];exact hq.2.1)
   .exact ih x hx
 exact all r x hx
end
section
variable {X:Cx}{pins:List (Addr×Obj)}{σ:St}{H:Hp}{s:Shared}{a:Addr}{y v:V}{u r:Value}{o:Option V}{A:Around}{E:Value->Shared->Prop}
theorem A5.big (I:A5 X pins σ H s):sysModules<s.heap.objs.size:=by
 have h:mainGlobals<s.heap.objs.size:=(I.mod.glob.keeps I.bk).lt
 exact Nat.lt_trans (by decide) h
theorem Vg {h':Heap}{t':Nat}{ob:HO}(I:A5 X pins σ H s)(mu:IA (H a))(hs:Heap.SameBut a s.heap h')(he:∃q,h'.get? a=some q)(new:BV X.prog X.w (upd H a ob) h' a ob) :
  A5 X pins σ (upd H a ob) {s with heap:=h',toks:=t'}:=
 I.write (x:=a) (e:=a) mu (.inl rfl) (fun b q hb z=>(hs.2 b hb).trans z) he new
theorem X2 {P:Program}{w:World}{H':Hp}{h':Heap}{kvs:List (Be×V)}{vs:List (Be×Value)}(z:kvs.length<=sizeLine)(hd:(a==sysModules)=false)(rel:KV kvs vs)(dd:h'.DictOf (Dq P w) a vs) :
 BV P w H' h' a (.dK kvs):=⟨z,hd,vs,rel,dd⟩
end
section
variable {X:Cx}{pins:List (Addr×Obj)}{σ:St}{H:Hp}{s:Shared}{a:Addr}{kvs:List (Be×V)}{k:Be}{u:Value}{A:Around}{E:Value->Shared->Prop}
end
def NO (i:Expr):Prop := ∀ov iv,subscripted i false ov iv=operate [ov,iv] (getItem ov iv)
theorem U3 {prog:Program}{w:World}{A:Around}{E:Value->Shared->Prop}{s:Shared}{env:Env}{value slice:Expr}{pos:Pos}{T id:String}{Q:Value->Shared->Prop}
  (hl:typeLookup (.type T) "__getitem__"=pure (some (.builtin id))) (hs:NO slice)
  (h:wpAny (model prog w) A (eval value env) (fun o s₁=>wpAny (model prog w) A (eval slice env) (fun i s₂=>s₂.TypeIs o T/\wpAny (model prog w) A (getItem o i) Q E s₂) E s₁) E s) :
  wpAny (model prog w) A (eval (.Subscript value slice pos) env) Q E s:=by
 refine Subscript_ (DW h (fun o s₁ h₁=>DW h₁ (fun i s₂ h₂=>?_) fun _ _ x=>x) fun _ _ x=>x)
 obtain⟨hT,h₂⟩:=h₂
 unfold subscriptTail
 refine B7 ?_
 rw[getitemInPython_of_ne hT.not_modules]
 refine B7 (wpAny_specialOf hT hl ?_)
 have fin:wpAny (model prog w) A (subscripted slice false o i) (fun r s₃=>wpAny (model prog w) A (letTemporaryGo value o r>>=fun _=>pure r) Q E s₃) E s₂:=by
  rw[hs o i]
  exact wpAny_operating (DW h₂ (fun r s₃ h₃=>B7 (wpAny_letTemporaryGo (Ca h₃))) fun _ _ x=>x)
 first
  |exact Ca (B7 fin)
  |exact B7 (Ca (B7 fin))
  |exact B7 fin
section
variable {X:Cx}{o i e value:Expr}{pos pos' tpos:Pos}{td ty tv:TE}
end
theorem XN {P:Program}{w:World}{H:Hp}(h:Heap)(hb:sysModules<h.objs.size):BV P w H (h.push {cls:=.type "dict",data:=.dict #[]}) h.objs.size (.dK []):=
 ⟨Bw _,Hy.mpr (Ne.symm (Co hb)),[],.nil,Heap.DictOf.new h⟩
def QD:TE:=fun _ H Q=>∀p,H p=none->Q (.ref p) (upd H p (.dK []))
section
variable {X:Cx}{pos:Pos}
theorem TU:PE X (.Dict [] [] pos) QD:=fun pins s σ H Q I h=>
 wpAny_Dict_empty ⟨.ref s.heap.objs.size,_,I.laid (a:=s.heap.objs.size) (o:=.dK []) (t':=s.toks) (fun _ _ q=>BR _ q) (Aj _) (XN s.heap I.big),rfl,h _ (I.hok.fresh (Aj _))⟩
end
structure M2 (X:Cx)(o:Expr)(m:Str)(apos:Pos)(e f:Expr)(cpos:Pos):Prop where
 base:attributeBase o m X.env (eval o X.env)=eval o X.env
 few:((backTo cpos (starEach [e,f] X.env)).all (fun x=>!x.1)&&(backToKw cpos (keywordEach [] X.env)).all (fun x=>x.1.isSome)
  && decide (([e,f]:List Expr).length+([]:List Keyword).length+(if([]:List Keyword).isEmpty then 0 else 1)<30))=true
 line:(apos.endLine==cpos.line)=true
 trees:backTo cpos (starEach [e,f] X.env)=[(false,eval e X.env),(false,eval f X.env)]
def NV (H:Hp)(a:Addr):Prop:=(∃kvs,Rd H a (.dK kvs))\/∃kvs,Rd H a (.dT kvs)
theorem UI {X:Cx}{pins:List (Addr×Obj)}{σ:St}{H:Hp}{s:Shared}{a:Addr}(I:A5 X pins σ H s)(d:NV H a) :
  s.TypeIs (.ref a) "dict"/\(∀b,Value.ref a = .ref b->∃ob,s.heap.get? b=some ob/\ob.dict=none)/\(a==sysModules)=false:=by
 rcases d with⟨kvs,e⟩|⟨kvs,e⟩
 .obtain⟨_,hd,vs,_,dd⟩:=Nt I.hok e
  refine⟨dd.typeIs,fun b q=>?_,hd⟩
  cases q
  obtain⟨ob,_,_,h1,h2,_⟩:=dd
  exact⟨ob,h1,h2.2.1⟩
 .obtain⟨_,hd,xs,_,dd⟩:=UM I.hok e
  refine⟨dd.typeIs,fun b q=>?_,hd⟩
  cases q
  obtain⟨ob,_,_,h1,h2,_⟩:=dd
  exact⟨ob,h1,h2.2.1⟩
section
variable {X:Cx}{pins:List (Addr×Obj)}{σ:St}{H:Hp}{s:Shared}{a:Addr}{y d:V}{u r:Value}{o:Option V}{A:Around}{E:Value->Shared->Prop}
end
section
variable {X:Cx}{o e f:Expr}{apos cpos:Pos}{td ty tx:TE}
end
section
variable {X:Cx}{pins:List (Addr×Obj)}{σ:St}{H:Hp}{s:Shared}{a:Addr}{kvs:List (Be×V)}{A:Around}{E:Value->Shared->Prop}
end
section
variable {X:Cx}{pins:List (Addr×Obj)}{σ:St}{H:Hp}{s:Shared}{a:Addr}{y:V}{u:Value}{A:Around}{E:Value->Shared->Prop}
end
end L2
namespace Att
open PySem PySem.W PySem.Calls PyProof.Rows
theorem WH {P:Params}{h:Heap}:∀(ns:List Int) (vs:List Value),WellAll P h vs (ns.map WData.int)->IntsAre vs ns:=by
 intro ns
 induction ns with
 |
  nil=>
  intro vs w
  rw[MX]at w
  cases w
  exact .nil
 |
  cons n ns ih=>
  intro vs w
  rw[BN]at w
  cases w with
  |
   cons a b=>
   cases a
   exact .cons _ _ (ih _ b)
theorem V5 {l:OpenLaw}{n:Nat}(hn:l.most=some n){P:Params}{h:Heap}{args:List WData}{vals:List Value}
  (hpre:l.row.toRowW.claim.pre args=true) (hwl:WellAll P h vals args) :
  ∃a vs ns,vals=[Value.ref a]/\args=[WData.list (ns.map WData.int)]/\h.get? a=some {cls:=.type "list",data:=.seq vs.toArray}/\IntsAre vs ns/\ns.length<=n:=by
 have hsh:WShape.hasAll [] args [.list .int]=true:=(pre_splitW hpre).1
 have hc:l.pre.holds [] {args:=args}=true:=(pre_splitW hpre).2
 obtain⟨d,r,rfl,h1,h2⟩:=hasAllW_cons hsh
 obtain rfl:=hasAllW_nil h2
 obtain⟨xs,rfl,h3⟩:=hasW_list h1
 obtain⟨ns,rfl⟩:=items_int h3
 have hlen:ns.length<=n:=by
  unfold OpenLaw.pre at hc
  have h4:(WTm.not (.lt (.lit (.int (n:Int))) (.len (.arg 0)))).holds [] {args:=[.list (ns.map .int)]}=true:=by
   have h4:=(holds_andW hc).1
   rw[hn]at h4
   exact h4
  have h5:=condW_of h4 (w_not (w_lt w_lit (w_len_list (w_arg rfl))))
  rw[An]at h5
  refine Nat.le_of_not_lt fun q=>?_
  have q':(n:Int)<((ns.length:Nat):Int):=by omega
  first
   |(rw[B1 q']at h5;exact absurd h5 (by decide))
   |(simp at h5;omega)
 cases hwl with
 |
  cons w1 w2=>
  cases w2
  cases w1 with
  |list ho hall=>exact⟨_,_,ns,rfl,rfl,ho,WH ns _ hall,hlen⟩
theorem UY (l:OpenLaw)(args:List WData):l.row.toRowW.claim.post args (.bool true) args=true:=
 postW_of (r:=l.row.toRowW) (X:=(true==true))
  (show WShape.has [] (.bool true) .bool=true by first|rfl|decide|simp[WShape.has,WShape.arms,WShape.armsAll])
  (show(WTm.eq .res (.lit (.bool true))).value [] {args:=args,res:=some (.bool true),after:=args}=some (.bool (true==true)) from w_eq_bool (w_res rfl) w_lit) rfl
theorem attach_call {l:OpenLaw}{n:Nat}{q:Program}{loose:List Str}{XP:(Str->Option Value)->Heap->Prop}{YP:World->Heap->Prop}{d:DefRec}
  (hn:l.most=some n) (hdf:d.params.defaults=[])
  (call:∀(w:World) (s₀ s₁:Shared) (mg mb:Str->Option Value) (fa:Addr) (o:Obj) (pm cd doc:Value) (a:Addr) (vs:List Value) (ns:List Int),
   Ground q loose [] XP w s₀ mg mb s₁.heap->YP w s₁.heap->
   s₁.heap.get? fa=some o->o.data = .func (docDef d.name d.params d.body d.scope pm cd doc)->s₁.heap.CodeRec cd d.name->mg d.name=some (.ref fa)->
   s₁.heap.get? a=some {cls:=.type "list",data:=.seq vs.toArray}->IntsAre vs ns->ns.length<=n->s₁.gens = #[]->
   codeAny (model l.prog w) callerA (.call (.ref fa) ⟨[.ref a],[]⟩) (fun r s'=>r = .ok (.ret (.bool true))/\OldK s₁.heap s'.heap/\s'.os=s₁.os/\AllBare s'.gens) s₁) :
  WalkO q loose XP YP l.row.toRowW d [] (fun f vs=>PySem.call f vs):=by
 intro w s₀ s₁ mg mb G Y fa o pm cd doc dV kV ho hd hcd hD hmg hg args vals as hpre hlay hrd hwl hlo
 obtain rfl:dV = .none:=Dflts.none hD hdf
 obtain rfl:kV = .none:=Dflts.noKw hD
 obtain⟨a,vs,ns,rfl,rfl,hobj,hints,hlen⟩:=V5 hn hpre hwl
 refine enter_call (IZ (call w s₀ s₁ mg mb fa o pm cd doc a vs ns G Y ho (fd_plain hd) hcd hmg hobj hints hlen hg) fun r s' hq=>?_)
 obtain⟨rfl,h2,h3,h4⟩:=hq
 exact⟨.inl ⟨.bool true,.bool true,[],rfl,fun _=>rfl,.bool true,UY l _,fun _=>⟨List.Pairwise.nil,fun _ hm=>(nomatch hm)⟩⟩,h2,h3,h4⟩
section
variable {prog:Program}{w:World}{A:Around}{E:Value->Shared->Prop}{s:Shared}{K:Frag}
end
end Att
namespace L2
open PySem PySem.Spec PyProof.Rows
theorem Pl:∀{vs:List Value} {ns:List Int},IntsAre vs ns->AD (ns.map V.int) vs
 |_,_,.nil=>.nil
 |_,_,.cons n t h=>.cons ⟨t,rfl⟩ (Pl h)
def J9 (H:Hp):Prop := ∀b,H b=none\/∃o xs,H b=some (.frz o (.lst xs))
theorem VO {P:Program}{w:World}{K:Ya}{mg mb:Str->Option Value}{CX:E1}{k:Nat}{fa a:Addr}{fd:FuncData}{x:Str}{sp:Sp}{s₁:Shared}{vs:List Value}{ns:List Int}
  (KX:K.In s₁.heap) (hns:s₁.heap.Ns mainGlobals mg) (hb:s₁.heap.Ns builtinsNs mb) (hbb:∀x:Str,x≠"__name__"->mb x=bootBuiltins x) (hlim:s₁.heap.NoLimit) (hg:s₁.gens = #[])
  (ha:s₁.heap.get? a=some {cls:=.type "list",data:=.seq vs.toArray}) (hi:IntsAre vs ns) (hl:ns.length<=sizeLine) (hr:Ci k callerA)
  (F:∀base:Heap,K.In base->base.Ns mainGlobals mg->AI P w K mg base CX k fa fd [x] sp) (hbind:∀(s:Shared) (u:Value),BindsTo s fd ⟨[u],[]⟩ [(x,u)])
  (hsp:∀H:Hp,J9 H->A3 K H a (ns.map V.int)->sp [.ref a] H (fun v _=>v = .bl true) fun _ _ _=>False)
  (hCX:∀H e s',CX [] H s₁ (fun _ _ _=>False) e s'->False) :
  codeAny (model P w) callerA (.call (.ref fa) ⟨[.ref a],[]⟩) (fun r s'=>r = .ok (.ret (.bool true))/\OldK s₁.heap s'.heap/\s'.os=s₁.os/\AllBare s'.gens) s₁:=by
 have rv:=Pl hi
 have lenV:=hi.length
 have core:∀H:Hp,J9 H->A3 K H a (ns.map V.int)->BF P w H s₁.heap->(∀b,H b≠none->b=a)->(H a≠none->K.lookup a=none)->
   codeAny (model P w) callerA (.call (.ref fa) ⟨[.ref a],[]⟩) (fun r s'=>r = .ok (.ret (.bool true))/\OldK s₁.heap s'.heap/\s'.os=s₁.os/\AllBare s'.gens) s₁:=by
  intro H hO hS hok hA hK
  have base_of:∀{b:Addr} {o:Obj},s₁.heap.get? b=some o->H b=none->(Fl s₁.heap H).get? b=some o:=fun e n=>VY e n
  have noA:∀{b:Addr} {o:Obj} {es:Array DictEntry} {ep:Nat},s₁.heap.get? b=some o->o.data = .dict es ep->H b=none:=fun{b o es ep} e d=>by
   cases q:H b with
   |none=>rfl
   |
    some u=>
    have e':b=a:=hA b (by rw[q];simp)
    subst e'
    rw[ha]at e;cases e
    have d':Data.seq vs.toArray _=Data.dict es ep:=d
    cases d'
  have nsK:∀{b:Addr} {m:Str->Option Value},s₁.heap.Ns b m->(Fl s₁.heap H).Ns b m:=fun{b m} ⟨o,es,ep,e,d,r⟩=>⟨o,es,ep,base_of e (noA e d),d,r⟩
  have hKb:K.In (Fl s₁.heap H):=fun b o e=>base_of (KX b o e) (by
   cases q:H b with
   |none=>rfl
   |
    some u=>
    have e':b=a:=hA b (by rw[q];simp)
    subst e'
    rw[hK (by rw[q];simp)]at e;cases e)
  have hM:Mod K mg (Fl s₁.heap H):=⟨hKb,nsK hns,⟨mb,nsK hb,hbb⟩,let ⟨mc,h1,h2⟩:=hlim;⟨mc,nsK h1,h2⟩⟩
  have e0:G8 P w K mg (Fl s₁.heap H) callerA [] s₁ H:=⟨rfl,hM,fun b o e=>Rp e,Nat.le_of_eq (WJ _ _),trivial,fun b hb=>absurd (show b∈([]:List Addr) from hb) (by simp),hok,.of_eq hg⟩
  refine IZ ((F _ hKb (nsK hns)).run callerA [] s₁ H ⟨[.ref a],[]⟩ [.ref a] [.ref a] _ _ hr e0 (hbind s₁ (.ref a)) (.cons rfl .nil) (hsp H hO hS)) fun r s' h=>?_
  cases r with
  |error e=>exact(hCX H e s' h).elim
  |
   ok fl=>
   cases fl with
   |next=>exact False.elim h
   |brk=>exact False.elim h
   |cont=>exact False.elim h
   |
    ret u=>
    obtain⟨v,H',os,bare,un,hok',r',q⟩:=h
    have q':v = .bl true:=q
    subst q'
    obtain rfl:u=Value.bool true:=r'
    refine⟨rfl,OldK.of_keep fun b o e=>?_,os,bare⟩
    cases q:H b with
    |none=>exact un.keep b o e q (by intro z;exact absurd (show b∈([]:List Addr) from z) (by simp)) (by simp)
    |
     some u=>
     rcases hO b with z|⟨ob,xs,z⟩
     .rw[q]at z;cases z
     .have z2:=un.frzs b ob _ z
      obtain⟨e1,_⟩:=hok b _ z
      obtain⟨e2,_⟩:=hok' b _ z2
      rw[e]at e1;cases e1
      exact e2
 cases hk:K.lookup a with
 |
  some o=>
  have e:=KX a o hk
  rw[ha]at e
  cases e
  refine core (fun _=>none) (fun _=>.inl rfl) (.inr ⟨_,vs.toArray,_,hk,rfl,rfl,rfl,by rw[By,lenV];exact hl,by simpa using rv⟩) (fun b u z=>by have z':(none:Option HO)=some u:=z;cases z') (fun b z=>absurd rfl z) fun z=>absurd rfl z
 |
  none=>
  refine core (fun b=>if b=a then some (.frz {cls:=.type "list",data:=.seq vs.toArray} (.lst (ns.map V.int))) else none) (fun b=>?_) (.inl (.inr ⟨{cls:=.type "list",data:=.seq vs.toArray},Af rfl⟩)) (fun b u z=>?_) (fun b z=>?_) fun _=>hk
  .by_cases hb:b=a
   .exact .inr ⟨_,_,Af hb⟩
   .exact .inl (Ab hb)
  .by_cases hb:b=a
   .have z':=(Af hb).symm.trans z
    cases z'
    subst hb
    exact⟨ha,by rw[An];exact hl,vs,_,rv,ha⟩
   .have z':=(Ab hb).symm.trans z
    cases z'
  .by_cases hb:b=a
   .exact hb
   .exact absurd (Ab hb) z
theorem walk_of {l:PySem.W.OpenLaw}{n k:Nat}{q:Program}{loose:List Str}{XP:(Str->Option Value)->Heap->Prop}{YP:World->Heap->Prop}{d:DefRec}{K:Params->Ya}{CX:World->E1}{sp:World->Sp}{x:Str}
  (hn:l.most=some n) (hn2:n<=sizeLine) (hdf:d.params.defaults=[]) (hr:Ci k callerA)
  (hY:∀(w:World) (h:Heap),YP w h->(K w.params).In h)
  (F:∀(w:World) (mg:Str->Option Value) (fa:Addr) (h:Heap),(K w.params).In h->h.Ns mainGlobals mg->mg d.name=some (.ref fa)->
   ∃fd:FuncData,(∀(s:Shared) (u:Value),BindsTo s fd ⟨[u],[]⟩ [(x,u)])/\
    ∀base:Heap,(K w.params).In base->base.Ns mainGlobals mg->AI l.prog w (K w.params) mg base (CX w) k fa fd [x] (sp w))
  (hsp:∀(w:World) (H:Hp) (a:Addr) (ns:List Int),ns.length<=n->J9 H->A3 (K w.params) H a (ns.map V.int)->sp w [.ref a] H (fun v _=>v = .bl true) fun _ _ _=>False)
  (hCX:∀(w:World) (H:Hp) (s:Shared) (e:Value) (s':Shared),CX w [] H s (fun _ _ _=>False) e s'->False) :
  PySem.W.WalkO q loose XP YP l.row.toRowW d [] (fun f vs=>PySem.call f vs):=by
 refine Att.attach_call hn hdf fun w s₀ s₁ mg mb fa o pm cd doc a vs ns G Y ho hd hcd hmg hobj hints hlen hg=>?_
 have KX:=hY w _ Y
 obtain⟨fd,hb,hF⟩:=F w mg fa _ KX G.T.g hmg
 exact VO KX G.T.g G.T.b G.T.builtins G.T.nolimit hg hobj hints (BI hlen hn2) hr hF hb (fun H hO hS=>hsp w H a ns hlen hO hS) fun H e s'=>hCX w H s₁ e s'
def Gj (s:Stmt)(j:Nat):Stmt:=match s with
 |.ClassDef _ _ _ body _ _ _ _ _ _ _=>body.getD j (.Pass ⟨0,0,0,0⟩)
 |_=>.Pass ⟨0,0,0,0⟩
def HV (s:Stmt):Arguments:=match s with
 |.FunctionDef _ a _ _ _ _ _ _ _ _=>a
 |_=>{posonlyargs:=[],args:=[],vararg:=none,kwonlyargs:=[],kw_defaults:=[],kwarg:=none,defaults:=[]}
def Hi (s:Stmt):List Stmt:=match s with
 |.FunctionDef _ _ b _ _ _ _ _ _ _=>b
 |_=>[]
def Az (s:Stmt):Scope:=match s with
 |.FunctionDef _ _ _ _ _ _ sc _ _ _=>sc
 |_=>{kind:=.function,names:=[],isGenerator:=false,isCoroutine:=false}
abbrev AO:E1:=fun _ _ _ _ _ _=>False
abbrev E0:XK:=fun _ _ _=>False
theorem Ap {X:Cx}:Gv AO X E0:=fun _ _ _ _ _ _ _ h=>h.elim
structure AN (K:Ya)(x qual:Str)(st:Stmt)(f:Addr)(fd:FuncData):Prop where
 ex:∃(oc:Value) (od:Option Addr) (kV doc pm:Value) (an:Option Addr) (cdv ct:Value) (osl:Array (Option Value)),
  fd=PySem.W.fnOf x qual (HV st) (Hi st) (Az st) .none kV doc pm an cdv ct/\K.lookup f=some ⟨oc,od,.func fd,osl⟩/\PySem.W.codeIn K cdv qual=true
 kp:PySem.W.keepIn K (.ref f)=true
section
variable {P:Program}{w:World}{K:Ya}{mg:Str->Option Value}{base:Heap}
theorem AN.ok {x qual:Str}{st:Stmt}{f:Addr}{fd:FuncData}{N ps:List Str}{k:Nat}{sp:Sp}(F:AN K x qual st f fd)(S:AR N ps (Az st))(len:∀vs H Q E,sp vs H Q E->vs.length=ps.length)
  (hbody:∀(cdv:Value) (A:Around) (outer:List Env) (s:Shared) (H:Hp) (vs:List V) (Q:VK) (E:XK),Ci k (A.deeper (envOfC qual (Az st) s.heap.objs.size f cdv))->sp vs H Q E->
   ∃t,DL (Hn AO P w K mg base N qual (Az st) f cdv A outer s H E).nox (Hi st) t/\t {nx:=fun _ H'=>Q .non H',rt:=Q} (start N vs) H):AI P w K mg base AO (k+1) f fd ps sp:=by
 obtain⟨oc,od,kV,doc,pm,an,cdv,ct,osl,rfl,lk,hcd⟩:=F.ex
 refine X5 lk hcd S len fun A outer s H vs Q E hr hsp=>?_
 obtain⟨t,h,q⟩:=hbody cdv A outer s H vs Q E hr hsp
 exact⟨t,h.nox,q⟩
theorem AN.binds {x qual:Str}{st:Stmt}{f:Addr}{fd:FuncData}{ps:List Str}(F:AN K x qual st f fd)
  (h:∀(kV doc pm:Value) (an:Option Addr) (cdv ct:Value) (us:List Value),us.length=ps.length->bindArgs (PySem.W.fnOf x qual (HV st) (Hi st) (Az st) .none kV doc pm an cdv ct) ⟨us,[]⟩=pure (ps.zip us)):AL K fd ps []:=by
 obtain⟨oc,od,kV,doc,pm,an,cdv,ct,osl,rfl,lk,hcd⟩:=F.ex
 exact .all (h kV doc pm an cdv ct)
theorem fun_mk {x qual:Str}{st:Stmt}{f:Addr}{oc:Value}{od an:Option Addr}{osl:Array (Option Value)}{kV doc pm cdv ct:Value}(l:K.lookup f=some ⟨oc,od,.func (PySem.W.fnOf x qual (HV st) (Hi st) (Az st) .none kV doc pm an cdv ct),osl⟩)
 (c:PySem.W.codeIn K cdv qual=true) (k:PySem.W.keepIn K (.ref f)=true):AN K x qual st f (PySem.W.fnOf x qual (HV st) (Hi st) (Az st) .none kV doc pm an cdv ct):=⟨⟨oc,od,kV,doc,pm,an,cdv,ct,osl,rfl,l,c⟩,k⟩
end
section
variable {X:Cx}
theorem pv (i:Nat){x:Str}{pos:Pos}(hN:X.N[i]?=some x:=by rfl)(hv:Il X.env.scope x:=by first|exact Or.inl rfl|exact Or.inr (.inl rfl)|exact Or.inr (.inr rfl))(hd:(x==("__debug__":Str))=false:=by decide)
 (hcd:(x==("__classdict__":Str))=false:=by decide):PE X (.Name x pos) (EE i):=Ss hN hv hd hcd
end
theorem Ay {A B:Prop}(h:B):if false=true then A else B:=by
 rw[Ab BQ]
 exact h
theorem Bm {A B:Prop}(h:A):if true=true then A else B:=by
 rw[Af rfl]
 exact h
theorem AF {c A B:Prop}[Decidable c](h1:c->A)(h2:¬c->B):if c then A else B:=by
 by_cases h:c
 .rw[Af h]
  exact h1 h
 .rw[Ab h]
  exact h2 h
def A7 (H H':Hp):Prop := ∀b o,H b=some o->H' b=some o
theorem A7.refl (H:Hp):A7 H H:=fun _ _ h=>h
theorem A7.trans {H H1 H2:Hp}(a:A7 H H1)(b:A7 H1 H2):A7 H H2:=fun c o h=>b c o (a c o h)
theorem A7.free {H H':Hp}(e:A7 H H'){l:Addr}(h:H' l=Option.none):H l=Option.none:=by
 cases q:H l with
 |none=>rfl
 |
  some o=>
  rw[e l o q]at h
  cases h
theorem A7.seq {K:Ya}{H H':Hp}{a:Addr}{xs:List V}(e:A7 H H')(h:A3 K H a xs):A3 K H' a xs:=by
 rcases h with(h|⟨o,h⟩)|h
 .exact .inl (.inl (e _ _ h))
 .exact .inl (.inr ⟨o,e _ _ h⟩)
 .exact .inr h
section
variable {κ:Type}[DecidableEq κ]
end
theorem Mr (env:Env):∀(l:List (Str×NameKind)) (cs:List (Str×Addr)),(∀n,(n,NameKind.free)∈l->∃c,env.cells.lookup n=some c)->(∀x c,cs.lookup x=some c->env.cells.lookup x=some c)->
  ∃cl,(forIn l cs fun x s=>if(x.snd==NameKind.free)=true then do let c ←cellOf env x.fst;pure (ForInStep.yield ((x.fst,c)::s)) else pure (ForInStep.yield s))=(pure cl:Sem (List (Str×Addr)))/\
   (∀x c,cl.lookup x=some c->env.cells.lookup x=some c)/\(∀n,(n,NameKind.free)∈l->∃c,cl.lookup n=some c)/\∀n c,cs.lookup n=some c->∃c',cl.lookup n=some c'
 |[],cs,_,h=>⟨cs,rfl,h,(fun _ z=>nomatch z),(fun n c e=>⟨c,e⟩)⟩
 |
  (n,k)::r,cs,hf,h=>by
  by_cases hk:k = .free
  .subst hk
   obtain⟨c,hc⟩:=hf n AA
   have e:cellOf env n=pure c:=by unfold cellOf;rw[hc]
   obtain⟨cl,e1,h1,h2,h3⟩:=Mr env r ((n,c)::cs) (fun m hm=>hf m (B8 _ hm)) (fun x c' q=>by
    rw[FX]at q
    by_cases hx:x=n
    .subst hx;simp at q;subst q;exact hc
    .have:(x==n)=false:=by simpa using hx
     rw[this]at q;exact h x c' q)
   refine⟨cl,?_,h1,fun m hm=>?_,fun m c' q=>?_⟩
   .rw[List.forIn_cons]
    show((do let c ←cellOf env n;pure (ForInStep.yield ((n,c)::cs)))>>=_)=_
    rw[e]
    exact e1
   .rcases AG.mp hm with z|z
    .cases z;exact h3 n c (by simp)
    .exact h2 m z
   .by_cases hx:m=n
    .subst hx;exact h3 m c (by simp)
    .have:(m==n)=false:=by simpa using hx
     exact h3 m c' (by rw[FX,this];exact q)
  .have hb:(k==NameKind.free)=false:=by simpa using hk
   obtain⟨cl,e1,h1,h2,h3⟩:=Mr env r cs (fun m hm=>hf m (B8 _ hm)) h
   refine⟨cl,?_,h1,fun m hm=>?_,h3⟩
   .rw[List.forIn_cons]
    dsimp only
    rw[hb]
    exact e1
   .rcases AG.mp hm with z|z
    .cases z;exact absurd rfl hk
    .exact h2 m z
theorem OI {scope:Scope}{env:Env}(h:∀n,(n,NameKind.free)∈scope.names->∃c,env.cells.lookup n=some c) :
  ∃cl,closureFor scope env=pure cl/\(∀x c,cl.lookup x=some c->env.cells.lookup x=some c)/\∀n,(n,NameKind.free)∈scope.names->∃c,cl.lookup n=some c:=by
 obtain⟨cl,e,h1,h2,_⟩:=Mr env scope.names [] h (fun _ _ z=>by simp at z)
 refine⟨cl,?_,h1,h2⟩
 simp only[closureFor]
 rw[e]
 rfl
def CS (X:Cx)(scope:Scope)(N':List Str)(cl:List (Str×Addr))(C:Addr)(s:Shared)(H:Hp)(fp:List Addr)(pins:List (Addr×Obj)):Cx where
 prog:=X.prog
 w:=X.w
 K:=X.K
 mg:=X.mg
 base:=X.base
 A:=X.A
 N:=N'
 s₀:=s
 H₀:=H
 env:=compEnvC scope cl C X.env
 outer:=X.stack
 stack:=X.stack
 ex:=fp
 calm:=X.calm
 fn:=fun _=>false
 pn:=X.pn++pins
 xe:=fun _ _=>False
structure Hl (sc:Scope)(out:Scope):Prop where
 kind:sc.kind = .function
 cell:∀y∈sc.names,y.2≠.cell
 loc:∀y∈sc.names,y.2 = .local->sc.names.lookup y.1=some .local
 free:∀y∈sc.names,y.2 = .free->out.names.lookup y.1=some .cell\/out.names.lookup y.1=some .free
def BL (ρ:List (Option Nat))(σ:St):St:=ρ.map fun o=>match o with|some i=>(σ[i]?).getD none|none=>none
def Im (sc:Scope)(env:Env)(N N':List Str)(ρ:List (Option Nat)):Prop:=
 ρ.length=N'.length/\∀(j i:Nat) (x:Str),ρ[j]?=some (some i)->N'[j]?=some x->N[i]?=some x/\Il env.scope x/\(x,NameKind.free)∈sc.names
theorem NA {names:List (Str×NameKind)}{env:Env}{x:Str}{k:NameKind}(h:(names.map fun(n,k)=>if(k==NameKind.free&&env.scope.kind == .function&&env.kindOf n==some .cell) then(n,NameKind.cell) else(n,k)).lookup x=some k)
  (hk:k = .cell\/k = .free) (hc:∀y∈names,y.2≠.cell):(x,NameKind.free)∈names:=by
 induction names with
 |nil=>simp at h
 |
  cons p r ih=>
  obtain⟨n,k'⟩:=p
  by_cases hx:x=n
  .subst hx
   have hk':k' = .free:=by
    by_cases hc':(k'==NameKind.free&&env.scope.kind == .function&&env.kindOf x==some .cell)=true
    .simp only[GC,E9]at hc'
     exact hc'.1.1
    .simp only[BN]at h
     rw[Ab hc']at h
     simp at h
     subst h
     rcases hk with z|z
     .exact absurd z (hc (x,k') AA)
     .exact z
   rw[hk'];exact AA
  .have hb:(x==n)=false:=by simpa using hx
   refine B8 _ (ih ?_ fun y hy=>hc y (B8 _ hy))
   simp only[BN]at h
   by_cases hc':(k'==NameKind.free&&env.scope.kind == .function&&env.kindOf n==some .cell)=true
   .rw[Af hc',FX,hb]at h;exact h
   .rw[Ab hc',FX,hb]at h;exact h
theorem Xt:∀{names:List (Str×NameKind)} {env:Env} {x:Str},(x,NameKind.free)∈names->(names.map fun(n,k)=>if(k==NameKind.free&&env.scope.kind == .function&&env.kindOf n==some .cell) then(n,NameKind.cell) else(n,k)).lookup x=some .cell\/
  (names.map fun(n,k)=>if(k==NameKind.free&&env.scope.kind == .function&&env.kindOf n==some .cell) then(n,NameKind.cell) else(n,k)).lookup x=some .free\/names.lookup x≠some .free:=by
 intro names env x hm
 by_cases hl:names.lookup x=some .free
 .induction names with
  |nil=>simp at hl
  |
   cons p r ih=>
   obtain⟨n,k'⟩:=p
   by_cases hx:x=n
   .subst hx
    simp at hl
    subst hl
    by_cases hc':(NameKind.free==NameKind.free&&env.scope.kind == .function&&env.kindOf x==some .cell)=true
    .left;simp only[BN];rw[Af hc'];simp
    .right;left;simp only[BN];rw[Ab hc'];simp
   .have hb:(x==n)=false:=by simpa using hx
    rw[FX,hb]at hl
    have hm':(x,NameKind.free)∈r:=by
     rcases AG.mp hm with z|z
     .cases z;exact absurd rfl hx
     .exact z
    have q:=ih hm' hl
    simp only[BN]
    by_cases hc':(k'==NameKind.free&&env.scope.kind == .function&&env.kindOf n==some .cell)=true
    .rw[Af hc',FX,hb,FX,hb];exact q
    .rw[Ab hc',FX,hb,FX,hb];exact q
 .exact .inr (.inr hl)
section
variable {X:Cx}{pins:List (Addr×Obj)}{σ:St}{H:Hp}{s:Shared}{scope:Scope}{N':List Str}{ρ:List (Option Nat)}{cl:List (Str×Addr)}{fp:List Addr}{C D:Addr}
theorem T7 (I:A5 X pins σ H s)(S:Hl scope X.env.scope)(hf:∀b∈fp,Ei X pins H b)(h1:∀x c,cl.lookup x=some c->X.env.cells.lookup x=some c)(h2:∀n,(n,NameKind.free)∈scope.names->∃c,cl.lookup n=some c)
  (hC:s.heap.objs.size<=C) (hfs:∀b∈fp,b<s.heap.objs.size):(CS X scope N' cl C s H fp pins).Ok where
 mod:=I.ok.mod
 kind:=S.kind
 glob:=I.ok.glob
 blt:=I.ok.blt
 above:=hC
 inj:=fun x y c e1 e2=>I.ok.inj x y c (h1 x c e1) (h1 y c e2)
 has:=fun x hk=>h2 x (by
  rcases hk with hk|hk
  .exact NA (env:=X.env) hk (.inl rfl) S.cell
  .exact NA (env:=X.env) hk (.inr rfl) S.cell)
 cab:=fun _ _ z=>nomatch z
 hd:=I.ok.hd
 frames:=I.ok.frames
 stk:=.inl rfl
 exf:=fun b hb=>⟨Co (CY (hfs b hb) hC),fun x c e=>(hf b hb).2.2.2.2.1 x c (h1 x c e)⟩
 bs:=I.bs
 bsz:=BI I.ok.bsz I.sz
 noex:=fun b o e hb=>by
  rcases(hf b hb).2.2.2.1 with z|z
  .exact I.ok.noex b o e z
  .exact absurd (CY (CY (BA e) I.ok.bsz) z) (EJ _)
 exfs:=fun b hb z=>by
  rcases AG.mp (I.stkSub b z) with q|q
  .exact(hf b hb).2.1 q
  .exact(hf b hb).2.2.1 q
 funs:=I.stack
 frf:=I.stkFree
theorem UG {h₁:Heap}{tk:Nat}(I:A5 X pins σ H s)(S:Hl scope X.env.scope)(hρ:Im scope X.env X.N N' ρ)(hf:∀b∈fp,Ei X pins H b)(h1:∀x c,cl.lookup x=some c->X.env.cells.lookup x=some c)
  (h2:∀n,(n,NameKind.free)∈scope.names->∃c,cl.lookup n=some c) (hC:s.heap.objs.size<=C) (hfs:∀b∈fp,b<s.heap.objs.size) (hn:h₁.Ns C (fun _=>none)) (hk:∀b o,s.heap.get? b=some o->h₁.get? b=some o)
  (hl:∀x,(x,NameKind.free)∈scope.names->scope.names.lookup x=some .free) :
  A5 (CS X scope N' cl C s H fp pins) [] (BL ρ σ) H {s with heap:=h₁,toks:=tk} where
 ok:=T7 I S hf h1 h2 hC hfs
 os:=rfl
 bare:=I.bare
 base:=Un.kept hk
 loc:=by
  refine⟨_,hn,fun j x v e1 e2 hv=>?_⟩
  obtain⟨m,hm,hl'⟩:=I.loc
  unfold BL at e2
  rw[Dm]at e2
  cases hr:ρ[j]? with
  |none=>rw[hr]at e2;simp at e2
  |
   some o=>
   cases o with
   |none=>rw[hr]at e2;simp at e2
   |
    some i=>
    rw[hr]at e2
    obtain⟨q1,q2,q3⟩:=hρ.2 j i x hr e1
    have e3:σ[i]?=some (some v):=by
     cases hσ:σ[i]? with
     |none=>simp[hσ]at e2
     |some z=>simp[hσ]at e2;rw[e2]
    obtain⟨u,r,lk⟩:=hl' i x v q1 e3 q2
    refine⟨u,r,?_⟩
    obtain⟨c,hc⟩:=h2 x q3
    have hkind:(relabel scope X.env).names.lookup x=some .cell\/(relabel scope X.env).names.lookup x=some .free:=by
     rcases Xt (env:=X.env) q3 with z|z|z
     .exact .inl z
     .exact .inr z
     .exact absurd (hl x q3) z
    refine .inr ⟨hkind,c,hc,?_⟩
    rcases lk with⟨k,_⟩|⟨_,c',e',z⟩
    .rcases S.free (x,.free) q3 rfl with z|z
     .have k':X.env.scope.names.lookup x=some .local:=k
      rw[z]at k';cases k'
     .have k':X.env.scope.names.lookup x=some .local:=k
      rw[z]at k';cases k'
    .have:=h1 x c hc
     rw[e']at this;cases this
     obtain⟨o,ho,hd⟩:=z
     exact⟨o,hk _ _ ho,hd⟩
 cell:=fun x c e=>by
  obtain⟨v,o,ho,hd⟩:=I.cell x c (h1 x c e)
  exact⟨v,o,hk _ _ ho,hd⟩
 free:=I.hok.fresh hC
 freeC:=fun x c e=>I.freeC x c (h1 x c e)
 pin:=fun p hp=>by
  have hp':p∈X.pn++pins:=by simpa[CS] using hp
  obtain⟨e,n,ne,nf,d⟩:=I.pin p hp'
  refine⟨hk _ _ e,n,Co (CY (BA e) hC),fun z=>?_,d⟩
  rcases AG.mp (I.stkSub p.1 z) with q|q
  .exact ne q
  .exact nf q
 hok:=I.hok.kept hk
 len:=by
  show(BL ρ σ).length=N'.length
  unfold BL
  rw[An];exact hρ.1
end
theorem BF.track {P:Program}{w:World}{H:Hp}{h:Heap}{D:Addr}{o:HO}(x:BF P w H h)(n:H D=none)(new:BV P w (upd H D o) h D o):BF P w (upd H D o) h:=fun b u e=>by
 by_cases hb:b=D
 .subst hb;rw[A6]at e;cases e;exact new
 .rw[A8 hb]at e
  exact(x b u e).stay (fun c v _ q=>q) (fun c q=>by rw[A8 (AC q n)];exact q) fun c xs q=>by rw[A8 (AC q n)];exact q
section
variable {prog:Program}{w:World}{A:Around}{R:Result->Shared->Prop}{s:Shared}
theorem Sa {elt target iter:Expr}{ifs:List Expr}{scope:Scope}{pos:Pos}{it acc:Value}{env:Env}(I:Nat->Shared->Prop)
  (turn:∀n s,I n s->wpAny (model prog w) A (pyNext it) (fun r s₁=>match r with
   |none=>R (.ok .next) s₁
   |some v=>wpAny (model prog w) A (letOwnedTupleGo target it v) (fun _ s₁'=>wpAny (model prog w) A (assign target env v) (fun _ s₂=>
    wpAny (model prog w) A (forIn ifs true fun c r=>if r=true then do let ok ←isTrue c env (eval c env);pure (ForInStep.yield ok) else pure (ForInStep.yield r)) (fun ok s₃=>
     if ok=true then wpAny (model prog w) A (eval elt env) (fun x s₄=>
      wpAny (model prog w) A (call (.builtin "list.append") [acc,x]) (fun _ s₅=>∃m,m<n/\I m s₅) (fun _ _=>False) s₄) (fun _ _=>False) s₃
     else ∃m,m<n/\I m s₃) (fun _ _=>False) s₂) (fun _ _=>False) s₁') (fun _ _=>False) s₁) (fun _ _=>False) s)
  (n:Nat) (h:I n s) :
  codeAny (model prog w) A (.compLoop (.ListComp elt [⟨target,iter,ifs,0⟩] scope pos) 0 it acc env) R s:=by
 refine codeAny_loop rfl I (fun n s hI=>?_) n h
 show wpAny _ A ((compTurn (.ListComp elt [⟨target,iter,ifs,0⟩] scope pos) 0 it acc env).onRaise (fun x=>do noteFrame x env;theTreesLotGoes x)) _ _ s
 refine wpAny_noted ?_
 rw[compTurn_list]
 refine B7 (wpAny_standAt (B7 (DW (turn n s hI) (fun r s₁ h₁=>?_) fun _ _ h'=>h'.elim)))
 cases r with
 |none=>exact Ca h₁
 |
  some v=>
  refine B7 (DW h₁ (fun _ s₁' h₁=>?_) fun _ _ h'=>h'.elim)
  refine B7 (DW h₁ (fun _ s₂ h₂=>B7 (DW h₂ (fun ok s₃ h₃=>?_) fun _ _ h'=>h'.elim)) fun _ _ h'=>h'.elim)
  cases ok with
  |false=>exact Ca ⟨rfl,h₃⟩
  |
   true=>
   exact B7 (B7 (DW h₃ (fun x s₄ h₄=>B7 (DW h₄ (fun _ s₅ h₅=>Ca (Ca ⟨rfl,h₅⟩)) fun _ _ h'=>h'.elim)) fun _ _ h'=>h'.elim))
end
def Gc (X:Cx)(ifs:List Expr)(t:TT):Prop:=
 ∀(pins:List (Addr×Obj)) (s:Shared) (σ:St) (H:Hp) (Q:Bool->Hp->Prop),A5 X pins σ H s->t σ H Q->
  wpAny (model X.prog X.w) X.A (forIn ifs true fun c r=>if r=true then do let ok ←isTrue c X.env (eval c X.env);pure (ForInStep.yield ok) else pure (ForInStep.yield r)) (TP X pins σ Q) X.xe s
def Ui:TT:=fun _ H Q=>Q true H
theorem Eh {X:Cx}:Gc X [] Ui:=fun _ _ _ H _ I h=>wpAny_tests_nil ⟨H,I,h⟩
theorem OM {X:Cx}{c:Expr}{t:TT}(h:PT X c t):Gc X [c] t:=fun pins s σ H Q I hw=>wpAny_tests_one (h pins s σ H Q I hw)
def KE (ρ:List (Option Nat))(σ σ2:St):Prop:=σ2.length=ρ.length/\∀(j:Nat) v,(BL ρ σ)[j]?=some (some v)->σ2[j]?=some (some v)
def Ga (ρ:List (Option Nat))(g:TG)(tt:TT)(te:TE)(σ:St)(Q:VK)(J:It)(H1:Hp):Prop := ∃W:Nat->Nat->List V->Hp->Prop,(∃m,W 0 m [] H1)/\∀i m ys H',W i m ys H'->
 (J.stop i H'/\ys.length<=sizeLine/\∀p,H' p=none->Q (.ref p) (upd H' p (.lst ys)))\/
 (J.go i H'/\ys.length<sizeLine/\∃N:List V->Hp->Prop,(∀ys' H'',N ys' H''->∃m',m'<m/\W (i+1) m' ys' H'')/\∀x H2,J.yld i H' x H2->g x (BL ρ σ) H2 fun σ2 H3=>KE ρ σ σ2/\tt σ2 H3 fun ok H4=>if ok=true then te σ2 H4 fun v H5=>N (ys++[v]) H5 else N ys H4)
def GS (ρ:List (Option Nat))(wi:TI)(g:TG)(tt:TT)(te:TE):TE:=fun σ H Q=>wi σ H fun J H1=>Ga ρ g tt te σ Q J H1
theorem NF {X:Cx}{elt iter tg:Expr}{ifs:List Expr}{scope:Scope}{pos:Pos}{N':List Str}{ρ:List (Option Nat)}{wi:TI}{g:TG}{tt:TT}{te:TE}{cl:List (Str×Addr)}{RR:Value->Addr->Result->Shared->Prop}(hc:X.calm=true)(hi:PI X tg iter wi)(S:Hl scope X.env.scope)(hρ:Im scope X.env X.N N' ρ)
  (hl:∀x,(x,NameKind.free)∈scope.names->scope.names.lookup x=some .free)
  (inner:∀(cl:List (Str×Addr)) (C:Addr) (s:Shared) (H:Hp) (fp:List Addr) (pins:List (Addr×Obj)),PG (CS X scope N' cl C s H fp pins) tg g/\Gc (CS X scope N' cl C s H fp pins) ifs tt/\PE (CS X scope N' cl C s H fp pins) elt te)
  {pins:List (Addr×Obj)} {s:Shared} {σ:St} {H:Hp} {Q:VK} (I:A5 X pins σ H s) (h:GS ρ wi g tt te σ H Q)
  (h1:∀x c,cl.lookup x=some c->X.env.cells.lookup x=some c) (h2:∀n,(n,NameKind.free)∈scope.names->∃c,cl.lookup n=some c)
  (fin:∀D C s' H' m,A5 X pins σ H' s'->Q (.ref D) H'->s'.heap.Ns C m->Ei X pins H' C->RR (.ref D) C (.ok .next) s') :
  wpAny (model X.prog X.w) X.A (eval iter X.env) (fun x s₁=>wpAny (model X.prog X.w) X.A (pyIter x) (fun it s₂=>wpAny (model X.prog X.w) X.A (newList []) (fun acc s₃=>
   wpAny (model X.prog X.w) X.A (newFunctionEnv scope X.env.globals cl [] X.env.qual none .none (some X.env)) (fun cenv s₄=>
    codeAny (model X.prog X.w) X.A (.compStart (.ListComp elt [⟨tg,iter,ifs,0⟩] scope pos) 0 it acc {cenv with scope:=relabel scope X.env}) (RR acc cenv.locals) s₄) X.xe s₃) X.xe s₂) X.xe s₁) X.xe s:=by
 refine Ao (hi pins s σ H _ I h) fun v s1 h1'=>Ao h1' fun itv s2 hx=>?_
 obtain⟨it,fp,tn,J,H2,e,I2,T,st2,f2,W,⟨m0,w0⟩,turn⟩:=hx
 subst e
 have hfs:∀b∈fp,b<s2.heap.objs.size:=fun b hb=>by
  obtain⟨o,e,_⟩:=T.obj _ _ st2 b hb
  exact BA e
 refine wpAny_newObj_type (wpAny_newFunctionEnv S.cell (by intro y hy;simp at hy) (fun h₁ hns₁ hsb₁=>?_) S.kind)
 dsimp only at hns₁ hsb₁ ⊢
 generalize hH2:s2.heap.push {cls:=.type "list",dict:=none,data:=.seq ([]:List Value).toArray}=G at hns₁ hsb₁ ⊢
 have hC:G.objs.size=s2.heap.objs.size+1:=by rw[←hH2,Ht]
 have hDC:s2.heap.objs.size≠G.objs.size:=by rw[hC];exact Co (IK _)
 have hCle:s2.heap.objs.size<=G.objs.size:=by rw[hC];exact Hu _
 have old:∀b o,s2.heap.get? b=some o->h₁.get? b=some o:=fun b o e=>hsb₁.extBut b o (Co (CY (BA e) hCle)) (BR _ (hH2▸BR _ e))
 have hacc:h₁.get? s2.heap.objs.size=some {cls:=.type "list",dict:=none,data:=.seq ([]:List Value).toArray}:=hsb₁.extBut _ _ hDC (BR _ (hH2▸Dl _ rfl))
 have hns₂:h₁.Ns G.objs.size (fun _=>none):=hns₁
 generalize hXX:CS X scope N' cl G.objs.size s2 H2 fp pins=XX at *
 have IN:∀(tk:Nat),A5 XX [] (BL ρ σ) H2 {s2 with heap:=h₁,toks:=tk}:=fun tk=>hXX▸UG (N':=N') I2 S hρ f2 h1 h2 hCle hfs hns₂ old hl
 obtain⟨pg,pt,pe⟩:=inner cl G.objs.size s2 H2 fp pins
 rw[hXX]at pg pt pe
 have eP:XX.prog=X.prog:=by rw[←hXX];rfl
 have eW:XX.w=X.w:=by rw[←hXX];rfl
 have eK:XX.K=X.K:=by rw[←hXX];rfl
 have eA:XX.A=X.A:=by rw[←hXX];rfl
 have eE:XX.env=compEnvC scope cl G.objs.size X.env:=by rw[←hXX];rfl
 have eL:XX.env.locals=G.objs.size:=by rw[eE];rfl
 have ec:XX.calm=true:=by rw[←hXX];exact hc
 have ex:XX.xe=fun _ _=>False:=by rw[←hXX];rfl
 have es0:XX.s₀=s2:=by rw[←hXX];rfl
 have eex:XX.ex=fp:=by rw[←hXX];rfl
 have efs:XX.fs=E8 X.stack:=by rw[←hXX];rfl
 have eH0:XX.H₀=H2:=by rw[←hXX];rfl
 have epn:XX.pn=X.pn++pins:=by rw[←hXX];rfl
 have ecl:XX.env.cells=cl:=by rw[eE];rfl
 have stat:∀{H':Hp} {ps:List (Addr×Obj)},(∀b∈fp,H' b=none)->(∀p∈ps,p.1=s2.heap.objs.size)->∀b∈fp,Ei XX ps H' b:=fun{H' ps} hn hp b hb=>by
  refine⟨hn b hb,?_,?_,?_,?_,?_⟩
  .rw[eL];exact Co (CY (hfs b hb) hCle)
  .rw[efs]
   intro z
   rcases AG.mp (I2.stkSub b z) with q|q
   .exact(f2 b hb).2.1 q
   .exact(f2 b hb).2.2.1 q
  .rw[eex];exact .inl hb
  .rw[ecl];exact fun x c e=>(f2 b hb).2.2.2.2.1 x c (h1 x c e)
  .intro p hp' z
   rw[epn]at hp'
   rcases Bl.mp hp' with q|q
   .exact(f2 b hb).2.2.2.2.2 p q z
   .rw[hp p q]at z
    exact absurd (hfs b hb) (by rw[z];exact EJ _)
 have nofsD:s2.heap.objs.size∉XX.fs:=by
  rw[efs];intro z
  rcases AG.mp (I2.stkSub _ z) with q|q
  .exact absurd I2.lt (by rw[←q];exact EJ _)
  .exact I2.nofs (Aj _) q
 have pinD:∀{σ':St} {H':Hp} {s':Shared} {its:List Value} {n:Nat},A5 XX [] σ' H' s'->H' s2.heap.objs.size=none->s'.heap.get? s2.heap.objs.size=some {cls:=.type "list",data:=.seq its.toArray n}->
   A5 XX [(s2.heap.objs.size,{cls:=.type "list",data:=.seq its.toArray n})] σ' H' s':=fun{σ' H' s' its n} I' hn ho=>I'.pins_of fun p hp=>by
  have e:p=(s2.heap.objs.size,{cls:=.type "list",data:=.seq its.toArray n}):=by simpa using hp
  subst e
  refine⟨ho,hn,by rw[eL];exact hDC,nofsD,fun v z=>?_⟩
  have z':Data.seq its.toArray n=Data.cell v:=z
  cases z'
 have loop:∀s₃:Shared,(∃tk,s₃={s2 with heap:=h₁,toks:=tk})->
   codeAny (model X.prog X.w) X.A (.compLoop (.ListComp elt [⟨tg,iter,ifs,0⟩] scope pos) 0 (.ref it) (.ref s2.heap.objs.size) (compEnvC scope cl G.objs.size X.env)) (RR (.ref s2.heap.objs.size) G.objs.size) s₃:=by
  rintro s₃ ⟨tk,rfl⟩
  refine Sa (fun n s'=>∃i ys its k H',A5 XX [] (BL ρ σ) H' s'/\tn i s'.heap/\(∀b∈fp,H' b=none)/\H' s2.heap.objs.size=none/\AD ys its/\
   s'.heap.get? s2.heap.objs.size=some {cls:=.type "list",data:=.seq its.toArray k}/\W i n ys H') ?_ m0
   ⟨0,[],[],0,H2,IN tk,T.keep _ _ _ st2 fun b _ o e=>old b o e,fun b hb=>(f2 b hb).1,I2.hok.fresh (Aj _),.nil,hacc,w0⟩
  rintro n s3 ⟨i,ys,its,k,H3,I3,st3,fr3,hD3,rv,ho3,w3⟩
  rcases turn i n ys H3 w3 with⟨stop,hz,qn⟩|⟨go,hz,N,hN,step⟩
  .have I3p:=pinD I3 hD3 ho3
   have q:=T.done XX eP eW eK ec i _ s3 (BL ρ σ) H3 (fun _ _=>False) I3p (stat fr3 (by simp)) st3 stop
   rw[eA]at q
   refine Ao q fun r s4 zz=>?_
   obtain⟨hr,I4⟩:=zz
   subst hr
   have ho4:=(I4.pin (s2.heap.objs.size,{cls:=.type "list",data:=.seq its.toArray k}) (by simp)).1
   obtain⟨m,hm,_⟩:=I4.loc
   rw[eL]at hm
   have hun:Un (E8 X.stack) fp H2 (upd H3 s2.heap.objs.size (.lst ys)) s2.heap s4.heap:=by
    have u:=I4.base
    rw[efs,eex,eH0,es0]at u
    refine⟨u.keep,u.slot,fun b o e n hx=>?_,u.there,fun b xs e=>?_,fun b o xs e=>?_,fun b ps e=>?_⟩
    .rw[A8 (Co (BA e))];exact u.free b o e n hx
    .have q:=u.tups b xs e
     rw[A8 (AC q hD3)];exact q
    .have q:=u.frzs b o xs e
     rw[A8 (AC q hD3)];exact q
    .obtain⟨more,q⟩:=u.tbls b ps e
     exact⟨more,by rw[A8 (AC q hD3)];exact q⟩
   have hok:BF X.prog X.w (upd H3 s2.heap.objs.size (.lst ys)) s4.heap:=by
    have q:=I4.hok
    rw[eP,eW]at q
    exact q.track hD3 ⟨hz,its,k,rv,ho4⟩
   have hfr:∀b∈fp,(b∈X.ex\/X.s₀.heap.objs.size<=b)/\b≠X.env.locals/\(∀x c,X.env.cells.lookup x=some c->c≠b)/\∀p∈X.pn++pins,p.1≠b:=fun b hb=>⟨(f2 b hb).2.2.2.1,(f2 b hb).2.1,(f2 b hb).2.2.2.2.1,(f2 b hb).2.2.2.2.2⟩
   have IO:A5 X pins σ (upd H3 s2.heap.objs.size (.lst ys)) s4:=I2.call' (by have:=I4.os;rw[es0]at this;exact this) hun hok I4.bare hfr
   refine fin _ _ s4 _ m IO (qn _ hD3) hm (I2.fpOk hCle ?_)
   rw[A8 (Ne.symm hDC)]
   have:=I4.free
   rw[eL]at this
   exact this
  .have I3p:=pinD I3 hD3 ho3
   have q:=T.item XX eP eW eK ec i _ s3 (BL ρ σ) H3 (fun _ _=>False) I3p (stat fr3 (by simp)) st3 go
   rw[eA]at q
   refine Ao q fun r s4 zz=>?_
   obtain⟨u,hr,h4⟩:=zz
   subst hr
   refine Ao h4 fun _ s5 zz=>?_
   obtain⟨x,H5,I5,r5,y5,st5,fr5⟩:=zz
   have I5':=I5.pinned (stat fr5 (by simp)) (T.obj _ _ st5)
   have qa:=pg _ s5 (BL ρ σ) H5 x u _ I5' r5 (step x H5 y5)
   rw[eP,eW,eA,eE,ex]at qa
   refine Ao qa fun _ s6 zz=>?_
   obtain⟨σ6,H6,I6,⟨ou1,ou2⟩,q6⟩:=zz
   have hw6:(BL ρ σ).length=σ6.length:=by rw[ou1];unfold BL;rw[An]
   have qt:=pt _ s6 σ6 H6 _ I6 q6
   rw[eP,eW,eA,eE,ex]at qt
   refine Ao qt fun ok s7 zz=>?_
   obtain⟨H7,I7,q7⟩:=zz
   have back:∀{s8:Shared} {H8:Hp},A5 XX ([(s2.heap.objs.size,{cls:=.type "list",data:=.seq its.toArray k})]++GX fp s5.heap) σ6 H8 s8->tn (i+1) s8.heap/\(∀b∈fp,H8 b=none)/\H8 s2.heap.objs.size=none/\
     s8.heap.get? s2.heap.objs.size=some {cls:=.type "list",data:=.seq its.toArray k}:=fun{s8 H8} I8=>by
    refine⟨T.keep _ _ _ st5 fun b hb o e=>(I8.pin (b,o) (Cp _ (Cp _ (IH hb e)))).1,fun b hb=>?_,?_,?_⟩
    .obtain⟨o,e,d⟩:=T.obj _ _ st5 b hb
     exact(I8.pin (b,o) (Cp _ (Cp _ (IH hb e)))).2.1
    .exact(I8.pin (s2.heap.objs.size,{cls:=.type "list",data:=.seq its.toArray k}) (by simp)).2.1
    .exact(I8.pin (s2.heap.objs.size,{cls:=.type "list",data:=.seq its.toArray k}) (by simp)).1
   cases ok with
   |
    false=>
    obtain⟨m',hm,w7⟩:=hN _ _ q7
    obtain⟨b1,b2,b3,b4⟩:=back I7
    exact⟨m',hm,i+1,ys,its,k,H7,(I7.pins_of (pins':=[]) (fun _ z=>nomatch z)).weak hw6 ou2,b1,b2,b3,rv,b4,w7⟩
   |
    true=>
    have qe:=pe _ s7 σ6 H7 _ I7 q7
    rw[eP,eW,eA,eE,ex]at qe
    refine Ao qe fun y s8 zz=>?_
    obtain⟨v8,H8,I8,r8,n8⟩:=zz
    obtain⟨m',hm,w8⟩:=hN _ _ n8
    obtain⟨b1,b2,b3,b4⟩:=back I8
    have hlen:=rv.length
    refine GF F.slot_list_append ⟨_,b4,rfl⟩ F.entry_list_append (F.args_list_append_2 _ _) (PySem.list_append s2.heap.objs.size its.toArray k y (by rw[By];omega)) ⟨b4,?_⟩
    have qL:=PySem.IsL.update b4 (fun xs=>xs.push y)
    have I8':A5 XX [] σ6 H8 s8:=I8.pins_of (fun _ z=>nomatch z)
    have I9:A5 XX [] σ6 H8 {s8 with heap:=s8.heap.update s2.heap.objs.size (Obj.mapSeq fun xs=>xs.push y),toks:=s8.toks}:=I8'.turned (it:=s2.heap.objs.size) (fun b o hb e=>(MS s8.heap _ (Ne.symm hb)).trans e) b3
     (by rw[eL];exact hDC) (.inr (by rw[es0];exact Aj _)) (by
      rw[ecl];intro x c e z
      obtain⟨v,qc⟩:=I2.cell x c (h1 x c e)
      exact absurd qc.lt (by rw[z];exact EJ _)) (by
      intro p hp z
      have hp':p∈X.pn++pins:=by rw[epn]at hp;simpa using hp
      exact absurd (BA (I2.pin p hp').1) (by rw[z];exact EJ _))
    have hnd:s2.heap.objs.size∉fp:=fun z=>EJ _ (hfs _ z)
    rw[show its.toArray.push y=(its++[y]).toArray by simp]at qL
    refine⟨m',hm,i+1,ys++[v8],its++[y],_,H8,I9.weak hw6 ou2,T.keep _ _ _ b1 fun b hb o e=>(MS s8.heap _ (by rintro rfl;exact hnd hb)).trans e,b2,b3,rv.append (.cons r8 .nil),qL,w8⟩
 refine codeAny_compStart_list (loop _ ⟨_,rfl⟩) (T.self X.A 0 _ _ _ (T.keep _ _ _ st2 fun b _ o e=>old b o e) (loop _ ⟨_,rfl⟩))
theorem Ww {X:Cx}{elt iter tg:Expr}{ifs:List Expr}{scope:Scope}{pos:Pos}(N':List Str)(ρ:List (Option Nat)){wi:TI}{g:TG}{tt:TT}{te:TE}(hc:X.calm=true)(hi:PI X tg iter wi)(S:Hl scope X.env.scope)(hρ:Im scope X.env X.N N' ρ)
  (hl:∀x,(x,NameKind.free)∈scope.names->scope.names.lookup x=some .free)
  (inner:∀(cl:List (Str×Addr)) (C:Addr) (s:Shared) (H:Hp) (fp:List Addr) (pins:List (Addr×Obj)),PG (CS X scope N' cl C s H fp pins) tg g/\Gc (CS X scope N' cl C s H fp pins) ifs tt/\PE (CS X scope N' cl C s H fp pins) elt te)
  (hs:∀x,foldedSetIterable iter X.env x=pure x:=by intro _;rfl):PE X (.ListComp elt [⟨tg,iter,ifs,0⟩] scope pos) (GS ρ wi g tt te):=by
 intro pins s σ H Q I h
 obtain⟨cl,hcl,h1,h2⟩:=OI (scope:=scope) (env:=X.env) (fun n hn=>I.ok.has n (S.free (n,.free) hn rfl))
 rw[eval_ListComp]
 refine wpAny_comprehension_free (use:=none) rfl hs hcl S.kind S.loc ?_
 refine NF (RR:=fun acc C=>compPost (model X.prog X.w) X.A X.xe none (EP X pins σ Q) acc C) hc hi S hρ hl inner I h h1 h2 ?_
 intro D C s' H' m I' q hm hf
 refine⟨m,hm,fun h' sb=>⟨.ref D,H',?_,rfl,q⟩⟩
 exact I'.turned (t':=s'.toks) (fun b o hb e=>(sb.2 b hb).trans e) hf.1 hf.2.1 hf.2.2.2.1 hf.2.2.2.2.1 hf.2.2.2.2.2
theorem Wd {X:Cx}{elt iter tg:Expr}{ifs:List Expr}{scope:Scope}{pos pos' spos:Pos}{i:Nat}{x:Str}(N':List Str)(ρ:List (Option Nat)){wi:TI}{g:TG}{tt:TT}{te:TE}(hN:X.N.Nodup)(hix:X.N[i]?=some x)(hx:FO X.env.scope x)
  (hc:X.calm=true) (hi:PI X tg iter wi) (S:Hl scope X.env.scope) (hρ:Im scope X.env X.N N' ρ)
  (hl:∀x,(x,NameKind.free)∈scope.names->scope.names.lookup x=some .free)
  (inner:∀(cl:List (Str×Addr)) (C:Addr) (s:Shared) (H:Hp) (fp:List Addr) (pins:List (Addr×Obj)),PG (CS X scope N' cl C s H fp pins) tg g/\Gc (CS X scope N' cl C s H fp pins) ifs tt/\PE (CS X scope N' cl C s H fp pins) elt te)
  (hsw:swapsWith (.ListComp elt [⟨tg,iter,ifs,0⟩] scope pos) (some (.Name x pos')) spos.line X.env=pure true:=by rfl)
  (hs:∀x,foldedSetIterable iter X.env x=pure x:=by intro _;rfl) (hf:X.fn x=true\/X.env.scope.names.lookup x=some .local:=by first|exact .inl rfl|exact .inr rfl|assumption) :
  PS X (.Assign [.Name x pos'] (.ListComp elt [⟨tg,iter,ifs,0⟩] scope pos) spos) (Gb (GS ρ wi g tt te) (Am i)):=by
 intro pins s σ H Dn I h
 obtain⟨cl,hcl,h1,h2⟩:=OI (scope:=scope) (env:=X.env) (fun n hn=>I.ok.has n (S.free (n,.free) hn rfl))
 rw[exec_Assign_Name_used _ _ _ _ hsw]
 refine B7 (wpAny_standAt (B7 ?_))
 show wpAny _ X.A (do let _ ←comprehension (.ListComp elt [⟨tg,iter,ifs,0⟩] scope pos) scope X.env _ (newList []) false (eval iter X.env) (some (assign (.Name x pos') X.env))) _ _ s
 refine B7 (DW (wpAny_comprehension_free (use:=some (assign (.Name x pos') X.env)) (Q:=fun _ s'=>SP X pins Dn .next s') rfl hs hcl S.kind S.loc ?_) (fun _ s' hq=>Ca (Ca hq)) fun _ _ e=>e)
 refine NF (RR:=fun acc C=>compPost (model X.prog X.w) X.A X.xe (some (assign (.Name x pos') X.env)) (fun _ s'=>SP X pins Dn .next s') acc C) hc hi S hρ hl inner I h h1 h2 ?_
 intro D C s' H' m I' q hm hfC
 obtain⟨oC,es,ep,hoC,hr⟩:=id hm
 have pin:A5 X (pins++GX [C] s'.heap) σ H' s':=I'.pinned (fun b hb=>by
  have e:b=C:=by simpa using hb
  subst e
  exact hfC) (fun b hb=>by
  have e:b=C:=by simpa using hb
  subst e
  exact⟨oC,hoC,fun v z=>by rw[hr.1]at z;cases z⟩)
 show wpAny _ X.A (assign (.Name x pos') X.env (.ref D)) _ _ _
 refine wpAny_assign_Name ?_
 refine II (M:=model X.prog X.w) (A:=X.A) (E:=X.xe) pin hN hix hx (v:=.ref D) (u:=.ref D) rfl (fun s'' I''=>?_) hf
 have pC:=(I''.pin (C,oC) (Cp _ (Cp _ (IH (by simp) hoC))))
 refine⟨m,⟨oC,es,ep,pC.1,hr⟩,fun h' sb=>⟨_,H',?_,q⟩⟩
 have I2:A5 X pins (σ.set i (some (.ref D))) H' s'':=I''.unpinned
 exact I2.turned (t':=s''.toks) (fun b o hb e=>(sb.2 b hb).trans e) hfC.1 hfC.2.1 hfC.2.2.2.1 hfC.2.2.2.2.1 hfC.2.2.2.2.2
theorem Iq (σ:St)(o:Option Nat)(ρ:List (Option Nat)):BL (o::ρ) σ=(match o with|some i=>(σ[i]?).getD none|none=>none)::BL ρ σ:=rfl
theorem Vw {ρ:List (Option Nat)}{σ:St}(o:Option V):KE (none::ρ) σ (o::BL ρ σ):=by
 refine⟨by unfold BL;simp,fun j v e=>?_⟩
 cases j with
 |zero=>rw[Iq]at e;simp at e
 |succ j=>rw[Iq]at e;simpa using e
theorem Pa {ρ:List (Option Nat)}{σ:St}(o o':Option V):KE (none::none::ρ) σ (o::o'::BL ρ σ):=by
 refine⟨by unfold BL;simp,fun j v e=>?_⟩
 cases j with
 |zero=>rw[Iq]at e;simp at e
 |
  succ j=>
  rw[Iq,Iq]at e
  cases j with
  |zero=>simp at e
  |succ j=>simpa using e
theorem JM {J:It}{n:Nat}{X:Nat->V->Prop}{ρ:List (Option Nat)}{tt:TT}{te:TE}{σ:St}{H:Hp}{Q:VK}(Pv:Nat->List V->Hp->Prop)(h0:Pv 0 [] H)(hlen:n<=sizeLine)
  (hy:∀i ys H,i<=n->Pv i ys H->ys.length<=i) (hgo:∀i ys H,i<n->Pv i ys H->J.go i H) (hyl:∀i ys H x H',i<n->Pv i ys H->J.yld i H x H'->H'=H/\X i x) (hst:∀ys H,Pv n ys H->J.stop n H)
  (hs:∀i x ys H,i<n->X i x->Pv i ys H->tt (some x::BL ρ σ) H fun ok H4=>if ok=true then te (some x::BL ρ σ) H4 fun v H5=>Pv (i+1) (ys++[v]) H5 else Pv (i+1) ys H4)
  (hd:∀ys H,Pv n ys H->∀p,H p=none->Q (.ref p) (upd H p (.lst ys))) :
  Ga (none::ρ) (Am 0) tt te σ Q J H:=by
 refine⟨fun i m ys H=>m=n-i/\i<=n/\Pv i ys H,⟨n,by simp,Bw _,h0⟩,?_⟩
 rintro i m ys H ⟨rfl,hi,p⟩
 have hl:=hy i ys H hi p
 by_cases hlt:i<n
 .refine .inr ⟨hgo i ys H hlt p,by omega,Pv (i+1),fun ys' H'' p'=>⟨n-(i+1),by omega,rfl,hlt,p'⟩,fun x H' y=>?_⟩
  obtain⟨e,y2⟩:=hyl i ys H x H' hlt p y
  subst e
  exact⟨Vw _,hs i x ys _ hlt y2 p⟩
 .have e:i=n:=by omega
  subst e
  exact .inl ⟨hst ys H p,by omega,hd ys H p⟩
theorem K9 {K:Ya}{a:Addr}{xs:List V}{ρ:List (Option Nat)}{tt:TT}{te:TE}{σ:St}{H:Hp}{Q:VK}(Pv:Nat->List V->Hp->Prop)(h0:Pv 0 [] H)(hlen:xs.length<=sizeLine)(hl:∀i ys H,i<=xs.length->Pv i ys H->Aw K H a xs/\ys.length<=i)
  (hs:∀i x ys H,xs[i]?=some x->Pv i ys H->tt (some x::BL ρ σ) H fun ok H4=>if ok=true then te (some x::BL ρ σ) H4 fun v H5=>Pv (i+1) (ys++[v]) H5 else Pv (i+1) ys H4)
  (hd:∀ys H,Pv xs.length ys H->∀p,H p=none->Q (.ref p) (upd H p (.lst ys))) :
  Ga (none::ρ) (Am 0) tt te σ Q (Le K a) H:=
 JM (n:=xs.length) (X:=fun i x=>xs[i]?=some x) Pv h0 hlen (fun i ys H hi p=>(hl i ys H hi p).2) (fun i ys H hi p=>⟨xs,xs[i],(hl i ys H (GA hi) p).1,by simp[hi]⟩) (fun i ys H x H' hi p y=>⟨y.1,y.2 xs (hl i ys H (GA hi) p).1⟩)
  (fun ys H p=>⟨xs,(hl _ ys H (Aj _) p).1,Aj _⟩) (fun i x ys H _ e p=>hs i x ys H e p) hd
theorem Hc {K:Ya}{a:Addr}{xs:List V}{ρ:List (Option Nat)}{tt:TT}{te:TE}{σ:St}{H:Hp}{Q:VK}(Pv:Nat->List V->Hp->Prop)(h0:Pv 0 [] H)(hlen:xs.length<=sizeLine)(hl:∀i ys H,i<=xs.length->Pv i ys H->A3 K H a xs/\ys.length<=i)
  (hs:∀i x ys H,xs[i]?=some x->Pv i ys H->tt (some x::BL ρ σ) H fun ok H4=>if ok=true then te (some x::BL ρ σ) H4 fun v H5=>Pv (i+1) (ys++[v]) H5 else Pv (i+1) ys H4)
  (hd:∀ys H,Pv xs.length ys H->∀p,H p=none->Q (.ref p) (upd H p (.lst ys))) :
  Ga (none::ρ) (Am 0) tt te σ Q (Gz K a) H:=
 JM (n:=xs.length) (X:=fun i x=>xs[i]?=some x) Pv h0 hlen (fun i ys H hi p=>(hl i ys H hi p).2) (fun i ys H hi p=>⟨xs,xs[i],(hl i ys H (GA hi) p).1,by simp[hi]⟩) (fun i ys H x H' hi p y=>⟨y.1,y.2 xs (hl i ys H (GA hi) p).1⟩)
  (fun ys H p=>⟨xs,(hl _ ys H (Aj _) p).1,Aj _⟩) (fun i x ys H _ e p=>hs i x ys H e p) hd
theorem WO {lo:Int}{n:Nat}{ρ:List (Option Nat)}{tt:TT}{te:TE}{σ:St}{H:Hp}{Q:VK}(Pv:Nat->List V->Hp->Prop)(h0:Pv 0 [] H)(hlen:n<=sizeLine)(hl:∀i ys H,i<=n->Pv i ys H->ys.length<=i)
  (hs:∀i ys H,i<n->Pv i ys H->tt (some (.int (lo+i))::BL ρ σ) H fun ok H4=>if ok=true then te (some (.int (lo+i))::BL ρ σ) H4 fun v H5=>Pv (i+1) (ys++[v]) H5 else Pv (i+1) ys H4)
  (hd:∀ys H,Pv n ys H->∀p,H p=none->Q (.ref p) (upd H p (.lst ys))) :
  Ga (none::ρ) (Am 0) tt te σ Q (Gr lo n) H:=
 JM (n:=n) (X:=fun i x=>x = .int (lo+i)) Pv h0 hlen hl (fun i ys H hi p=>hi) (fun i ys H x H' hi p y=>y) (fun ys H p=>Aj _) (fun i x ys H hi e p=>by subst e;exact hs i ys H hi p) hd
abbrev cds (x:Str):List Nat:=x.cps.toList
theorem cds_len (x:Str):(cds x).length=x.length:=by simp[cds,Str.length]
theorem CN {x y:Str}(h:cds x=cds y):x=y:=StrLaws.mk_of_toList (x:=x) h▸(StrLaws.mk_of_toList (x:=y) rfl).symm
theorem AS (x y:Str):cds (x++y)=cds x++cds y:=by simp[cds,Str.cps_append]
theorem OU (c:Nat):cds ⟨#[c]⟩=[c]:=rfl
theorem Xb (l:List Nat):cds ⟨l.toArray⟩=l:=by simp[cds]
def AB (l:List Nat):Str:=⟨l.toArray⟩
theorem B6 (l:List Nat):cds (AB l)=l:=by simp[cds,AB]
theorem Es (x:Str):AB (cds x)=x:=CN (B6 _)
def Ck {α:Type}(xs:List α)(lo hi:Option Int):List α:=(xs.drop (HT.sIx xs.length 0 lo)).take (HT.sIx xs.length xs.length hi-HT.sIx xs.length 0 lo)
theorem NM (n:Nat)(i:Int)(k:Nat):max 0 (min (if i<0 then i+(n:Int) else i) (n:Int))=((HT.sIx n k (some i):Nat):Int):=by
 unfold HT.sIx
 dsimp only
 split<;>omega
theorem WR (lo hi:Option Int)(n:Nat):Builtin.Str.strSliceIndices lo hi 1 n=(List.range (HT.sIx n n hi-HT.sIx n 0 lo)).map (fun k=>HT.sIx n 0 lo+k):=by
 have e:Builtin.Str.strSliceIndices lo hi 1 n=sliceRange ((HT.sIx n 0 lo:Nat):Int) ((HT.sIx n n hi:Nat):Int) 1:=by
  unfold Builtin.Str.strSliceIndices
  simp only[show((1:Int)>0)=True by simp,F8]
  congr 1
  .cases lo with
   |none=>rfl
   |some i=>exact NM n i 0
  .cases hi with
   |none=>rfl
   |some i=>exact NM n i n
 rw[e]
 unfold sliceRange
 simp only[show((1:Int)>0)=True by simp,F8]
 generalize HT.sIx n 0 lo=a
 generalize HT.sIx n n hi=b
 by_cases h:(a:Int)<b
 .rw[Af h,show(((b:Int)-a+1-1)/1).toNat=b-a by simp<;>omega]
  refine Qn fun k _=>?_
  omega
 .rw[Ab h,show b-a=0 by omega]
  rfl
theorem U9 (x:Str)(lo hi:Option Int):cds (Txt.slice x lo hi)=Ck (cds x) lo hi:=by
 unfold Txt.slice Ck
 have hl:=cds_len x
 rw[hl,WR]
 have b1:=HT.sIx_le x.length 0 (Bw _) lo
 have b2:=HT.sIx_le x.length x.length (Aj _) hi
 generalize HT.sIx x.length 0 lo=a at *
 generalize HT.sIx x.length x.length hi=b at *
 split
 .rename_i h
  have hb:b-a=x.length:=by simpa using h
  have ha:a=0:=by omega
  subst ha
  rw[IM,hb,←hl,Eo]
 .by_cases hab:a<=b
  .have q:=StrLaws.picks (cds x) (b-a) a (by omega)
   have q2:(List.filterMap (fun x_1=>x.cps[x_1]?) (List.map (fun k=>a+k) (List.range (b-a))))=List.filterMap (fun x_1=>(cds x)[x_1]?) (List.map (fun k=>a+k) (List.range (b-a))):=by
    simp[cds]
   rw[Xb,q2,q]
  .rw[show b-a=0 by omega]
   simp[cds]
section
variable {X:Cx}
def XQ:V->Option Int->Option Int->Hp->VK->Prop:=fun x lo hi H Q=>∃z,x = .str z/\z.length<=sizeLine/\Q (.str (AB (Ck (cds z) lo hi))) H
theorem FC:LJ X XQ:=by
 intro pins s σ H x v vl vu lo hi sl Q I rx hs pl pu h
 obtain⟨z,rfl,hz,q⟩:=h
 obtain⟨t,rfl⟩:=rx
 rw[←U9,Es]at q
 refine⟨"str",_,F.slot_str_getitem.lookup,HF _ _ _,?_⟩
 have go:∀(l u:Option (Int×Tok)),l.map (·.1)=lo->u.map (·.1)=hi->s.heap.IsSlice sl l u none->wpAny (model X.prog X.w) X.A (getItem (.str z t) (.ref sl)) (EP X pins σ Q) X.xe s:=fun l u e1 e2 hS=>by
  subst e1 e2
  exact wpAny_getItem_str_slice hS rfl (post_val_or_str ⟨BI (Txt.slice_le z _ _) hz,fun t' k=>⟨.str _,H,I.tok _,⟨_,rfl⟩,q⟩⟩)
 cases pl with
 |
  none=>
  cases pu with
  |none=>exact go none none rfl rfl hs
  |int j u=>exact go none (some (j,u)) rfl rfl hs
 |
  int i t'=>
  cases pu with
  |none=>exact go (some (i,t')) none rfl rfl hs
  |int j u=>exact go (some (i,t')) (some (j,u)) rfl rfl hs
def Wp:R2:=fun x y H Q=>∃z n,x = .str z/\y = .int n/\-(2 ^ 63:Int)<=n/\n<=4096/\z.length<=4096/\Q (.str (Txt.mul z n)) H
theorem LY:BG X (binaryOp .Mult) Wp:=by
 intro pins s σ H x y v u Q I rx ry h
 obtain⟨z,n,rfl,rfl,h1,h2,h3,q⟩:=h
 obtain⟨t,rfl⟩:=rx
 obtain⟨t',rfl⟩:=ry
 exact SB.mul (mulOk_of 4096 4096 h3 h2 h1 (by decide) (by decide)) fun t' k=>⟨.str _,H,I.tok _,⟨_,rfl⟩,q⟩
theorem MK (c:Nat)(n:Int):cds (Txt.mul ⟨#[c]⟩ n)=List.replicate n.toNat c:=mul_one_list c n
def Hf (c:Nat)(l:List Nat):Int:=if c∈l then((l.idxOf c:Nat):Int) else -1
theorem Ir {c:Nat}:∀{l:List Nat} {i:Nat},l[i]?=some c->(∀k,k<i->l[k]?≠some c)->l.idxOf c=i
 |[],i,h,_=>by simp at h
 |a::r,0,h,_=>by simp at h;subst h;simp
 |
  a::r,i+1,h,hn=>by
  have ha:a≠c:=fun e=>hn 0 (GD _) (by simp[e])
  have q:=Ir (c:=c) (l:=r) (i:=i) (by simpa using h) (fun k hk=>by simpa using hn (k+1) (Nat.succ_lt_succ hk))
  have hb:(a==c)=false:=by simpa using ha
  rw[List.idxOf_cons,hb,q]
  rfl
theorem Wu (x:Str)(c:Nat):Txt.find x ⟨#[c]⟩=Hf c (cds x):=by
 unfold Txt.find Hf
 rcases StrLaws.occ_head x ⟨#[c]⟩ 1 (Aj _) with⟨e,hn⟩|⟨i,r,e,ha,hn⟩
 .rw[e]
  dsimp only
  rw[Ab]
  intro hm
  obtain⟨i,hi,hc⟩:=Qo.mp hm
  exact hn i ((StrLaws.subAt_one x c i).mpr (by rw[BB hi,hc]))
 .rw[e]
  dsimp only
  have hi:=(StrLaws.subAt_one x c i).mp ha
  rw[Af (C8 hi),Ir hi fun k hk z=>hn k hk ((StrLaws.subAt_one x c k).mpr z)]
theorem L9 (x:Str)(c:Nat):(!(Builtin.Str.occurrences x ⟨#[c]⟩ 0 x.length 1).isEmpty)=decide (c∈cds x):=StrLaws.found_one x c
def SH (K:Ya):V->List V->Hp->VK->Prop:=fun x xs H Q=>∃z p ys,x = .str z/\xs=[.ref p]/\(A3 K H p (ys.map V.str)\/Aw K H p (ys.map V.str))/\(ys.map (·.length)).sum+ys.length*z.length<=16777216/\Q (.str (Txt.join z ys)) H
theorem Lq:∀{ys:List Str} {us:List Value},AD (ys.map V.str) us->StrsAre us ys
 |[],_,.nil=>.nil
 |
  y::ys,_,.cons r t=>by
  obtain⟨k,rfl⟩:=r
  exact .cons y k (Lq t)
theorem GW:G6 X "str.join" (SH X.K):=by
 intro pins s σ H x xs v us Q I rx rv h
 obtain⟨z,p,ys,rfl,rfl,hq,hz,q⟩:=h
 obtain⟨t,rfl⟩:=rx
 obtain⟨u,rfl,ru⟩:=rv.one
 cases ru
 rcases hq with hq|hq
 .obtain⟨its,r,pl,_⟩:=I.list hq
  exact join_list pl.isList (by simpa using Lq r) hz fun t' k=>⟨.str _,H,I.tok _,⟨_,rfl⟩,q⟩
 .obtain⟨its,r,pl,_⟩:=I.tuple hq
  exact join_tuple pl (by simpa using Lq r) hz fun t' k=>⟨.str _,H,I.tok _,⟨_,rfl⟩,q⟩
theorem Sy:Eb X (.type "int") (fun xs H Q=>∃z n,xs=[.str z]/\intText? z=some n/\z.length<=640/\Q (.int n) H):=by
 intro pins s σ H xs us Q I r h
 obtain⟨z,n,rfl,hn,hl,q⟩:=h
 obtain⟨u,rfl,t,rfl⟩:=EH r
 exact PySem.W.KIN.call_text hn hl ⟨.int n,H,I.tok _,⟨_,rfl⟩,q⟩
end
def Mt (z:Str):It:=⟨fun i _=>i<(cds z).length,fun i H x H'=>H'=H/\∃c,(cds z)[i]?=some c/\x = .str ⟨#[c]⟩,fun i _=>(cds z).length<=i⟩
theorem PH {P:Program}{w:World}{K:Ya}{tg:Expr}(it:Addr)(z:Str)(t:Tok)(ty:String)(hty:ty="str_ascii_iterator"\/ty="str_iterator"):He P w K tg (Mt z) [it] it (fun i h=>h.IsStrIter it ty z t i) where
 mem:=by simp
 obj:=fun i h st b hb=>by
  have e:b=it:=by simpa using hb
  subst e
  obtain⟨o,e,c,d⟩:=st
  exact⟨o,e,fun v z=>by rw[d]at z;cases z⟩
 keep:=fun i h h' st k=>let ⟨o,ho,r⟩:=st;⟨o,k it (by simp) o ho,r⟩
 item:=by
  intro X hP hw hK hc i pins s σ H E I hf st hg
  subst hP hw hK
  obtain⟨f0,f1,f2,f3,f4,f5⟩:=hf it (by simp)
  have hlt:i<z.cps.size:=by have:i<(cds z).length:=hg;simpa[cds] using this
  have W:Walks X.prog X.w X.A it [it] [it] z.cps.size (SignAt z) (fun i h=>h.IsStrIter it ty z t i):=by
   rcases hty with rfl|rfl
   .exact Walks.strAscii (I.ok.hd hc) it z t
   .exact Walks.strWide (I.ok.hd hc) it z t
  refine W.item i s _ _ hlt st fun v h' tk hv st' kk=>?_
  obtain⟨c,u,hcu,rfl⟩:=hv
  have I1:A5 X pins σ H {s with heap:=h',toks:=tk}:=I.turned (fun b o hb e=>kk b o (by simpa using hb) e) f0 f1 f3 f4 f5
  obtain⟨o,e,c1,d⟩:=id st'
  refine⟨_,rfl,Kw (s:={s with heap:=h',toks:=tk}) e c1 d (by rcases hty with rfl|rfl<;>decide) ⟨.str ⟨#[c]⟩,H,I1,⟨u,rfl⟩,⟨rfl,c,by simpa[cds] using hcu,rfl⟩,st',fun b hb=>(hf b hb).1⟩⟩
 done:=by
  intro X hP hw hK hc i pins s σ H E I hf st hg
  subst hP hw hK
  obtain⟨f0,f1,f2,f3,f4,f5⟩:=hf it (by simp)
  have hle:z.cps.size<=i:=by have:(cds z).length<=i:=hg;simpa[cds] using this
  have hn:z.cps[i]?=none:=by simp[hle]
  rcases hty with rfl|rfl
  .exact wpAny_pyNext_ascii_end (I.ok.hd hc) st hn fun h' he'=>⟨rfl,I.turned (t':=s.toks) (fun b o hb e=>he' b o hb e) f0 f1 f3 f4 f5⟩
  .exact wpAny_pyNext_wide_end (I.ok.hd hc) st hn fun h' he'=>⟨rfl,I.turned (t':=s.toks) (fun b o hb e=>he' b o hb e) f0 f1 f3 f4 f5⟩
 self:=fun _ _ _ _ _ st h=>by
  rcases hty with rfl|rfl
  .exact wpAny_pyIter_striter_ascii st h
  .exact wpAny_pyIter_striter_wide st h
def Xq (tl:TE):TI:=fun σ H R=>tl σ H fun x H1=>∃z,x = .str z/\R (Mt z) H1
theorem UE {X:Cx}{tg l:Expr}{tl:TE}(hl:PE X l tl):PI X tg l (Xq tl):=by
 intro pins s σ H R I h
 refine Ao (hl pins s σ H _ I h) fun v s1 zz=>?_
 obtain⟨x,H1,I1,r1,q1⟩:=zz
 obtain⟨z,e,q⟩:=q1
 subst e
 obtain⟨t,rfl⟩:=r1
 have fin:∀b∈[s1.heap.objs.size],Ei X pins H1 b:=fun b hb=>by
  have e:b=s1.heap.objs.size:=by simpa using hb
  subst e
  exact I1.fpOk (Aj _) (I1.hok.fresh (Aj _))
 cases ha:z.cps.all (· < 128)
 .refine wpAny_pyIter_wide ha ?_
  exact⟨s1.heap.objs.size,[s1.heap.objs.size],_,_,H1,rfl,I1.kept (t':=s1.toks) fun b o e=>BR _ e,PH _ z t _ (.inr rfl),⟨_,Dl _ rfl,rfl,rfl⟩,fin,q⟩
 .refine wpAny_pyIter_ascii ha ?_
  exact⟨s1.heap.objs.size,[s1.heap.objs.size],_,_,H1,rfl,I1.kept (t':=s1.toks) fun b o e=>BR _ e,PH _ z t _ (.inl rfl),⟨_,Dl _ rfl,rfl,rfl⟩,fin,q⟩
theorem QZ {z:Str}{ρ:List (Option Nat)}{tt:TT}{te:TE}{σ:St}{H:Hp}{Q:VK}(Pv:Nat->List V->Hp->Prop)(h0:Pv 0 [] H)(hlen:(cds z).length<=sizeLine)(hl:∀i ys H,i<=(cds z).length->Pv i ys H->ys.length<=i)
  (hs:∀i c ys H,(cds z)[i]?=some c->Pv i ys H->tt (some (.str ⟨#[c]⟩)::BL ρ σ) H fun ok H4=>if ok=true then te (some (.str ⟨#[c]⟩)::BL ρ σ) H4 fun v H5=>Pv (i+1) (ys++[v]) H5 else Pv (i+1) ys H4)
  (hd:∀ys H,Pv (cds z).length ys H->∀p,H p=none->Q (.ref p) (upd H p (.lst ys))) :
  Ga (none::ρ) (Am 0) tt te σ Q (Mt z) H:=
 JM (n:=(cds z).length) (X:=fun i x=>∃c,(cds z)[i]?=some c/\x = .str ⟨#[c]⟩) Pv h0 hlen hl (fun i ys H hi p=>hi) (fun i ys H x H' hi p y=>y) (fun ys H p=>Aj _) (fun i x ys H hi ⟨c,hc,e⟩ p=>by subst e;exact hs i c ys H hc p) hd
section
variable {X:Cx}
theorem Lg (hc:X.calm=true):Eb X (.builtin "all") (fun xs H Q=>∃(p:Addr) (bs:List Bool),xs=[.ref p]/\A3 X.K H p (bs.map V.bl)/\Q (.bl (bs.all id)) H):=by
 intro pins s σ H xs us Q I r h
 obtain⟨p,bs,rfl,hq,q⟩:=h
 obtain⟨u,rfl,ru⟩:=EH r
 cases ru
 obtain⟨its,rv,pl,hz⟩:=I.list hq
 have hne:p≠s.heap.objs.size:=by
  obtain⟨o,n,e,_⟩:=pl
  exact Co (BA e)
 have hl:=rv.length
 refine call_all_walk (L4 pl.isList ⟨s.heap.objs.size,_,_,its.toArray.size,_,_,fun i=>bs.getD i true,rfl,Walks.list (A:=X.A.in1) (show X.A.in1.handled=none from I.ok.hd hc) s.heap.objs.size p hne its.toArray,⟨⟨_,Dl _ rfl,rfl,rfl⟩,(pl.isList).push _⟩,?_,fun h' tk kk=>?_⟩)
 .intro i v s' Q' E hv hq'
  have hv':its[i]?=some v:=by simpa using hv
  have hb:∃b,bs[i]?=some b/\v = .bool b:=by
   cases e:(bs.map V.bl)[i]? with
   |
    none=>
    have:=rv.none_of e
    rw[hv']at this;cases this
   |
    some y=>
    obtain⟨u,hu,ru⟩:=rv.get e
    rw[hv']at hu;cases hu
    rw[Dm]at e
    cases eb:bs[i]? with
    |none=>rw[eb]at e;cases e
    |
     some b=>
     rw[eb]at e
     cases e
     exact⟨b,rfl,ru⟩
  obtain⟨b,hb,rfl⟩:=hb
  refine Hz ?_
  have hq2:Q' ((bs[i]?).getD true) s':=hq'
  rw[hb]at hq2
  exact hq2
 .have e:((List.range its.toArray.size).all fun i=>bs.getD i true)=bs.all id:=by
   have el:its.toArray.size=bs.length:=by rw[By,←hl,An]
   rw[el]
   rw[En]
   simp only[FY,IJ]
   constructor
   .intro h b hb
    obtain⟨i,hi,e⟩:=Qo.mp hb
    have:=h i hi
    rw[CZ,BB hi]at this
    rw[←e];exact this
   .intro h i hi
    rw[CZ,BB hi]
    exact h _ (F6 hi)
  rw[e]
  refine⟨.bl (bs.all id),H,I.kept (t':=tk) fun b o eb=>kk b o ?_ (BR _ eb),rfl,q⟩
  intro z
  have z':b=s.heap.objs.size:=by simpa using z
  exact absurd (BA eb) (by rw[z'];exact EJ _)
def TB:V->Option Value
 |.ty n=>some (.type n)
 |.ref a=>some (.ref a)
 |_=>none
theorem EV:Eb X (.builtin "isinstance") (fun xs H Q=>∃x c t cv b,xs=[x,c]/\TB c=some cv/\CH X.K H x t/\PySem.W.kitOne X.K t cv=some b/\Q (.bl b) H):=by
 intro pins s σ H xs us Q I r h
 obtain⟨x,c,t,cv,b,rfl,rc,ty,e,q⟩:=h
 obtain⟨u,w',rfl,rx,rw'⟩:=r.two
 have:w'=cv:=by
  cases c with
  |ref a=>cases rc;exact rw'
  |ty a=>cases rc;exact rw'
  |_=>cases rc
 subst this
 exact Ub I rx ty e fun tk=>⟨.bl b,H,I.tok _,rfl,q⟩
end
def D4 (sc out:Scope)(N N':List Str)(ρ:List (Option Nat)):Bool:=
 decide (sc.kind = .function)&&sc.names.all (fun y=>decide (y.2≠.cell))&&sc.names.all (fun y=>decide (y.2 = .local->sc.names.lookup y.1=some .local)) &&
 sc.names.all (fun y=>decide (y.2 = .free->sc.names.lookup y.1=some .free/\(out.names.lookup y.1=some .cell\/out.names.lookup y.1=some .free))) &&
 decide (ρ.length=N'.length)&&decide N'.Nodup &&
 (ρ.zip N').all (fun p=>match p.1 with|none=>true|some i=>decide (N[i]?=some p.2)&&decide (out.names.lookup p.2=some .local\/out.names.lookup p.2=some .cell\/out.names.lookup p.2=some .free)&&sc.names.any (fun y=>decide (y=(p.2,NameKind.free))))
structure UT (sc:Scope)(env:Env)(N N':List Str)(ρ:List (Option Nat)):Prop where
 S:Hl sc env.scope
 sl:Im sc env N N' ρ
 hl:∀x,(x,NameKind.free)∈sc.names->sc.names.lookup x=some .free
 nd:N'.Nodup
theorem Q0 {sc:Scope}{env:Env}{N N':List Str}{ρ:List (Option Nat)}(h:D4 sc env.scope N N' ρ=true):UT sc env N N' ρ:=by
 unfold D4 at h
 simp only[GC,DX,FY]at h
 obtain⟨⟨⟨⟨⟨⟨h1,h2⟩,h3⟩,h4⟩,h5⟩,h6⟩,h7⟩:=h
 refine⟨⟨h1,h2,h3,fun y hy e=>(h4 y hy e).2⟩,⟨h5,fun j i x e1 e2=>?_⟩,fun x hx=>(h4 _ hx rfl).1,h6⟩
 have hm:(some i,x)∈ρ.zip N':=by
  refine C8 (i:=j) ?_
  rw[List.getElem?_zip_eq_some]
  exact⟨e1,e2⟩
 have q:=h7 _ hm
 simp only[GC,DX,List.any_eq_true]at q
 obtain⟨⟨q1,q2⟩,y,hy,e⟩:=q
 exact⟨q1,q2,e▸hy⟩
theorem DZ {X:Cx}{elt iter tg:Expr}{ifs:List Expr}{scope:Scope}{pos:Pos}(N':List Str)(ρ:List (Option Nat)){wi:TI}{g:TG}{tt:TT}{te:TE}(hc:X.calm=true)(hi:PI X tg iter wi)(h:D4 scope X.env.scope X.N N' ρ=true)
  (inner:∀(cl:List (Str×Addr)) (C:Addr) (s:Shared) (H:Hp) (fp:List Addr) (pins:List (Addr×Obj)),PG (CS X scope N' cl C s H fp pins) tg g/\Gc (CS X scope N' cl C s H fp pins) ifs tt/\PE (CS X scope N' cl C s H fp pins) elt te)
  (hs:∀x,foldedSetIterable iter X.env x=pure x:=by intro _;rfl):PE X (.ListComp elt [⟨tg,iter,ifs,0⟩] scope pos) (GS ρ wi g tt te):=
 have F:=Q0 h
 Ww N' ρ hc hi F.S F.sl F.hl inner hs
theorem Uq {X:Cx}{elt iter tg:Expr}{ifs:List Expr}{scope:Scope}{pos pos' spos:Pos}{i:Nat}{x:Str}(N':List Str)(ρ:List (Option Nat)){wi:TI}{g:TG}{tt:TT}{te:TE}(hN:X.N.Nodup)(hix:X.N[i]?=some x)(hx:FO X.env.scope x)
  (hc:X.calm=true) (hi:PI X tg iter wi) (h:D4 scope X.env.scope X.N N' ρ=true)
  (inner:∀(cl:List (Str×Addr)) (C:Addr) (s:Shared) (H:Hp) (fp:List Addr) (pins:List (Addr×Obj)),PG (CS X scope N' cl C s H fp pins) tg g/\Gc (CS X scope N' cl C s H fp pins) ifs tt/\PE (CS X scope N' cl C s H fp pins) elt te)
  (hsw:swapsWith (.ListComp elt [⟨tg,iter,ifs,0⟩] scope pos) (some (.Name x pos')) spos.line X.env=pure true:=by rfl)
  (hs:∀x,foldedSetIterable iter X.env x=pure x:=by intro _;rfl) (hf:X.fn x=true\/X.env.scope.names.lookup x=some .local:=by first|exact .inl rfl|exact .inr rfl|assumption) :
  PS X (.Assign [.Name x pos'] (.ListComp elt [⟨tg,iter,ifs,0⟩] scope pos) spos) (Gb (GS ρ wi g tt te) (Am i)):=
 have F:=Q0 h
 Wd N' ρ hN hix hx hc hi F.S F.sl F.hl inner hsw hs hf
def L7 (K:Ya):Sp:=fun vs H Q _=>∃(a:Addr) (ns:List Int),vs=[.ref a]/\A3 K H a (ns.map V.int)/\ns.length<=63/\J9 H/\∀H',Q (.bl true) H'
theorem law_walk {l:PySem.W.OpenLaw}{q:Program}{loose:List Str}{XP:(Str->Option Value)->Heap->Prop}{YP:World->Heap->Prop}{d:DefRec}{K:Params->Ya}{x:Str}(k:Nat)(hk:k<=200)(hn:l.most=some 63)(hdf:d.params.defaults=[])
  (hY:∀(w:World) (h:Heap),YP w h->(K w.params).In h)
  (F:∀(w:World) (mg:Str->Option Value) (fa:Addr) (h:Heap),(K w.params).In h->h.Ns mainGlobals mg->mg d.name=some (.ref fa)->
   ∃fd:FuncData,(∀(s:Shared) (u:Value),BindsTo s fd ⟨[u],[]⟩ [(x,u)])/\∀base:Heap,(K w.params).In base->base.Ns mainGlobals mg->AI l.prog w (K w.params) mg base AO k fa fd [x] (L7 (K w.params))) :
  PySem.W.WalkO q loose XP YP l.row.toRowW d [] (fun f vs=>PySem.call f vs):=
 L2.walk_of (n:=63) (k:=k) (x:=x) (CX:=fun _=>AO) (sp:=fun w=>L7 (K w.params)) hn (by decide) hdf
  ⟨rfl,by
    have:callerA.depth+605<recursionLimit:=by decide
    omega,by
     have:callerA.units+3400<cLine:=by decide
     omega,rfl⟩ hY F (fun _ H a ns hl hO hS=>⟨a,ns,rfl,hS,hl,hO,fun _=>rfl⟩) fun _ _ _ _ _ z=>z
def DR (l:List (Str×NameKind)):Scope:={kind:=.function,names:=l,isGenerator:=false,isCoroutine:=false,more:=[]}
theorem BJ:bootBuiltins "len"=some (.builtin "len"):=by decide +kernel
theorem Mf:bootBuiltins "all"=some (.builtin "all"):=by decide +kernel
theorem F4:bootBuiltins "isinstance"=some (.builtin "isinstance"):=by decide +kernel
theorem OJ:bootBuiltins "abs"=some (.builtin "abs"):=by decide +kernel
theorem LP:bootBuiltins "int"=some (.type "int"):=by decide +kernel
theorem Gn:bootBuiltins "str"=some (.type "str"):=by decide +kernel
theorem Q1:bootBuiltins "list"=some (.type "list"):=by decide +kernel
theorem Gf:bootBuiltins "tuple"=some (.type "tuple"):=by decide +kernel
theorem Ai {n:Nat}(h:n<=1000000):n<=sizeLine:=by rw[HE];omega
theorem AE {n:Nat}(h:Nat.ble n 1000000=true):n<=sizeLine:=Ai (Nat.le_of_ble_eq_true h)
theorem BK {n:Nat}(h:n<1000000):n<sizeLine:=by rw[HE];omega
theorem Ac {H:Hp}{p:Addr}(h:H p=none)(o:HO):A7 H (upd H p o):=fun b u q=>by rw[A8 (AC q h)];exact q
theorem A7.seqT {K:Ya}{H H':Hp}{a:Addr}{xs:List V}(e:A7 H H')(h:Aw K H a xs):Aw K H' a xs:=by
 rcases h with h|h
 .rcases h with h|⟨o,h⟩
  .exact .inl (.inl (e _ _ h))
  .exact .inl (.inr ⟨o,e _ _ h⟩)
 .exact .inr h
theorem dT {p:Prop}[Decidable p](h:decide p=true):p:=L5 h
theorem dF {p:Prop}[Decidable p](h:¬decide p=true):¬p:=fun z=>h (B1 z)
def Re (K:Ya):Sp:=fun vs H Q _=>∃(a:Addr) (ns:List Int) (k:Int),vs=[.ref a,.int k]/\A3 K H a (ns.map V.int)/\0<=k/\Q (.int (ns.getD k.toNat 0)) H
theorem EY {ns:List Int}{k:Int}(h0:0<=k)(h:k<(ns.length:Int)):Bu (ns.map V.int) k=some (.int (ns.getD k.toNat 0)):=by
 have hk:k.toNat<ns.length:=by omega
 have ek:k=((k.toNat:Nat):Int):=by omega
 have q:Bu (ns.map V.int) ((k.toNat:Nat):Int)=some (.int (ns.getD k.toNat 0)):=D6 (by rw[Dm,BB hk];simp[CZ,hk])
 rw[←ek]at q
 exact q
theorem VX {ns:List Int}{k:Int}(h:¬k<(ns.length:Int)):ns.getD k.toNat 0=0:=by rw[CZ,List.getElem?_eq_none (by omega)];rfl
def UX:Sp:=fun vs H Q _=>∃z y:Str,vs=[.str z,.str y]/\z.length<=1000/\∀H',A7 H H'->Q (.bl (decide (∀c∈cds z,c∈cds y))) H'
def Ct (l:List Nat):Prop:=1<=l.length/\l.length<=18/\¬(l.head?=some 48/\1<l.length)/\∀c∈l,48<=c/\c<=57
noncomputable instance (l:List Nat):Decidable (Ct l):=by unfold Ct;infer_instance
def Fh (l:List Nat):V:=if Ct l then .int ((NumText.digitsVal l:Nat):Int) else .non
def Vj:Sp:=fun vs H Q _=>∃z:Str,vs=[.str z]/\z.length<=1000/\∀H',A7 H H'->Q (Fh (cds z)) H'
theorem XM:cds "0123456789"=[48,49,50,51,52,53,54,55,56,57]:=by decide +kernel
theorem PU (c:Nat):c∈cds "0123456789"↔48<=c/\c<=57:=by
 rw[XM]
 simp
 omega
theorem Du {α:Type}{l:List α}{i:Nat}{c:α}(h:l[i]?=some c):l.take (i+1)=l.take i++[c]:=by
 rw[List.take_succ,h];rfl
theorem Mj {z:Str}:z="0"↔cds z=[48]:=⟨fun h=>by rw[h];decide +kernel,fun h=>CN (by rw[h];decide +kernel)⟩
theorem Hs {z:Str}:z=""↔cds z=[]:=⟨fun h=>by rw[h];decide +kernel,fun h=>CN (by rw[h];decide +kernel)⟩
theorem DU {t u:TS}{D:DG}{σ:St}{H:Hp}(M:St->Hp->Prop)(hu:∀σ' H',M σ' H'->u D σ' H')(ht:(∀σ' H',M σ' H'->u D σ' H')->t {D with nx:=u D} σ H):DO t u D σ H:=ht hu
theorem CM {b:Bool}{A B:Prop}{v:Bool}(e:b=v)(h:if v=true then A else B):if b=true then A else B:=by rw[e];exact h
theorem D3 (l:List Nat):(AB l).length=l.length:=by rw[←cds_len,B6]
theorem P9 (x y:Str):(x++y).length=x.length+y.length:=Str.length_append x y
section
variable {X:Cx}{pins:List (Addr×Obj)}{σ:St}{H:Hp}{s:Shared}
end
section
variable {X:Cx}
theorem FH {A:Around}{k:Nat}(hr:Ci k A):A.units+64<cLine:=by have:=hr.un;omega
end
section
variable {X:Cx}
end
def Iw (x:Int)(k:Int):Int:=(x*x+48271*x+k)%2147483647
def Ea (x k:Int):Nat->List Int
 |0=>[]
 |n+1=>Iw x k::Ea (Iw x k) (k+1) n
theorem NP (x k:Int)(n:Nat):(Ea x k n).length=n:=by
 induction n generalizing x k with
 |zero=>rfl
 |succ n ih=>simp[Ea,ih]
theorem Rz {x k y:Int}{n:Nat}(h:y∈Ea x k n):0<=y/\y<2147483647:=by
 induction n generalizing x k with
 |zero=>cases h
 |
  succ n ih=>
  rcases AG.mp h with rfl|h
  .exact⟨BY _ (by decide),C9 _ (by decide)⟩
  .exact ih h
def CI (x k:Int):Nat->Int
 |0=>x
 |n+1=>CI (Iw x k) (k+1) n
theorem OK (x k:Int)(n:Nat):CI x k (n+1)=Iw (CI x k n) (k+n):=by
 induction n generalizing x k with
 |zero=>simp[CI]
 |
  succ n ih=>
  rw[CI,ih,CI]
  congr 1
  omega
theorem V4 (x k:Int)(n:Nat):Ea x k (n+1)=Ea x k n++[CI x k (n+1)]:=by
 induction n generalizing x k with
 |zero=>simp[Ea,CI]
 |
  succ n ih=>
  rw[Ea,ih,Ea,Dz]
  rfl
def CT (c:Int):Int:=c%2147483647+48271
def Ez (c:Int)(n:Nat):List Int:=(Ea (CT c) 0 (n+1)).drop 1
theorem GU (c:Int)(n:Nat):(Ez c n).length=n:=by unfold Ez;rw[C5,NP];omega
theorem Ip {c y:Int}{n:Nat}(h:y∈Ez c n):0<=y/\y<2147483647:=Rz (FZ h)
def U0:Sp:=fun vs H Q _=>∃(c n:Int),vs=[.int c,.int n]/\0<=n/\n<=1000/\∀(r:Addr) (H':Hp),A7 H H'->H' r=some (.lst ((Ez c n.toNat).map V.int))->Q (.ref r) H'
theorem Vq {x:Int}(h0:0<=x)(h1:x<2147531918) : -(2 ^ 64:Int)<x/\x<2 ^ 64:=by
 have:(2:Int) ^ 64=18446744073709551616:=by decide
 omega
theorem W7 (c:Int):0<=CT c/\CT c<2147531918:=by
 have h0:=BY c (show(2147483647:Int)≠0 by decide)
 have h1:=C9 c (show(0:Int)<2147483647 by decide)
 unfold CT;omega
theorem Uk (c:Int)(n:Nat):0<=CI (CT c) 0 n/\CI (CT c) 0 n<2147531918:=by
 cases n with
 |zero=>exact W7 c
 |
  succ n=>
  rw[OK]
  unfold Iw
  have h0:=BY (CI (CT c) 0 n*CI (CT c) 0 n+48271*CI (CT c) 0 n+(0+(n:Int))) (show(2147483647:Int)≠0 by decide)
  have h1:=C9 (CI (CT c) 0 n*CI (CT c) 0 n+48271*CI (CT c) 0 n+(0+(n:Int))) (show(0:Int)<2147483647 by decide)
  omega
theorem Xe {α:Type}(l:List α):(l.drop (HT.sIx l.length 0 (some 1))).take (HT.sIx l.length l.length none-HT.sIx l.length 0 (some 1))=l.drop 1:=by
 rw[show HT.sIx l.length 0 (some (1:Int))=min 1 l.length from HT.sIx_nat _ _ 1,HT.sIx_none]
 cases l with
 |nil=>rfl
 |
  cons a r=>
  have e:min 1 (a::r).length=1:=by simp
  rw[e]
  simp
theorem Tz (xs:List Int):De (xs.map V.int) (some 1) none=(xs.drop 1).map V.int:=by
 unfold De
 rw[Xe,List.map_drop]
theorem L8:∀ys:List Str,cds (Txt.join "" ys)=(ys.map cds).flatten:=by
 intro ys
 show cds (Builtin.Str.glued "" ys)=_
 rw[StrLaws.glued_eq_join]
 induction ys with
 |nil=>rfl
 |
  cons y r ih=>
  cases r with
  |nil=>simp[Str.join]
  |
   cons z r=>
   show cds (y++""++Str.join "" (z::r))=_
   rw[AS,AS,ih]
   have:cds ("":Str)=[]:=by decide +kernel
   rw[this,Cq]
   rfl
abbrev Eu:Str:="abcdefghijklmnopqrstuvwxyz"
theorem Qe:cds Eu=(List.range 26).map (97 + ·):=by decide +kernel
def DB (x:Int):Nat:=97+(x%26).toNat
theorem PQ (x:Int):Bu (cds Eu) (x%26)=some (DB x):=by
 have h0:=BY x (show(26:Int)≠0 by decide)
 have h1:=C9 x (show(0:Int)<26 by decide)
 have e:x%26=(((x%26).toNat:Nat):Int):=by omega
 rw[e]
 refine D6 ?_
 rw[Qe,Dm,List.getElem?_range (by omega)]
 rfl
theorem Pb:Eu.length<=sizeLine:=Ai (by decide +kernel)
def Fd (xs:List Int):List Nat:=(xs.drop 2).map DB
def Cj (xs:List Int):Int:=1+xs.getD 1 0%8
def CB (xs:List Int):Int:=xs.getD 1 0/8%Cj xs
def Gw (xs:List Int)(w:List Nat)(k:Int):List Nat:=w.take (CB xs).toNat++[DB (xs.getD (2+CB xs).toNat 0+k)]++(w.drop (CB xs+1).toNat).take ((Cj xs).toNat-(CB xs+1).toNat)
def Hq (xs:List Int)(w:List Nat)(k:Int):List Nat:=w.take (1+(Cj xs+3*k)%8).toNat
def BD (xs:List Int)(w:List Nat)(k:Int):List Nat:=if xs.getD 0 0%2=0 then Hq xs w k else Gw xs w k
def DE:List (List Nat):=[cds "for",cds "end",cds "size"]
def DD (xs:List Int)(w:List Nat)(k:Int):List Nat:=if BD xs w k∈DE then[122,122]++BD xs w k else BD xs w k
theorem IE (xs:List Int):1<=Cj xs/\Cj xs<=8:=by
 have h0:=BY (xs.getD 1 0) (show(8:Int)≠0 by decide)
 have h1:=C9 (xs.getD 1 0) (show(0:Int)<8 by decide)
 unfold Cj;omega
theorem Kf (xs:List Int):0<=CB xs/\CB xs<Cj xs:=by
 have:=IE xs
 exact⟨BY _ (by omega),C9 _ (by omega)⟩
theorem WQ {xs:List Int}(h:xs.length=10):(Fd xs).length=8:=by unfold Fd;rw[An,C5,h]
theorem Q8 (z:List Nat):Do (.str (AB z)) [.str "for",.str "end",.str "size"]=decide (z∈DE):=by
 have key:∀y:Str,ET (.str y) (.str (AB z))=decide (z=cds y):=fun y=>by
  show(y==AB z)=_
  rw[En]
  simp only[E9,DX]
  exact⟨fun e=>by rw[e,B6],fun e=>by rw[e,Es]⟩
 unfold Do DE
 simp only[IL,List.any_nil,key,MQ]
 rw[En]
 simp
theorem Gp {α:Type}(l:List α){k:Int}(h:0<=k):Ck l none (some k)=l.take k.toNat:=by
 unfold Ck
 have e:k=((k.toNat:Nat):Int):=by omega
 rw[HT.sIx_none,e,HT.sIx_nat,IM,Nat.sub_zero]
 rw[show(((k.toNat:Nat):Int)).toNat=k.toNat by omega]
 by_cases h:k.toNat<=l.length
 .rw[IP h]
 .rw[Nat.min_eq_right (by omega),Fy (by omega),Fy (by omega)]
theorem Lc {α:Type}(l:List α){i j:Int}(hi:0<=i)(hj:0<=j)(hl:j<=(l.length:Int))(hij:i<=j):Ck l (some i) (some j)=(l.drop i.toNat).take (j.toNat-i.toNat):=by
 unfold Ck
 have e1:i=((i.toNat:Nat):Int):=by omega
 have e2:j=((j.toNat:Nat):Int):=by omega
 rw[e1,e2,HT.sIx_nat,HT.sIx_nat]
 rw[show(((i.toNat:Nat):Int)).toNat=i.toNat by omega,show(((j.toNat:Nat):Int)).toNat=j.toNat by omega,IP (by omega),IP (by omega)]
theorem O9 {α:Type}(l:List α){i:Int}(hi:0<=i):Ck l (some i) none=l.drop i.toNat:=by
 unfold Ck
 have e1:i=((i.toNat:Nat):Int):=by omega
 rw[e1,HT.sIx_nat,HT.sIx_none,show(((i.toNat:Nat):Int)).toNat=i.toNat by omega]
 by_cases h:i.toNat<=l.length
 .rw[IP h,Fy (by rw[C5];omega)]
 .rw[Nat.min_eq_right (by omega),CO,List.take_zero,IQ (by omega)]
theorem Xg {xs:List Int}{w:List Nat}(hw:w.length=8)(k:Int):(DD xs w k).length<=10:=by
 have hr:(BD xs w k).length<=8:=by
  unfold BD
  split
  .unfold Hq;rw[Bt];omega
  .have:=IE xs;have:=Kf xs
   unfold Gw
   rw[Ah,Ah,Bt,Bt,C5,Bs]
   omega
 unfold DD
 split
 .rw[Ah];simp;omega
 .omega
def FQ (c far:Int):Int:=if c%3=0 then c/3%7-3 else c/3%(2*far+1)-far
def RT:Sp:=fun vs H Q _=>∃(c far:Int),vs=[.int c,.int far]/\0<=far/\far<2 ^ 63/\Q (.int (FQ c far)) H
def Cr (c:Nat)(l:List Nat):List Nat:=l.take (l.idxOf c)
def Dj (c:Nat)(l:List Nat):List Nat:=l.drop (l.idxOf c+1)
def Dy (c:Nat)(l:List Nat):List V:=if c∈l then[.str (AB (Cr c l)),.str ⟨#[c]⟩,.str (AB (Dj c l))] else[.str (AB l),.str "",.str ""]
theorem IG {X:Cx}:G6 X "str.partition" (fun x xs H Q=>∃z c,x = .str z/\xs=[.str ⟨#[c]⟩]/\z.length<=sizeLine/\∀p,H p=none->Q (.ref p) (upd H p (.tup (Dy c (cds z))))):=by
 intro pins s σ H x xs v us Q I rx rv h
 obtain⟨z,c,rfl,rfl,hz,q⟩:=h
 obtain⟨t,rfl⟩:=rx
 obtain⟨u,rfl,t',rfl⟩:=rv.one
 have fin:∀(its:List Value) (tk:Nat),AD (Dy c (cds z)) its->EP X pins σ Q (.ref s.heap.objs.size) {s with toks:=tk,heap:=s.heap.push {cls:=.type "tuple",data:=.seq its.toArray}}:=fun its tk hv=>by
  refine⟨.ref s.heap.objs.size,_,I.laid (t':=tk) (o:=.tup (Dy c (cds z))) (fun b o e=>BR _ e) (Aj _) ?_,rfl,q _ (I.hok.fresh (Aj _))⟩
  refine⟨?_,its,hv,FS.new _ _⟩
  unfold Dy
  split<;>exact AE rfl
 refine GF F.slot_str_partition (HF _ _ _) F.entry_str_partition (F.args_str_partition_2 _ _) (meets_str_partition z ⟨#[c]⟩ t t' rfl hz) ?_
 rcases StrLaws.occ_head z ⟨#[c]⟩ 1 (Aj _) with⟨e,hn⟩|⟨i,r,e,ha,hn⟩
 .rw[e]
  have hc:¬c∈cds z:=fun hm=>by
   obtain⟨i,hi,hc⟩:=Qo.mp hm
   exact hn i ((StrLaws.subAt_one z c i).mpr (by rw[BB hi,hc]))
  refine fin _ _ ?_
  unfold Dy
  rw[Ab hc,Es]
  exact .cons ⟨_,rfl⟩ (.cons ⟨_,rfl⟩ (.cons ⟨_,rfl⟩ .nil))
 .rw[e]
  have hi:=(StrLaws.subAt_one z c i).mp ha
  have ei:=Ir hi fun k hk w=>hn k hk ((StrLaws.subAt_one z c k).mpr w)
  refine fin _ _ ?_
  unfold Dy Cr Dj
  rw[Af (C8 hi),ei]
  have e1:Builtin.Str.strSub z 0 i=AB ((cds z).take i):=CN (by rw[B6];exact(StrLaws.strSub_toList z 0 i).trans (by simp))
  have e2:Builtin.Str.strSub z (i+(⟨#[c]⟩:Str).length) z.length=AB ((cds z).drop (i+1)):=CN (by
   rw[B6]
   refine(StrLaws.strSub_toList z _ _).trans ?_
   show((cds z).drop (i+1)).take (z.length-(i+1))=_
   rw[Fy (by rw[C5,cds_len];exact Aj _)])
  rw[←e1,←e2]
  exact .cons ⟨_,rfl⟩ (.cons ⟨_,rfl⟩ (.cons ⟨_,rfl⟩ .nil))
def Bx (l:List Nat):Prop:=1<=l.length/\l.length<=8/\(∀c∈l,c∈cds Eu)/\l∉DE
noncomputable instance (l:List Nat):Decidable (Bx l):=by unfold Bx;infer_instance
theorem HL (c:Nat):c∈cds Eu↔97<=c/\c<=122:=by
 rw[Qe]
 simp only[CK,IJ]
 constructor
 .rintro ⟨k,hk,rfl⟩;omega
 .intro h;exact⟨c-97,by omega,by omega⟩
def EF (l:List Nat):Int:=((NumText.digitsVal l:Nat):Int)
def EC (l:List Nat):Option (List Nat×Int):=
 if Bx l then some (l,0) else if Ct l then some ([],EF l)
 else if 43∈l then(if Ct (Dj 43 l)/\Bx (Cr 43 l) then some (Cr 43 l,EF (Dj 43 l)) else none)
 else if 45∈l then(if Ct (Dj 45 l) then(if Bx (Cr 45 l)\/(Cr 45 l=[]/\0<EF (Dj 45 l)) then some (Cr 45 l,- EF (Dj 45 l)) else none) else none)
 else none
theorem J8 {l:List Nat}{c:Nat}(h:c∈l)(hc:¬(97<=c/\c<=122)):¬Bx l:=fun z=>hc ((HL c).mp (z.2.2.1 c h))
theorem Kj {l:List Nat}{c:Nat}(h:c∈l)(hc:¬(48<=c/\c<=57)):¬Ct l:=fun z=>hc (z.2.2.2 c h)
def RZ:Sp:=fun vs H Q _=>∃z:Str,vs=[.str z]/\z.length<=1000/\∀H',A7 H H'->Q (.bl (decide (Bx (cds z)))) H'
def GH (o:Option (List Nat×Int))(H:Hp)(Q:VK):Prop:=match o with
 |none=>∀H',A7 H H'->Q .non H'
 |some s=>∀r H',A7 H H'->H' r=some (.tup [.str (AB s.1),.int s.2])->Q (.ref r) H'
def TY (f:List Nat->Option (List Nat×Int)):Sp:=fun vs H Q _=>∃z:Str,vs=[.str z]/\z.length<=1000/\GH (f (cds z)) H Q
def PP (c:Nat)(f:List Nat->Option (List Nat×Int))(K:Ya):Sp:=fun vs H Q _=>∃(p:Addr) (l:List Nat),vs=[.ref p]/\Aw K H p (Dy c l)/\l.length<=1000/\GH (f l) H Q
theorem OZ (c:Nat)(l:List Nat)(h:l.length<=1000):∃b m e,Dy c l=[.str (AB b),.str m,.str (AB e)]/\(c∈l->b=Cr c l/\e=Dj c l)/\(c∉l->b=l/\e=[])/\(m=""↔c∉l)/\(AB b).length<=1000/\(AB e).length<=1000:=by
 unfold Dy
 have k:∀y:List Nat,(AB y).length=y.length:=fun y=>by rw[←cds_len,B6]
 by_cases hc:c∈l
 .rw[Af hc]
  refine⟨_,_,_,rfl,fun _=>⟨rfl,rfl⟩,fun z=>absurd hc z,⟨fun z=>by have:=Hs.mp z;rw[OU]at this;exact absurd this (by simp),fun z=>absurd hc z⟩,?_,?_⟩
  .rw[k];unfold Cr;rw[Bt];omega
  .rw[k];unfold Dj;rw[C5];omega
 .rw[Ab hc]
  refine⟨l,"",[],rfl,fun z=>absurd z hc,fun _=>⟨rfl,rfl⟩,⟨fun _=>hc,fun _=>rfl⟩,?_,?_⟩
  .rw[k];exact h
  .rw[k];exact Bw _
def HI (l:List Nat):Option (List Nat×Int):=if 43∈l then(if Ct (Dj 43 l)/\Bx (Cr 43 l) then some (Cr 43 l,EF (Dj 43 l)) else none) else none
def JN (l:List Nat):Option (List Nat×Int):=if 45∈l then(if Ct (Dj 45 l) then(if Bx (Cr 45 l)\/(Cr 45 l=[]/\0<EF (Dj 45 l)) then some (Cr 45 l,- EF (Dj 45 l)) else none) else none) else none
theorem Oo:¬Ct []:=fun z=>by have:=z.1;simp at this
theorem Jd {l:List Nat}(h:Ct l):Fh l = .int (EF l):=by unfold Fh EF;rw[Af h]
theorem JE {l:List Nat}(h:¬Ct l):Fh l = .non:=by unfold Fh;rw[Ab h]
theorem GH.over {o:Option (List Nat×Int)}{H H1:Hp}{Q:VK}(q:GH o H Q)(e:A7 H H1):GH o H1 Q:=by
 cases o with
 |none=>exact fun H' e'=>q H' (e.trans e')
 |some s=>exact fun r H' e' h=>q r H' (e.trans e') h
end L2
namespace Rd
open PySem
def NoAt (y l:List Nat)(n:Nat):Prop := ∀k,k<n->(l.drop k).take y.length≠y
inductive IsSplit (y:List Nat):List Nat->List (List Nat)->Prop
 |one {l:List Nat} (h:NoAt y l (l.length+1)):IsSplit y l [l]
 |cut {p l:List Nat} {ps:List (List Nat)} (h:NoAt y (p++(y++l)) p.length) (t:IsSplit y l ps):IsSplit y (p++(y++l)) (p::ps)
theorem Kc (p y l:List Nat):((p++(y++l)).drop p.length).take y.length=y:=by
 rw[KQ,Hv]
theorem IsSplit.fn {y:List Nat}{l:List Nat}{ps qs:List (List Nat)}(a:IsSplit y l ps)(b:IsSplit y l qs):ps=qs:=by
 induction a generalizing qs with
 |
  @one l h=>
  generalize e:l=l' at b
  cases b with
  |one _=>rfl
  |@cut p r ps h' t=>exact absurd (Kc p y r) (by rw[←e];exact h p.length (by rw[e,Ah];omega))
 |
  @cut p l ps h t ih=>
  generalize e:p++(y++l)=l' at b
  cases b with
  |one h'=>exact absurd (Kc p y l) (by rw[e];exact h' p.length (by rw[←e,Ah];omega))
  |
   @cut p' r ps' h' t'=>
   have hl:p.length=p'.length:=by
    rcases Nat.lt_trichotomy p.length p'.length with z|z|z
    .exact absurd (Kc p y l) (by rw[e];exact h' _ z)
    .exact z
    .exact absurd (Kc p' y r) (by rw[←e];exact h _ z)
   obtain⟨rfl,e2⟩:=List.append_inj e hl
   have e3:=List.append_cancel_left e2
   subst e3
   rw[ih t']
theorem M8 (x y:Str):∀(cuts:List Nat) (a f:Nat),StrLaws.ChainG x y x.length a cuts f->(∀k,f<=k->¬StrLaws.At x y x.length k)->a<=x.length->
  IsSplit (L2.cds y) ((L2.cds x).drop a) ((StrLaws.partsFrom x y.length a cuts).map L2.cds)
 |
  [],a,f,h,hn,ha=>by
  have e:f=a:=h
  subst e
  have e1:L2.cds (Builtin.Str.strSub x f x.length)=(L2.cds x).drop f:=(StrLaws.strSub_toList x f x.length).trans (Fy (by rw[C5];exact Aj _))
  show IsSplit _ _ [L2.cds (Builtin.Str.strSub x f x.length)]
  rw[e1]
  refine .one fun k hk z=>hn (f+k) (by omega) ⟨?_,?_⟩
  .have z1:=congrArg List.length z
   rw[Bt,C5,C5,L2.cds_len,L2.cds_len]at z1
   rw[C5,L2.cds_len]at hk
   by_cases h0:y.length=0
   .omega
   .omega
  .rw[StrLaws.subAt_eq,E9]
   rw[IR,L2.cds_len]at z
   exact z
 |
  c::r,a,f,h,hn,ha=>by
  obtain⟨h1,h2,h3,h4⟩:=h
  have h20:=h2.1
  have ih:=M8 x y r (c+y.length) f h4 hn h20
  have e1:L2.cds (Builtin.Str.strSub x a c)=((L2.cds x).drop a).take (c-a):=StrLaws.strSub_toList x a c
  have e2:((L2.cds x).drop c).take y.length=L2.cds y:=by have:=h2.2;rw[StrLaws.subAt_eq,E9]at this;exact this
  have e3:(L2.cds x).drop a=((L2.cds x).drop a).take (c-a)++(L2.cds y++(L2.cds x).drop (c+y.length)):=by
   rw[←e2,←IR,MY,show(L2.cds x).drop c=((L2.cds x).drop a).drop (c-a) by rw[IR];congr 1;omega,MY]
  show IsSplit _ _ (L2.cds (Builtin.Str.strSub x a c)::_)
  rw[e1]
  have hl:(((L2.cds x).drop a).take (c-a)).length=c-a:=by rw[Bt,C5,L2.cds_len];omega
  have key:=IsSplit.cut (y:=L2.cds y) (p:=((L2.cds x).drop a).take (c-a)) (l:=(L2.cds x).drop (c+y.length)) (ps:=(StrLaws.partsFrom x y.length (c+y.length) r).map L2.cds) (by
   rw[←e3,hl]
   intro k hk z
   rw[IR,L2.cds_len]at z
   refine h3 (a+k) (by omega) (by omega) ⟨by omega,?_⟩
   rw[StrLaws.subAt_eq,E9]
   exact z) ih
  rw[←e3]at key
  exact key
end Rd
namespace Rd
open PySem
theorem P4 (x y:Str)(hw:1<=y.length)(h:∀k,¬StrLaws.At x y x.length k):IsSplit (L2.cds y) (L2.cds x) [L2.cds x]:=by
 have h1:=M8 x y [] 0 0 rfl (fun k _=>h k) (Bw _)
 rw[IM]at h1
 have e:(StrLaws.partsFrom x y.length 0 []).map L2.cds=[L2.cds x]:=by
  show[L2.cds (Builtin.Str.strSub x 0 x.length)]=_
  rw[StrLaws.sub_whole]
 rw[e]at h1
 exact h1
theorem kind_le {x y:Str}(h:∀c∈L2.cds y,c<256):Builtin.Str.strKind y=1:=by
 unfold Builtin.Str.strKind
 rw[Af]
 rw[Array.all_eq_true']
 intro c hc
 exact B1 (h c (Qk.mpr hc))
theorem kind_pos (x:Str):1<=Builtin.Str.strKind x:=by
 unfold Builtin.Str.strKind
 split
 .decide
 .split<;>decide
theorem split_is (x y:Str)(hy:1<=y.length)(hk:∀c∈L2.cds y,c<256):IsSplit (L2.cds y) (L2.cds x) ((Txt.split x y).map L2.cds):=by
 obtain⟨f,hG,hn⟩:=StrLaws.occ_tight x y hy
 unfold Txt.split
 split
 .rename_i hc
  rw[MZ,DX,DX]at hc
  have k1:=kind_le (x:=x) hk
  have k2:=kind_pos x
  refine P4 x y hy fun k z=>?_
  have:=z.1
  omega
 .split
  .rename_i he
   have e0:Builtin.Str.occurrences x y 0 x.length (x.length+1)=[]:=List.isEmpty_iff.mp he
   rw[e0]at hG
   have ef:f=0:=hG
   subst ef
   exact P4 x y hy fun k=>hn k (Bw _)
  .rw[StrLaws.partsBetween_eq]
   have:=M8 x y _ 0 f hG hn (Bw _)
   rw[IM]at this
   exact this
theorem split_len (x y:Str):(Builtin.Str.partsBetween x (Builtin.Str.occurrences x y 0 x.length (x.length+1)) y.length).length<=x.length+2:=by
 have h1:=StrLaws.occ_length_le x y 0 x.length (x.length+1)
 unfold Builtin.Str.partsBetween
 rw[An,List.length_zip]
 simp only[AQ,An,Ah,MW]
 omega
theorem split_len2 (x y:Str):(Txt.split x y).length<=x.length+2:=by
 have:=split_len x y
 unfold Txt.split
 split
 .simp
 .split
  .simp
  .exact this
theorem NoAt.of {c:Nat}{y l:List Nat}{n:Nat}(h:∀k,k<n->l[k]?≠some c):NoAt (c::y) l n:=fun k hk z=>h k hk (by
 have:=congrArg List.head? z
 rw[AQ,List.head?_take,Ab (by omega),List.head?_drop]at this
 exact this)
theorem NoAt.free {c:Nat}{y p l:List Nat}(h:c∉p):NoAt (c::y) (p++l) p.length:=.of fun k hk z=>h (by
 rw[DM hk]at z
 exact C8 z)
theorem IsSplit.one' {c:Nat}{y p:List Nat}(h:c∉p):IsSplit (c::y) p [p]:=.one (.of fun k hk z=>h (C8 z))
theorem IsSplit.cut' {c:Nat}{y p l:List Nat}{ps:List (List Nat)}(h:c∉p)(t:IsSplit (c::y) l ps):IsSplit (c::y) (p++(c::y++l)) (p::ps):=.cut (.free h) t
theorem IsSplit.ne {y l:List Nat}{ps:List (List Nat)}(h:IsSplit y l ps):ps≠[]:=by
 cases h<;>exact Cy _ _
theorem IsSplit.flat {c:Nat}{l:List Nat}{ps:List (List Nat)}(h:IsSplit [c] l ps):ps.flatten=l.filter (· != c):=by
 have key:∀p:List Nat,c∉p->p.filter (· != c)=p:=fun p hp=>Qp.mpr fun a ha=>by
  rw[Ep]
  exact fun e=>hp (e▸ha)
 have at1:∀(p l:List Nat) (n:Nat),n<=p.length->NoAt [c] (p++l) n->∀k,k<n->(p)[k]?≠some c:=fun p l n hn h k hk z=>h k hk (by
  have hk':k<p.length:=by omega
  rw[Y3 (by omega),F7 hk']
  rw[BB hk']at z
  rw[BX z]
  rfl)
 induction h with
 |
  @one l h=>
  have hc:c∉l:=fun hm=>by
   obtain⟨k,hk⟩:=List.getElem?_of_mem hm
   have hk':=(BE.mp hk).1
   exact at1 l [] l.length (Aj _) (fun k hk=>by rw[Cq];exact h k (by omega)) k hk' hk
  rw[key l hc]
  exact Cq _
 |
  @cut p l ps h t ih=>
  have hc:c∉p:=fun hm=>by
   obtain⟨k,hk⟩:=List.getElem?_of_mem hm
   exact at1 p _ p.length (Aj _) h k (BE.mp hk).1 hk
  rw[N0,ih,G0,key p hc,G0]
  simp
end Rd
namespace L2
open PySem
theorem PK:∀{l:List (Str×Tok)},AD ((l.map (·.1)).map V.str) (strValues l)
 |[]=>.nil
 |(z,t)::l=>.cons ⟨t,rfl⟩ PK
theorem Mb {X:Cx}:G6 X "str.split" (fun x xs H Q=>∃z y:Str,x = .str z/\xs=[.str y]/\1<=y.length/\(∀c∈cds y,c<256)/\z.length<=900000/\∀(p:Addr) (ps:List Str),H p=none->Rd.IsSplit (cds y) (cds z) (ps.map cds)->Q (.ref p) (upd H p (.lst (ps.map V.str)))):=by
 intro pins s σ H x xs v us Q I rx rv h
 obtain⟨z,y,rfl,rfl,hy,hk,hz,q⟩:=h
 obtain⟨t,rfl⟩:=rx
 obtain⟨u,rfl,t',rfl⟩:=rv.one
 have e1:sizeLine=16777216:=HE
 have h1:=Rd.split_len z y
 have h2:=Rd.split_len2 z y
 have hy0:(y.length==0)=false:=by rw[Hy];omega
 have hs:=Rd.split_is z y hy hk
 have fin:∀(l:List (Str×Tok)) (tk:Nat),l.map (·.1)=Txt.split z y->EP X pins σ Q (.ref s.heap.objs.size) {s with toks:=tk,heap:=s.heap.push {cls:=.type "list",data:=.seq (strValues l).toArray}}:=fun l tk hl=>by
  refine⟨.ref s.heap.objs.size,_,I.laid (t':=tk) (o:=.lst ((Txt.split z y).map V.str)) (fun b o e=>BR _ e) (Aj _) ?_,rfl,q _ _ (I.hok.fresh (Aj _)) hs⟩
  refine⟨by rw[An];omega,strValues l,0,?_,Dl _ rfl⟩
  rw[←hl]
  exact PK
 cases h1:(decide (z.length<y.length)||decide (Builtin.Str.strKind z<Builtin.Str.strKind y))
 .cases hf:(Builtin.Str.occurrences z y 0 z.length (z.length+1)).isEmpty
  .refine GF F.slot_str_split (HF _ _ _) F.entry_str_split (F.args_str_split_2 _ _) (meets_str_split_sep z y t t' h1 hy0 hf (by omega) (by omega)) ?_
   show wants _ _ _ {s with toks:=_,heap:=s.heap.push {cls:=.type "list",data:=.seq (strsFrom s.toks (Builtin.Str.partsBetween z (Builtin.Str.occurrences z y 0 z.length (z.length+1)) y.length)).toArray}}
   rw[strsFrom_eq]
   exact fin (numbered s.toks _) _ ((numbered_texts _ _).trans ((Ab (QA h1)).trans (Ab (QA hf))).symm)
  .exact GF F.slot_str_split (HF _ _ _) F.entry_str_split (F.args_str_split_2 _ _) (meets_str_split_not_found z y t t' h1 hy0 hf) (fin [(z,t)] s.toks ((Ab (QA h1)).trans (Af hf)).symm)
 .exact GF F.slot_str_split (HF _ _ _) F.entry_str_split (F.args_str_split_2 _ _) (meets_str_split_cannot_occur z y t t' h1) (fin [(z,t)] s.toks (Af h1).symm)
theorem UO {X:Cx}:G6 X "str.endswith" (fun x xs H Q=>∃z c,x = .str z/\xs=[.str ⟨#[c]⟩]/\Q (.bl (decide ((cds z).getLast?=some c))) H):=by
 intro pins s σ H x xs v us Q I rx rv h
 obtain⟨z,c,rfl,rfl,q⟩:=h
 obtain⟨t,rfl⟩:=rx
 obtain⟨u,rfl,t',rfl⟩:=rv.one
 have e:Txt.endswith z ⟨#[c]⟩=decide ((cds z).getLast?=some c):=by
  unfold Txt.endswith
  rw[StrLaws.subAt_eq]
  have hl:(cds z).length=z.length:=cds_len z
  rw[En,GC,DX,DX,E9,List.getLast?_eq_getElem?]
  show 0+1<=z.length/\((cds z).drop (z.length-1)).take 1=[c]↔_
  rw[hl]
  constructor
  .intro⟨a,b⟩
   have:=congrArg List.head? b
   rw[List.head?_take,Ab (by decide),List.head?_drop]at this
   exact this
  .intro b
   have hb:=(BE.mp b).1
   refine⟨by omega,?_⟩
   rw[F7 (by omega)]
   rw[BB (by omega)]at b
   show[_]=_
   rw[BX b]
 exact SC.endswith ⟨.bl _,H,I.tok _,by rw[e];rfl,q⟩
def stp (c:Nat)(l:List Nat):List Nat:=((l.dropWhile (· == c)).reverse.dropWhile (· == c)).reverse
theorem TL {X:Cx}:G6 X "str.strip" (fun x xs H Q=>∃(z:Str) (c:Nat),x = .str z/\xs=[.str ⟨#[c]⟩]/\z.length<=sizeLine/\Q (.str (AB (stp c (cds z)))) H):=by
 intro pins s σ H x xs v us Q I rx rv h
 obtain⟨z,c,rfl,rfl,hz,q⟩:=h
 obtain⟨t,rfl⟩:=rx
 obtain⟨u,rfl,t',rfl⟩:=rv.one
 have hg:(#[c]:Array Nat).contains=fun a=>a==c:=by
  funext a
  rw[En]
  simp
 have dw:∀(l:List Nat),l.drop (l.takeWhile (· == c)).length=l.dropWhile (· == c):=fun l=>by
  induction l with
  |nil=>rfl
  |
   cons a l ih=>
   rw[IS,Fz]
   split
   .exact ih
   .rfl
 have e:Txt.stripChars z ⟨#[c]⟩=AB (stp c (cds z)):=by
  apply CN
  rw[B6]
  have key:cds (stripped (fun a=>a==c) true true z)=stp c (cds z):=by
   refine(StrLaws.strSub_toList z _ _).trans ?_
   unfold stripLo stripHi stp
   simp only[F8]
   show((cds z).drop ((cds z).takeWhile (· == c)).length).take (z.length-(((cds z).drop ((cds z).takeWhile (· == c)).length).reverse.takeWhile (· == c)).length-((cds z).takeWhile (· == c)).length)=_
   rw[dw]
   generalize hm:(cds z).dropWhile (· == c)=m
   rw[←dw m.reverse,List.drop_reverse,N1]
   congr 1
   have:=congrArg List.length (dw (cds z))
   rw[hm,C5,cds_len]at this
   omega
  unfold Txt.stripChars Txt.stripBy
  rw[hg]
  split
  .rename_i hs
   rw[←key]
   unfold stripSame at hs
   rw[GC,E9,E9]at hs
   unfold stripped
   rw[hs.2,hs.1,StrLaws.sub_whole]
  .exact key
 exact SC.stripChars (fun t' k=>⟨.str _,H,I.tok _,⟨_,by rw[e]⟩,q⟩) hz
end L2
namespace Rd
open PySem
theorem LS {M:Model}{Γ:Ctx}{p:Pos}{t:Sem Fin}{fs:List Frame}{s s':Shared}{e:End}(h:Runs M Γ p t fs s e s'):s.toks<=s'.toks:=by
 induction h with
 |done|raise|yield=>exact Aj _
 |fresh _ ih=>exact BI (Hu _) ih
 |again _ _ ih|rule _ ih | «at» _ ih|load _ _ ih|update _ _ ih|loadIfAlive _ ih|point _ ih|alloc _ ih|ask _ ih|choose _ _ ih|os _ ih|handled _ ih|genState _ _ ih|stack _ ih|thread _ ih|newGen _ ih=>exact ih
 |callSusp _ ih=>exact ih
 |segSuspOut _ _ ih=>exact ih
 |resumeJustStarted _ _ _ ih|resumeThrowFresh _ _ ih|resumeRunning _ _ ih|resumeFinished _ _ ih=>exact ih
 |call _ _ i1 i2|segRet _ _ i1 i2|segGen _ _ i1 i2=>exact BI i1 i2
 |resumeFresh _ _ _ _ i1 i2|resumeSuspended _ _ _ _ i1 i2|segSuspGen _ _ _ _ i1 i2=>exact BI i1 i2
theorem VN {M:Model}{Γ:Ctx}{p:Pos}{g:Nat}{r:Resume}{s s':Shared}{res:GenResult}(h:Wakes M Γ p g r s res s'):s.toks<=s'.toks:=by
 unfold Wakes at h
 split at h
 .exact h.elim
 .split at h
  .obtain⟨e₁,s₁,h1,_,_,rfl⟩:=h;exact(show(s.setGen g GenState.running).toks<=s₁.toks from LS h1)
  .obtain⟨_,rfl⟩:=h;exact Aj _
  .obtain⟨_,rfl⟩:=h;exact Aj _
 .obtain⟨e₁,s₁,h1,_,_,rfl⟩:=h;exact(show(s.setGen g GenState.running).toks<=s₁.toks from LS h1)
 .obtain⟨_,rfl⟩:=h;exact Aj _
 .obtain⟨_,rfl⟩:=h;exact Aj _
theorem Vk {α:Type}{M:Model}{Γ:Ctx}{t:Sem α}{Q:α->Pos->Shared->Prop}{E:Value->Pos->Shared->Prop}(n:Nat)(p:Pos)(s:Shared)(hn:n<=s.toks)(h:Sem.wp M Γ t Q E p s) :
  Sem.wp M Γ t (fun a p' s'=>Q a p' s'/\n<=s'.toks) E p s:=by
 revert h
 induction t generalizing p s with
 |pure x=>exact fun h=>⟨h,hn⟩
 |raise v=>exact id
 |unsupported|finish|yield|fork|await|register=>exact id
 |rule _ k ih | «at» _ k ih|alloc _ k ih|loadIfAlive _ k ih|point _ k ih|ask k ih|os _ _ k ih|handled _ k ih|newGen _ k ih|stack k ih|thread k ih=>exact ih _ _ _ hn
 |fresh k ih=>exact ih _ _ _ (Qq hn)
 |load a _ k ih|genState a k ih=>exact fun⟨o,ho,h⟩=>⟨o,ho,ih _ _ _ hn h⟩
 |update a _ f k ih|choose _ _ k ih=>exact fun⟨ha,h⟩=>⟨ha,ih _ _ _ hn h⟩
 |call c h g l k ih=>exact fun⟨r,s',hr,h⟩=>⟨r,s',hr,ih r _ _ (BI hn (LS hr)) h⟩
 |resume g r l k ih=>exact fun⟨res,s',hw,h⟩=>⟨res,s',hw,ih _ _ _ (BI hn (VN hw)) h⟩
theorem wpAny_toks {α:Type}{M:Model}{A:Around}{t:Sem α}{Q:α->Shared->Prop}{E:Value->Shared->Prop}{s:Shared}{n:Nat}(hn:n<=s.toks)(h:wpAny M A t Q E s):wpAny M A t (fun a s'=>Q a s'/\n<=s'.toks) E s:=
 fun Γ p hΓ=>Vk n p s hn (h Γ p hΓ)
end Rd
namespace L2
open PySem PySem.Spec PyProof.Rows
def Ha (X:Cx)(e:Expr)(t:TE):Prop:=
 ∀(pins:List (Addr×Obj)) (s:Shared) (σ:St) (H:Hp) (Q:VK),1<=s.toks->A5 X pins σ H s->t σ H Q->wpAny (model X.prog X.w) X.A (eval e X.env) (EP X pins σ Q) X.xe s
def Jx (X:Cx)(es:List Expr)(t:TA):Prop:=
 ∀(pos:Pos) (pins:List (Addr×Obj)) (s:Shared) (σ:St) (H:Hp) (Q:List V->Hp->Prop),1<=s.toks->A5 X pins σ H s->t σ H Q->wpAny (model X.prog X.w) X.A (spliced (backTo pos (starEach es X.env))) (AP X pins σ Q) X.xe s
section
variable {X:Cx}{a b e o:Expr}{es rest:List Expr}{ta tb te to:TE}{t:TA}{pos:Pos}
theorem Wx (ha:PE X e te)(hr:Jx X es t)(hs:starEach (e::es) X.env=(false,eval e X.env)::starEach es X.env:=by rfl):Jx X (e::es) (Gg te t):=by
 intro pos pins s σ H Q hp I h
 rw[hs]
 show wpAny _ _ (spliced ((false,eval e X.env)::backTo pos (starEach es X.env))) _ _ s
 refine Calls.spliced_cons (Ao (Rd.wpAny_toks hp (ha pins s σ H _ I h)) fun u s1 zz=>?_)
 obtain⟨⟨x,H1,I1,r1,q1⟩,hp1⟩:=zz
 refine Ao (hr pos pins s1 σ H1 _ hp1 I1 q1) fun us s2 zz=>?_
 obtain⟨xs,H2,I2,r2,q2⟩:=zz
 exact⟨x::xs,H2,I2,.cons r1 r2,q2⟩
theorem RA (ha:Ha X e te)(hs:starEach [e] X.env=(false,eval e X.env)::starEach [] X.env:=by rfl):Jx X [e] (Gg te FB):=by
 intro pos pins s σ H Q hp I h
 rw[hs]
 show wpAny _ _ (spliced ((false,eval e X.env)::backTo pos (starEach [] X.env))) _ _ s
 refine Calls.spliced_cons (Ao (ha pins s σ H _ hp I h) fun u s1 zz=>?_)
 obtain⟨x,H1,I1,r1,q1⟩:=zz
 exact Calls.spliced_nil ⟨[x],H1,I1,.cons r1 .nil,q1⟩
theorem Ug {op:CmpOp}{r:R2}{c:Str}{j:Nat}{cp p1:Pos}(ho:BG X (compareOp op) r)(ha:PE X a ta)(hm:behindInMarks op (.Constant (.str c) j cp)=false)(hb:Ha X b tb) :
  PE X (.BoolOp .And [.Compare a [op] [.Constant (.str c) j cp] p1,b] pos) (Lr (EU r ta (tC (.str c))) tb):=by
 intro pins s σ H Q I h
 have key:wpAny (model X.prog X.w) X.A (eval (.Compare a [op] [.Constant (.str c) j cp] p1) X.env) (fun v s'=>EP X pins σ (fun x H1=>∃c,x = .bl c/\if c=true then tb σ H1 Q else Q (.bl false) H1) v s'/\1<=s'.toks) X.xe s:=by
  refine wpAny_Compare1 (Ao (ha pins s σ H _ I h) fun v s1 zz=>?_) hm
  obtain⟨x,H1,I1,r1,q1⟩:=zz
  refine J1 ?_
  refine Rd.wpAny_toks (s:={s1 with toks:=s1.toks+1}) (N8 (Bw _)) ?_
  exact ho pins _ σ H1 x (.str c) v _ _ (I1.tok _) r1 ⟨_,rfl⟩ q1
 refine BoolOp_and (Ao key fun v s1 zz=>?_)
 obtain⟨⟨x,H1,I1,r1,q1⟩,hp⟩:=zz
 obtain⟨c,rfl,q1⟩:=q1
 cases r1
 refine Hz ?_
 cases c with
 |true=>exact BoolOp_one (hb pins s1 σ H1 Q hp I1 q1)
 |false=>exact⟨.bl false,H1,I1,rfl,q1⟩
theorem SE {CX:E1}{k:Nat}{f:Addr}{fd:FuncData}{ps:List Str}{sp:Sp}{x:Str}{ds:List Value}{dvs:List V}{E:XK}{p:Pos}(F:AI X.prog X.w X.K X.mg X.base CX k f fd ps sp)(hr:Ci k X.A)(hg:Gl X x)(hm:X.mg x=some (.ref f))(hk:PySem.W.keepIn X.K (.ref f)=true)(hb:AL X.K fd ps ds)(hd:AD dvs ds)(hx:Gv CX X E)
  (ha:Jx X (e::es) t) (hdb:(x==("__debug__":Str))=false:=by decide) (he:starEach (e::es) X.env=(false,eval e X.env)::starEach es X.env:=by rfl) (hpl:(backTo pos (starEach es X.env)).any (·.1)=false:=by rfl) :
  Ha X (.Call (.Name x p) (e::es) [] pos) (O2 sp dvs E t):=by
 intro pins s σ H Q hp I h
 refine GE (Iv I hg hm ?_ hdb)
 refine Ql (h₀:=X.base) I.ok.mod.kin hk (Ao (ha pos pins s σ H _ hp I h) fun us s1 zz=>?_) he hpl
 obtain⟨vs,H1,I1,r,q⟩:=zz
 refine⟨I1.kIn,?_⟩
 exact PF F hr hb hd hx I1 r q
theorem SJ (x:Str)(c:Nat)(hc:c<256):cds (Txt.replace x ⟨#[c]⟩ ⟨#[]⟩)=(cds x).filter (· != c):=by
 have h:=Rd.split_is x ⟨#[c]⟩ (Aj _) (fun d hd=>by have e:d=c:=(by simpa[cds] using hd);omega)
 have hcd:cds ⟨#[c]⟩=[c]:=rfl
 rw[hcd]at h
 have e:cds (Txt.replace x ⟨#[c]⟩ ⟨#[]⟩)=((Txt.split x ⟨#[c]⟩).map cds).flatten:=by
  rw[←L8]
  unfold Txt.replace Txt.split
  cases hf:(Builtin.Str.occurrences x ⟨#[c]⟩ 0 x.length (x.length+1)).isEmpty
  .have e1:(false||((⟨#[c]⟩:Str).length==0&&(⟨#[]⟩:Str).length==0))=false:=rfl
   rw[e1]
   simp only[Na,J0]
   rw[Ab]
   .rfl
   .intro hk
    rw[MZ,DX,DX]at hk
    have hne:Builtin.Str.occurrences x ⟨#[c]⟩ 0 x.length (x.length+1)≠[]:=fun z=>by rw[z]at hf;cases hf
    have k1:=Rd.kind_le (x:=x) (y:=⟨#[c]⟩) (fun d hd=>by have e:d=c:=(by simpa[cds] using hd);omega)
    have k2:=Rd.kind_pos x
    have hl:x.length<1:=by
     rcases hk with z|z
     .exact z
     .omega
    obtain⟨f,hG,_⟩:=StrLaws.occ_tight x ⟨#[c]⟩ (Aj _)
    cases hL:Builtin.Str.occurrences x ⟨#[c]⟩ 0 x.length (x.length+1) with
    |nil=>exact hne hL
    |
     cons i r=>
     rw[hL]at hG
     have h1:=hG.2.1.1
     have:(⟨#[c]⟩:Str).length=1:=rfl
     omega
  .simp only[Bool.true_or,F8]
   split
   .exact congrArg cds (show x=Txt.join "" [x] from rfl)
   .exact congrArg cds (show x=Txt.join "" [x] from rfl)
 rw[e,h.flat]
def Pr (c:Nat):V->List V->Hp->VK->Prop:=fun x xs H Q=>∃z:Str,x = .str z/\z.length<=1000000/\Q (.str (AB ((cds z).filter (· != c)))) H
theorem Uj {c:Nat}{y w':Str}{j1 j2:Nat}{p1 p2 apos:Pos}(hy:y=⟨#[c]⟩)(hw:w'=⟨#[]⟩)(hc:c<256)(ho:PE X o to)
  (hbase:attributeBase o "replace" X.env (eval o X.env)=eval o X.env:=by rfl)
  (hfew:((backTo pos (starEach [.Constant (.str y) j1 p1,.Constant (.str w') j2 p2] X.env)).all (fun x=>!x.1)&&(backToKw pos (keywordEach [] X.env)).all (fun x=>x.1.isSome)
   && decide (([.Constant (.str y) j1 p1,.Constant (.str w') j2 p2]:List Expr).length+([]:List Keyword).length+(if([]:List Keyword).isEmpty then 0 else 1)<30))=true:=by rfl)
  (hline:(apos.endLine==pos.line)=true:=by rfl) :
  Ha X (.Call (.Attribute o "replace" apos) [.Constant (.str y) j1 p1,.Constant (.str w') j2 p2] [] pos) (Mc X.K "str" (Pr c) to FB):=by
 intro pins s σ H Q hp I h
 refine Nm hbase hfew hline rfl (Ao (Rd.wpAny_toks hp (ho pins s σ H _ I h)) fun v s1 zz=>?_)
 obtain⟨⟨x,H1,I1,r1,ty,q1⟩,hp1⟩:=zz
 obtain⟨h1,h2⟩:=IC I1 r1 ty
 refine⟨"str","str.replace",F.plainAttrs_str,F.slot_str_replace,F.type_str_replace,h1,h2,?_⟩
 obtain⟨z,rfl,hz,q⟩:=(show Pr c x [] H1 Q from q1)
 obtain⟨t,rfl⟩:=r1
 refine Calls.callWith_builtin rfl (Calls.evalArgs_plain ?_)
 show wpAny _ _ (spliced ((false,eval (.Constant (.str y) j1 p1) X.env)::(false,eval (.Constant (.str w') j2 p2) X.env)::[])) _ _ _
 refine Calls.spliced_cons (J1 (Calls.spliced_cons (J1 (Calls.spliced_nil ?_))))
 subst hy hw
 show wpAny _ _ (call (.builtin "str.replace") [.str z t,.str ⟨#[c]⟩ s1.toks,.str ⟨#[]⟩ (s1.toks+1)]) _ _ {s1 with toks:=s1.toks+1+1}
 refine SC.replaceW (show s1.toks≠0 by omega) (show s1.toks+1≠0 by omega) (show s1.toks≠s1.toks+1 by omega) (by rw[Hy];exact fun z=>by cases z) (by omega) (Bw _) fun t' k=>⟨.str _,H1,I1.tok _,⟨t',?_⟩,q⟩
 exact congrArg (fun y=>Value.str y t') (CN (by rw[B6];exact SJ z c hc))
end
def X0 (C:Addr):Sp:=fun vs H Q _=>∃(x dx:Addr) (v1 v2 v3 v4 v5 v6 v7:V),vs=[.ref x,v1,v2,v3,v4,v5,v6,v7]/\H x=some (.ins C dx [])/\∀H',(∀b o,H b=some o->b≠x->H' b=some o)->(∃dx,H' x=some (.ins C dx [("names",v1),("lows",v2),("highs",v3),("table",v4),("spots",v5),("term",v6),("path",v7)]))->Q .non H'
theorem XD {l:List Nat}(h:l∈DE):l.head?≠some 122:=by
 have e1:(cds "for").head?≠some 122:=by decide +kernel
 have e2:(cds "end").head?≠some 122:=by decide +kernel
 have e3:(cds "size").head?≠some 122:=by decide +kernel
 unfold DE at h
 rcases AG.mp h with rfl|h
 .exact e1
 rcases AG.mp h with rfl|h
 .exact e2
 rcases AG.mp h with rfl|h
 .exact e3
 .cases h
theorem Pk {α:Type}[DecidableEq α]:∀{l k:List α},l.Nodup->(∀x∈l,x∈k)->l.length<=k.length
 |[],_,_,_=>Bw _
 |
  a::l,k,hn,hs=>by
  have ha:=hs a AA
  have h2:=GB.mp hn
  have:=Pk (l:=l) (k:=k.erase a) h2.2 fun x hx=>(List.mem_erase_of_ne (show x≠a from fun e=>h2.1 (by rw[←e];exact hx))).mpr (hs x (B8 _ hx))
  rw[List.length_erase_of_mem ha]at this
  have:0<k.length:=List.length_pos_of_mem ha
  simp only[AQ]
  omega
theorem Fn {α:Type}(l:List α)(x:α)(m:List α){n:Int}(hn:n = -((m.length:Int)+1)):Bu (l++x::m) n=some x:=by
 unfold Bu E3
 have hl:(l++x::m).length=l.length+(m.length+1):=by rw[Ah];rfl
 rw[hl,Ab (by omega),Af (by omega)]
 show(l++x::m)[(n+((l.length+(m.length+1):Nat):Int)).toNat]?=some x
 rw[show(n+((l.length+(m.length+1):Nat):Int)).toNat=l.length by omega,CJ (Aj _),CO]
 rfl
theorem Jf (l m:List V)(hm:0<m.length){n:Int}(hn:n = -(m.length:Int)):De (l++m) none (some n)=l:=by
 unfold De
 have hl:(l++m).length=l.length+m.length:=Ah
 have e1:HT.sIx (l++m).length 0 none=0:=rfl
 have e2:HT.sIx (l++m).length (l++m).length (some n)=l.length:=by
  show(if n<0 then(n+((l++m).length:Int)).toNat else min n.toNat (l++m).length)=l.length
  rw[hl,Af (by omega)]
  omega
 rw[e1,e2,IM,Nat.sub_zero,KR]
 rfl
theorem KJ {tt:TT}{ta tb:TS}{D:DG}{σ:St}{H:Hp}(M:Hp->Prop)(hb:∀H',M H'->tb D σ H')(h:(∀H',M H'->tb D σ H')->JJ tt ta tb D σ H):JJ tt ta tb D σ H:=h hb
theorem Fu {α:Type}{l:List α}{n:Nat}(h:l.length=n+1):∃p x,l=p++[x]/\p.length=n:=by
 have hne:l≠[]:=fun e=>by rw[e]at h;cases h
 exact⟨l.dropLast,l.getLast hne,(Y4 hne).symm,by rw[List.length_dropLast];omega⟩
theorem G7 {H H2:Hp}{x dx C:Addr}(hx:H x=none)(hdx:H dx=none)(k:∀b o,(upd (upd H dx (.own x)) x (.ins C dx [])) b=some o->b≠x->H2 b=some o):A7 H H2:=fun b o e=>by
 have n1:=AC e hx
 have n2:=AC e hdx
 exact k b o (by rw[A8 n1,A8 n2];exact e) n1
theorem NT (ns:List Int)(lo hi:Option Int):De (ns.map V.int) lo hi=(Ck ns lo hi).map V.int:=by
 unfold De Ck
 rw[An,List.map_take,List.map_drop]
section
variable {X:Cx}{pins:List (Addr×Obj)}{σ:St}{H:Hp}{s:Shared}{h':Heap}
theorem A5.turnedL {t':Nat}{ch:List Addr}(I:A5 X pins σ H s)(k:∀b o,b∉ch->s.heap.get? b=some o->h'.get? b=some o)(hf:∀b∈ch,Ei X pins H b):A5 X pins σ H {s with heap:=h',toks:=t'}:=by
 have nit:∀b u,H b=some u->b∉ch:=fun b u e z=>by rw[(hf b z).1]at e;cases e
 have hL:X.env.locals∉ch:=fun z=>(hf _ z).2.1 rfl
 refine I.step (g':=s.gens) (d':=s.drawn) (ch:=ch) (fun b hb=>?_) (fun b o _ _ hc e _=>k b o hc e) (fun b o _ _ hc e _=>⟨o.slots,k b o hc e⟩) (fun _ _ _ _ n=>n)
  (fun b o hc e=>⟨o,k b o hc e⟩) (fun _ _ e=>e) (fun _ _ _ e=>e) (fun b ps e=>⟨#[],by rw[e];simp⟩) (fun m hm=>?_) (fun b u e=>?_) I.bare
 .obtain⟨f0,f1,f2,f3,f4,f5⟩:=hf b hb
  exact⟨f3,f1,f4,f5⟩
 .obtain⟨o,es,ep,ho,r⟩:=hm
  exact⟨o,es,ep,k _ o hL ho,r⟩
 .refine(I.hok b u e).stay (fun c v hc q=>k c v ?_ q) (fun _ q=>q) fun _ _ q=>q
  rcases hc with z|z
  .rw[z];exact nit b u e
  .exact nit c _ z
end
end L2
namespace Rd
open PySem
open AutoSeq1 (wpAny_loadPart')
section
variable {prog:Program}{w:World}{A:Around}{E:Value->Shared->Prop}{s:Shared}
theorem UC {T newId initId:String}{Bn Bi:Builtin}{args:List Value}{kw:List (Str×Value)}{S:Spec}{Q Q₁:Value->Shared->Prop}(ft:TypeCalled T newId initId)
  (hct:checkTypeCall T ⟨args,kw⟩=pure ()) (hcn:checkBuiltinCall newId ⟨.type T::args,kw⟩=pure ())
  (entryN:entryFor table newId=some Bn) (entryI:entryFor table initId=some Bi) (g:Meets (Bn ⟨.type T::args,kw⟩) S)
  (h:S A.in1 (wants Q₁ E) s)
  (hnext:∀obj s₁,Q₁ obj s₁->s₁.TypeIs obj T/\argsOk initId ⟨obj::args,kw⟩/\∃Si,Meets (Bi ⟨obj::args,kw⟩) Si/\Si A.in1 (wants (fun r s₂=>r = .none/\Q obj s₂) E) s₁) :
  wpAny (model prog w) A (call (.type T) args kw) Q E s:=by
 obtain⟨c,tl,hmro⟩:=ft.mro
 have hmade:=ft.made
 have hsub:=ft.sub
 refine wpAny_call (codeAny_of_tree ?_)
 show wpAny _ _ (callAny (.type T) _) _ _ _
 refine Ca ⟨Code.quiet_builtin _ (by decide +kernel),codeAny_builtin F.entry_type_call ?_⟩
 rw[Around.under_plain (weight_type_call_type T args kw) (units_type_call_type T args kw)]
 have h1:=ft.notType
 have h2:=ft.canCreate
 repeat (any_goals (first|assumption|wp_step))
 refine IZ (codeAny_call_builtin ft.plain entryN (wpAny_of_eq hcn (g prog w A.in1 _ s h))) fun r s₁ hr=>?_
 cases r with
 |error e=>exact hr
 |
  ok fl=>
  cases fl with
  |
   ret obj=>
   obtain⟨hT,hok,Si,gi,hsi⟩:=hnext _ _ hr
   have hli:=ft.init.lookup
   have hbi:=ft.init.bind obj
   repeat (any_goals (first|assumption|wp_step))
   refine IZ (codeAny_call_builtin ft.init.plain entryI (ft.init.check _ _ _ _ _ _ _ _ hT hok (gi prog w A.in1 _ s₁ hsi))) fun r₂ s₂ hr₂=>?_
   cases r₂ with
   |error e=>exact hr₂
   |
    ok fl₂=>
    cases fl₂ with
    |
     ret r=>
     obtain⟨rfl,hq⟩:=hr₂
     repeat (any_goals (first|assumption|wp_step))
    |_=>exact hr₂.elim
  |_=>exact hr.elim
theorem Wz {T newId:String}{self:Value}{rest:List Value}{kw:List (Str×Value)}(hl:typeLookup (.type T) "__init__"=pure (some (.builtin "object.__init__")))
  (hm:Bind.madeBy (.type T)=pure (some newId)) (hne:(some newId != some "object.__new__")=true) (hr:rest≠[]) :
  Meets (Builtin.«object.__init__» ⟨self::rest,kw⟩) (fun _ R s=>s.TypeIs self T/\R (.ok (.ret .none)) s):=by
 refine Meets.of_wp fun prog w A R s hs=>?_
 obtain⟨hT,hq⟩:=hs
 cases rest with
 |nil=>exact absurd rfl hr
 |
  cons a rest=>
  repeat (any_goals (first|assumption|wp_step))
  exact⟨_,rfl,hq⟩
theorem UP (l:Addr)(items:Array Value)(n:Nat)(dct:Option Addr)(sl:Array (Option Value))(t:Tok) :
  Meets (Builtin.«enumerate.__new__» ⟨[.type "enumerate",.ref l],[("start",.int 1 t)]⟩) (fun _ R s=>s.heap.get? l=some {cls:=.type "list",dict:=dct,data:=.seq items n,slots:=sl}/\
   R (.ok (.ret (.ref (s.heap.push {cls:=.type "list_iterator",data:=.fields #[.ref l,.int 0 0]}).objs.size)))
    {s with heap:=(s.heap.push {cls:=.type "list_iterator",data:=.fields #[.ref l,.int 0 0]}).push {cls:=.type "enumerate",data:=.fields #[.none,.bool false,.ref s.heap.objs.size,rawInt 1,.none,.none]}}):=
 .of_wp fun prog w A R s h=>by
  obtain⟨hp,g,d,tk,os⟩:=s;obtain⟨hl,h⟩:=h
  have hsub:=sub_enumerate
  have hL:Heap.IsList (Shared.heap ⟨hp,g,d,tk,os⟩) l items:=⟨_,hl,rfl,n,rfl⟩
  wp_walk using wpAny_loadPart' hl
  refine wpAny_stack_any fun st=>Ca ?_
  split
  .rename_i c _ _ _ _ _
   cases (c==Value.type "enumerate")
   .wp_walk using wpAny_loadPart' hl,L4 hL
    exact⟨_,rfl,h⟩
   .wp_walk using wpAny_loadPart' hl,L4 hL
    exact⟨_,rfl,h⟩
  .wp_walk using wpAny_loadPart' hl,L4 hL
   exact⟨_,rfl,h⟩
theorem Tb (a b c:Value):argsOk "object.__init__" ⟨[a,b],[("start",c)]⟩:=by
 unfold argsOk
 rw[signature?_of (id:="object.__init__") (n:=['_','_','t','i','n','i','_','_']) (o:=['t','c','e','j','b','o']) (by kernel_rfl) F.owner_object]
 kernel_rfl
theorem call_enum_start {l:Addr}{items:Array Value}{t:Tok}{Q:Value->Shared->Prop}(hL:s.heap.IsList l items)
  (h:∀h',IsEnum h' (s.heap.objs.size+1) s.heap.objs.size 1 .none->h'.IsListIter s.heap.objs.size l 0->h'.objs.size=s.heap.objs.size+2->
   (∀b o,s.heap.get? b=some o->h'.get? b=some o)->Q (.ref (s.heap.objs.size+1)) {s with heap:=h'}) :
  wpAny (model prog w) A (call (.type "enumerate") [.ref l] [("start",.int 1 t)]) Q E s:=by
 obtain⟨⟨c,dct,dt,sl⟩,hl,hc,n,hd⟩:=hL
 replace hc:c = .type "list":=hc
 replace hd:dt = .seq items n:=hd
 subst hc hd
 refine UC (Q₁:=fun obj s₁=>s₁.TypeIs obj "enumerate"/\Q obj s₁) F.called_enumerate (by kernel_rfl) (by kernel_rfl) F.entry_enumerate_new F.entry_object_init (UP l items n dct sl t) ⟨hl,?_⟩ fun obj s₁ hq=>⟨hq.1,Tb _ _ _,_,Wz F.called_enumerate.init.lookup F.called_enumerate.made (by decide) (Cy _ _),hq.1,rfl,hq.2⟩
 have hz:(s.heap.push {cls:=.type "list_iterator",data:=.fields #[.ref l,.int 0 0]}).objs.size=s.heap.objs.size+1:=Ht ..
 show _/\_
 rw[hz]
 have he:IsEnum ((s.heap.push {cls:=.type "list_iterator",data:=.fields #[.ref l,.int 0 0]}).push
   {cls:=.type "enumerate",data:=.fields #[.none,.bool false,.ref s.heap.objs.size,rawInt 1,.none,.none]}) (s.heap.objs.size+1) s.heap.objs.size 1 .none:=by
  have:=Dl (s.heap.push {cls:=.type "list_iterator",data:=.fields #[.ref l,.int 0 0]})
   (o:={cls:=.type "enumerate",data:=.fields #[.none,.bool false,.ref s.heap.objs.size,rawInt 1,.none,.none]}) rfl
  rw[hz]at this;exact this
 refine⟨⟨_,he,rfl⟩,h _ he ⟨_,BR _ (Dl _ rfl),rfl,rfl⟩ (by rw[Ht,hz]) fun b o x=>BR _ (BR _ x)⟩
end
end Rd
namespace Rd
open PySem
open AutoSeq1 (wpAny_loadPart')
section
variable {prog:Program}{w:World}{A:Around}{E:Value->Shared->Prop}{s:Shared}
theorem SO {e it l:Addr}{i:Nat}{c:Int}{items:Array Value}{x old:Value}{Q:Value->Shared->Prop}
  (he:IsEnum s.heap e it c old) (hit:s.heap.IsListIter it l i) (hl:s.heap.IsList l items) (hx:items[i]?=some x) (hne:e≠it)
  (hQ:∀h',IsEnumOut h' e it (c+1) x s.heap.objs.size->h'.IsListIter it l (i+1)->
   h'.get? s.heap.objs.size=some {cls:=.type "tuple",data:=.seq #[.int c s.toks,x]}->h'.objs.size=s.heap.objs.size+1->
   (∀b o,b≠e->b≠it->s.heap.get? b=some o->h'.get? b=some o)->Q (.ref s.heap.objs.size) {s with heap:=h',toks:=s.toks+1}) :
  wpAny (model prog w) A (Builtin.«enumerate.__next__» ⟨[.ref e],[]⟩) (fun fin s'=>∃v,fin = .done (.ret v)/\Q v s') E s:=by
 obtain⟨hp,g,d,tk,os⟩:=s
 show wpAny _ _ (field (.ref e) 2>>=_) _ _ _
 refine B7 (J2 he rfl (x:=.ref it) rfl ?_)
 refine B7 (wpAny_nextOf_list_item hit hl hx fun h₁ hit₁ hs₁=>?_)
 replace hs₁:Heap.SameBut it hp h₁:=hs₁
 have he₁:IsEnum h₁ e it c old:=(hs₁.2 e hne).trans he
 show wpAny _ _ (field (.ref e) 3>>=_) _ _ ⟨h₁,g,d,tk,os⟩
 refine B7 (J2 he₁ rfl (x:=rawInt c) rfl ?_)
 show wpAny _ _ (field (.ref e) 4>>=_) _ _ ⟨h₁,g,d,tk,os⟩
 refine B7 (J2 he₁ rfl (x:=.none) rfl ?_)
 show wpAny _ _ (mkInt c>>=_) _ _ ⟨h₁,g,d,tk,os⟩
 refine B7 (wpAny_mkInt ?_)
 show wpAny _ _ (setField (.ref e) 3 (rawInt (c+1))>>=_) _ _ ⟨h₁,g,d,tk+1,os⟩
 refine B7 (L6 he₁ (by simp) fun h₂ he₂ hs₂=>?_)
 replace hs₂:Heap.SameBut e h₁ h₂:=hs₂
 replace he₂:IsEnum h₂ e it (c+1) old:=he₂
 show wpAny _ _ (setField (.ref e) 4 .none>>=_) _ _ ⟨h₂,g,d,tk+1,os⟩
 refine B7 (L6 he₂ (by simp) fun h₃ he₃ hs₃=>?_)
 replace hs₃:Heap.SameBut e h₂ h₃:=hs₃
 replace he₃:IsEnum h₃ e it (c+1) old:=he₃
 show wpAny _ _ (newTuple [.int c tk,x]>>=_) _ _ ⟨h₃,g,d,tk+1,os⟩
 refine B7 (wpAny_newTuple ?_)
 have he₄:IsEnum (h₃.push {cls:=.type "tuple",data:=.seq #[.int c tk,x]}) e it (c+1) old:=BR _ he₃
 generalize hh₄:h₃.push {cls:=.type "tuple",data:=.seq #[.int c tk,x]}=h₄ at he₄
 have hsz:h₃.objs.size=hp.objs.size:=by rw[hs₃.1,hs₂.1,hs₁.1]
 have hel:e<hp.objs.size:=BA he
 have ht₄:h₄.get? hp.objs.size=some {cls:=.type "tuple",data:=.seq #[.int c tk,x]}:=by rw[←hh₄,←hsz];exact Dl _ rfl
 have hz₄:h₄.objs.size=hp.objs.size+1:=by rw[←hh₄,Ht,hsz]
 have hk₄:∀b o,b≠e->b≠it->hp.get? b=some o->h₄.get? b=some o:=fun b o hbe hbi hb=>by
  rw[←hh₄];exact BR _ (hs₃.extBut b o hbe (hs₂.extBut b o hbe (hs₁.extBut b o hbi hb)))
 have hit₄:h₄.IsListIter it l (i+1):=by
  rw[←hh₄];obtain⟨o,ho,r⟩:=(hit₁.extBut hs₂.extBut (Ne.symm hne)).extBut hs₃.extBut (Ne.symm hne);exact⟨o,BR _ ho,r⟩
 show wpAny _ _ (Builtin.SmallTypes.ownedTupleIsFree (.ref e)>>=_) _ _ ⟨h₄,g,d,tk+1,os⟩
 rw[hsz]
 clear hh₄ he₃ hs₃ he₂ hs₂ he₁ hs₁ hit₁ hsz h₃ h₂ h₁
 refine B7 ?_
 .unfold Builtin.SmallTypes.ownedTupleIsFree
  refine B7 (J2 he₄ rfl (x:=.none) rfl (Ca ?_))
  simp only[F8]
  refine B7 (wpAny_rule ?_)
  refine B7 (J2 he₄ rfl (x:=old) rfl ?_)
  refine B7 (L6 he₄ (by simp) fun h₅ he₅ hs₅=>?_)
  replace hs₅:Heap.SameBut e h₄ h₅:=hs₅
  replace he₅:IsEnum h₅ e it (c+1) x:=he₅
  show wpAny _ _ (Builtin.SmallTypes.ownedTupleHandOut (.ref e) (.ref hp.objs.size)>>=_) _ _ ⟨h₅,g,d,tk+1,os⟩
  refine B7 ?_
  .unfold Builtin.SmallTypes.ownedTupleHandOut
   refine B7 (L6 he₅ (by simp) fun h₆ he₆ hs₆=>?_)
   replace hs₆:Heap.SameBut e h₅ h₆:=hs₆
   replace he₆:IsEnumOut h₆ e it (c+1) x hp.objs.size:=he₆
   refine L6 he₆ (by simp) fun h₇ he₇ hs₇=>?_
   replace hs₇:Heap.SameBut e h₆ h₇:=hs₇
   replace he₇:IsEnumOut h₇ e it (c+1) x hp.objs.size:=he₇
   refine B7 (wpAny_letGo (Ca ⟨_,rfl,hQ h₇ he₇ ?_ ?_ ?_ ?_⟩))
   .exact((hit₄.extBut hs₅.extBut (Ne.symm hne)).extBut hs₆.extBut (Ne.symm hne)).extBut hs₇.extBut (Ne.symm hne)
   .exact hs₇.extBut _ _ (KN hel) (hs₆.extBut _ _ (KN hel) (hs₅.extBut _ _ (KN hel) ht₄))
   .rw[hs₇.1,hs₆.1,hs₅.1,hz₄]
   .exact fun b o hbe hbi hb=>hs₇.extBut b o hbe (hs₆.extBut b o hbe (hs₅.extBut b o hbe (hk₄ b o hbe hbi hb)))
theorem enumC_next {e it l:Addr}{i:Nat}{c:Int}{items:Array Value}{x old:Value}{Q:Option Value->Shared->Prop}
  (he:IsEnum s.heap e it c old) (hit:s.heap.IsListIter it l i) (hl:s.heap.IsList l items) (hx:items[i]?=some x) (hne:e≠it)
  (hQ:∀h',IsEnumOut h' e it (c+1) x s.heap.objs.size->h'.IsListIter it l (i+1)->
   h'.get? s.heap.objs.size=some {cls:=.type "tuple",data:=.seq #[.int c s.toks,x]}->h'.objs.size=s.heap.objs.size+1->
   (∀b o,b≠e->b≠it->s.heap.get? b=some o->h'.get? b=some o)->Q (some (.ref s.heap.objs.size)) {s with heap:=h',toks:=s.toks+1}) :
  wpAny (model prog w) A (pyNext (.ref e)) Q E s:=by
 have hT:s.TypeIs (.ref e) "enumerate":=⟨_,he,rfl⟩
 unfold pyNext
 exact B7 (wpAny_attempt (wpAny_callSpecial?_slot (name:=Str.ofString "__next__") hT F.slot_enumerate_next
  (wpAny_call_entry F.slot_enumerate_next hT F.entry_enumerate_next
   (SO he hit hl hx hne fun h' a b c d k=>Ca (hQ h' a b c d k)) (F.args_enumerate_next_1 _))))
theorem enumC_end {e it l:Addr}{i:Nat}{c:Int}{items:Array Value}{old:Value}{Q:Option Value->Shared->Prop}(hh:A.handled=none)
  (he:IsEnum s.heap e it c old) (hit:s.heap.IsListIter it l i) (hl:s.heap.IsList l items) (hx:items[i]?=none)
  (hQ:∀h',Heap.ExtBut it s.heap h'->Q none {s with heap:=h'}):wpAny (model prog w) A (pyNext (.ref e)) Q E s:=by
 have hT:s.TypeIs (.ref e) "enumerate":=⟨_,he,rfl⟩
 unfold pyNext
 refine B7 (wpAny_attempt (wpAny_callSpecial?_slot (name:=Str.ofString "__next__") hT F.slot_enumerate_next
  (wpAny_call_entry F.slot_enumerate_next hT F.entry_enumerate_next ?_ (F.args_enumerate_next_1 _))))
 show wpAny _ _ (field (.ref e) 2>>=_) _ _ _
 refine B7 (J2 he rfl (x:=.ref it) rfl ?_)
 refine B7 (wpAny_nextOf_list_end hh hit hl hx fun h' x he' hx'=>?_)
 obtain⟨o,ho,hc⟩:=hx'
 refine B7 (wpAny_isInstance (T:="StopIteration") (b:=true) ⟨o,ho,hc⟩ isSubtype_stop ?_)
 exact Ca (hQ _ he')
end
section
open PyProof.Rows
variable {M:Model}{A:Around}{E:Value->Shared->Prop}{s:Shared}{env:Env}
theorem XZ {pos:Pos}{id:String}{first:List Value}{args:List (Bool×Sem Value)}{keywords:List (Option Str×Sem Value)}{Q:Value->Shared->Prop}
  (hplain:args.any (·.1)=false) (hkw:keywords.any (·.1.isNone)=false)
  (h:wpAny M A (evalArgs (.type id) true args keywords) (fun a s₁=>wpAny M A (call (.type id) (first++a.pos) a.kw) Q E s₁) E s) :
  wpAny M A (callWith pos (.type id) first args keywords) Q E s:=by
 unfold callWith
 refine B7 (wpAny_holding (DW h (fun a s₁ h₁=>B7 (wpAny_standAt ?_)) fun _ _ x=>x))
 simp only[hplain,hkw,MQ]
 refine B7 (Ca ?_)
 exact B7 (DW h₁ (fun r s₂ hr=>B7 (wpAny_holding (wpAny_point (Ca hr)))) fun _ _ x=>x)
theorem callWith_kwT {pos:Pos}{id:String}{e:Expr}{rest:List Expr}{kws:List Keyword}{Q:Value->Shared->Prop}
  (h:wpAny M A (spliced (backTo pos (starEach (e::rest) env))) (fun vs s₁=>wpAny M A (evalAll ((backToKw pos (keywordEach kws env)).map (·.2)))
   (fun kvs s₂=>wpAny M A (call (.type id) vs (((backToKw pos (keywordEach kws env)).filterMap (·.1)).zip kvs)) Q E s₂) E s₁) E s)
  (he:backTo pos (starEach (e::rest) env)=(false,eval e env)::backTo pos (starEach rest env):=by rfl)
  (hplain:(backTo pos (starEach (e::rest) env)).any (·.1)=false:=by rfl)
  (hall:(backToKw pos (keywordEach kws env)).all (·.1.isSome)=true:=by rfl)
  (hkw:(backToKw pos (keywordEach kws env)).any (·.1.isNone)=false:=by rfl) :
  wpAny M A (callWith pos (.type id) [] (backTo pos (starEach (e::rest) env)) (backToKw pos (keywordEach kws env))) Q E s:=by
 refine XZ hplain hkw ?_
 rw[he]at h ⊢
 exact evalArgs_kwB hall h
end
end Rd
namespace L2
open PySem PySem.Spec PyProof.Rows
def Iy (K:Ya)(a:Addr):It:=
 ⟨fun i H=>∃xs x,A3 K H a xs/\xs[i]?=some x,fun i H v H'=>∃x T,(∀xs,A3 K H a xs->xs[i]?=some x)/\H T=none/\v = .ref T/\H'=upd H T (.tup [.int ((i:Int)+1),x]),fun i H=>∃xs,A3 K H a xs/\xs.length<=i⟩
theorem Vt {P:Program}{w:World}{K:Ya}{elts:List Expr}{x1:Nat}{pos:Pos}(a e it:Addr)(hei:e≠it):He P w K (.Tuple elts x1 pos) (Iy K a) [e,it] e (fun i h=>(∃old,IsEnum h e it ((i:Int)+1) old)/\h.IsListIter it a i) where
 mem:=by simp
 obj:=fun i h st b hb=>by
  obtain⟨⟨old,he⟩,hit⟩:=st
  rcases AG.mp hb with rfl|hb
  .exact⟨_,he,fun v z=>by cases z⟩
  .have e:b=it:=by simpa using hb
   subst e
   obtain⟨o,e,c,d⟩:=hit
   exact⟨o,e,fun v z=>by rw[d]at z;cases z⟩
 keep:=fun i h h' st k=>by
  obtain⟨⟨old,he⟩,hit⟩:=st
  exact⟨⟨old,k e (by simp) _ he⟩,hit.at fun o e=>k it (by simp) o e⟩
 item:=by
  intro X hP hw hK hc i pins s σ H E I hf st hg
  subst hP hw hK
  obtain⟨xs,x,hq,hx⟩:=hg
  obtain⟨its,rv,p,hz⟩:=I.list hq
  obtain⟨u,hu,ru⟩:=rv.get hx
  obtain⟨⟨old,he⟩,hit⟩:=st
  refine Rd.enumC_next he hit p.isList (x:=u) (by simpa using hu) hei fun h1 ho hit' hT hsz hk=>⟨_,rfl,?_⟩
  refine wpAny_letOwnedTupleGo_enum ho fun h2 he2 hs2=>?_
  have hTn:H s.heap.objs.size=none:=I.hok.fresh (Aj _)
  have helt:e<s.heap.objs.size:=BA he
  have hilt:it<s.heap.objs.size:=by obtain⟨_,x,_⟩:=hit;exact BA x
  have I1:A5 X pins σ (upd H s.heap.objs.size (.tup [.int ((i:Int)+1),x])) {s with heap:=s.heap.push {cls:=.type "tuple",data:=.seq #[.int ((i:Int)+1) s.toks,u]},toks:=s.toks+1}:=I.laid (t':=s.toks+1) (o:=.tup [.int ((i:Int)+1),x]) (fun b o e=>BR _ e) (Aj _) ⟨AE rfl,[.int ((i:Int)+1) s.toks,u],.cons ⟨_,rfl⟩ (.cons ru .nil),FS.new _ _⟩
  have I2:A5 X pins σ (upd H s.heap.objs.size (.tup [.int ((i:Int)+1),x])) {s with heap:=h2,toks:=s.toks+1}:=by
   refine A5.turnedL (s:={s with heap:=s.heap.push {cls:=.type "tuple",data:=.seq #[.int ((i:Int)+1) s.toks,u]},toks:=s.toks+1}) (h':=h2) (ch:=[e,it]) (t':=s.toks+1) I1 (fun b o hb q=>?_) (fun b hb=>?_)
   .have nbe:b≠e:=fun z=>hb (by simp[z])
    have nbi:b≠it:=fun z=>hb (by simp[z])
    show h2.get? b=some o
    rw[hs2.2 b nbe]
    rcases Heap.get?_push_cases q with⟨rfl,rfl⟩|q
    .exact hT
    .exact hk b o nbe nbi q
   .obtain⟨f0,f1,f2,f3,f4,f5⟩:=hf b hb
    have nb:b≠s.heap.objs.size:=by
     rcases AG.mp hb with rfl|hb
     .exact Co helt
     .have:b=it:=by simpa using hb
      subst this
      exact Co hilt
    exact⟨by rw[A8 nb];exact f0,f1,f2,f3,f4,f5⟩
  refine⟨.ref s.heap.objs.size,_,I2,rfl,⟨x,_,fun ys hy=>by rw[I.list_inj hy hq];exact hx,hTn,rfl,rfl⟩,⟨⟨_,by simpa using he2⟩,hit'.at fun o y=>(hs2.2 it hei.symm).trans y⟩,fun b hb=>?_⟩
  obtain⟨f0,f1,f2,f3,f4,f5⟩:=hf b hb
  have nb:b≠s.heap.objs.size:=by
   rcases AG.mp hb with rfl|hb
   .exact Co helt
   .have:b=it:=by simpa using hb
    subst this
    exact Co hilt
  rw[A8 nb]
  exact f0
 done:=by
  intro X hP hw hK hc i pins s σ H E I hf st hg
  subst hP hw hK
  obtain⟨xs,hq,hx⟩:=hg
  obtain⟨its,rv,p,hz⟩:=I.list hq
  obtain⟨⟨old,he⟩,hit⟩:=st
  have hl:=rv.length
  refine Rd.enumC_end (I.ok.hd hc) he hit p.isList (by simp;omega) fun h' eb=>⟨rfl,?_⟩
  exact I.turnedL (ch:=[e,it]) (t':=s.toks) (fun b o hb q=>eb b o (fun z=>hb (by simp[z])) q) hf
 self:=fun _ _ _ _ _ st h=>by
  obtain⟨⟨old,he⟩,_⟩:=st
  exact wpAny_pyIter_enum he h
def X6 (K:Ya)(ta:TA):TI:=fun σ H R=>ta σ H fun vs H1=>∃a:Addr,vs=[.ref a]/\(∃xs,A3 K H1 a xs)/\R (Iy K a) H1
theorem Vo {X:Cx}{a:Expr}{ta:TA}{p pos kp ip:Pos}{elts:List Expr}{x1 j:Nat}{pos2:Pos}(hg:Gl X "enumerate")(hm:X.mg "enumerate"=none)(ha:PA X [a] ta)(hs:starEach [a] X.env=[(false,eval a X.env)]:=by rfl):PI X (.Tuple elts x1 pos2) (.Call (.Name "enumerate" p) [a] [⟨some "start",.Constant (.int 1) j ip,kp⟩] pos) (X6 X.K ta):=by
 intro pins s σ H R I h
 refine GE (GQ I hg hm boot_enumerate ?_)
 refine Rd.callWith_kwT (Ao (ha pos pins s σ H _ I h) fun us s1 zz=>?_) (by rw[hs];rfl) (by rw[hs];rfl)
 obtain⟨vs,H1,I1,r1,q1⟩:=zz
 refine PyProof.Rows.kws_cons (wpAny_Constant_int (PyProof.Rows.kws_nil ?_))
 obtain⟨l,rfl,⟨xs,hq⟩,q⟩:=q1
 cases r1 with
 |
  cons r rr=>
  cases rr
  cases r
  have I2:=I1.tok (s1.toks+1)
  obtain⟨its,rv,pl,hz⟩:=I2.list hq
  refine Rd.call_enum_start pl.isList fun h' he hit hsz hk=>?_
  refine wpAny_pyIter_enum he ?_
  refine⟨_,[s1.heap.objs.size+1,s1.heap.objs.size],_,_,H1,rfl,I2.kept (t':=s1.toks+1) hk,Vt l _ _ (KN (IK _)),⟨⟨_,he⟩,hit⟩,fun b hb=>?_,q⟩
  rcases AG.mp hb with rfl|hb
  .exact I2.fpOk (Hu _) (I2.hok.fresh (Hu _))
  .have e:b=s1.heap.objs.size:=by simpa using hb
   subst e
   exact I2.fpOk (Aj _) (I2.hok.fresh (Aj _))
theorem Sz {K:Ya}{a:Addr}{xs:List V}{g:TG}{tb:TS}{D:DG}{σ:St}{H:Hp}(Pv:Nat->St->Hp->Prop)(h0:Pv 0 σ H)(hl:∀i σ H,i<=xs.length->Pv i σ H->A3 K H a xs)
  (hs:∀i x T σ H,xs[i]?=some x->Pv i σ H->H T=none->g (.ref T) σ (upd H T (.tup [.int ((i:Int)+1),x])) fun σ2 H2=>tb {D with nx:=Pv (i+1),ct:=Pv (i+1),bk:=D.nx} σ2 H2) (hd:∀σ H,Pv xs.length σ H->D.nx σ H) :
  ∃W:Nat->Nat->St->Hp->Prop,(∃m,W 0 m σ H)/\∀i m σ H,W i m σ H->
   ((Iy K a).stop i H/\D.nx σ H)\/((Iy K a).go i H/\∃N:St->Hp->Prop,(∀σ' H',N σ' H'->∃m',m'<m/\W (i+1) m' σ' H')/\∀x H',(Iy K a).yld i H x H'->g x σ H' fun σ2 H2=>tb {D with nx:=N,ct:=N,bk:=D.nx} σ2 H2):=by
 refine⟨fun i m σ H=>m=xs.length-i/\i<=xs.length/\Pv i σ H,⟨xs.length,by simp,Bw _,h0⟩,?_⟩
 rintro i m σ H ⟨rfl,hi,p⟩
 have q:=hl i σ H hi p
 by_cases hlt:i<xs.length
 .refine .inr ⟨⟨xs,xs[i],q,BB hlt⟩,Pv (i+1),fun σ' H' p'=>⟨xs.length-(i+1),by omega,rfl,hlt,p'⟩,fun v H' y=>?_⟩
  obtain⟨x,T,hx,hT,rfl,rfl⟩:=y
  exact hs i x T σ H (hx xs q) p hT
 .have e:i=xs.length:=by omega
  subst e
  exact .inl ⟨⟨xs,q,Aj _⟩,hd σ H p⟩
theorem XE {X:Cx}{pins:List (Addr×Obj)}{σ:St}{H:Hp}{s:Shared}{A:Around}{E:Value->Shared->Prop}{a:Addr}{kvs:List (Be×V)}{k:Be}{x:V}{u r:Value}{Q:Value->Shared->Prop}(I:A5 X pins σ H s)(e:H a=some (.dK kvs))(ry:AM (kV k) u)(rx:AM x r)(hz:kvs.length<=1000000)
  (h1:∀v w' s',D1 kvs k=some v->A5 X pins σ H s'->AM v w'->Q w' s')
  (h2:D1 kvs k=none->∀s',A5 X pins σ (upd H a (.dK (Fi kvs k x))) s'->Q r s'):wpAny (model X.prog X.w) A (call (.builtin "dict.setdefault") [.ref a,u,r]) Q E s:=by
 obtain⟨z,hd,vs,rel,dd⟩:=U4 I.hok e
 have hl:(Fi kvs k x).length<=sizeLine:=by have:=Xs kvs k x;have:=HE;omega
 refine call_meetsIn Y5 dd.typeIs PySem.F.entry_dict_setdefault (PySem.F.args_dict_setdefault_3 _ _ _) (kt_meets_setdefault (Dq X.prog X.w) a (KC ry) hd r)
  ⟨vs,dd,by rw[←rel.length];exact z,fun v hv=>?_,fun hn h' dd' hs=>?_⟩
 .have rl:=rel.val k
  rw[hv]at rl
  cases l:D1 kvs k with
  |none=>rw[l]at rl;exact rl.elim
  |some v0=>rw[l]at rl;exact h1 v0 v _ l (I.tok _) rl
 .have rl:=rel.val k
  rw[hn]at rl
  have he:∃q,h'.get? a=some q:=by obtain⟨q,_,_,hq,_⟩:=dd';exact⟨q,hq⟩
  cases l:D1 kvs k with
  |some v0=>rw[l]at rl;exact rl.elim
  |none=>exact h2 l _ (Vg I (by rw[e];exact True.intro) hs he (X2 hl hd (rel.put k rx) dd'))
def SK (td ty tx:TE):TE:=fun σ H Q=>td σ H fun x H1=>∃a,x = .ref a/\NV H1 a/\ty σ H1 fun y H2=>tx σ H2 fun z H3=>∃kvs k,H3 a=some (.dK kvs)/\y=kV k/\kvs.length<=1000000/\
 (∀v,D1 kvs k=some v->Q v H3)/\(D1 kvs k=none->Q z (upd H3 a (.dK (Fi kvs k z))))
theorem V2 {X:Cx}{o e f:Expr}{td ty tx:TE}{apos cpos:Pos}(ho:PE X o td)(he:PE X e ty)(hf:PE X f tx)(m:M2 X o "setdefault" apos e f cpos):PE X (.Call (.Attribute o "setdefault" apos) [e,f] [] cpos) (SK td ty tx):=by
 intro pins s σ H Q I h
 refine wpAny_Call_method m.base m.few m.line PySem.F.plainAttrs_dict Y5 PySem.F.type_dict_setdefault (Ao (ho pins s σ H _ I h) fun u s1 zz=>?_)
 obtain⟨x,H1,I1,rx,a,ex,d,q1⟩:=zz
 subst ex
 obtain rfl:u=Value.ref a:=rx
 obtain⟨t1,t2,_⟩:=UI I1 d
 refine⟨t1,t2,?_⟩
 rw[m.trees]
 refine Calls.callWith_builtin rfl (Calls.evalArgs_plain (Calls.spliced_cons (Ao (he pins s1 σ H1 _ I1 q1) fun iv s2 ⟨y,H2,I2,ry,q2⟩=>
  Calls.spliced_cons (Ao (hf pins s2 σ H2 _ I2 q2) fun fv s3 ⟨z,H3,I3,rz,kvs,k,ea,ey,hz,q3,q4⟩=>Calls.spliced_nil ?_))))
 subst ey
 exact XE I3 ea ry rz hz (fun v w' s4 l I4 rw'=>⟨v,H3,I4,rw',q3 v l⟩) fun l s4 I4=>⟨z,_,I4,rz,q4 l⟩
def MJ (P:Program)(w:World)(K:Ya)(a:Addr)(kvs:List (Be×V)):Prop:=
 (a==sysModules)=false/\∀h:Heap,K.In h->∃vs,KV kvs vs/\h.DictOf (Dq P w) a vs
def W4 (P:Program)(w:World)(K:Ya)(td ty:TE):TE:=fun σ H Q=>td σ H fun x H1=>ty σ H1 fun y H2=>∃a kvs k v,x = .ref a/\MJ P w K a kvs/\y=kV k/\D1 kvs k=some v/\Q v H2
theorem Jm {X:Cx}{o i:Expr}{pos:Pos}{td ty:TE}(ho:PE X o td)(hi:PE X i ty)(hs:NO i):PE X (.Subscript o i pos) (W4 X.prog X.w X.K td ty):=by
 intro pins s σ H Q I h
 refine U3 PySem.F.slot_dict_getitem.lookup hs (Ao (ho pins s σ H _ I h) fun u s1 zz=>?_)
 obtain⟨x,H1,I1,rx,q1⟩:=zz
 refine Ao (hi pins s1 σ H1 _ I1 q1) fun iv s2 zz=>?_
 obtain⟨y,H2,I2,ry,a,kvs,k,v,ex,g,ey,l,q2⟩:=zz
 subst ex ey
 obtain rfl:u=Value.ref a:=rx
 obtain⟨vs,rel,dd⟩:=g.2 s2.heap I2.kIn
 obtain⟨w',hw,rw'⟩:=Fx.some_of (v:=v) (o:=valueAt vs k) (by rw[←l];exact rel.val k)
 exact⟨dd.typeIs,wpAny_getItem_of (KC ry) dd.mapOf hw ⟨v,H2,I2.tok _,rw',q2⟩⟩
theorem Xh {P:Program}{w:World}{K:Ya}{u:Addr}{ep:Nat}{x0 x1 x2 x3:Str}{y0 y1 y2 y3:Int}{h0 h1 h2 h3:Int}{t0 t1 t2 t3 s0 s1 s2 s3:Tok}
  (q:K.lookup u=some ⟨.type "dict",none,.dict #[⟨h0,.str x0 t0,.int y0 s0⟩,⟨h1,.str x1 t1,.int y1 s1⟩,⟨h2,.str x2 t2,.int y2 s2⟩,⟨h3,.str x3 t3,.int y3 s3⟩] ep,#[]⟩) (e0:h0=hashStr w x0) (e1:h1=hashStr w x1) (e2:h2=hashStr w x2) (e3:h3=hashStr w x3) (sm:(u==sysModules)=false)
  (nd:[x0,x1,x2,x3].Nodup):MJ P w K u [(.inr x0,.int y0),(.inr x1,.int y1),(.inr x2,.int y2),(.inr x3,.int y3)]:=⟨sm,fun h X=>by
 subst e0 e1 e2 e3
 have is:∀(x:Str) (t:Tok),(Dq P w).is (.inr x) (.str x t)=true:=fun x t=>KC (k:=.inr x) ⟨t,rfl⟩
 refine⟨[(.inr x0,.int y0 s0),(.inr x1,.int y1 s1),(.inr x2,.int y2 s2),(.inr x3,.int y3 s3)],.cons ⟨rfl,⟨_,rfl⟩⟩ (.cons ⟨rfl,⟨_,rfl⟩⟩ (.cons ⟨rfl,⟨_,rfl⟩⟩ (.cons ⟨rfl,⟨_,rfl⟩⟩ .nil))),_,_,_,X _ _ q,⟨rfl,rfl,rfl⟩,rfl,fun e he=>?_,.cons (is _ _) rfl (.cons (is _ _) rfl (.cons (is _ _) rfl (.cons (is _ _) rfl .nil))),?_⟩
 .simp only[List.mem_toArray,AG,CL,or_false]at he
  rcases he with rfl|rfl|rfl|rfl
  .exact⟨.inr x0,is _ _,rfl⟩
  .exact⟨.inr x1,is _ _,rfl⟩
  .exact⟨.inr x2,is _ _,rfl⟩
  .exact⟨.inr x3,is _ _,rfl⟩
 .simp only[BN,MX,GB,AG,CL,or_false,not_or,Sum.inr.injEq,QB,List.nodup_nil,and_true]at nd ⊢
  exact nd⟩
section
variable {X:Cx}
def Kq (K:Ya)(neg:Bool):R2:=fun x y H Q=>∃p q xs,x = .ref p/\y = .ref q/\A3 K H p xs/\A3 K H q []/\Q (.bl (if neg then !xs.isEmpty else xs.isEmpty)) H
theorem Pf {neg:Bool}(hu:X.A.units+64<cLine):BG X (compareOp (if neg then .NotEq else .Eq)) (Kq X.K neg):=by
 intro pins s σ H x y v u Q I rx ry h
 obtain⟨p,q,xs,rfl,rfl,hp,hq,q'⟩:=h
 cases rx;cases ry
 have key:SeqAt.RcAt X.A s (.ref p) (.ref q) xs.isEmpty/\SeqAt.RcNeAt X.A s (.ref p) (.ref q) (!xs.isEmpty):=by
  obtain⟨its,rv,pl,_⟩:=I.list hp
  obtain⟨jts,rv',pl',_⟩:=I.list hq
  have l1:=rv.length
  have l2:0=jts.length:=rv'.length
  cases xs with
  |
   nil=>
   have l1:0=its.length:=l1
   have hsz:its.toArray.size=jts.toArray.size:=by rw[By,By];omega
   have a:=SeqAt.RcAt.lists (A:=X.A) (e:=fun _=>true) pl.isList pl'.isList hsz (by omega) (fun j u v=>absurd u (by rw[By];omega))
   have b:=SeqAt.RcNeAt.lists (A:=X.A) (e:=fun _=>true) pl.isList pl'.isList hsz (by omega) (fun j u v=>absurd u (by rw[By];omega))
   have e:its.toArray.size=0:=by rw[By];omega
   rw[e]at a b
   exact⟨a,b⟩
  |
   cons x0 xs=>
   rw[AQ]at l1
   have hne:(its.toArray.size != jts.toArray.size)=true:=by
    rw[By,By]
    simp only[Ep,ne_eq];omega
   exact⟨SeqAt.RcAt.lists_lengths pl.isList pl'.isList hne (by omega),SeqAt.RcNeAt.lists_lengths pl.isList pl'.isList hne (by omega)⟩
 cases neg with
 |false=>exact key.1 X.prog X.w X.xe _ ⟨.bl _,H,I,rfl,q'⟩
 |true=>exact key.2 X.prog X.w X.xe _ ⟨.bl _,H,I,rfl,q'⟩
theorem Mw (hu:X.A.units+64<cLine):BG X (compareOp .Eq) (Kq X.K false):=Pf (neg:=false) hu
theorem IB (hu:X.A.units+64<cLine):BG X (compareOp .NotEq) (Kq X.K true):=Pf (neg:=true) hu
end
end L2
namespace Bd
end Bd
namespace L2
open PySem PySem.Spec PyProof.Rows Bd
section
variable {es:List Expr}{env:Env}{p:Pos}
theorem DI {c:Const}{n:Nat}:starEach (.Constant c n p::es) env=(false,eval (.Constant c n p) env)::starEach es env:=rfl
theorem Fc {x:Str}:starEach (.Name x p::es) env=(false,eval (.Name x p) env)::starEach es env:=rfl
theorem Mx {a b:Expr}{o:Operator}:starEach (.BinOp a o b p::es) env=(false,eval (.BinOp a o b p) env)::starEach es env:=rfl
theorem Lu {f:Expr}{as:List Expr}{ks:List Keyword}:starEach (.Call f as ks p::es) env=(false,eval (.Call f as ks p) env)::starEach es env:=rfl
theorem Gy {a b:Expr}:starEach (.Subscript a b p::es) env=(false,eval (.Subscript a b p) env)::starEach es env:=rfl
theorem GV {as:List Expr}{n:Nat}:starEach (.Tuple as n p::es) env=(false,eval (.Tuple as n p) env)::starEach es env:=rfl
end
@[irreducible] def Fk (X:Cx) (es:List Expr) (t:TA):Prop:=PA X es t
section
variable {X:Cx}{e:Expr}{es:List Expr}{te:TE}{t:TA}{pos:Pos}
theorem E6:Fk X [] FB:=by unfold Fk;exact A1
theorem Bf (ha:PE X e te)(hr:Fk X es t)(hs:starEach (e::es) X.env=(false,eval e X.env)::starEach es X.env):Fk X (e::es) (Gg te t):=by unfold Fk at *;exact A0 ha hr hs
theorem NR (h:Fk X es t):PE X (.List es pos) (Mz t):=by unfold Fk at h;exact Bj h
theorem Er {x1:Nat}(h:Fk X es t):PE X (.Tuple es x1 pos) (Pn t):=by unfold Fk at h;exact CQ h
end
theorem PM {c:TT}{tb:TS}{D:DG}{σ:St}{H:Hp}(k:Nat)(Pv:Nat->St->Hp->Prop)(h0:Pv 0 σ H)
  (hs:∀i σ H,i<=k->Pv i σ H->c σ H fun b H1=>if b=true then i<k/\tb {D with nx:=Pv (i+1),ct:=Pv (i+1),bk:=D.nx} σ H1 else D.nx σ H1)
  (mono:∀σ H Q Q',(∀b H1,Q b H1->Q' b H1)->c σ H Q->c σ H Q'):JG c tb D σ H:=by
 refine⟨fun m σ H=>∃i,i<=k/\m=k-i/\Pv i σ H,⟨_,0,Bw _,rfl,h0⟩,?_⟩
 rintro m σ H ⟨i,hi,rfl,p⟩
 refine mono σ H _ _ (fun b H1 q=>?_) (hs i σ H hi p)
 cases b with
 |true=>exact⟨Pv (i+1),fun σ' H' p'=>⟨k-(i+1),by have:=q.1;omega,i+1,by have:=q.1;omega,rfl,p'⟩,q.2⟩
 |false=>exact q
end L2
namespace Bd
end Bd
namespace L2
open PySem PySem.Spec PyProof.Rows
section
open Bd
end
section
open Bd
end
def KI (C:Addr)(fs:List Str):Sp:=fun as H Q _=>∃(x dx:Addr) (vs:List V),as = .ref x::vs/\vs.length=fs.length/\H x=some (.ins C dx [])/\∀H',(∀b o,H b=some o->b≠x->H' b=some o)->(∃dx,H' x=some (.ins C dx (fs.zip vs)))->Q .non H'
structure Cs where
 n:Addr
 v:Addr
 c:Addr
 j:Addr
end L2
namespace PySem
open Builtin
open AutoSeq1 (wpAny_loadPart')
end PySem
namespace L2
open PySem PySem.Spec PyProof.Rows
section
variable {X:Cx}
end
section
open Bd
theorem dS {x y:Str}(h:x≠y):decide (V.str x=V.str y)=false:=Bo fun e=>h (V.str.inj e)
theorem Om {K:Ya}{a:Addr}{xs:List V}{ρ:List (Option Nat)}{g:TG}{tt:TT}{te:TE}{σ:St}{H:Hp}{Q:VK}(Pv:Nat->List V->Hp->Prop)(h0:Pv 0 [] H)(hlen:xs.length<=sizeLine)(hl:∀i ys H,i<=xs.length->Pv i ys H->A3 K H a xs/\ys.length<=i)
  (hs:∀i x ys H,xs[i]?=some x->Pv i ys H->g x (BL ρ σ) H fun σ2 H3=>KE ρ σ σ2/\tt σ2 H3 fun ok H4=>if ok=true then te σ2 H4 fun v H5=>Pv (i+1) (ys++[v]) H5 else Pv (i+1) ys H4)
  (hd:∀ys H,Pv xs.length ys H->∀p,H p=none->Q (.ref p) (upd H p (.lst ys))):Ga ρ g tt te σ Q (Gz K a) H:=by
 refine⟨fun i m ys H=>m=xs.length-i/\i<=xs.length/\Pv i ys H,⟨_,rfl,Bw _,h0⟩,?_⟩
 rintro i m ys H ⟨rfl,hi,p⟩
 obtain⟨hq,hy⟩:=hl i ys H hi p
 by_cases hlt:i<xs.length
 .refine .inr ⟨⟨xs,xs[i],hq,by simp[hlt]⟩,by omega,Pv (i+1),fun ys' H'' p'=>⟨xs.length-(i+1),by omega,rfl,hlt,p'⟩,fun x H' y=>?_⟩
  obtain⟨e,y2⟩:=y
  subst e
  exact hs i x ys _ (y2 xs hq) p
 .have e:i=xs.length:=by omega
  subst e
  exact .inl ⟨⟨xs,hq,Aj _⟩,by omega,hd ys H p⟩
end
section
open PySem.SeqAt
open PySem.AutoSeq1 (wpAny_loadPart')
open PySem.MeetsSeq PySem.MeetsSeq2 PySem.MeetsSeq3
end
def EO (n:Nat):List V:=(List.range n).map fun i:Nat=>V.int (i:Int)
def Us (ta:TA):TE:=fun σ H Q=>ta σ H fun vs H1=>∃n:Nat,vs=[.int (n:Int)]/\n<=1000000/\∀l,H1 l=none->Q (.ref l) (upd H1 l (.lst (EO n)))
theorem UA {n:Nat}{acc:Array Value}(h:ItemsOf (fun i v=>∃t,v = .int (0+(i:Int)*1) t) acc n):AD (EO n) acc.toList:=by
 have key:∀(k:Nat) (l:List Value),(∀(j:Nat) (v:Value),l[j]?=some v->∃t,v=Value.int ((k+j:Nat):Int) t)->AD ((List.range' k l.length).map fun i:Nat=>V.int (i:Int)) l:=by
  intro k l
  induction l generalizing k with
  |nil=>intro _;exact .nil
  |
   cons x l ih=>
   intro hl
   rw[AQ,List.range'_succ,BN]
   obtain⟨t,ht⟩:=hl 0 x rfl
   refine .cons ⟨t,by rw[ht];rfl⟩ (ih (k+1) fun j v hj=>?_)
   obtain⟨t',ht'⟩:=hl (j+1) v (by simpa using hj)
   exact⟨t',by rw[ht'];congr 1;omega⟩
 have hl:acc.toList.length=n:=by simpa using h.1
 have:=key 0 acc.toList fun j v hj=>by
  obtain⟨t,ht⟩:=h.2 j v (by simpa using hj)
  exact⟨t,by rw[ht];congr 1;omega⟩
 rw[hl]at this
 unfold EO
 rw[List.range_eq_range']
 exact this
theorem U1 {X:Cx}{a:Expr}{ta:TA}{p p2 pos pos2:Pos}(hc:X.calm=true)(hgl:Gl X "list")(hml:X.mg "list"=none)(hg:Gl X "range")(hm:X.mg "range"=none)(ha:PA X [a] ta)
  (hs:starEach [a] X.env=[(false,eval a X.env)]:=by rfl):PE X (.Call (.Name "list" p) [.Call (.Name "range" p2) [a] [] pos2] [] pos) (Us ta):=by
 intro pins s σ H Q I h
 refine GE (GQ I hgl hml Q1 ?_ (by decide) (by decide))
 refine MP ?_ rfl rfl
 show wpAny _ _ (spliced ((false,eval (.Call (.Name "range" p2) [a] [] pos2) X.env)::backTo pos (starEach [] X.env))) _ _ s
 refine Calls.spliced_cons ?_
 refine Call_ (GQ I hg hm boot_range (MP (Ao (ha pos2 pins s σ H _ I h) fun us s1 hx=>?_) hs rfl))
 obtain⟨vs,H1,I1,r1,n,e,hn,q⟩:=hx
 subst e
 obtain⟨u,rfl,ru⟩:=EH r1
 obtain⟨t,rfl⟩:=(show ∃t,u=Value.int (n:Int) t from ru)
 refine call_range_1 ?_
 refine Calls.spliced_nil ?_
 have p62:(2:Int) ^ 62=4611686018427387904:=by decide
 refine call_list_range (n:=n) (I1.ok.hd hc) (IsRange.new ..) (small_one (by decide) (by decide) (by omega) (by omega)) (by rw[rangeSize_one];split<;>omega) (by omega) fun h' tk acc c' hk hl hi=>?_
 have hsz:(s1.heap.push {cls:=.type "range",data:=.fields #[.int 0 s1.toks,.int (n:Int) t,.int 1 (s1.toks+1)]}).objs.size=s1.heap.objs.size+1:=Ht ..
 have hf:H1 (s1.heap.objs.size+1)=none:=I1.hok.fresh (Hu _)
 have hul:(EO n).length<=sizeLine:=by unfold EO;rw[An,Nb];exact Ai hn
 change h'.get? (s1.heap.push {cls:=.type "range",data:=.fields #[.int 0 s1.toks,.int (n:Int) t,.int 1 (s1.toks+1)]}).objs.size=_ at hl
 rw[hsz]at hl
 refine⟨.ref (s1.heap.objs.size+1),upd H1 (s1.heap.objs.size+1) (.lst (EO n)),I1.laid (t':=tk) (o:=.lst (EO n)) (fun b o e=>hk b o (BR _ e)) (Hu _) ⟨hul,acc.toList,c',UA hi,by simpa using hl⟩,?_,q _ hf⟩
 show Value.ref _=Value.ref _
 rw[←hsz]
section
variable {prog:Program}{w:World}{A:Around}{E:Value->Shared->Prop}{s:Shared}
end
section
variable {prog:Program}{w:World}{A:Around}{E:Value->Shared->Prop}{s:Shared}
end
end L2
namespace Fo
variable {W L:Type}
section
variable (hdr:Nat->Bool->W->L)(dl:Nat->Int->List (Int×Int)->L)
end
end Fo
namespace Fo
variable {W L:Type}
end Fo
namespace L2
open PySem PySem.Spec PyProof.Rows
def QJ (t:TE):TE:=fun σ H Q=>t σ H fun v H1=>∃i:Int,v = .int i/\i.natAbs.log2<1920/\Q (.str (toString i)) H1
theorem MN {X:Cx}{e:Expr}{t:TE}{pos:Pos}(h:PE X e t):PE X (.FormattedValue e (-1) none pos) (QJ t):=by
 intro pins s σ H Q I hq
 refine FormattedValue_plain (Ao (h pins s σ H _ I hq) fun v s1 hx=>?_)
 obtain⟨x,H1,I1,r1,i,rfl,hi,q⟩:=hx
 obtain⟨t1,rfl⟩:=(show ∃t,v=Value.int i t from r1)
 exact formatField_int_small hi ⟨.str _,H1,I1.tok _,⟨_,rfl⟩,q⟩
def EI (acc:Str)(t:TE)(k:Str->TE):TE:=fun σ H Q=>t σ H fun v H1=>∃y:Str,v = .str y/\(acc++y).length<=sizeLine/\k (acc++y) σ H1 Q
def RV (a b:TE):TE:=EI Str.empty a fun x=>EI x b fun y=>tC (.str y)
def QI (a b c:TE):TE:=EI Str.empty a fun x=>EI x b fun y=>EI y c fun z=>tC (.str z)
theorem OC {X:Cx}{e1 e2:Expr}{a b:TE}{pos:Pos}(h1:PE X e1 a)(h2:PE X e2 b):PE X (.JoinedStr [e1,e2] pos) (RV a b):=by
 intro pins s σ H Q I hq
 refine JoinedStr_many (F9 (Ao (h1 pins s σ H _ I hq) fun v s1 hx=>?_))
 obtain⟨x,H1,I1,r1,y,rfl,hy,q1⟩:=hx
 obtain⟨t1,rfl⟩:=(show ∃t,v=Value.str y t from r1)
 refine⟨hy,F9 (Ao (h2 pins s1 σ H1 _ I1 q1) fun v2 s2 hx2=>?_)⟩
 obtain⟨x2,H2,I2,r2,y2,rfl,hy2,q2⟩:=hx2
 obtain⟨t2,rfl⟩:=(show ∃t,v2=Value.str y2 t from r2)
 exact⟨hy2,joinParts_nil ⟨.str _,H2,I2.tok _,⟨_,rfl⟩,q2⟩ hy2⟩
theorem Ly {X:Cx}{e1 e2 e3:Expr}{a b c:TE}{pos:Pos}(h1:PE X e1 a)(h2:PE X e2 b)(h3:PE X e3 c):PE X (.JoinedStr [e1,e2,e3] pos) (QI a b c):=by
 intro pins s σ H Q I hq
 refine JoinedStr_many (F9 (Ao (h1 pins s σ H _ I hq) fun v s1 hx=>?_))
 obtain⟨x,H1,I1,r1,y,rfl,hy,q1⟩:=hx
 obtain⟨t1,rfl⟩:=(show ∃t,v=Value.str y t from r1)
 refine⟨hy,F9 (Ao (h2 pins s1 σ H1 _ I1 q1) fun v2 s2 hx2=>?_)⟩
 obtain⟨x2,H2,I2,r2,y2,rfl,hy2,q2⟩:=hx2
 obtain⟨t2,rfl⟩:=(show ∃t,v2=Value.str y2 t from r2)
 refine⟨hy2,F9 (Ao (h3 pins s2 σ H2 _ I2 q2) fun v3 s3 hx3=>?_)⟩
 obtain⟨x3,H3,I3,r3,y3,rfl,hy3,q3⟩:=hx3
 obtain⟨t3,rfl⟩:=(show ∃t,v3=Value.str y3 t from r3)
 exact⟨hy3,joinParts_nil ⟨.str _,H3,I3.tok _,⟨_,rfl⟩,q3⟩ hy3⟩
def AH {α:Type}(R:V->α->Prop)(xs:List V)(as:List α):Prop:=xs.length=as.length/\∀(i:Nat) (x:V) (a:α),xs[i]?=some x->as[i]?=some a->R x a
theorem AH.nil {α:Type}{R:V->α->Prop}:AH R [] []:=⟨rfl,fun i x a h=>by simp at h⟩
theorem AH.mono {α:Type}{R S:V->α->Prop}{xs:List V}{as:List α}(h:AH R xs as)(m:∀x a,R x a->S x a):AH S xs as:=⟨h.1,fun i x a p q=>m _ _ (h.2 i x a p q)⟩
theorem AH.get {α:Type}{R:V->α->Prop}{xs:List V}{as:List α}{i:Nat}{a:α}(h:AH R xs as)(ha:as[i]?=some a):∃x,xs[i]?=some x/\R x a:=by
 have hi:i<xs.length:=by rw[h.1];exact(BE.mp ha).1
 exact⟨_,BB hi,h.2 i _ a (BB hi) ha⟩
theorem AH.get' {α:Type}{R:V->α->Prop}{xs:List V}{as:List α}{i:Nat}{x:V}(h:AH R xs as)(hx:xs[i]?=some x):∃a,as[i]?=some a/\R x a:=by
 have hi:i<as.length:=by rw[←h.1];exact(BE.mp hx).1
 exact⟨_,BB hi,h.2 i x _ hx (BB hi)⟩
theorem AH.app {α:Type}{R:V->α->Prop}{xs ys:List V}{as bs:List α}(h:AH R xs as)(g:AH R ys bs):AH R (xs++ys) (as++bs):=by
 refine⟨by rw[Ah,Ah,h.1,g.1],fun i x a p q=>?_⟩
 by_cases l:i<xs.length
 .rw[DM l]at p
  rw[DM (by rw[←h.1];exact l)]at q
  exact h.2 i x a p q
 .rw[CJ (by omega)]at p
  rw[CJ (by have:=h.1;omega)]at q
  rw[h.1]at p
  exact g.2 _ x a p q
theorem AH.one {α:Type}{R:V->α->Prop}{x:V}{a:α}(h:R x a):AH R [x] [a]:=⟨rfl,fun i y b p q=>by
 cases i with
 |zero=>cases p;cases q;exact h
 |succ i=>simp at p⟩
theorem AH.snoc {α:Type}{R:V->α->Prop}{xs:List V}{as:List α}{x:V}{a:α}(h:AH R xs as)(g:R x a):AH R (xs++[x]) (as++[a]):=h.app (.one g)
theorem AH.cons {α:Type}{R:V->α->Prop}{xs:List V}{as:List α}{x:V}{a:α}(g:R x a)(h:AH R xs as):AH R (x::xs) (a::as):=AH.app (.one g) h
def TK (H H':Hp):Prop := ∀(b:Addr) (xs:List V),H b=some (.tup xs)->H' b=some (.tup xs)
theorem TK.trans {H H' H'':Hp}(a:TK H H')(b:TK H' H''):TK H H'':=fun x xs h=>b x xs (a x xs h)
theorem A7.tk {H H':Hp}(e:A7 H H'):TK H H':=fun b xs h=>e b _ h
theorem TK.upd {H:Hp}{l:Addr}{xs:List V}{o:HO}(hl:H l=some (.lst xs)):TK H (upd H l o):=fun b ys hb=>by
 rw[A8 (Df hb hl (by intro z;cases z))]
 exact hb
def EW (d:Nat):Str:=AB (List.replicate d 32)
theorem KB (d:Nat):(EW d).length=d:=by rw[←cds_len,EW,B6,KP]
theorem Pj (d:Nat):Txt.mul " " (d:Int)=EW d:=CN (by
 have:(" ":Str)=⟨#[32]⟩:=by decide +kernel
 rw[this,MK,EW,B6]
 rfl)
theorem Ky (z:Str):∀(x:Str) (ys:List Str),cds (Txt.join z (x::ys))=cds x++(ys.map fun y=>cds z++cds y).flatten:=by
 intro x ys
 show cds (Builtin.Str.glued z (x::ys))=_
 rw[StrLaws.glued_eq_join]
 induction ys generalizing x with
 |nil=>simp[Str.join]
 |
  cons y r ih=>
  show cds (x++z++Str.join z (y::r))=_
  rw[AS,AS,ih]
  simp
theorem Mh {i:Int}(h:i<0):Str.ofString (toString i)="-"++Str.ofString (toString (0-i)):=by
 cases i with
 |ofNat n=>exact absurd h (by simp)
 |
  negSucc n=>
  have e:(0-Int.negSucc n)=((n+1:Nat):Int):=by omega
  rw[e]
  refine CN ?_
  rw[AS]
  show((Str.ofString ("-"++Nat.repr (n+1))).cps).toList=_
  have ap:∀a b:String,cds (Str.ofString (a++b))=cds (Str.ofString a)++cds (Str.ofString b):=fun a b=>by
   simp[cds,Str.ofString_eq_toList]
  exact ap "-" (Nat.repr (n+1))
theorem VF {i:Int}(h0 : -999999999999999999<=i)(h1:i<=999999999999999999):(Str.ofString (toString i)).length<=19:=by
 by_cases c:i<0
 .rw[Mh c,←cds_len,AS,Ah,cds_len,cds_len]
  have:=Qr (v:=0-i) (by omega) (k:=18) (by decide) (by show 0-i<10 ^ 18;omega)
  have e:("-":Str).length=1:=by decide +kernel
  omega
 .have:=Qr (v:=i) (by omega) (k:=18) (by decide) (by show i<10 ^ 18;omega)
  omega
theorem Ax (x y:Str):(x++y).length=x.length+y.length:=by rw[←cds_len,AS,Ah,cds_len,cds_len]
theorem ES {i:Int}(h0 : -999999999999999999<=i)(h1:i<=999999999999999999):i.natAbs.log2<1920:=by
 by_cases z:i.natAbs=0
 .rw[z];decide
 .have:i.natAbs<2 ^ 64:=by omega
  have:=(Nat.log2_lt z).mpr this
  omega
theorem PB {ys:List Str}{c:Nat}(h:∀y∈ys,y.length<=c):(ys.map (·.length)).sum<=c*ys.length:=by
 induction ys with
 |nil=>exact Bw _
 |
  cons y ys ih=>
  have h1:=ih fun z hz=>h z (B8 _ hz)
  have h2:=h y AA
  rw[BN,KS,AQ,Nat.mul_succ]
  omega
theorem NS (z:Str)(ys:List Str):(Txt.join z ys).length<=(ys.map (·.length)).sum+ys.length*z.length:=by
 show(Builtin.Str.glued z ys).length<=_
 rw[StrLaws.glued_eq_join]
 exact StrLaws.join_length_le z ys
def ME (t:TE):Prop := ∀(σ:St) (H:Hp) (Q Q':VK),(∀v H1,Q v H1->Q' v H1)->t σ H Q->t σ H Q'
def MT (t:TT):Prop := ∀σ H Q Q',(∀b H1,Q b H1->Q' b H1)->t σ H Q->t σ H Q'
def MA (t:TA):Prop := ∀σ H Q Q',(∀b H1,Q b H1->Q' b H1)->t σ H Q->t σ H Q'
def MR (r:R2):Prop := ∀(x y:V) (H:Hp) (Q Q':VK),(∀v H1,Q v H1->Q' v H1)->r x y H Q->r x y H Q'
def MB (r:List V->Hp->VK->Prop):Prop := ∀(vs:List V) (H:Hp) (Q Q':VK),(∀v H1,Q v H1->Q' v H1)->r vs H Q->r vs H Q'
theorem ME.var (i:Nat):ME (EE i):=fun σ H Q Q' hq zz=>by obtain⟨v,h,k⟩:=zz;exact⟨v,h,hq _ _ k⟩
theorem ME.c (v:V):ME (tC v):=fun σ H Q Q' hq h=>hq _ _ h
theorem ME.op {r:R2}{a b:TE}(hr:MR r)(ha:ME a)(hb:ME b):ME (EU r a b):=fun σ H Q Q' hq h=>ha _ _ _ _ (fun x H1 k=>hb _ _ _ _ (fun y H2 k=>hr _ _ _ _ _ hq k) k) h
theorem ME.lst {t:TA}(h:MA t):ME (Mz t):=fun σ H Q Q' hq k=>h _ _ _ _ (fun xs H1 m=>⟨m.1,fun p hp=>hq _ _ (m.2 p hp)⟩) k
theorem ME.cb {r:List V->Hp->VK->Prop}{t:TA}(hr:MB r)(h:MA t):ME (Ju r t):=fun σ H Q Q' hq k=>h _ _ _ _ (fun xs H1 m=>hr _ _ _ _ hq m) k
theorem MA.nil:MA FB:=fun σ H Q Q' hq h=>hq _ _ h
theorem MA.cons {t:TE}{u:TA}(ht:ME t)(hu:MA u):MA (Gg t u):=fun σ H Q Q' hq h=>ht _ _ _ _ (fun x H1 k=>hu _ _ _ _ (fun xs H2 m=>hq _ _ m) k) h
theorem MT.test {t:TE}(h:ME t):MT (Pe t):=fun σ H Q Q' hq k=>h _ _ _ _ (fun x H1 ⟨b,e,m⟩=>⟨b,e,hq _ _ m⟩) k
theorem MR.i0 (g:Int->Int->V):MR (Fp g):=fun x y H Q Q' hq zz=>by obtain⟨i,j,a,b,d⟩:=zz;exact⟨i,j,a,b,hq _ _ d⟩
theorem MB.len {P R:Hp->Addr->List V->Prop}:MB (fun xs H Q=>∃p ys,xs=[V.ref p]/\(P H p ys\/R H p ys)/\Q (V.int (ys.length:Int)) H):=fun vs H Q Q' hq zz=>by obtain⟨p,ys,a,b,c⟩:=zz;exact⟨p,ys,a,b,hq _ _ c⟩
theorem Rj {v:V}{i:Nat}{b:TS}{D:DG}{σ:St}{H:Hp}(h:b D (σ.set i (some v)) H):DO (Gb (tC v) (Am i)) b D σ H:=h
end L2
namespace HT
open PySem PySem.Spec PyProof.Rows L2
section
variable {prog:Program}{w:World}{A:Around}{E:Value->Shared->Prop}{s:Shared}
end
end HT
namespace L2
open PySem PySem.Spec PyProof.Rows
def Sl (t:TE):TE:=fun σ H Q=>t σ H fun v H1=>∃x:Str,v = .str x/\x.length<=sizeLine/\Q (.str x) H1
theorem FK {X:Cx}{e:Expr}{t:TE}{pos:Pos}(h:PE X e t):PE X (.FormattedValue e (-1) none pos) (Sl t):=by
 intro pins s σ H Q I hq
 refine FormattedValue_plain (Ao (h pins s σ H _ I hq) fun v s1 hx=>?_)
 obtain⟨x,H1,I1,r1,y,rfl,hy,q⟩:=hx
 obtain⟨t1,rfl⟩:=(show ∃t,v=Value.str y t from r1)
 exact formatField_str (fun t' tk=>⟨.str _,H1,I1.tok _,⟨_,rfl⟩,q⟩) hy
set_option genInjectivity true in
inductive Tw where
 |n (i:Int)
 |v (z:Str)
 |c (z:Str) (sp:List (Str×Int))
 |j (z:Str) (l r:Tw)
def nS (i:Int):Str:=Str.ofString (toString i)
def B5 (s:Str×Int):Str:=if s.1="" then nS s.2 else if s.2=0 then s.1 else if 0<s.2 then s.1++"+"++nS s.2 else s.1++nS s.2
def D9 (s:Str×Int):Str:="["++B5 s++"]"
def Ba (z:Str)(sp:List (Str×Int)):Str:=z++Txt.join "" (sp.map D9)
def Et (b:Bool)(x:Str):Str:=if b=true then"("++x++")" else x
def hz (z:Str):Nat:=if z="*" then 2 else 1
namespace Tw
def hld:Tw->Nat
 |.j z _ _=>hz z
 |_=>3
def wr:Tw->Str
 |.n i=>nS i
 |.v z=>z
 |.c z sp=>Ba z sp
 |.j z l r=>Et (decide (hld l<hz z)) (wr l)++z++Et (decide (hld r<=hz z)) (wr r)
def sz:Tw->Nat
 |.j _ l r=>sz l+sz r
 |_=>1
end Tw
def FI:List Str:=["+","-","*"]
def EA (s:Str×Int):Prop:=s.1.length<=20/\-999999999999999999<=s.2/\s.2<=999999999999999999
def Tw.Ok:Tw->Prop
 |.n i=>0<=i/\i<=999999999999999999
 |.v z=>z.length<=20
 |.c z sp=>z.length<=20/\sp.length<=3/\∀s∈sp,EA s
 |.j z l r=>z∈FI/\Tw.Ok l/\Tw.Ok r
theorem Ox (z:Str):1<=hz z/\hz z<=2:=by unfold hz;split<;>exact⟨by decide,by decide⟩
theorem Tw.hld_pos (t:Tw):1<=t.hld/\t.hld<=3:=by
 cases t with
 |j z l r=>have:=Ox z;exact⟨this.1,BI this.2 (by decide)⟩
 |n i=>exact⟨show 1<=3 by decide,show 3<=3 by decide⟩
 |v z=>exact⟨show 1<=3 by decide,show 3<=3 by decide⟩
 |c z sp=>exact⟨show 1<=3 by decide,show 3<=3 by decide⟩
theorem Tw.sz_pos:∀t:Tw,1<=t.sz
 |.n _=>Aj _
 |.v _=>Aj _
 |.c _ _=>Aj _
 |.j _ l r=>BI (Tw.sz_pos l) (Qs _ _)
theorem FR {i:Int}(h0 : -999999999999999999<=i)(h1:i<=999999999999999999):(nS i).length<=19:=VF h0 h1
theorem NU:("+":Str).length=1:=by decide +kernel
theorem Eg {s:Str×Int}(h:EA s):(B5 s).length<=40:=by
 obtain⟨a,b,c⟩:=h
 have h1:=FR b c
 have h2:=NU
 unfold B5
 split
 .omega
 .split
  .omega
  .split
   .rw[Ax,Ax];omega
   .rw[Ax];omega
theorem TX {s:Str×Int}(h:EA s):(D9 s).length<=42:=by
 have h1:=Eg h
 have h2:("[":Str).length=1:=by decide +kernel
 have h3:("]":Str).length=1:=by decide +kernel
 unfold D9
 rw[Ax,Ax]
 omega
theorem UN:("":Str).length=0:=by decide +kernel
theorem LL {sp:List (Str×Int)}(hl:sp.length<=3)(h:∀s∈sp,EA s):((sp.map D9).map (·.length)).sum+(sp.map D9).length*("":Str).length<=126:=by
 have h1:=PB (ys:=sp.map D9) (c:=42) fun y hy=>by
  obtain⟨s,hs,rfl⟩:=CK.mp hy
  exact TX (h s hs)
 rw[UN,Nat.mul_zero]
 rw[An]at h1
 omega
theorem Fg {z:Str}{sp:List (Str×Int)}(hz:z.length<=20)(hl:sp.length<=3)(h:∀s∈sp,EA s):(Ba z sp).length<=146:=by
 have h1:=NS "" (sp.map D9)
 have h2:=LL hl h
 unfold Ba
 rw[Ax]
 omega
theorem GY (b:Bool)(x:Str):(Et b x).length<=x.length+2:=by
 have h2:("(":Str).length=1:=by decide +kernel
 have h3:(")":Str).length=1:=by decide +kernel
 unfold Et
 split
 .rw[Ax,Ax];omega
 .omega
theorem Lh {z:Str}(h:z∈FI):z.length<=1:=by
 have:∀w∈FI,w.length<=1:=by decide +kernel
 exact this z h
theorem Tw.wr_len:∀{t:Tw},t.Ok->t.wr.length+5<=200*t.sz
 |
  .n i,h=>by
  have:=FR (i:=i) (by have:=h.1;omega) h.2
  show(nS i).length+5<=200*1
  omega
 |
  .v z,h=>by
  have h:z.length<=20:=h
  show z.length+5<=200*1
  omega
 |
  .c z sp,h=>by
  have:=Fg h.1 h.2.1 h.2.2
  show(Ba z sp).length+5<=200*1
  omega
 |
  .j z l r,h=>by
  obtain⟨h0,h1,h2⟩:=h
  have a1:=Tw.wr_len h1
  have a2:=Tw.wr_len h2
  have a0:=Lh h0
  have b1:=GY (decide (hld l<hz z)) (wr l)
  have b2:=GY (decide (hld r<=hz z)) (wr r)
  show(Et (decide (hld l<hz z)) (wr l)++z++Et (decide (hld r<=hz z)) (wr r)).length+5<=200*(sz l+sz r)
  rw[Ax,Ax]
  omega
theorem RP {s:Str×Int}(h1:¬s.1="")(h2:¬s.2=0):B5 s=s.1++(if s.2<0 then("-":Str) else"+")++nS (if s.2<0 then -s.2 else s.2):=by
 unfold B5
 rw[Ab h1,Ab h2]
 by_cases c:s.2<0
 .rw[Ab (by omega),Af c,Af c]
  unfold nS
  rw[Mh c,show(0-s.2) = -s.2 by omega]
  exact CN (by rw[AS,AS,AS,AS,BC])
 .rw[Af (by omega),Ab c,Ab c]
def Cm (H:Hp)(x:V)(s:Str×Int):Prop := ∃t,x = .ref t/\H t=some (.tup [.str s.1,.int s.2])
def F1 (H:Hp)(p:Addr)(sp:List (Str×Int)):Prop := ∃xs,H p=some (.tup xs)/\AH (Cm H) xs sp
theorem Cm.tk {H H':Hp}{x:V}{s:Str×Int}(k:TK H H')(h:Cm H x s):Cm H' x s:=by obtain⟨t,e,h⟩:=h;exact⟨t,e,k _ _ h⟩
theorem F1.tk {H H':Hp}{p:Addr}{sp:List (Str×Int)}(k:TK H H')(h:F1 H p sp):F1 H' p sp:=by obtain⟨xs,e,h⟩:=h;exact⟨xs,k _ _ e,h.mono fun _ _ z=>z.tk k⟩
def EG (H:Hp):Tw->V->Prop
 |.n i,x=>∃t,x = .ref t/\H t=some (.tup [.str "n",.int i])
 |.v z,x=>∃t,x = .ref t/\H t=some (.tup [.str "v",.str z])
 |.c z sp,x=>∃t p,x = .ref t/\H t=some (.tup [.str "c",.str z,.ref p])/\F1 H p sp
 |.j z l r,x=>∃t a b,x = .ref t/\H t=some (.tup [.str z,a,b])/\EG H l a/\EG H r b
theorem EG.tk {H H':Hp}(k:TK H H'):∀{t:Tw} {x:V},EG H t x->EG H' t x
 |.n i,x,h=>by obtain⟨t,e,h⟩:=h;exact⟨t,e,k _ _ h⟩
 |.v z,x,h=>by obtain⟨t,e,h⟩:=h;exact⟨t,e,k _ _ h⟩
 |.c z sp,x,h=>by obtain⟨t,p,e,h,g⟩:=h;exact⟨t,p,e,k _ _ h,g.tk k⟩
 |.j z l r,x,h=>by obtain⟨t,a,b,e,h,g1,g2⟩:=h;exact⟨t,a,b,e,k _ _ h,EG.tk k g1,EG.tk k g2⟩
def Br (c:Cs)(H:Hp):Tw->V->Prop
 |.n i,x=>∃t dx,x = .ref t/\H t=some (.ins c.n dx [("n",.int i)])
 |.v z,x=>∃t dx,x = .ref t/\H t=some (.ins c.v dx [("name",.str z)])
 |.c z sp,x=>∃t dx p,x = .ref t/\H t=some (.ins c.c dx [("table",.str z),("spots",.ref p)])/\F1 H p sp
 |.j z l r,x=>∃t dx a b,x = .ref t/\H t=some (.ins c.j dx [("sign",.str z),("left",a),("right",b)])/\Br c H l a/\Br c H r b
theorem Br.over {c:Cs}{H H':Hp}(e:A7 H H'):∀{t:Tw} {x:V},Br c H t x->Br c H' t x
 |.n i,x,h=>by obtain⟨t,dx,r,h⟩:=h;exact⟨t,dx,r,e _ _ h⟩
 |.v z,x,h=>by obtain⟨t,dx,r,h⟩:=h;exact⟨t,dx,r,e _ _ h⟩
 |.c z sp,x,h=>by obtain⟨t,dx,p,r,h,g⟩:=h;exact⟨t,dx,p,r,e _ _ h,g.tk (A7.tk e)⟩
 |.j z l r,x,h=>by obtain⟨t,dx,a,b,r,h,g1,g2⟩:=h;exact⟨t,dx,a,b,r,e _ _ h,Br.over e g1,Br.over e g2⟩
def DH (H:Hp)(x:V)(t:Tw):Prop := ∃p y,x = .ref p/\H p=some (.tup [.str t.wr,.int (t.hld:Int),y])/\EG H t y
theorem DH.tk {H H':Hp}{x:V}{t:Tw}(k:TK H H')(h:DH H x t):DH H' x t:=by obtain⟨p,y,e,h,g⟩:=h;exact⟨p,y,e,k _ _ h,g.tk k⟩
def NZ:Sp:=fun vs H Q _=>∃(x:V) (s:Str×Int),vs=[x]/\Cm H x s/\EA s/\Q (.str (B5 s)) H
def RO:Sp:=fun vs H Q _=>∃(z:Str) (p:Addr) (sp:List (Str×Int)),vs=[.str z,.ref p]/\F1 H p sp/\z.length<=20/\sp.length<=3/\(∀s∈sp,EA s)/\∀H',A7 H H'->Q (.str (Ba z sp)) H'
def Vp:Sp:=fun vs H Q _=>∃(z:Str) (x y:V) (l r:Tw),vs=[.str z,x,y]/\z∈FI/\DH H x l/\DH H y r/\l.Ok/\r.Ok/\l.sz+r.sz<=100/\∀(v:V) (H':Hp),A7 H H'->DH H' v (.j z l r)->Q v H'
def M7 (c:Cs)(n:Nat):Sp:=fun vs H Q _=>∃(x:V) (t:Tw),vs=[x]/\Br c H t x/\t.Ok/\t.sz<=n/\n<=100/\∀H',A7 H H'->Q (.str t.wr) H'
def Ve (c:Cs)(n:Nat):Sp:=fun vs H Q _=>∃(x:V) (b:Bool) (t:Tw),vs=[x,.bl b]/\Br c H t x/\t.Ok/\t.sz<=n/\n<=100/\∀H',A7 H H'->Q (.str (Et b t.wr)) H'
def Xi (c:Cs):Sp:=fun vs H Q _=>∃(x:V) (t:Tw),vs=[x]/\Br c H t x/\Q (.bl (decide (t.hld<=1))) H
def We (c:Cs):Sp:=fun vs H Q _=>∃(x:V) (z:Str) (l r:Tw),vs=[x]/\Br c H (.j z l r) x/\Q (.bl (decide (l.hld<hz z))) H
def SS (c:Cs):Sp:=fun vs H Q _=>∃(x:V) (z:Str) (l r:Tw),vs=[x]/\Br c H (.j z l r) x/\Q (.bl (decide (r.hld<=hz z))) H
structure Fj (H:Hp)(xs:List V)(ts:List Tw)(N:Nat):Prop where
 at':AH (DH H) xs ts
 ok:∀t∈ts,t.Ok
 sum:(ts.map Tw.sz).sum<=N
theorem Fj.len {H:Hp}{xs:List V}{ts:List Tw}{N:Nat}(h:Fj H xs ts N):xs.length<=N:=by
 rw[h.at'.1]
 have:∀l:List Tw,l.length<=(l.map Tw.sz).sum:=fun l=>by
  induction l with
  |nil=>exact Aj _
  |cons t l ih=>have:=t.sz_pos;rw[BN,KS,AQ];omega
 exact BI (this ts) h.sum
theorem Fj.push {H:Hp}{xs:List V}{ts:List Tw}{N:Nat}{x:V}{t:Tw}(h:Fj H xs ts N)(hx:DH H x t)(ht:t.Ok){M:Nat}(hM:N+t.sz<=M):Fj H (xs++[x]) (ts++[t]) M:=⟨h.at'.snoc hx,fun u hu=>by
 rcases Bl.mp hu with z|z
 .exact h.ok u z
 .rw[D8.mp z];exact ht,by
 have:=h.sum
 rw[AZ,List.sum_append]
 show _+(t.sz+0)<=M
 omega⟩
theorem Fj.pop {H:Hp}{xs:List V}{ts:List Tw}{N:Nat}(h:Fj H xs ts N)(hl:0<xs.length):∃ys x us t M,xs=ys++[x]/\ts=us++[t]/\Fj H ys us M/\DH H x t/\t.Ok/\M+t.sz<=N:=by
 obtain⟨n,hn⟩:∃n,xs.length=n+1:=⟨xs.length-1,by omega⟩
 obtain⟨ys,x,rfl,yl⟩:=Fu hn
 obtain⟨us,t,rfl,ul⟩:=Fu (h.at'.1.symm.trans hn)
 have hs:=h.sum
 rw[AZ,List.sum_append]at hs
 have hs:(us.map Tw.sz).sum+(t.sz+0)<=N:=hs
 refine⟨ys,x,us,t,(us.map Tw.sz).sum,rfl,rfl,⟨⟨by omega,fun i x' t' a b=>?_⟩,fun u hu=>h.ok u (FV _ hu),Aj _⟩,?_,h.ok t (by simp),by omega⟩
 .exact h.at'.2 i x' t' (by rw[DM (BE.mp a).1];exact a) (by rw[DM (BE.mp b).1];exact b)
 .exact h.at'.2 ys.length x t (by rw[CJ (Aj _),CO];rfl) (by rw[yl,←ul,CJ (Aj _),CO];rfl)
theorem Ce {ys:List V}{x:V}:(ys++[x])[(ys++[x]).length-1]?=some x/\(ys++[x]).dropLast=ys:=by
 refine⟨?_,List.dropLast_concat⟩
 rw[Ah,Bs,Nat.add_sub_cancel,CJ (Aj _),CO]
 rfl
theorem Po (c:Int){far:Int}(h:far=999999999999999999) : -999999999999999999<=FQ c far/\FQ c far<=999999999999999999:=by
 subst h
 unfold FQ
 split
 .have:=BY (c/3) (show(7:Int)≠0 by decide)
  have:=C9 (c/3) (show(0:Int)<7 by decide)
  omega
 .have:=BY (c/3) (show(2*999999999999999999+1:Int)≠0 by decide)
  have:=C9 (c/3) (show(0:Int)<2*999999999999999999+1 by decide)
  omega
theorem Q2 {i:Int}(h0:0<=i)(h1:i<3):∃c:Nat,Bu (cds (Str.ofString "+-*")) i=some c/\(⟨#[c]⟩:Str)∈FI:=by
 have:i=0\/i=1\/i=2:=by omega
 rcases this with rfl|rfl|rfl
 .exact⟨43,by decide +kernel,by decide +kernel⟩
 .exact⟨45,by decide +kernel,by decide +kernel⟩
 .exact⟨42,by decide +kernel,by decide +kernel⟩
theorem Os {xs:List Int}{w:List Nat}(he:xs.getD 0 0%2=0)(k:Int):(BD xs w k).head?=w.head?:=by
 unfold BD Hq
 rw[Af he]
 have h0:=BY (Cj xs+3*k) (show(8:Int)≠0 by decide)
 obtain⟨m,hm⟩:∃m,(1+(Cj xs+3*k)%8).toNat=m+1:=⟨((Cj xs+3*k)%8).toNat,by omega⟩
 rw[hm]
 cases w with
 |nil=>rfl
 |cons _ _=>rfl
theorem O1 {xs:List Int}{w:List Nat}(wl:w.length=8)(he:xs.getD 0 0%2=0)(k:Int):(BD xs w k).length=(1+(Cj xs+3*k)%8).toNat:=by
 unfold BD Hq
 rw[Af he,Bt,wl]
 have h0:=BY (Cj xs+3*k) (show(8:Int)≠0 by decide)
 have h1:=C9 (Cj xs+3*k) (show(0:Int)<8 by decide)
 omega
theorem V6 {xs:List Int}{w:List Nat}(he:¬xs.getD 0 0%2=0)(j k:Int):(BD xs w j).length=(BD xs w k).length:=by
 unfold BD Gw
 rw[Ab he,Ab he]
 simp only[Ah,Bs]
theorem Ol {xs:List Int}{w:List Nat}(wl:w.length=8)(he:¬xs.getD 0 0%2=0)(k:Int):(BD xs w k)[(CB xs).toNat]?=some (DB (xs.getD (2+CB xs).toNat 0+k)):=by
 unfold BD Gw
 have hl:=wl
 obtain⟨a0,a1⟩:=Kf xs
 obtain⟨_,l1⟩:=IE xs
 rw[Ab he,BC,CJ (by rw[Bt];omega),Bt,hl]
 rw[show(CB xs).toNat-min (CB xs).toNat 8=0 by omega]
 rfl
theorem Og {xs:List Int}{w:List Nat}(wl:w.length=8){j k:Nat}(hj:j<8)(hk:k<8)(h:j≠k):BD xs w (j:Int)≠BD xs w (k:Int):=fun e=>by
 by_cases he:xs.getD 0 0%2=0
 .have:=congrArg List.length e
  rw[O1 wl he,O1 wl he]at this
  omega
 .have:=congrArg (fun l:List Nat=>l[(CB xs).toNat]?) e
  rw[Ol wl he,Ol wl he]at this
  have:=BX this
  unfold DB at this
  omega
theorem O6 {xs:List Int}{w:List Nat}(wl:w.length=8){j k:Int}(hr:BD xs w j∈DE):[122,122]++BD xs w j≠BD xs w k:=fun e=>by
 by_cases he:xs.getD 0 0%2=0
 .have:=congrArg List.head? e
  rw[Os he]at this
  have h2:=Os (w:=w) he j
  rw[←this]at h2
  exact XD hr h2
 .have:=congrArg List.length e
  rw[Ah,V6 he j k]at this
  simp at this
theorem SX {xs:List Int}{w:List Nat}(wl:w.length=8){j k:Nat}(hj:j<8)(hk:k<8)(h:j≠k):DD xs w (j:Int)≠DD xs w (k:Int):=fun e=>by
 unfold DD at e
 by_cases c1:BD xs w (j:Int)∈DE<;>by_cases c2:BD xs w (k:Int)∈DE
 .rw[Af c1,Af c2]at e
  exact Og wl hj hk h (List.append_cancel_left e)
 .rw[Af c1,Ab c2]at e
  exact O6 wl c1 e
 .rw[Ab c1,Af c2]at e
  exact O6 wl c2 e.symm
 .rw[Ab c1,Ab c2]at e
  exact Og wl hj hk h e
theorem VS {xs:List Int}{w:List Nat}(wl:w.length=8):((List.range 8).map fun k:Nat=>AB (DD xs w (k:Int))).Nodup:=by
 rw[List.nodup_iff_pairwise_ne,List.pairwise_map]
 refine(List.pairwise_lt_range (n:=8)).imp_of_mem fun{i j} hi hj h=>?_
 have hi:=IJ.mp hi
 have hj:=IJ.mp hj
 intro e
 have:=congrArg cds e
 rw[B6,B6]at this
 exact SX wl (by omega) (by omega) (by omega) this
end L2
namespace Rd
open PySem L2
set_option genInjectivity true in
inductive Tk where
 |s (c:Nat)
 |t (w:Tw)
set_option genInjectivity true in
inductive Ex where
 |lf (t:Tw)
 |br (e:Ex)
 |jn (c:Nat) (l r:Ex)
def st (c:Nat):Nat:=if c=40 then 0 else if c=42 then 2 else 1
def sg (c:Nat):Str:=⟨#[c]⟩
namespace Ex
def tk:Ex->List Tk
 |lf t=>[.t t]
 |br e=>.s 40::(e.tk++[.s 41])
 |jn c l r=>l.tk ++ .s c::r.tk
def hd:Ex->Nat
 |lf _=>3
 |br _=>3
 |jn c _ _=>st c
def sh:Ex->Tw
 |lf t=>t
 |br e=>e.sh
 |jn c l r=>.j (sg c) l.sh r.sh
def Ok:Ex->Prop
 |lf _=>True
 |br e=>e.Ok
 |jn c l r=>(c=43\/c=45\/c=42)/\l.Ok/\r.Ok/\st c<=l.hd/\st c<r.hd
theorem hd_pos:∀{e:Ex},e.Ok->1<=e.hd
 |lf _,_=>by show 1<=3;decide
 |br _,_=>by show 1<=3;decide
 |
  jn c l r,h=>by
  show 1<=st c
  rcases h.1 with rfl|rfl|rfl<;>decide
end Ex
def jw (k:Nat):List Nat->List Tw->List Tw×List Nat
 |[],T=>(T,[])
 |c::S,r::l::T=>if k<=st c then jw k S (.j (sg c) l r::T) else(r::l::T,c::S)
 |c::S,T=>(T,c::S)
theorem jw_no {k c:Nat}{S:List Nat}{T:List Tw}(h:st c<k):jw k (c::S) T=(T,c::S):=by
 match T with
 |[]=>rfl
 |[_]=>rfl
 |r::l::T=>show(if k<=st c then _ else _)=_;exact Ab (by omega)
theorem jw_yes {k c:Nat}{S:List Nat}{l r:Tw}{T:List Tw}(h:k<=st c):jw k (c::S) (r::l::T)=jw k S (.j (sg c) l r::T):=by
 show(if k<=st c then _ else _)=_;exact Af h
structure Sta where
 T:List Tw
 S:List Nat
 due:Bool
def step (x:Sta):Tk->Option Sta
 |.t w=>if x.due then some ⟨w::x.T,x.S,false⟩ else none
 |
  .s c=>if c=40 then(if x.due then some ⟨x.T,40::x.S,true⟩ else none)
  else if x.due then none
  else if c=41 then match (jw 1 x.S x.T).2 with
   |[]=>none
   |_::S=>some ⟨(jw 1 x.S x.T).1,S,false⟩
  else some ⟨(jw (st c) x.S x.T).1,c::(jw (st c) x.S x.T).2,true⟩
def run:List Tk->Sta->Option Sta
 |[],x=>some x
 |
  k::ks,x=>match step x k with
  |some y=>run ks y
  |none=>none
theorem LZ {a b:List Tk}{x y:Sta}(h:run a x=some y):run (a++b) x=run b y:=by
 induction a generalizing x with
 |nil=>cases h;rfl
 |
  cons k ks ih=>
  rw[Dz,run]
  rw[run]at h
  cases hs:step x k with
  |none=>rw[hs]at h;cases h
  |some z=>rw[hs]at h;exact ih h
def Ld (S:List Nat)(k:Nat):Prop := ∀c S',S=c::S'->st c<k
theorem Wc {S:List Nat}{k:Nat}{T:List Tw}(h:Ld S k):jw k S T=(T,S):=by
 cases S with
 |nil=>rfl
 |cons c S=>exact jw_no (h c S rfl)
theorem JR:∀{e:Ex} {T:List Tw} {S:List Nat},e.Ok->Ld S e.hd->∃T' S',run e.tk ⟨T,S,true⟩=some ⟨T',S',false⟩/\∀k,k<=e.hd->jw k S' T'=jw k S (e.sh::T)
 |.lf t,T,S,_,_=>⟨t::T,S,rfl,fun _ _=>rfl⟩
 |
  .br e,T,S,ok,hl=>by
  obtain⟨T',S',h1,h2⟩:=JR (e:=e) (T:=T) (S:=40::S) ok (fun c S' h=>by cases h;have:=Ex.hd_pos (e:=e) ok;show 0<e.hd;omega)
  refine⟨e.sh::T,S,?_,fun _ _=>rfl⟩
  have j:jw 1 S' T'=(e.sh::T,40::S):=by
   rw[h2 1 (Ex.hd_pos ok)];exact jw_no (by decide)
  show run (e.tk++[.s 41]) ⟨T,40::S,true⟩=_
  rw[LZ h1,run,step,Ab (by decide)]
  simp only[Na,J0,F8]
  rw[j]
  rfl
 |
  .jn c l r,T,S,ok,hl=>by
  obtain⟨hc,okl,okr,k1,k2⟩:=ok
  have hl:Ld S (st c):=hl
  obtain⟨T1,S1,h1,h2⟩:=JR (e:=l) (T:=T) (S:=S) okl (fun c' S' h=>by have:=hl c' S' h;omega)
  obtain⟨T2,S2,g1,g2⟩:=JR (e:=r) (T:=l.sh::T) (S:=c::S) okr (fun c' S' h=>by cases h;exact k2)
  have j:jw (st c) S1 T1=(l.sh::T,S):=by rw[h2 _ k1];exact Wc hl
  have n1:c≠40:=by omega
  have n2:c≠41:=by omega
  refine⟨T2,S2,?_,fun k hk=>?_⟩
  .show run (l.tk ++ .s c::r.tk) ⟨T,S,true⟩=_
   rw[LZ h1,run,step,Ab n1]
   simp only[Na,J0]
   rw[Ab n2,j]
   exact g1
  .have hk:k<=st c:=hk
   rw[g2 k (by omega),jw_yes hk];rfl
theorem Vx {e:Ex}(ok:e.Ok):∃T' S',run e.tk ⟨[],[],true⟩=some ⟨T',S',false⟩/\jw 1 S' T'=([e.sh],[]):=by
 obtain⟨T',S',h1,h2⟩:=JR (e:=e) (T:=[]) (S:=[]) ok (fun c S' h=>by cases h)
 exact⟨T',S',h1,h2 1 (Ex.hd_pos ok)⟩
end Rd
namespace Rd
open PySem L2
def sg5:List Nat:=[43,45,42,40,41]
def ins (b:Bool)(c:Nat):Bool:=decide (c=91)||(b&&decide (c≠93))
def scan:Bool->List Nat->Nat
 |_,[]=>0
 |b,c::l=>if b=true\/c∉sg5 then 1+scan (ins b c) l else 0
def pass:Bool->List Nat->Option Bool
 |b,[]=>some b
 |b,c::l=>if b=true\/c∉sg5 then pass (ins b c) l else none
theorem Mp {b c:Bool}{x y:List Nat}(h:pass b x=some c):pass b (x++y)=pass c y:=by
 induction x generalizing b with
 |nil=>cases h;rfl
 |
  cons a x ih=>
  rw[Dz,pass]
  rw[pass]at h
  split
  .rename_i hc;rw[Af hc]at h;exact ih h
  .rename_i hc;rw[Ab hc]at h;cases h
theorem WY {b c:Bool}{x y:List Nat}(h:pass b x=some c):scan b (x++y)=x.length+scan c y:=by
 induction x generalizing b with
 |nil=>cases h;exact(Nc _).symm
 |
  cons a x ih=>
  rw[Dz,scan]
  rw[pass]at h
  split
  .rename_i hc
   rw[Af hc]at h
   rw[ih h,AQ]
   omega
  .rename_i hc;rw[Ab hc]at h;cases h
def pend:List Nat->Nat
 |[]=>0
 |c::l=>if c∈sg5 then 1 else scan false (c::l)
def Pp (l:List Nat):Prop := ∀c r,l=c::r->c∈sg5
theorem Xc {l:List Nat}(h:Pp l):scan false l=0:=by
 cases l with
 |nil=>rfl
 |
  cons c l=>
  rw[scan,Ab]
  intro z
  rcases z with z|z
  .cases z
  .exact z (h c l rfl)
structure G4 (w:List Nat):Prop where
 pass:pass false w=some false
 head:∃c r,w=c::r/\c∉sg5
theorem G4.pend {w l:List Nat}(h:G4 w)(hs:Pp l):Rd.pend (w++l)=w.length:=by
 obtain⟨c,r,e,hc⟩:=h.head
 have h1:=WY (y:=l) h.pass
 rw[Xc hs,Nat.add_zero]at h1
 rw[←h1,e,Dz,Rd.pend,Ab hc]
theorem T4 {w:List Nat}(h:∀c∈w,(48<=c/\c<=57)\/(97<=c/\c<=122)):Rd.pass false w=some false:=by
 induction w with
 |nil=>rfl
 |
  cons c w ih=>
  have hc:=h c AA
  have n5:c∉sg5:=fun z=>by
   unfold sg5 at z
   simp only[AG,CL,or_false]at z
   omega
  rw[Rd.pass,Af (.inr n5)]
  have e:ins false c=false:=by
   unfold ins
   rw[Bool.false_and,MQ]
   exact Bo (by omega)
  rw[e]
  exact ih fun d hd=>h d (B8 _ hd)
theorem PY {w:List Nat}(h:93∉w):Rd.pass true w=some true:=by
 induction w with
 |nil=>rfl
 |
  cons c w ih=>
  rw[Rd.pass,Af (.inl rfl)]
  have e:ins true c=true:=by
   unfold ins
   rw[Bool.true_and,MZ]
   exact .inr (B1 fun z=>h (z▸AA))
  rw[e]
  exact ih fun z=>h (B8 _ z)
theorem OF {w:List Nat}(h:∀c∈w,(48<=c/\c<=57)\/(97<=c/\c<=122))(hl:1<=w.length):G4 w:=by
 refine⟨T4 h,?_⟩
 cases w with
 |nil=>exact absurd hl (by decide)
 |
  cons c w=>
  refine⟨c,w,rfl,fun z=>?_⟩
  have hc:=h c AA
  unfold sg5 at z
  simp only[AG,CL,or_false]at z
  omega
theorem Nw {w:List Nat}(h:Bx w):G4 w:=OF (fun c hc=>.inr ((HL c).mp (h.2.2.1 c hc))) h.1
theorem S8 {w:List Nat}(h:Ct w):G4 w:=OF (fun c hc=>.inl (h.2.2.2 c hc)) h.1
theorem XR:∀m:Nat,0<m->((Nat.toDigits 10 m).map Char.toNat).head?≠some 48:=by
 intro m
 induction m using Nat.strongRecOn with
 |
  _ m ih=>
  intro hm
  by_cases h:m<10
  .rw[Nat.toDigits_of_lt_base h]
   have:∀d:Nat,d<10->0<d->(Nat.digitChar d).toNat≠48:=by decide
   exact fun z=>this m h hm (BX z)
  .have hm2:m%10<10:=Nat.mod_lt m (by decide)
   have t:Nat.toDigits 10 (m/10)++Nat.toDigits 10 (m%10)=Nat.toDigits 10 (10*(m/10)+m%10):=Nat.toDigits_append_toDigits (by decide) (by omega) hm2
   rw[Nat.div_add_mod]at t
   rw[←t,AZ]
   have ih1:=ih (m/10) (by omega) (by omega)
   cases hd:(Nat.toDigits 10 (m/10)).map Char.toNat with
   |
    nil=>
    have h:=toDigits_len_ge 10 (m/10)
    rw[Nd.mp hd]at h
    exact absurd h (by decide)
   |cons c r=>rw[hd]at ih1;exact ih1
theorem nS_good {i:Int}(h0:0<=i)(h1:i<=999999999999999999):Ct (cds (nS i))/\EF (cds (nS i))=i:=by
 have hl:=Qr (v:=i) h0 (k:=18) (by decide) (by show i<10 ^ 18;omega)
 obtain⟨m,rfl⟩:=Int.eq_ofNat_of_zero_le h0
 have e:cds (nS ((m:Nat):Int))=(Nat.toDigits 10 m).map Char.toNat:=PySem.W.KIN.signs_num m
 have hlen:(cds (nS ((m:Nat):Int))).length<=18:=by rw[cds_len];exact hl
 refine⟨⟨?_,hlen,?_,?_⟩,?_⟩
 .rw[e,An];exact toDigits_len_ge 10 m
 .rw[e]
  intro⟨a,b⟩
  by_cases hm:0<m
  .exact XR m hm a
  .have:m=0:=by omega
   subst this
   exact absurd b (by decide)
 .intro c hc
  rw[e]at hc
  obtain⟨ch,hch,e2⟩:=CK.mp hc
  have r:=PyProof.Rows.digit_range (Nat.isDigit_of_mem_toDigits (by decide) (by decide) hch)
  rw[←e2]
  exact r
 .unfold EF
  rw[e,PySem.W.KIN.val_back]
def SpN (s:Str×Int):Prop:=(s.1=""\/Bx (cds s.1))/\EA s
theorem bef_app {c:Nat}{x y:List Nat}(h:c∉x):Cr c (x++c::y)=x/\Dj c (x++c::y)=y:=by
 have e:(x++c::y).idxOf c=x.length:=by
  refine Ir (by rw[CJ (Aj _),CO];rfl) fun k hk z=>h (by rw[DM hk]at z;exact C8 z)
 unfold Cr Dj
 rw[e]
 refine⟨Hv,?_⟩
 rw[←IR,KQ]
 rfl
theorem name_no {w:List Nat}(h:Bx w){c:Nat}(hc:¬(97<=c/\c<=122)):c∉w:=fun z=>hc ((HL c).mp (h.2.2.1 c z))
theorem Ej {w:List Nat}(h:Ct w){c:Nat}(hc:¬(48<=c/\c<=57)):c∉w:=fun z=>hc (h.2.2.2 c z)
theorem Lw {i:Int}(h:i<0):cds (nS i)=45::cds (nS (0-i)):=by
 unfold nS
 rw[Mh h,AS]
 rfl
theorem num_name {w:List Nat}(h:Ct w):¬Bx w:=fun z=>by
 cases w with
 |nil=>exact absurd h.1 (by decide)
 |
  cons a r=>
  have h1:=(HL a).mp (z.2.2.1 a AA)
  have h2:=h.2.2.2 a AA
  omega
theorem spot_read {s:Str×Int}(h:SpN s):EC (cds (B5 s))=some (cds s.1,s.2):=by
 obtain⟨hn,_,b0,b1⟩:=h
 unfold B5
 by_cases e0:s.1=""
 .rw[Af e0]
  have c0:cds s.1=[]:=by rw[e0];rfl
  rw[c0]
  by_cases hs:s.2<0
  .rw[Lw hs]
   obtain⟨g,d⟩:=nS_good (i:=0-s.2) (by omega) (by omega)
   generalize cds (nS (0-s.2))=w at g d
   have m45:(45:Nat)∈45::w:=AA
   have n43:(43:Nat)∉45::w:=fun z=>by
    rcases AG.mp z with z|z
    .cases z
    .exact Ej g (by omega) z
   have ba:=bef_app (c:=45) (x:=[]) (y:=w) (by simp)
   unfold EC
   rw[Ab (J8 m45 (by omega)),Ab (Kj m45 (by omega)),Ab n43,Af m45]
   rw[KU]at ba
   rw[ba.1,ba.2,Af g,Af (.inr ⟨rfl,by omega⟩),d]
   congr 2
   omega
  .obtain⟨g,d⟩:=nS_good (i:=s.2) (by omega) (by omega)
   unfold EC
   rw[Ab (num_name g),Af g,d]
 .have hn:Bx (cds s.1):=hn.resolve_left e0
  rw[Ab e0]
  by_cases e1:s.2=0
  .rw[Af e1]
   unfold EC
   rw[Af hn,e1]
  .rw[Ab e1]
   by_cases e2:0<s.2
   .rw[Af e2,AS,AS]
    obtain⟨g,d⟩:=nS_good (i:=s.2) (by omega) (by omega)
    have ec:cds ("+":Str)=[43]:=by decide +kernel
    rw[ec,BC]
    show EC (cds s.1++43::cds (nS s.2))=_
    have ba:=bef_app (c:=43) (x:=cds s.1) (y:=cds (nS s.2)) (name_no hn (by omega))
    have m:(43:Nat)∈cds s.1++43::cds (nS s.2):=Cp _ AA
    unfold EC
    rw[Ab (J8 m (by omega)),Ab (Kj m (by omega)),Af m,ba.1,ba.2,Af ⟨g,hn⟩,d]
   .rw[Ab e2,AS,Lw (by omega)]
    obtain⟨g,d⟩:=nS_good (i:=0-s.2) (by omega) (by omega)
    have ba:=bef_app (c:=45) (x:=cds s.1) (y:=cds (nS (0-s.2))) (name_no hn (by omega))
    have m:(45:Nat)∈cds s.1++45::cds (nS (0-s.2)):=Cp _ AA
    have n43:(43:Nat)∉cds s.1++45::cds (nS (0-s.2)):=fun z=>by
     rcases Bl.mp z with z|z
     .exact name_no hn (by omega) z
     .rcases AG.mp z with z|z
      .cases z
      .exact Ej g (by omega) z
    unfold EC
    rw[Ab (J8 m (by omega)),Ab (Kj m (by omega)),Ab n43,Af m,ba.1,ba.2,Af g,Af (.inl hn),d]
    congr 2
    omega
theorem spot_free {s:Str×Int}(h:SpN s){c:Nat}(hc:¬(97<=c/\c<=122)/\¬(48<=c/\c<=57)/\c≠43/\c≠45):c∉cds (B5 s):=by
 obtain⟨hn,_,b0,b1⟩:=h
 have kn:c∉cds (nS s.2):=by
  by_cases hs:s.2<0
  .rw[Lw hs]
   obtain⟨g,d⟩:=nS_good (i:=0-s.2) (by omega) (by omega)
   intro z
   rcases AG.mp z with z|z
   .exact hc.2.2.2 z
   .exact Ej g hc.2.1 z
  .obtain⟨g,d⟩:=nS_good (i:=s.2) (by omega) (by omega)
   exact Ej g hc.2.1
 have ks:c∉cds s.1:=by
  rcases hn with e|e
  .rw[e]
   show c∉[]
   simp
  .exact name_no e hc.1
 unfold B5
 split
 .exact kn
 .split
  .exact ks
  .split
   .rw[AS,AS]
    have ec:cds ("+":Str)=[43]:=by decide +kernel
    rw[ec]
    intro z
    rcases Bl.mp z with z|z
    .rcases Bl.mp z with z|z
     .exact ks z
     .exact hc.2.2.1 (D8.mp z)
    .exact kn z
   .rw[AS]
    intro z
    rcases Bl.mp z with z|z
    .exact ks z
    .exact kn z
def inner:List (List Nat)->List Nat
 |[]=>[]
 |[a]=>a
 |a::b::l=>a++([93,91]++inner (b::l))
theorem OA:∀{sp:List (Str×Int)},sp≠[]->((sp.map D9).map cds).flatten=91::(inner (sp.map fun s=>cds (B5 s))++[93])
 |[],h=>absurd rfl h
 |
  [s],_=>by
  show cds (D9 s)++[]=91::(cds (B5 s)++[93])
  rw[Cq]
  unfold D9
  rw[AS,AS]
  rfl
 |
  s::s2::sp,_=>by
  have ih:=OA (sp:=s2::sp) (Cy _ _)
  show cds (D9 s)++(((s2::sp).map D9).map cds).flatten=91::((cds (B5 s)++([93,91]++inner ((s2::sp).map fun s=>cds (B5 s))))++[93])
  rw[ih]
  unfold D9
  rw[AS,AS]
  show[91]++cds (B5 s)++[93]++_=_
  simp
theorem inner_split:∀{l:List (List Nat)},l≠[]->(∀a∈l,93∉a)->IsSplit [93,91] (inner l) l
 |[],h,_=>absurd rfl h
 |[a],_,h=>.one' (h a AA)
 |a::b::l,_,h=>.cut' (h a AA) (inner_split (Cy _ _) fun c hc=>h c (B8 _ hc))
theorem cel_cds {z:Str}{sp:List (Str×Int)}(hs:sp≠[]):cds (Ba z sp)=cds z++91::(inner (sp.map fun s=>cds (B5 s))++[93]):=by
 unfold Ba
 rw[AS,L8,OA hs]
theorem Tq {z:Str}{sp:List (Str×Int)}(hz:Bx (cds z))(hs:sp≠[])(h:∀s∈sp,SpN s):G4 (cds (Ba z sp)):=by
 have hw:=Nw hz
 obtain⟨c,r,e,hc⟩:=hw.head
 refine⟨?_,c,r++91::(inner (sp.map fun s=>cds (B5 s))++[93]),by rw[cel_cds hs,e];rfl,hc⟩
 have key:∀{l:List (List Nat)},(∀a∈l,93∉a)->Rd.pass true (inner l)=some true:=fun{l} hl=>by
  induction l with
  |nil=>rfl
  |
   cons a l ih=>
   cases l with
   |nil=>exact PY (hl a AA)
   |
    cons b l=>
    show Rd.pass true (a++([93,91]++inner (b::l)))=_
    rw[Mp (PY (hl a AA))]
    exact ih fun c hc=>hl c (B8 _ hc)
 rw[cel_cds hs,Mp hw.pass]
 show Rd.pass true (inner (sp.map fun s=>cds (B5 s))++[93])=some false
 rw[Mp (key fun a ha=>?_)]
 .rfl
 .obtain⟨s,hs',rfl⟩:=CK.mp ha
  exact spot_free (h s hs') (by omega)
end Rd
namespace Rd
open PySem L2
def Tk.txt:Tk->Str
 |.s c=>⟨#[c]⟩
 |.t (.n i)=>nS i
 |.t (.v z)=>z
 |.t (.c z sp)=>Ba z sp
 |.t (.j z _ _)=>z
def Tk.Ok:Tk->Prop
 |.s c=>c∈sg5
 |.t (.n i)=>0<=i/\i<=999999999999999999
 |.t (.v z)=>Bx (cds z)
 |.t (.c z sp)=>Bx (cds z)/\sp≠[]/\sp.length<=3/\∀s∈sp,SpN s
 |.t (.j _ _ _)=>False
def PtAt (c:Cs)(H:Hp)(v:V):Tk->Prop
 |.s a=>v = .str ⟨#[a]⟩
 |.t w=>Br c H w v
theorem PtAt.over {c:Cs}{H H':Hp}(e:A7 H H'){v:V}{k:Tk}(h:PtAt c H v k):PtAt c H' v k:=by
 cases k with
 |s a=>exact h
 |t w=>exact Br.over e h
theorem Tk.whole {w:Tw}(h:(Tk.t w).Ok):G4 (cds (Tk.t w).txt):=by
 cases w with
 |n i=>exact S8 (nS_good h.1 h.2).1
 |v z=>exact Nw h
 |c z sp=>exact Tq h.1 h.2.1 h.2.2.2
 |j _ _ _=>exact h.elim
def DC:List Tk->Prop
 |.t _ :: .t w::l=>False
 |_::l=>DC l
 |[]=>True
def txts (ks:List Tk):List Nat:=(ks.map fun k=>cds k.txt).flatten
theorem not_sign {z:Str}{c:Nat}{r:List Nat}(e:cds z=c::r)(hc:c∉sg5):(!(Builtin.Str.occurrences (Str.ofString "+-*()") z 0 (Str.ofString "+-*()").length 1).isEmpty)=false:=by
 rw[Bool.eq_false_iff]
 intro h
 obtain⟨i,h1,h2⟩:=(StrLaws.found_iff _ _).mp h
 rw[StrLaws.subAt_eq,E9]at h2
 have e2:(Str.ofString "+-*()").cps.toList=sg5:=by decide +kernel
 have e3:z.cps.toList=c::r:=e
 rw[e2,e3]at h2
 have h3:c∈(sg5.drop i).take z.length:=by rw[h2];exact AA
 exact hc (FZ (G3 h3))
theorem is_sign {c:Nat}(hc:c∈sg5):(!(Builtin.Str.occurrences (Str.ofString "+-*()") ⟨#[c]⟩ 0 (Str.ofString "+-*()").length 1).isEmpty)=true:=by
 rw[L9]
 have e2:cds (Str.ofString "+-*()")=sg5:=by decide +kernel
 rw[e2]
 exact B1 hc
def spPend:Sp:=fun vs H Q _=>∃(z:Str) (i:Nat),vs=[.str z,.int (i:Int)]/\i<(cds z).length/\z.length<=100000/\Q (.int ((i+pend ((cds z).drop i):Nat):Int)) H
def spCellOf (c:Cs):Sp:=fun vs H Q _=>∃(z:Str) (sp:List (Str×Int)),vs=[.str (Ba z sp)]/\(Tk.t (.c z sp)).Ok/\∀(x:V) (H':Hp),A7 H H'->Br c H' (.c z sp) x->Q x H'
def spPartOf (c:Cs):Sp:=fun vs H Q _=>∃k:Tk,vs=[.str k.txt]/\k.Ok/\∀(x:V) (H':Hp),A7 H H'->PtAt c H' x k->Q x H'
def spPartsOf (c:Cs):Sp:=fun vs H Q _=>∃(z:Str) (ks:List Tk),vs=[.str z]/\cds z=txts ks/\z.length<=100000/\(∀k∈ks,k.Ok)/\DC ks/\∀(l:Addr) (xs:List V) (H':Hp),A7 H H'->H l=none->H' l=some (.lst xs)->AH (PtAt c H') xs ks->Q (.ref l) H'
def nb (S:List Nat):Nat:=(S.filter (· != 40)).length
theorem nb_cons {a:Nat}{S:List Nat}(h:a≠40):nb (a::S)=nb S+1:=by
 unfold nb
 rw[DV,Af (by simpa using h)]
 rfl
theorem QV {S:List Nat}:nb (40::S)=nb S:=rfl
theorem M6 (k:Nat)(hk:1<=k):∀{S:List Nat} {T:List Tw},nb S<T.length->nb (jw k S T).2<(jw k S T).1.length/\T.length+nb (jw k S T).2=(jw k S T).1.length+nb S
 |[],T,h=>⟨by cases T<;>exact h,by cases T<;>rfl⟩
 |
  a::S,T,h=>by
  by_cases c:k<=st a
  .have n40:a≠40:=fun z=>by subst z;exact absurd c (by show ¬k<=0;omega)
   rw[nb_cons n40]at h ⊢
   match T,h with
   |
    r::l::T,h=>
    rw[jw_yes c]
    have:=M6 k hk (S:=S) (T:=.j (sg a) l r::T) (by rw[AQ];rw[AQ,AQ]at h;omega)
    rw[AQ]at this
    rw[AQ,AQ]
    omega
   |[_],h=>exact absurd h (by rw[Bs];omega)
   |[],h=>exact absurd h (by rw[MW];omega)
  .rw[jw_no (by omega)]
   exact⟨h,rfl⟩
def B2 (l r:Addr)(H H':Hp):Prop := ∀b o,H b=some o->b≠l->b≠r->H' b=some o
def spJoinW (c:Cs):Sp:=fun vs H Q _=>∃(l r:Addr) (ts ss:List V) (T:List Tw) (S:List Nat) (k:Nat),vs=[.ref l,.ref r,.int (k:Int)]/\l≠r/\1<=k/\H l=some (.lst ts)/\H r=some (.lst ss)/\AH (fun v t=>Br c H t v) ts T.reverse/\ss=S.reverse.map (fun a=>V.str (sg a))/\(∀a∈S,a∈sg5/\a≠41)/\nb S<T.length/\T.length<=1000/\
 ∀(ts' ss':List V) (H':Hp),B2 l r H H'->H' l=some (.lst ts')->H' r=some (.lst ss')->AH (fun v t=>Br c H' t v) ts' (jw k S T).1.reverse->ss'=(jw k S T).2.reverse.map (fun a=>V.str (sg a))->Q .non H'
def spTermOf (c:Cs):Sp:=fun vs H Q _=>∃(l:Addr) (xs:List V) (ks:List Tk) (T:List Tw) (S:List Nat) (t:Tw),vs=[.ref l]/\H l=some (.lst xs)/\AH (PtAt c H) xs ks/\xs.length<=1000/\(∀k∈ks,k.Ok)/\run ks ⟨[],[],true⟩=some ⟨T,S,false⟩/\jw 1 S T=([t],[])/\∀(x:V) (H':Hp),A7 H H'->Br c H' t x->Q x H'
theorem cut_last {α:Type}(l:List α)(c:α):Ck (l++[c]) none (some (-1))=l:=by
 unfold Ck
 have e:HT.sIx (l++[c]).length (l++[c]).length (some (-1))=l.length:=by
  unfold HT.sIx
  rw[Ah,Bs]
  dsimp only
  split<;>omega
 rw[HT.sIx_none,e,IM,Nat.sub_zero,Hv]
theorem pend_cons {k:Tk}{l:List Tk}(ok:k.Ok)(okl:∀x∈l,x.Ok)(ad:DC (k::l)):pend (cds k.txt++txts l)=(cds k.txt).length/\1<=(cds k.txt).length:=by
 cases k with
 |
  s c=>
  refine⟨?_,Aj _⟩
  show pend (c::txts l)=1
  rw[pend,Af (show c∈sg5 from ok)]
 |
  t w=>
  have hw:=Tk.whole ok
  obtain⟨c,r,e,_⟩:=hw.head
  refine⟨hw.pend fun d r' e'=>?_,by rw[e,AQ];omega⟩
  cases l with
  |nil=>cases e'
  |
   cons k' l=>
   cases k' with
   |
    s c'=>
    have e2:c'::txts l=d::r':=e'
    injection e2 with e3 _
    rw[←e3]
    exact okl (.s c') AA
   |t w'=>exact ad.elim
theorem P8 {k:Tk}{l:List Tk}(ad:DC (k::l)):DC l:=by
 cases k with
 |s c=>exact ad
 |
  t w=>
  cases l with
  |nil=>exact True.intro
  |
   cons k' l=>
   cases k' with
   |s c'=>exact ad
   |t w'=>exact ad.elim
theorem adj_drop:∀{ks:List Tk} (j:Nat),DC ks->DC (ks.drop j)
 |_,0,h=>h
 |[],_+1,h=>h
 |_::_,j+1,h=>adj_drop j (P8 h)
theorem txts_cons (k:Tk)(l:List Tk):txts (k::l)=cds k.txt++txts l:=rfl
theorem PtAt.some {c:Cs}{H:Hp}{v:V}{k:Tk}(ok:k.Ok)(h:PtAt c H v k):v≠.non:=by
 intro e
 subst e
 cases k with
 |s a=>cases h
 |
  t w=>
  cases w with
  |n i=>obtain⟨_,_,e,_⟩:=h;cases e
  |v z=>obtain⟨_,_,e,_⟩:=h;cases e
  |c z sp=>obtain⟨_,_,_,e,_⟩:=h;cases e
  |j _ _ _=>exact ok
def NL (H H':Hp):Prop := ∀b o,H b=some o->(∀xs,o≠.lst xs)->H' b=some o
theorem NL.of {H H':Hp}(e:A7 H H'):NL H H':=fun b o h _=>e b o h
theorem NL.trans {H H1 H2:Hp}(a:NL H H1)(b:NL H1 H2):NL H H2:=fun c o h n=>b c o (a c o h n) n
theorem NL.upd {H:Hp}{l:Addr}{xs ys:List V}(h:H l=some (.lst xs)):NL H (upd H l (.lst ys)):=fun b o e n=>by
 rw[A8 (fun z=>by rw[z,h]at e;exact n xs (BX e).symm)]
 exact e
theorem NL.tk {H H':Hp}(e:NL H H'):TK H H':=fun p xs h=>e _ _ h (fun _ z=>nomatch z)
theorem tb_nl {c:Cs}{H H':Hp}(e:NL H H'):∀{t:Tw} {x:V},Br c H t x->Br c H' t x
 |.n i,x,h=>by obtain⟨t,dx,r,h⟩:=h;exact⟨t,dx,r,e _ _ h (fun _ z=>nomatch z)⟩
 |.v z,x,h=>by obtain⟨t,dx,r,h⟩:=h;exact⟨t,dx,r,e _ _ h (fun _ z=>nomatch z)⟩
 |.c z sp,x,h=>by obtain⟨t,dx,p,r,h,g⟩:=h;exact⟨t,dx,p,r,e _ _ h (fun _ z=>nomatch z),g.tk e.tk⟩
 |.j z l r,x,h=>by obtain⟨t,dx,a,b,r,h,g1,g2⟩:=h;exact⟨t,dx,a,b,r,e _ _ h (fun _ z=>nomatch z),tb_nl e g1,tb_nl e g2⟩
theorem PtAt.nl {c:Cs}{H H':Hp}(e:NL H H'){v:V}{k:Tk}(h:PtAt c H v k):PtAt c H' v k:=by
 cases k with
 |s a=>exact h
 |t w=>exact tb_nl e h
def strV:List (Be×V):=[(.inr "(",.int 0),(.inr "+",.int 1),(.inr "-",.int 1),(.inr "*",.int 2)]
theorem st_val {a:Nat}(h:a∈sg5/\a≠41):D1 strV (.inr (sg a))=some (.int (st a:Int)):=by
 obtain⟨h5,n⟩:=h
 unfold sg5 at h5
 simp only[AG,CL,or_false]at h5
 rcases h5 with rfl|rfl|rfl|rfl|rfl
 .decide +kernel
 .decide +kernel
 .decide +kernel
 .decide +kernel
 .exact absurd rfl n
theorem all2_pop {β:Type}{R:V->β->Prop}{xs:List V}{ys:List β}{y:β}(h:AH R xs (ys++[y])):∃xs' x,xs=xs'++[x]/\AH R xs' ys/\R x y:=by
 have hl:=h.1
 rw[Ah,Bs]at hl
 obtain⟨us,x,rfl,ul⟩:=Fu hl
 refine⟨us,x,rfl,⟨ul,fun i a b ha hb=>?_⟩,?_⟩
 .exact h.2 i a b (by rw[DM (BE.mp ha).1];exact ha) (by rw[DM (BE.mp hb).1];exact hb)
 .exact h.2 us.length x y (by rw[CJ (Aj _),CO];rfl) (by rw[ul,CJ (Aj _),CO];rfl)
theorem Pc:∀{a b:List Tk} {x y:Sta},run (a++b) x=some y->∃z,run a x=some z/\run b z=some y
 |[],b,x,y,h=>⟨x,rfl,h⟩
 |
  k::a,b,x,y,h=>by
  rw[Dz,run]at h
  cases hs:step x k with
  |none=>rw[hs]at h;cases h
  |
   some z=>
   rw[hs]at h
   obtain⟨u,h1,h2⟩:=Pc (a:=a) h
   exact⟨u,by rw[run,hs];exact h1,h2⟩
theorem run_at {ks:List Tk}{x y:Sta}{i:Nat}{k:Tk}(h:run ks x=some y)(hk:ks[i]?=some k):∃z u,run (ks.take i) x=some z/\step z k=some u/\run (ks.take (i+1)) x=some u:=by
 have hi:=(BE.mp hk).1
 have e:ks=ks.take i++(k::ks.drop (i+1)):=by
  have h2:=F7 hi
  rw[BB hi]at hk
  rw[BX hk]at h2
  rw[←h2,MY]
 rw[e]at h
 obtain⟨z,h1,h2⟩:=Pc h
 rw[run]at h2
 cases hs:step z k with
 |none=>rw[hs]at h2;cases h2
 |
  some u=>
  refine⟨z,u,h1,hs,?_⟩
  rw[Du hk,LZ h1,run,hs]
  rfl
theorem MG (k:Nat):∀{S:List Nat} {T:List Tw},∀c∈(jw k S T).2,c∈S
 |[],T,c,h=>by cases T<;>exact h
 |
  a::S,T,c,h=>by
  match T with
  |[]=>exact h
  |[_]=>exact h
  |
   r::l::T=>
   by_cases hk:k<=st a
   .rw[jw_yes hk]at h
    exact B8 _ (MG k c h)
   .rw[jw_no (by omega)]at h
    exact h
theorem Oi (k:Nat)(hk:1<=k):∀{S:List Nat} {T:List Tw} {d:Nat} {S':List Nat},nb S<T.length->(jw k S T).2=d::S'->st d<k
 |[],T,d,S',_,h=>by cases T<;>cases h
 |
  a::S,T,d,S',hn,h=>by
  by_cases c:k<=st a
  .have n40:a≠40:=fun z=>by subst z;exact absurd c (by show ¬k<=0;omega)
   rw[nb_cons n40]at hn
   match T,hn with
   |
    r::l::T,hn=>
    rw[jw_yes c]at h
    exact Oi k hk (by rw[AQ];rw[AQ,AQ]at hn;omega) h
   |[_],hn=>exact absurd hn (by rw[Bs];omega)
   |[],hn=>exact absurd hn (by rw[MW];omega)
  .rw[jw_no (by omega)]at h
   have h:a::S=d::S':=h
   injection h with e _
   rw[←e]
   omega
theorem WM {d:Nat}(h:st d<1):d=40:=Hw fun n=>by
 unfold st at h
 rw[Ab n]at h
 split at h<;>omega
structure Wt (x:Sta):Prop where
 sg:∀c∈x.S,c∈sg5/\c≠41
 nb:nb x.S+(if x.due then 0 else 1)=x.T.length
theorem Wt.step {x y:Sta}{k:Tk}(w:Wt x)(ok:k.Ok)(h:Rd.step x k=some y):Wt y:=by
 obtain⟨T,S,due⟩:=x
 have wn:=w.nb
 cases k with
 |
  t t=>
  cases due with
  |false=>cases h
  |
   true=>
   have h:some (⟨t::T,S,false⟩:Sta)=some y:=h
   cases h
   exact⟨w.sg,by have:Rd.nb S+0=T.length:=wn;show Rd.nb S+1=T.length+1;omega⟩
 |
  s c=>
  have ok:c∈sg5:=ok
  rw[Rd.step]at h
  by_cases c40:c=40
  .subst c40
   rw[Af rfl]at h
   cases due with
   |false=>cases h
   |
    true=>
    have h:some (⟨T,40::S,true⟩:Sta)=some y:=h
    cases h
    refine⟨fun d hd=>?_,wn⟩
    rcases AG.mp hd with rfl|z
    .exact⟨by decide,by decide⟩
    .exact w.sg d z
  .rw[Ab c40]at h
   cases due with
   |true=>cases h
   |
    false=>
    have wn:Rd.nb S+1=T.length:=wn
    rw[Ab (show ¬(Sta.due ⟨T,S,false⟩=true) from BQ)]at h
    by_cases c41:c=41
    .rw[Af c41]at h
     have j:=M6 1 (Aj _) (S:=S) (T:=T) (by omega)
     cases hs:(jw 1 S T).2 with
     |nil=>simp only[hs]at h;cases h
     |
      cons d S'=>
      simp only[hs]at h
      cases h
      rw[hs]at j
      refine⟨fun e he=>w.sg e (MG 1 e (by rw[hs];exact B8 _ he)),?_⟩
      have e:=WM (Oi 1 (Aj _) (by omega) hs)
      subst e
      rw[QV]at j
      show Rd.nb S'+1=(jw 1 S T).1.length
      omega
    .rw[Ab c41]at h
     cases h
     have j:=M6 (st c) (by unfold st;rw[Ab c40];split<;>decide) (S:=S) (T:=T) (by omega)
     refine⟨fun e he=>?_,?_⟩
     .rcases AG.mp he with rfl|z
      .exact⟨ok,c41⟩
      .exact w.sg e (MG _ e z)
     .show Rd.nb (c::(jw (st c) S T).2)+0=(jw (st c) S T).1.length
      rw[nb_cons c40]
      omega
theorem jw_len (k:Nat):∀{S:List Nat} {T:List Tw},(jw k S T).1.length<=T.length
 |[],T=>by cases T<;>exact Aj _
 |
  a::S,T=>by
  match T with
  |[]=>exact Aj _
  |[_]=>exact Aj _
  |
   r::l::T=>
   by_cases hk:k<=st a
   .rw[jw_yes hk]
    have:=jw_len k (S:=S) (T:=.j (sg a) l r::T)
    rw[AQ]at this ⊢
    rw[AQ]
    omega
   .rw[jw_no (by omega)]
    exact Aj _
theorem jw_len2 (k:Nat):∀{S:List Nat} {T:List Tw},(jw k S T).2.length<=S.length
 |[],T=>by cases T<;>exact Aj _
 |
  a::S,T=>by
  match T with
  |[]=>exact Aj _
  |[_]=>exact Aj _
  |
   r::l::T=>
   by_cases hk:k<=st a
   .rw[jw_yes hk,AQ]
    have:=jw_len2 k (S:=S) (T:=.j (sg a) l r::T)
    omega
   .rw[jw_no (by omega)]
    exact Aj _
def bare (l:List Nat):List Nat:=stp 32 (if 59∈l then Cr 59 l else l)
def spBare:Sp:=fun vs H Q _=>∃z:Str,vs=[.str z]/\z.length<=100000/\∀H',A7 H H'->Q (.str (AB (bare (cds z)))) H'
def spWords:Sp:=fun vs H Q _=>∃z:Str,vs=[.str z]/\z.length<=100000/\∀(l:Addr) (H':Hp) (ps:List Str),A7 H H'->IsSplit [32] (cds z) (ps.map cds)->H' l=some (.lst ((ps.filter fun y:Str=>decide (y≠Str.ofString "")).map V.str))->Q (.ref l) H'
theorem split_many {y l:List Nat}{ps:List (List Nat)}(hy:1<=y.length)(h:IsSplit y l ps):ps.length<=l.length+1:=by
 induction h with
 |one _=>rw[Bs];omega
 |cut _ _ ih=>rw[AQ,Ah,Ah];omega
def M5 (C:Addr)(H:Hp)(d:Addr)(nm:List Str):Prop := ∃(dx:Addr) (fs:List (Str×V)) (n:Addr),H d=some (.ins C dx fs)/\fs.lookup (Str.ofString "names")=some (V.ref n)/\H n=some (.lst (nm.map V.str))
def knw (nm:List Str)(s:Str×Int):Bool:=decide (s.1=Str.ofString "")||decide (s.1∈nm)
def spKnown (C:Addr):Sp:=fun vs H Q _=>∃(d p:Addr) (nm:List Str) (sp:List (Str×Int)),vs=[.ref d,.ref p]/\M5 C H d nm/\F1 H p sp/\sp.length<=1000/\∀H',A7 H H'->Q (.bl (sp.all (knw nm))) H'
end Rd
namespace Pw
structure Dd (T S:Type) where
 loops:List T
 path:List Int
 txt:S
variable {T S:Type}
inductive Rr (T S:Type) where
 |opn (t:T):Rr T S
 |row (s:S):Rr T S
 |fin:Rr T S
abbrev Rw (T S:Type):=List (Nat×Rr T S)
def C1:Nat->List T->Rw T S
 |_,[]=>[]
 |d,t::ts=>(d,.opn t)::C1 (d+1) ts
def ends (d:Nat):Nat->Rw T S
 |0=>[]
 |n+1=>(d+n,.fin)::ends d n
def Sh (a b:Dd T S)(c:Nat):Prop:=c<=a.loops.length/\c<=b.loops.length/\a.loops.take c=b.loops.take c/\a.path.take c=b.path.take c/\a.path.getD c 0≠b.path.getD c 0
inductive Cf (d:Nat):Dd T S->List (Dd T S)->Rw T S->Prop
 |nil {a:Dd T S}:Cf d a [] (ends d (a.loops.length-d))
 |cons {a b:Dd T S} {ds:List (Dd T S)} {c:Nat} {R:Rw T S}:Sh a b c->d<=c->Cf d b ds R->Cf d a (b::ds) (ends c (a.loops.length-c)++C1 c (b.loops.drop c)++(b.loops.length,.row b.txt)::R)
inductive LinA (d:Nat):List (Dd T S)->Rw T S->Prop
 |nil:LinA d [] []
 |cons {a:Dd T S} {ds:List (Dd T S)} {R:Rw T S}:d<=a.loops.length->Cf d a ds R->LinA d (a::ds) (C1 d (a.loops.drop d)++(a.loops.length,.row a.txt)::R)
theorem Ma (d c n:Nat)(h:d<=c)(hn:c<=n):(ends d (n-d):Rw T S)=ends c (n-c)++ends d (c-d):=by
 obtain⟨k,rfl⟩:∃k,n=c+k:=⟨n-c,by omega⟩
 have:∀k,(ends d (c+k-d):Rw T S)=ends c (c+k-c)++ends d (c-d):=by
  intro k
  induction k with
  |zero=>simp[ends]
  |
   succ k ih=>
   rw[show c+(k+1)-d=(c+k-d)+1 by omega,show c+(k+1)-c=(c+k-c)+1 by omega]
   show(d+(c+k-d),Rr.fin)::ends d (c+k-d)=(c+(c+k-c),Rr.fin)::(ends c (c+k-c)++ends d (c-d))
   rw[ih,show d+(c+k-d)=c+(c+k-c) by omega]
 exact this k
theorem PL {d:Nat}:∀{ds:List (Dd T S)} {a:Dd T S} {R:Rw T S},Cf (d+1) a ds R->d+1<=a.loops.length->(∀b∈ds,d+1<=b.loops.length)->Cf d a ds (R++[(d,.fin)])
 |
  [],a,R,h,ha,hb=>by
  cases h
  have:(ends d (a.loops.length-d):Rw T S)=ends (d+1) (a.loops.length-(d+1))++[(d,.fin)]:=by
   rw[Ma d (d+1) a.loops.length (by omega) ha,show d+1-d=0+1 by omega]
   rfl
  rw[←this]
  exact .nil
 |
  b::ds,a,R,h,ha,hb=>by
  cases h with
  |
   @cons _ _ _ c R' h1 h2 h3=>
   have:=PL h3 (hb b AA) fun x hx=>hb x (B8 _ hx)
   have:=Cf.cons (d:=d) h1 (by omega) this
   rw[show ends c (a.loops.length-c)++C1 c (b.loops.drop c)++(b.loops.length,Rr.row b.txt)::R'++[(d,Rr.fin)]=ends c (a.loops.length-c)++C1 c (b.loops.drop c)++(b.loops.length,Rr.row b.txt)::(R'++[(d,Rr.fin)]) by simp]
   exact this
theorem LQ {d:Nat}:∀{ds:List (Dd T S)} {a:Dd T S} {R R2:Rw T S} {es:List (Dd T S)},Cf d a ds R->LinA d es R2->(∀x b,(a::ds).getLast?=some x->es.head?=some b->Sh x b d)->d<=a.loops.length->Cf d a (ds++es) (R++R2)
 |
  [],a,R,R2,es,h,h2,hs,hd=>by
  cases h
  cases h2 with
  |nil=>rw[Cq,Cq];exact .nil
  |
   @cons b es R' hb hl=>
   have sh:=hs a b rfl rfl
   have:=Cf.cons (d:=d) sh (Aj _) hl
   rw[BC]at this
   exact this
 |
  b::ds,a,R,R2,es,h,h2,hs,hd=>by
  cases h with
  |
   @cons _ _ _ c R' h1 h3 h4=>
   have:=LQ h4 h2 (fun x b' hx hb=>hs x b' (by rw[IT];exact hx) hb) (by have:=h1.2.1;omega)
   have:=Cf.cons (d:=d) h1 h3 this
   rw[BC]
   exact this
theorem JB {l m:List Int}{c n:Nat}(h:l.take n=m.take n)(hc:c<n):l.getD c 0=m.getD c 0:=by
 have:=congrArg (fun x:List Int=>x[c]?) h
 simp only[List.getElem?_take_of_lt hc]at this
 rw[CZ,CZ,this]
theorem Sh.one {a b:Dd T S}{c c':Nat}(h:Sh a b c)(h':Sh a b c'):c=c':=by
 rcases Nat.lt_trichotomy c c' with e|e|e
 .exact absurd (JB h'.2.2.2.1 e) h.2.2.2.2
 .exact e
 .exact absurd (JB h.2.2.2.1 e) h'.2.2.2.2
theorem Cf.one {d:Nat}:∀{ds:List (Dd T S)} {a:Dd T S} {R R':Rw T S},Cf d a ds R->Cf d a ds R'->R=R'
 |[],a,R,R',h,h'=>by cases h;cases h';rfl
 |
  b::ds,a,R,R',h,h'=>by
  cases h with
  |
   cons h1 h2 h3=>
   cases h' with
   |
    cons k1 k2 k3=>
    have e:=h1.one k1
    subst e
    rw[Cf.one h3 k3]
theorem LinA.one {d:Nat}{ds:List (Dd T S)}{R R':Rw T S}(h:LinA d ds R)(h':LinA d ds R'):R=R':=by
 cases h with
 |nil=>cases h';rfl
 |cons h1 h2=>cases h' with|cons k1 k2=>rw[h2.one k2]
set_option genInjectivity true in
inductive Fs where
 |nil:Fs
 |leaf (k:Nat) (rest:Fs):Fs
 |node (k:Nat) (sub rest:Fs):Fs
def CC (d:Nat):List (Dd T S)->Prop
 |[]=>True
 |[a]=>d<=a.loops.length
 |a::b::ds=>(∃c,d<=c/\Sh a b c)/\CC d (b::ds)
theorem CC.le {d:Nat}:∀{ds:List (Dd T S)},CC d ds->∀a∈ds,d<=a.loops.length
 |[],_,a,ha=>by cases ha
 |[b],h,a,ha=>by rw[D8.mp ha];exact h
 |
  b::e::ds,h,a,ha=>by
  obtain⟨⟨c,h1,h2⟩,h3⟩:=h
  rcases AG.mp ha with rfl|ha
  .have:=h2.1;omega
  .exact CC.le h3 a ha
theorem CC.right {d:Nat}:∀{ds es:List (Dd T S)},CC d (ds++es)->CC d es
 |[],es,h=>h
 |[a],[],h=>True.intro
 |[a],b::es,h=>h.2
 |a::b::ds,es,h=>CC.right (ds:=b::ds) h.2
theorem CC.left {d:Nat}:∀{ds es:List (Dd T S)},CC d (ds++es)->CC d ds
 |[],es,h=>True.intro
 |[a],[],h=>h
 |
  [a],b::es,h=>by
  obtain⟨c,h1,h2⟩:=h.1
  have:=h2.1
  show d<=a.loops.length
  omega
 |a::b::ds,es,h=>⟨h.1,CC.left (ds:=b::ds) h.2⟩
theorem CC.mid {d:Nat}:∀{ds es:List (Dd T S)} {x b:Dd T S},CC d (ds++es)->ds.getLast?=some x->es.head?=some b->∃c,d<=c/\Sh x b c
 |[],es,x,b,h,hx,hb=>by cases hx
 |[a],[],x,b,h,hx,hb=>by cases hb
 |[a],e::es,x,b,h,hx,hb=>by cases hx;cases hb;exact h.1
 |a::e::ds,es,x,b,h,hx,hb=>CC.mid (ds:=e::ds) h.2 (by rw[IT]at hx;exact hx) hb
theorem CC.up {d:Nat}{v:Int}:∀{ds:List (Dd T S)},CC d ds->(∀a∈ds,a.path.getD d 0=v)->(∀a,ds.head?=some a->d<a.loops.length)->CC (d+1) ds/\∀a b ds',ds=a::b::ds'->∃c,d+1<=c/\Sh a b c
 |[],h,hv,hl=>⟨True.intro,fun a b ds' e=>by cases e⟩
 |[a],h,hv,hl=>⟨hl a rfl,fun a b ds' e=>by cases e⟩
 |
  a::b::ds,h,hv,hl=>by
  obtain⟨⟨c,h1,h2⟩,h3⟩:=h
  have hc:d+1<=c:=by
   rcases Nf h1 with e|e
   .subst e
    exact absurd ((hv a AA).trans (hv b (B8 _ AA)).symm) h2.2.2.2.2
   .exact e
  have up:=CC.up (v:=v) h3 (fun x hx=>hv x (B8 _ hx)) (fun x hx=>by cases hx;have:=h2.2.1;omega)
  exact⟨⟨⟨c,hc,h2⟩,up.1⟩,fun a' b' ds' e=>by cases e;exact⟨c,hc,h2⟩⟩
def IsF (D:Nat->Option (Dd T S)):Fs->List Nat->Nat->Prop
 |.nil,ns,_=>ns=[]
 |.leaf k rest,ns,d=>∃ns' a,ns=k::ns'/\D k=some a/\a.loops.length=d/\IsF D rest ns' d
 |.node k sub rest,ns,d=>∃g ns' a,ns=k::g++ns'/\D k=some a/\d<a.loops.length/\(∀x∈g,∀b,D x=some b->b.path.getD d 0=a.path.getD d 0)/\(∀x b,ns'.head?=some x->D x=some b->b.path.getD d 0≠a.path.getD d 0)/\IsF D sub (k::g) (d+1)/\IsF D rest ns' d
inductive RowsF (D:Nat->Option (Dd T S)):Fs->Nat->Rw T S->Prop
 |nil {d:Nat}:RowsF D .nil d []
 |leaf {k d:Nat} {rest:Fs} {a:Dd T S} {R:Rw T S}:D k=some a->RowsF D rest d R->RowsF D (.leaf k rest) d ((d,.row a.txt)::R)
 |node {k d:Nat} {sub rest:Fs} {a:Dd T S} {t:T} {R R':Rw T S}:D k=some a->a.loops[d]?=some t->RowsF D sub (d+1) R->RowsF D rest d R'->RowsF D (.node k sub rest) d ((d,.opn t)::R++(d,.fin)::R')
inductive Got (D:Nat->Option (Dd T S)):List Nat->List (Dd T S)->Prop
 |nil:Got D [] []
 |cons {k:Nat} {a:Dd T S} {ns:List Nat} {ds:List (Dd T S)}:D k=some a->Got D ns ds->Got D (k::ns) (a::ds)
theorem Got.split {D:Nat->Option (Dd T S)}:∀{ns ms:List Nat} {ds:List (Dd T S)},Got D (ns++ms) ds->∃ds1 ds2,ds=ds1++ds2/\Got D ns ds1/\Got D ms ds2
 |[],ms,ds,h=>⟨[],ds,rfl,.nil,h⟩
 |
  k::ns,ms,ds,h=>by
  cases h with
  |
   cons h1 h2=>
   obtain⟨ds1,ds2,rfl,h3,h4⟩:=Got.split h2
   exact⟨_::ds1,ds2,rfl,.cons h1 h3,h4⟩
theorem Got.mem {D:Nat->Option (Dd T S)}{ns:List Nat}{ds:List (Dd T S)}(h:Got D ns ds):∀a∈ds,∃k∈ns,D k=some a:=by
 induction h with
 |nil=>intro a ha;cases ha
 |
  cons h1 h2 ih=>
  intro a ha
  rcases AG.mp ha with rfl|ha
  .exact⟨_,AA,h1⟩
  .obtain⟨k,hk,h⟩:=ih a ha
   exact⟨k,B8 _ hk,h⟩
theorem Got.head {D:Nat->Option (Dd T S)}{ns:List Nat}{ds:List (Dd T S)}{b:Dd T S}(h:Got D ns ds)(hb:ds.head?=some b):∃k,ns.head?=some k/\D k=some b:=by
 cases h with
 |nil=>cases hb
 |cons h1 h2=>cases hb;exact⟨_,rfl,h1⟩
theorem Sh.at {x b:Dd T S}{c d:Nat}(h:Sh x b c)(hd:d<=c)(hn:x.path.getD d 0≠b.path.getD d 0):Sh x b d:=by
 rcases Nf hd with e|e
 .rw[e];exact h
 .exact absurd (JB h.2.2.2.1 e) hn
theorem rows_lin {D:Nat->Option (Dd T S)}:∀{f:Fs} {ns:List Nat} {d:Nat} {ds:List (Dd T S)} {R:Rw T S},IsF D f ns d->Got D ns ds->CC d ds->RowsF D f d R->LinA d ds R
 |
  .nil,ns,d,ds,R,h,hg,hc,hr=>by
  have h:ns=[]:=h
  subst h
  cases hg;cases hr
  exact .nil
 |
  .leaf k rest,ns,d,ds,R,h,hg,hc,hr=>by
  obtain⟨ns',a,rfl,ha,hl,hi⟩:=h
  cases hg with
  |
   @cons _ a' _ ds' g1 g2=>
   rw[ha]at g1
   cases g1
   cases hr with
   |
    @leaf _ _ _ a'' R' r1 r2=>
    rw[ha]at r1
    cases r1
    have ih:=rows_lin hi g2 (CC.right (ds:=[a]) hc) r2
    have e:(C1 d (a.loops.drop d):Rw T S)=[]:=by rw[IQ (by omega)];rfl
    have e2:(ends d (a.loops.length-d):Rw T S)=[]:=by rw[hl,CO];rfl
    have l1:Cf d a [] ([]:Rw T S):=by rw[←e2];exact .nil
    have l2:=LQ l1 ih (fun x b hx hb=>by
     have hx:a=x:=BX hx
     subst hx
     obtain⟨c,c1,c2⟩:=CC.mid (ds:=[a]) (x:=a) hc rfl hb
     have:c=d:=by have:=c2.1;omega
     subst this
     exact c2) (by omega)
    have:=LinA.cons (d:=d) (a:=a) (by omega) l2
    rw[e,hl]at this
    exact this
 |
  .node k sub rest,ns,d,ds,R,h,hg,hc,hr=>by
  obtain⟨g,ns',a,rfl,ha,hl,hsame,hdiff,hi1,hi2⟩:=h
  obtain⟨ds1,ds2,rfl,g1,g2⟩:=Got.split (ns:=k::g) hg
  cases g1 with
  |
   @cons _ a' _ gs g3 g4=>
   rw[ha]at g3
   cases g3
   cases hr with
   |
    @node _ _ _ _ a'' t Rs Rr' r1 r2 r3 r4=>
    rw[ha]at r1
    cases r1
    have hv:∀x∈a::gs,x.path.getD d 0=a.path.getD d 0:=fun x hx=>by
     rcases AG.mp hx with rfl|hx
     .rfl
     .obtain⟨k',hk',e⟩:=g4.mem x hx
      exact hsame k' hk' x e
    have up:=(CC.up (CC.left hc) hv (fun x hx=>by cases hx;exact hl)).1
    have ih1:=rows_lin hi1 (.cons ha g4) up r3
    have ih2:=rows_lin hi2 g2 (CC.right hc) r4
    cases ih1 with
    |
     @cons _ _ R1 q1 q2=>
     have l1:=PL q2 q1 fun x hx=>CC.le up x (B8 _ hx)
     have l2:=LQ l1 ih2 (fun x b hx hb=>by
      obtain⟨c,c1,c2⟩:=CC.mid hc hx hb
      obtain⟨kb,hkb,eb⟩:=g2.head hb
      have hx':x∈a::gs:=Qt hx
      exact c2.at c1 (by rw[hv x hx'];exact(hdiff kb b hkb eb).symm)) (by omega)
     have:=LinA.cons (d:=d) (a:=a) (by omega) l2
     have e:(C1 d (a.loops.drop d):Rw T S)=(d,.opn t)::C1 (d+1) (a.loops.drop (d+1)):=by
      obtain⟨hh,rfl⟩:=BE.mp r2
      rw[F7 hh]
      rfl
     rw[e]at this
     simpa using this
inductive DJ:Dd T S->List (Dd T S)->Rw T S->Prop
 |nil {a:Dd T S}:DJ a [] []
 |cons {a b:Dd T S} {ds:List (Dd T S)} {c:Nat} {R:Rw T S}:Sh a b c->DJ b ds R->DJ a (b::ds) (ends c (a.loops.length-c)++C1 c (b.loops.drop c)++(b.loops.length,.row b.txt)::R)
theorem DJ.snoc:∀{ds:List (Dd T S)} {a x b:Dd T S} {c:Nat} {R:Rw T S},DJ a ds R->(a::ds).getLast?=some x->Sh x b c->DJ a (ds++[b]) (R++(ends c (x.loops.length-c)++C1 c (b.loops.drop c)++[(b.loops.length,.row b.txt)]))
 |
  [],a,x,b,c,R,h,hx,hs=>by
  cases h
  cases hx
  exact .cons hs .nil
 |
  e::ds,a,x,b,c,R,h,hx,hs=>by
  cases h with
  |
   @cons _ _ _ c' R' h1 h2=>
   have:=DJ.cons h1 (DJ.snoc h2 (by rw[IT]at hx;exact hx) hs)
   simpa using this
theorem DJ.lin:∀{ds:List (Dd T S)} {a x:Dd T S} {R:Rw T S},DJ a ds R->(a::ds).getLast?=some x->Cf 0 a ds (R++ends 0 x.loops.length)
 |
  [],a,x,R,h,hx=>by
  cases h
  cases hx
  exact .nil
 |
  e::ds,a,x,R,h,hx=>by
  cases h with
  |
   @cons _ _ _ c' R' h1 h2=>
   have:=Cf.cons (d:=0) h1 (Bw _) (DJ.lin h2 (by rw[IT]at hx;exact hx))
   simpa using this
theorem DJ.cc:∀{ds:List (Dd T S)} {a:Dd T S} {R:Rw T S},DJ a ds R->CC 0 (a::ds)
 |[],a,R,h=>Bw _
 |
  e::ds,a,R,h=>by
  cases h with
  |cons h1 h2=>exact⟨⟨_,Bw _,h1⟩,DJ.cc h2⟩
structure Dft (opened:List T)(path:List Int)(rows:Rw T S)(ds:List (Dd T S)):Prop where
 pl:path.length=opened.length+1
 st:(ds=[]/\rows=C1 0 opened/\∀e,path.getD e 0=0)\/∃a ds' R x c,ds=a::ds'/\DJ a ds' R/\ds.getLast?=some x/\c<=opened.length/\c<=x.loops.length/\x.loops.take c=opened.take c/\x.path.take c=path.take c/\x.path.getD c 0<path.getD c 0/\(∀e,c<e->path.getD e 0=0)/\rows=C1 0 a.loops++(a.loops.length,.row a.txt)::R++ends c (x.loops.length-c)++C1 c (opened.drop c)
theorem Lf:∀(d:Nat) (ts:List T) (t:T),(C1 d (ts++[t]):Rw T S)=C1 d ts++[(d+ts.length,.opn t)]
 |d,[],t=>by simp[C1]
 |
  d,u::ts,t=>by
  show(d,Rr.opn u)::C1 (d+1) (ts++[t])=(d,Rr.opn u)::(C1 (d+1) ts++[(d+(ts.length+1),.opn t)])
  rw[Lf,show d+1+ts.length=d+(ts.length+1) by omega]
theorem T5 {l m:List Int}{e:Nat}(h:e<l.length):(l++m).getD e 0=l.getD e 0:=by
 rw[CZ,CZ,DM h]
theorem Kv {l:List Int}{e:Nat}(h:l.length<=e):l.getD e 0=0:=by
 rw[CZ,Qi.mpr h];rfl
theorem M0 (l:List Int)(e:Nat):(l++[0]).getD e 0=l.getD e 0:=by
 by_cases c:e<l.length
 .exact T5 c
 .rw[Kv (l:=l) (by omega)]
  by_cases c2:e=l.length
  .subst c2
   rw[CZ,CJ (Aj _),CO];rfl
  .exact Kv (by rw[Ah];show l.length+1<=e;omega)
theorem Dft.start:Dft ([]:List T) [0] ([]:Rw T S) []:=⟨rfl,.inl ⟨rfl,rfl,fun e=>by cases e<;>rfl⟩⟩
theorem Dft.opn {opened:List T}{path:List Int}{rows:Rw T S}{ds:List (Dd T S)}(h:Dft opened path rows ds)(t:T):Dft (opened++[t]) (path++[0]) (rows++[(opened.length,.opn t)]) ds:=by
 obtain⟨pl,st⟩:=h
 refine⟨by rw[Ah,Ah,pl];rfl,?_⟩
 rcases st with⟨h1,h2,h3⟩|⟨a,ds',R,x,c,h1,h2,h3,h4,h5,h6,h7,h8,h9,h10⟩
 .refine .inl ⟨h1,?_,fun e=>by rw[M0];exact h3 e⟩
  rw[h2,Lf,Nc]
 .refine .inr ⟨a,ds',R,x,c,h1,h2,h3,by rw[Ah];omega,h5,by rw[Qu h4];exact h6,by rw[Qu (by omega)];exact h7,by rw[M0];exact h8,fun e he=>by rw[M0];exact h9 e he,?_⟩
  rw[h10,Y3 h4,Lf,C5,show c+(opened.length-c)=opened.length by omega]
  simp
theorem Dft.deed {opened:List T}{p:List Int}{y:Int}{rows:Rw T S}{ds:List (Dd T S)}(h:Dft opened (p++[y]) rows ds)(s:S):Dft opened (p++[y+1]) (rows++[(opened.length,.row s)]) (ds++[⟨opened,p++[y],s⟩]):=by
 obtain⟨pl,st⟩:=h
 have hp:p.length=opened.length:=by rw[Ah]at pl;simp at pl;exact pl
 have g:(p++[y]).getD opened.length 0=y:=by rw[←hp,CZ,CJ (Aj _),CO];rfl
 have g':(p++[y+1]).getD opened.length 0=y+1:=by rw[←hp,CZ,CJ (Aj _),CO];rfl
 have tk:(p++[y]).take opened.length=(p++[y+1]).take opened.length:=by rw[←hp,KR,KR]<;>rfl
 have out:∀e,opened.length<e->(p++[y+1]).getD e 0=0:=fun e he=>Kv (by rw[Ah,hp];exact he)
 have e0:(ends opened.length (opened.length-opened.length):Rw T S)=[]:=by rw[CO];rfl
 have e1:(C1 opened.length (opened.drop opened.length):Rw T S)=[]:=by rw[IU];rfl
 refine⟨by rw[Ah,hp];rfl,.inr ?_⟩
 rcases st with⟨h1,h2,h3⟩|⟨a,ds',R,x,c,h1,h2,h3,h4,h5,h6,h7,h8,h9,h10⟩
 .subst h1 h2
  refine⟨⟨opened,p++[y],s⟩,[],[],⟨opened,p++[y],s⟩,opened.length,rfl,.nil,rfl,Aj _,Aj _,rfl,tk,?_,out,?_⟩
  .show(p++[y]).getD opened.length 0<_
   rw[g,g'];omega
  .show _=C1 0 opened++[(opened.length,Rr.row s)]++ends opened.length (opened.length-opened.length)++_
   rw[e0,e1];simp
 .subst h1
  have sh:Sh x ⟨opened,p++[y],s⟩ c:=⟨h5,h4,h6,h7,by have:=h8;show x.path.getD c 0≠(p++[y]).getD c 0;omega⟩
  refine⟨a,ds'++[⟨opened,p++[y],s⟩],_,⟨opened,p++[y],s⟩,opened.length,rfl,h2.snoc h3 sh,?_,Aj _,Aj _,rfl,tk,?_,out,?_⟩
  .rw[Ng];rfl
  .show(p++[y]).getD opened.length 0<_
   rw[g,g'];omega
  .show _=C1 0 a.loops++(a.loops.length,Rr.row a.txt)::(R++(ends c (x.loops.length-c)++C1 c (opened.drop c)++[(opened.length,Rr.row s)]))++ends opened.length (opened.length-opened.length)++_
   rw[e0,e1,h10];simp
theorem Dft.fin {opened:List T}{t:T}{p:List Int}{y z:Int}{rows:Rw T S}{ds:List (Dd T S)}(h:Dft (opened++[t]) (p++[y,z]) rows ds)(hz:z≠0):Dft opened (p++[y+1]) (rows++[(opened.length,.fin)]) ds:=by
 obtain⟨pl,st⟩:=h
 have hp:p.length=opened.length:=by rw[Ah,Ah]at pl;simp at pl;omega
 have gz:(p++[y,z]).getD (opened.length+1) 0=z:=by rw[←hp,CZ,CJ (by omega),show p.length+1-p.length=1 by omega];rfl
 have gy:(p++[y,z]).getD opened.length 0=y:=by rw[←hp,CZ,CJ (Aj _),CO];rfl
 have g':(p++[y+1]).getD opened.length 0=y+1:=by rw[←hp,CZ,CJ (Aj _),CO];rfl
 have tk:(p++[y,z]).take opened.length=(p++[y+1]).take opened.length:=by rw[←hp,KR,KR]<;>rfl
 refine⟨by rw[Ah,hp];rfl,.inr ?_⟩
 rcases st with⟨h1,h2,h3⟩|⟨a,ds',R,x,c,h1,h2,h3,h4,h5,h6,h7,h8,h9,h10⟩
 .have:=h3 (opened.length+1);omega
 .have hc:c=opened.length+1:=by
   rw[Ah]at h4
   have h4:c<=opened.length+1:=h4
   rcases Nf h4 with e|e
   .exact e
   .have:=h9 (opened.length+1) (by omega);omega
  subst hc
  have xp:x.path.getD opened.length 0=y:=by rw[JB h7 (IK _)];exact gy
  refine⟨a,ds',R,x,opened.length,h1,h2,h3,Aj _,by omega,?_,?_,by rw[xp,g'];omega,fun e he=>Kv (by rw[Ah,hp];exact he),?_⟩
  .have:=congrArg (List.take opened.length) h6
   rw[Nh,Nh,IP (by omega),Qu (Aj _)]at this
   exact this
  .have:=congrArg (List.take opened.length) h7
   rw[Nh,Nh,IP (by omega),tk]at this
   exact this
  .rw[h10,Ma opened.length (opened.length+1) x.loops.length (by omega) h5,show opened.length+1-opened.length=0+1 by omega,IU,IQ (by rw[Ah];exact Aj _)]
   simp[C1,ends]
theorem Dft.all {opened:List T}{p:List Int}{y:Int}{rows:Rw T S}{ds:List (Dd T S)}(h:Dft opened (p++[y]) rows ds)(hy:y≠0):LinA 0 ds (rows++ends 0 opened.length)/\CC 0 ds/\ds≠[]:=by
 obtain⟨pl,st⟩:=h
 have hp:p.length=opened.length:=by rw[Ah]at pl;simp at pl;exact pl
 have g:(p++[y]).getD opened.length 0=y:=by rw[←hp,CZ,CJ (Aj _),CO];rfl
 rcases st with⟨h1,h2,h3⟩|⟨a,ds',R,x,c,h1,h2,h3,h4,h5,h6,h7,h8,h9,h10⟩
 .have:=h3 opened.length;omega
 .have hc:c=opened.length:=by
   rcases Nf h4 with e|e
   .exact e
   .have:=h9 opened.length e;omega
  subst hc
  subst h1
  refine⟨?_,h2.cc,by simp⟩
  have l1:=LinA.cons (d:=0) (Bw _) (h2.lin h3)
  have e:(ends 0 x.loops.length:Rw T S)=ends opened.length (x.loops.length-opened.length)++ends 0 opened.length:=by
   have:=Ma (T:=T) (S:=S) 0 opened.length x.loops.length (Bw _) h5
   simpa using this
  rw[h10,IU]
  rw[e]at l1
  simpa[C1] using l1
theorem M4:∀(d:Nat) (ts:List T),(C1 d ts:Rw T S).length=ts.length
 |_,[]=>rfl
 |d,t::ts=>by show(C1 (d+1) ts:Rw T S).length+1=ts.length+1;rw[M4]
theorem Lp (d:Nat):∀n,(ends d n:Rw T S).length=n
 |0=>rfl
 |n+1=>by show(ends d n:Rw T S).length+1=n+1;rw[Lp]
theorem Cf.len {d:Nat}:∀{ds:List (Dd T S)} {a:Dd T S} {R:Rw T S},Cf d a ds R->(∀x∈a::ds,x.loops.length<=3)->R.length<=7*ds.length+3
 |
  [],a,R,h,hl=>by
  cases h
  have:=hl a AA
  rw[Lp]
  simp
  omega
 |
  b::ds,a,R,h,hl=>by
  cases h with
  |
   @cons _ _ _ c R' h1 h2 h3=>
   have:=Cf.len h3 fun x hx=>hl x (B8 _ hx)
   have h4:=hl a AA
   have h5:=hl b (B8 _ AA)
   rw[Ah,Ah,Lp,M4,C5,AQ,AQ]
   omega
theorem LinA.len {d:Nat}{ds:List (Dd T S)}{R:Rw T S}(h:LinA d ds R)(hl:∀x∈ds,x.loops.length<=3):R.length<=7*ds.length:=by
 cases h with
 |nil=>simp
 |
  @cons a ds' R' h1 h2=>
  have:=h2.len hl
  have h4:=hl a AA
  rw[Ah,M4,C5,AQ,AQ]
  omega
def RowOk (Pt:T->Prop)(Ps:S->Prop)(p:Nat×Rr T S):Prop:=p.1<=3/\match p.2 with
 |.opn t=>Pt t
 |.row s=>Ps s
 |.fin=>True
theorem MF {Pt:T->Prop}{Ps:S->Prop}:∀(d:Nat) (ts:List T),(∀t∈ts,Pt t)->d+ts.length<=4->∀p∈(C1 d ts:Rw T S),RowOk Pt Ps p
 |_,[],_,_,p,hp=>by cases hp
 |
  d,t::ts,ht,hd,p,hp=>by
  rw[AQ]at hd
  rcases AG.mp hp with rfl|hp
  .exact⟨by show d<=3;omega,ht t AA⟩
  .exact MF (d+1) ts (fun x hx=>ht x (B8 _ hx)) (by omega) p hp
theorem Ms {Pt:T->Prop}{Ps:S->Prop}(d:Nat):∀n,d+n<=4->∀p∈(ends d n:Rw T S),RowOk Pt Ps p
 |0,_,p,hp=>by cases hp
 |
  n+1,hd,p,hp=>by
  rcases AG.mp hp with rfl|hp
  .exact⟨by show d+n<=3;omega,True.intro⟩
  .exact Ms d n (by omega) p hp
theorem Cf.ok {Pt:T->Prop}{Ps:S->Prop}{d:Nat}:∀{ds:List (Dd T S)} {a:Dd T S} {R:Rw T S},Cf d a ds R->d<=a.loops.length->(∀x∈a::ds,x.loops.length<=3/\(∀t∈x.loops,Pt t)/\Ps x.txt)->∀p∈R,RowOk Pt Ps p
 |
  [],a,R,h,hd,hl,p,hp=>by
  cases h
  have:=(hl a AA).1
  exact Ms d _ (by omega) p hp
 |
  b::ds,a,R,h,hd,hl,p,hp=>by
  cases h with
  |
   @cons _ _ _ c R' h1 h2 h3=>
   have h4:=(hl a AA).1
   obtain⟨h5,h6,h7⟩:=hl b (B8 _ AA)
   have k1:=h1.1
   have k2:=h1.2.1
   rcases Bl.mp hp with hp|hp
   .rcases Bl.mp hp with hp|hp
    .exact Ms c _ (by omega) p hp
    .exact MF c _ (fun t ht=>h6 t (FZ ht)) (by rw[C5];omega) p hp
   .rcases AG.mp hp with rfl|hp
    .exact⟨h5,h7⟩
    .exact Cf.ok h3 (by omega) (fun x hx=>hl x (B8 _ hx)) p hp
theorem LinA.ok {Pt:T->Prop}{Ps:S->Prop}{d:Nat}{ds:List (Dd T S)}{R:Rw T S}(h:LinA d ds R)(hl:∀x∈ds,x.loops.length<=3/\(∀t∈x.loops,Pt t)/\Ps x.txt):∀p∈R,RowOk Pt Ps p:=by
 cases h with
 |nil=>intro p hp;cases hp
 |
  @cons a ds' R' h1 h2=>
  intro p hp
  obtain⟨h5,h6,h7⟩:=hl a AA
  rcases Bl.mp hp with hp|hp
  .exact MF d _ (fun t ht=>h6 t (FZ ht)) (by rw[C5];omega) p hp
  .rcases AG.mp hp with rfl|hp
   .exact⟨h5,h7⟩
   .exact h2.ok h1 hl p hp
theorem rows_ex {D:Nat->Option (Dd T S)}:∀{f:Fs} {ns:List Nat} {d:Nat},IsF D f ns d->∃R,RowsF D f d R
 |.nil,ns,d,h=>⟨_,.nil⟩
 |
  .leaf k rest,ns,d,h=>by
  obtain⟨ns',a,rfl,ha,hl,hi⟩:=h
  obtain⟨R,hR⟩:=rows_ex hi
  exact⟨_,.leaf ha hR⟩
 |
  .node k sub rest,ns,d,h=>by
  obtain⟨g,ns',a,rfl,ha,hl,_,_,hi1,hi2⟩:=h
  obtain⟨R,hR⟩:=rows_ex hi1
  obtain⟨R',hR'⟩:=rows_ex hi2
  exact⟨_,.node ha (BB hl) hR hR'⟩
theorem Got.find {D:Nat->Option (Dd T S)}{ns:List Nat}{ds:List (Dd T S)}(h:Got D ns ds){k:Nat}(hk:k∈ns):∃a∈ds,D k=some a:=by
 induction h with
 |nil=>cases hk
 |
  cons h1 h2 ih=>
  rcases AG.mp hk with rfl|hk
  .exact⟨_,AA,h1⟩
  .obtain⟨a,ha,e⟩:=ih hk
   exact⟨a,B8 _ ha,e⟩
end Pw
namespace L2
open PySem PySem.Spec PyProof.Rows
def X1 (a b c d e f:TE):TE:=EI Str.empty a fun x=>EI x b fun y=>EI y c fun z=>EI z d fun u=>EI u e fun v=>EI v f fun w=>tC (.str w)
theorem Vy {X:Cx}{e1 e2 e3 e4 e5 e6:Expr}{a b c d e f:TE}{pos:Pos}(h1:PE X e1 a)(h2:PE X e2 b)(h3:PE X e3 c)(h4:PE X e4 d)(h5:PE X e5 e)(h6:PE X e6 f):PE X (.JoinedStr [e1,e2,e3,e4,e5,e6] pos) (X1 a b c d e f):=by
 intro pins s σ H Q I hq
 refine JoinedStr_many (F9 (Ao (h1 pins s σ H _ I hq) fun v s1 hx=>?_))
 obtain⟨x,H1,I1,r1,y,rfl,hy,q1⟩:=hx
 obtain⟨t1,rfl⟩:=(show ∃t,v=Value.str y t from r1)
 refine⟨hy,F9 (Ao (h2 pins s1 σ H1 _ I1 q1) fun v2 s2 hx2=>?_)⟩
 obtain⟨x2,H2,I2,r2,y2,rfl,hy2,q2⟩:=hx2
 obtain⟨t2,rfl⟩:=(show ∃t,v2=Value.str y2 t from r2)
 refine⟨hy2,F9 (Ao (h3 pins s2 σ H2 _ I2 q2) fun v3 s3 hx3=>?_)⟩
 obtain⟨x3,H3,I3,r3,y3,rfl,hy3,q3⟩:=hx3
 obtain⟨t3,rfl⟩:=(show ∃t,v3=Value.str y3 t from r3)
 refine⟨hy3,F9 (Ao (h4 pins s3 σ H3 _ I3 q3) fun v4 s4 hx4=>?_)⟩
 obtain⟨x4,H4,I4,r4,y4,rfl,hy4,q4⟩:=hx4
 obtain⟨t4,rfl⟩:=(show ∃t,v4=Value.str y4 t from r4)
 refine⟨hy4,F9 (Ao (h5 pins s4 σ H4 _ I4 q4) fun v5 s5 hx5=>?_)⟩
 obtain⟨x5,H5,I5,r5,y5,rfl,hy5,q5⟩:=hx5
 obtain⟨t5,rfl⟩:=(show ∃t,v5=Value.str y5 t from r5)
 refine⟨hy5,F9 (Ao (h6 pins s5 σ H5 _ I5 q5) fun v6 s6 hx6=>?_)⟩
 obtain⟨x6,H6,I6,r6,y6,rfl,hy6,q6⟩:=hx6
 obtain⟨t6,rfl⟩:=(show ∃t,v6=Value.str y6 t from r6)
 exact⟨hy6,joinParts_nil ⟨.str _,H6,I6.tok _,⟨_,rfl⟩,q6⟩ hy6⟩
structure Ak where
 nm:Str
 lo:Str×Int
 hi:Str×Int
def Ak.Ok (t:Ak):Prop:=t.nm.length<=20/\EA t.lo/\EA t.hi
structure Dw where
 loops:List Ak
 tbl:Str
 sp:List (Str×Int)
 tm:Tw
 path:List Int
def Dw.txt (D:Dw):Str:=Ba D.tbl D.sp++" = "++D.tm.wr
def Dw.dd (D:Dw):Pw.Dd Ak Str:=⟨D.loops,D.path,D.txt⟩
structure Dw.Ok (D:Dw):Prop where
 lp:∀t∈D.loops,t.Ok
 ll:D.loops.length<=3
 pl:D.path.length=D.loops.length+1
 c:Tw.Ok (.c D.tbl D.sp)
 t:D.tm.Ok
 s:D.tm.sz<=5
def Fe (t:Ak):Str:="for "++t.nm++" "++B5 t.lo++" "++B5 t.hi
def FL:Pw.Rr Ak Str->Str
 |.opn t=>Fe t
 |.row s=>s
 |.fin=>"end"
def Bg (p:Nat×Pw.Rr Ak Str):Str:=EW p.1++FL p.2
theorem Dw.txt_len {D:Dw}(h:D.Ok):D.txt.length<=1200:=by
 have h1:=Fg h.c.1 h.c.2.1 h.c.2.2
 have h2:=Tw.wr_len h.t
 have h3:=h.s
 have e:(" = ":Str).length=3:=by decide +kernel
 unfold Dw.txt
 rw[Ax,Ax]
 omega
theorem LX {t:Ak}(h:t.Ok):(Fe t).length<=200:=by
 obtain⟨h1,h2,h3⟩:=h
 have h2:=Eg h2
 have h3:=Eg h3
 have e:("for ":Str).length=4:=by decide +kernel
 have e2:(" ":Str).length=1:=by decide +kernel
 unfold Fe
 rw[Ax,Ax,Ax,Ax,Ax]
 omega
def E2 (H:Hp)(x:V)(t:Ak):Prop := ∃(p:Addr) (a b:V),x = .ref p/\H p=some (.tup [.str t.nm,a,b])/\Cm H a t.lo/\Cm H b t.hi
theorem E2.tk {H H':Hp}{x:V}{t:Ak}(k:TK H H')(h:E2 H x t):E2 H' x t:=by obtain⟨p,a,b,e,h,g1,g2⟩:=h;exact⟨p,a,b,e,k _ _ h,g1.tk k,g2.tk k⟩
def FP (H:Hp)(o:Addr)(ts:List Ak):Prop := ∃xs,H o=some (.lst xs)/\AH (E2 H) xs ts
theorem FP.over {H H':Hp}{o:Addr}{ts:List Ak}(e:A7 H H')(h:FP H o ts):FP H' o ts:=by obtain⟨xs,h,g⟩:=h;exact⟨xs,e _ _ h,g.mono fun _ _ z=>z.tk (A7.tk e)⟩
def K1 (H:Hp)(o:Addr)(x:V)(D:Dw):Prop := ∃(p ps pt:Addr) (sh:V),x = .ref p/\H p=some (.tup [.ref o,.str D.tbl,.ref ps,sh,.ref pt,.str D.txt])/\FP H o D.loops/\F1 H ps D.sp/\EG H D.tm sh/\H pt=some (.tup (D.path.map V.int))
def Fq (H:Hp)(x:V)(D:Dw):Prop := ∃o,K1 H o x D
theorem Fq.over {H H':Hp}{x:V}{D:Dw}(e:A7 H H')(h:Fq H x D):Fq H' x D:=by obtain⟨o,p,ps,pt,sh,r,h0,h1,h2,h3,h4⟩:=h;exact⟨o,p,ps,pt,sh,r,e _ _ h0,h1.over e,h2.tk (A7.tk e),h3.tk (A7.tk e),e _ _ h4⟩
def DQ (C:Addr)(c:Cs)(H:Hp)(x:V)(D:Dw):Prop := ∃(p dx nm lo hi ps pt:Addr) (ob:V) (ls hs:List V),x = .ref p/\H p=some (.ins C dx [("names",.ref nm),("lows",.ref lo),("highs",.ref hi),("table",.str D.tbl),("spots",.ref ps),("term",ob),("path",.ref pt)])/\H nm=some (.tup (D.loops.map fun t=>V.str t.nm))/\H lo=some (.tup ls)/\AH (fun v t=>Cm H v (Ak.lo t)) ls D.loops/\H hi=some (.tup hs)/\AH (fun v t=>Cm H v (Ak.hi t)) hs D.loops/\F1 H ps D.sp/\Br c H D.tm ob/\H pt=some (.tup (D.path.map V.int))
theorem DQ.over {C:Addr}{c:Cs}{H H':Hp}{x:V}{D:Dw}(e:A7 H H')(h:DQ C c H x D):DQ C c H' x D:=by
 obtain⟨p,dx,nm,lo,hi,ps,pt,ob,ls,hs,rfl,h0,h1,h2,h3,h4,h5,h6,h7,h8⟩:=h
 exact⟨p,dx,nm,lo,hi,ps,pt,ob,ls,hs,rfl,e _ _ h0,e _ _ h1,e _ _ h2,h3.mono fun _ _ z=>z.tk (A7.tk e),e _ _ h4,h5.mono fun _ _ z=>z.tk (A7.tk e),h6.tk (A7.tk e),h7.over e,e _ _ h8⟩
def FJ (C:Addr)(c:Cs)(H:Hp)(l:Addr)(Ds:List Dw):Prop := ∃xs,H l=some (.lst xs)/\AH (DQ C c H) xs Ds
theorem FJ.over {C:Addr}{c:Cs}{H H':Hp}{l:Addr}{Ds:List Dw}(e:A7 H H')(h:FJ C c H l Ds):FJ C c H' l Ds:=by obtain⟨xs,h,g⟩:=h;exact⟨xs,e _ _ h,g.mono fun _ _ z=>z.over e⟩
def Mn (Ds:List Dw):Prop:=(∀D∈Ds,D.Ok)/\Ds.length<=10/\Pw.CC 0 (Ds.map Dw.dd)
def getD (Ds:List Dw):Nat->Option (Pw.Dd Ak Str):=fun k=>Ds[k]?.map Dw.dd
def BW (Ds:List Dw)(d k:Nat):Int:=match Ds[k]? with
 |some D=>D.path.getD d 0
 |none=>0
inductive Cb (Ds:List Dw)(d:Nat):List Nat->List (List Nat)->Prop
 |nil:Cb Ds d [] []
 |cons {k:Nat} {g ns:List Nat} {G:List (List Nat)}:(∀x∈g,BW Ds d x=BW Ds d k)->(∀y,ns.head?=some y->BW Ds d y≠BW Ds d k)->Cb Ds d ns G->Cb Ds d (k::g++ns) ((k::g)::G)
def CU (g:List Nat):List V:=g.map fun k:Nat=>V.int (k:Int)
def Hr (H:Hp)(x:V)(g:List Nat):Prop := ∃l,x = .ref l/\H l=some (.lst (CU g))
theorem Hr.over {H H':Hp}{x:V}{g:List Nat}(e:A7 H H')(h:Hr H x g):Hr H' x g:=by obtain⟨l,r,h⟩:=h;exact⟨l,r,e _ _ h⟩
inductive GP (Ds:List Dw)(d:Nat):List Nat->List (List Nat)->Prop
 |nil:GP Ds d [] []
 |new {ns:List Nat} {G:List (List Nat)} {k:Nat}:GP Ds d ns G->(∀g h,G.getLast?=some g->g.head?=some h->BW Ds d h≠BW Ds d k)->GP Ds d (ns++[k]) (G++[[k]])
 |more {ns:List Nat} {G:List (List Nat)} {h k:Nat} {g:List Nat}:GP Ds d ns (G++[h::g])->BW Ds d h=BW Ds d k->GP Ds d (ns++[k]) (G++[h::g++[k]])
theorem Cb.snocG {Ds:List Dw}{d k:Nat}:∀{ns:List Nat} {G:List (List Nat)},Cb Ds d ns G->(∀g h,G.getLast?=some g->g.head?=some h->BW Ds d h≠BW Ds d k)->Cb Ds d (ns++[k]) (G++[[k]])
 |_,_,.nil,_=>.cons (g:=[]) (ns:=[]) (fun x hx=>by cases hx) (fun y hy=>by cases hy) .nil
 |
  _,_,.cons (k:=k0) (g:=g0) (ns:=ns') (G:=G') h1 h2 h3,hd=>by
  cases h3 with
  |
   nil=>
   have hk:=hd (k0::g0) k0 rfl rfl
   have:=Cb.cons (Ds:=Ds) (d:=d) (k:=k0) (g:=g0) (ns:=[k]++[]) (G:=[[k]]) h1 (fun y hy=>by cases hy;exact hk.symm) (.cons (g:=[]) (fun x hx=>by cases hx) (fun y hy=>by cases hy) .nil)
   simpa using this
  |
   @cons k1 g1 ns1 G1 a1 a2 a3=>
   have ih:=Cb.snocG (Cb.cons a1 a2 a3) (fun g h hg hh=>hd g h (by rw[IT];exact hg) hh)
   have:=Cb.cons (Ds:=Ds) (d:=d) (k:=k0) (g:=g0) h1 (ns:=k1::g1++ns1++[k]) (fun y hy=>h2 y (by simpa using hy)) ih
   simpa using this
theorem Cb.more {Ds:List Dw}{d k:Nat}:∀{G:List (List Nat)} {ns:List Nat} {h:Nat} {g:List Nat},Cb Ds d ns (G++[h::g])->BW Ds d h=BW Ds d k->Cb Ds d (ns++[k]) (G++[h::g++[k]])
 |
  [],_,h,g,i,e=>by
  cases i with
  |
   @cons _ _ ns' _ h1 h2 h3=>
   cases h3
   have:=Cb.cons (Ds:=Ds) (d:=d) (k:=h) (g:=g++[k]) (ns:=[]) (G:=[]) (fun x hx=>by
    rcases Bl.mp hx with hx|hx
    .exact h1 x hx
    .rw[D8.mp hx];exact e.symm) (fun y hy=>by cases hy) .nil
   simpa using this
 |
  g1::G,_,h,g,i,e=>by
  cases i with
  |
   @cons k1 g1' ns' _ h1 h2 h3=>
   have ih:=Cb.more (G:=G) h3 e
   have hne:ns'≠[]:=by
    intro z
    subst z
    have h3:Cb Ds d [] (G++[h::g]):=h3
    generalize hG:G++[h::g]=GG at h3
    generalize hn:([]:List Nat)=nn at h3
    cases h3 with
    |nil=>simp at hG
    |cons _ _ _=>simp at hn
   have:=Cb.cons (Ds:=Ds) (d:=d) (k:=k1) (g:=g1') (ns:=ns'++[k]) h1 (fun y hy=>h2 y (by
    cases ns' with
    |nil=>exact absurd rfl hne
    |cons a b=>exact hy)) ih
   simpa using this
theorem GP.isG {Ds:List Dw}{d:Nat}{ns:List Nat}{G:List (List Nat)}(h:GP Ds d ns G):Cb Ds d ns G:=by
 induction h with
 |nil=>exact .nil
 |new _ h ih=>exact ih.snocG h
 |more _ h ih=>exact ih.more h
def CG (H:Hp):Pw.Fs->List V->Prop
 |.nil,xs=>xs=[]
 |.leaf k rest,xs=>∃t xs',xs = .ref t::xs'/\H t=some (.tup [.int (k:Int),.non])/\CG H rest xs'
 |.node k sub rest,xs=>∃t l ys xs',xs = .ref t::xs'/\H t=some (.tup [.int (k:Int),.ref l])/\H l=some (.lst ys)/\CG H sub ys/\CG H rest xs'
theorem CG.over {H H':Hp}(e:A7 H H'):∀{f:Pw.Fs} {xs:List V},CG H f xs->CG H' f xs
 |.nil,xs,h=>h
 |.leaf k rest,xs,h=>by obtain⟨t,xs',r,h0,h1⟩:=h;exact⟨t,xs',r,e _ _ h0,CG.over e h1⟩
 |.node k sub rest,xs,h=>by obtain⟨t,l,ys,xs',r,h0,h1,h2,h3⟩:=h;exact⟨t,l,ys,xs',r,e _ _ h0,e _ _ h1,CG.over e h2,CG.over e h3⟩
def Fb:Pw.Fs->Pw.Fs->Pw.Fs
 |.nil,g=>g
 |.leaf k r,g=>.leaf k (Fb r g)
 |.node k s r,g=>.node k s (Fb r g)
theorem CG.app {H:Hp}:∀{f g:Pw.Fs} {xs ys:List V},CG H f xs->CG H g ys->CG H (Fb f g) (xs++ys)
 |.nil,g,xs,ys,h,h'=>by have h:xs=[]:=h;subst h;exact h'
 |
  .leaf k rest,g,xs,ys,h,h'=>by
  obtain⟨t,xs',rfl,h0,h1⟩:=h
  exact⟨t,xs'++ys,rfl,h0,CG.app h1 h'⟩
 |
  .node k sub rest,g,xs,ys,h,h'=>by
  obtain⟨t,l,zs,xs',rfl,h0,h1,h2,h3⟩:=h
  exact⟨t,l,zs,xs'++ys,rfl,h0,h1,h2,CG.app h3 h'⟩
def Cn:Pw.Fs->Nat
 |.nil=>0
 |.leaf _ r=>max 1 (Cn r)
 |.node _ s r=>max (Cn s+1) (Cn r)
theorem Jk {D:Nat->Option (Pw.Dd Ak Str)}{d:Nat}:∀{f g:Pw.Fs} {ns ms:List Nat},Pw.IsF D f ns d->Pw.IsF D g ms d->(∀x y a b,ns.getLast?=some x->ms.head?=some y->D x=some a->D y=some b->a.path.getD d 0≠b.path.getD d 0)->(∀x∈ns,∃a,D x=some a)->Pw.IsF D (Fb f g) (ns++ms) d
 |.nil,g,ns,ms,h,h',_,_=>by have h:ns=[]:=h;subst h;exact h'
 |
  .leaf k rest,g,ns,ms,h,h',hd,hm=>by
  obtain⟨ns',a,rfl,h0,h1,h2⟩:=h
  refine⟨ns'++ms,a,rfl,h0,h1,Jk h2 h' (fun x y a b hx=>?_) fun x hx=>hm x (B8 _ hx)⟩
  cases ns' with
  |nil=>cases hx
  |cons z zs=>exact hd x y a b (by rw[IT];exact hx)
 |
  .node k sub rest,g,ns,ms,h,h',hd,hm=>by
  obtain⟨g',ns',a,rfl,h0,h1,h2,h3,h4,h5⟩:=h
  refine⟨g',ns'++ms,a,by rw[BC],h0,h1,h2,?_,h4,Jk h5 h' (fun x y a b hx=>?_) fun x hx=>hm x (Cp _ hx)⟩
  .intro x b hx hb
   cases ns' with
   |cons z zs=>exact h3 x b hx hb
   |
    nil=>
    obtain⟨last,hl⟩:∃last,(k::g'++[]).getLast?=some last:=⟨_,List.getLast?_eq_some_getLast (by simp)⟩
    have hmem:last∈k::g':=by have:=Qt hl;simpa using this
    obtain⟨al,hal⟩:=hm last (by simpa using hmem)
    have h6:=hd last x al b hl hx hal hb
    have e:al.path.getD d 0=a.path.getD d 0:=by
     rcases AG.mp hmem with z|z
     .subst z;rw[h0]at hal;cases hal;rfl
     .exact h2 last z al hal
    rw[e]at h6
    exact h6.symm
  .cases ns' with
   |nil=>cases hx
   |cons z zs=>exact hd x y a b (by rw[Ng];rw[hx];rfl)
theorem Jt:∀f g:Pw.Fs,Cn (Fb f g)<=max (Cn f) (Cn g)
 |.nil,g=>Nat.le_max_right _ _
 |
  .leaf k r,g=>by
  have:=Jt r g
  show max 1 (Cn (Fb r g))<=max (max 1 (Cn r)) (Cn g)
  omega
 |
  .node k s r,g=>by
  have:=Jt r g
  show max (Cn s+1) (Cn (Fb r g))<=max (max (Cn s+1) (Cn r)) (Cn g)
  omega
def nw (H H':Hp):Hp:=fun b=>match H b with
 |none=>H' b
 |some _=>none
def Ft (H H':Hp)(it:Addr):Hp:=fun b=>if b=it then none else nw H H' b
theorem My {H H':Hp}{b:Addr}{o:HO}(h:nw H H' b=some o):H b=none/\H' b=some o:=by
 unfold nw at h
 cases e:H b with
 |none=>rw[e]at h;exact⟨rfl,h⟩
 |some _=>rw[e]at h;cases h
theorem Nv {H H':Hp}{b:Addr}{o:HO}(h:H b=none)(h':H' b=some o):nw H H' b=some o:=by
 unfold nw
 rw[h]
 exact h'
theorem Wi {H H':Hp}:A7 (nw H H') H':=fun b o h=>(My h).2
theorem Nr {H H':Hp}{it b:Addr}{o:HO}(h:Ft H H' it b=some o):b≠it/\H b=none/\H' b=some o:=by
 unfold Ft at h
 split at h
 .cases h
 .rename_i c;exact⟨c,My h⟩
theorem Iz {H H':Hp}{it b:Addr}{o:HO}(h:H b=none)(c:b≠it)(h':H' b=some o):Ft H H' it b=some o:=by
 unfold Ft
 rw[Ab c]
 exact Nv h h'
theorem LN {H H1 H2:Hp}{it:Addr}(k:∀b o,b≠it->H1 b=some o->H2 b=some o):A7 (Ft H H1 it) (Ft H H2 it):=fun b o h=>by
 obtain⟨c,h0,h1⟩:=Nr h
 exact Iz h0 c (k b o c h1)
theorem QS {H H':Hp}{it:Addr}:A7 (Ft H H' it) (nw H H'):=fun b o h=>by
 obtain⟨c,h0,h1⟩:=Nr h
 exact Nv h0 h1
theorem T3 {H H2 H3:Hp}{it:Addr}{o':HO}(e:A7 H H2)(hi:H2 it=some o'):A7 (nw H2 H3) (Ft H H3 it):=fun b o h=>by
 obtain⟨h0,h1⟩:=My h
 exact Iz (e.free h0) (AC hi h0).symm h1
def UQ (C:Addr)(c:Cs):Sp:=fun vs H Q _=>∃(x:V) (D:Dw) (e:Nat) (t:Ak),vs=[x,.int (e:Int)]/\DQ C c H x D/\D.Ok/\D.loops[e]?=some t/\Q (.str (Fe t)) H
def Sn (C:Addr)(c:Cs):Sp:=fun vs H Q _=>∃(x:V) (D:Dw),vs=[x]/\DQ C c H x D/\D.Ok/\∀H',A7 H H'->Q (.str D.txt) H'
def Qg (H:Hp)(gl:Addr)(G:List (List Nat)):Prop := ∃xs,H gl=some (.lst xs)/\AH (Hr H) xs G
def Mg (Ds:List Dw)(d:Nat)(ns:List Nat):Prop := ∀k∈ns,∃D,Ds[k]?=some D/\D.Ok/\d<=D.loops.length
def Xp (C:Addr)(c:Cs):Sp:=fun vs H Q _=>∃(dl nl:Addr) (d:Nat) (Ds:List Dw) (ns:List Nat),vs=[.ref dl,.ref nl,.int (d:Int)]/\FJ C c H dl Ds/\H nl=some (.lst (CU ns))/\Mg Ds d ns/\ns.length<=10/\∀(gl:Addr) (H':Hp) (G:List (List Nat)),A7 H H'->H gl=none->Qg H' gl G->Cb Ds d ns G->Q (.ref gl) H'
def O3 (C:Addr)(c:Cs)(n:Nat):Sp:=fun vs H Q _=>∃(dl nl:Addr) (d:Nat) (Ds:List Dw) (ns:List Nat) (ds:List (Pw.Dd Ak Str)),vs=[.ref dl,.ref nl,.int (d:Int)]/\FJ C c H dl Ds/\H nl=some (.lst (CU ns))/\Mg Ds d ns/\ns.length<=10/\Pw.Got (getD Ds) ns ds/\Pw.CC d ds/\d<=3/\4<=d+n/\∀(r:Addr) (H':Hp) (f:Pw.Fs) (xs:List V),A7 H H'->H r=none->H' r=some (.lst xs)->CG (nw H H') f xs->Pw.IsF (getD Ds) f ns d->Cn f<=n->xs.length<=ns.length->Q (.ref r) H'
def WW (C:Addr)(c:Cs):Sp:=fun vs H Q _=>∃(dl:Addr) (Ds:List Dw),vs=[.ref dl]/\FJ C c H dl Ds/\Mn Ds/\∀(r:Addr) (H':Hp) (f:Pw.Fs) (xs:List V),A7 H H'->H' r=some (.lst xs)->CG H' f xs->Pw.IsF (getD Ds) f (List.range Ds.length) 0->Cn f<=4->Q (.ref r) H'
def Q5 (C:Addr)(c:Cs)(n:Nat):Sp:=fun vs H Q _=>∃(dl il:Addr) (d:Nat) (Ds:List Dw) (f:Pw.Fs) (xs:List V) (R:Pw.Rw Ak Str),vs=[.ref dl,.ref il,.int (d:Int)]/\FJ C c H dl Ds/\(∀D∈Ds,D.Ok)/\H il=some (.lst xs)/\CG H f xs/\Cn f<n/\d+n<=10/\Pw.RowsF (getD Ds) f d R/\R.length<=100/\∀(r:Addr) (H':Hp),A7 H H'->H' r=some (.lst ((R.map Bg).map V.str))->Q (.ref r) H'
def HH (n:Int)(R:Pw.Rw Ak Str):Str:=Txt.join "\n" (("size "++nS n)::R.map Bg)
def T9 (CP C:Addr)(c:Cs)(H:Hp)(v:V)(n:Int)(Ds:List Dw):Prop := ∃(x dx dl:Addr),v = .ref x/\H x=some (.ins CP dx [("size",.int n),("deeds",.ref dl)])/\FJ C c H dl Ds
def UZ (CP C:Addr)(c:Cs):Sp:=fun vs H Q _=>∃(v:V) (n:Int) (Ds:List Dw),vs=[v]/\T9 CP C c H v n Ds/\Mn Ds/\0<=n/\n<=999999999999999999/\∀(H':Hp) (R:Pw.Rw Ak Str),A7 H H'->Pw.LinA 0 (Ds.map Dw.dd) R->Q (.str (HH n R)) H'
theorem Ge {Ds:List Dw}{k:Nat}{D:Dw}(h:Ds[k]?=some D):getD Ds k=some D.dd:=by unfold getD;rw[h];rfl
theorem Gx {Ds:List Dw}{k:Nat}{a:Pw.Dd Ak Str}(h:getD Ds k=some a):∃D,Ds[k]?=some D/\D.dd=a:=by
 unfold getD at h
 exact Option.map_eq_some_iff.mp h
theorem ER {Ds:List Dw}{d k:Nat}{D:Dw}(h:Ds[k]?=some D):BW Ds d k=D.path.getD d 0:=by unfold BW;rw[h]
theorem NB {Ds:List Dw}:Pw.Got (getD Ds) (List.range Ds.length) (Ds.map Dw.dd):=by
 have:∀(es fs:List Dw),fs++es=Ds->Pw.Got (getD Ds) (List.range' fs.length es.length) (es.map Dw.dd):=by
  intro es
  induction es with
  |nil=>intro fs e;exact .nil
  |
   cons D es ih=>
   intro fs e
   have h:=ih (fs++[D]) (by rw[BC];exact e)
   rw[Ah]at h
   refine .cons (Ge ?_) h
   rw[←e,CJ (Aj _),CO]
   rfl
 have:=this Ds [] rfl
 rw[List.range_eq_range']
 exact this
theorem O5 {Ds:List Dw}(h:∀D∈Ds,D.Ok):∀x∈Ds.map Dw.dd,x.loops.length<=3/\(∀t∈x.loops,Ak.Ok t)/\x.txt.length<=1200:=fun x hx=>by
 obtain⟨D,hD,rfl⟩:=CK.mp hx
 exact⟨(h D hD).ll,(h D hD).lp,Dw.txt_len (h D hD)⟩
theorem NI {p:Nat×Pw.Rr Ak Str}(h:Pw.RowOk Ak.Ok (fun s:Str=>s.length<=1200) p):(Bg p).length<=1300:=by
 obtain⟨h1,h2⟩:=h
 unfold Bg
 rw[Ax,KB]
 have:(FL p.2).length<=1200:=by
  cases hp:p.2 with
  |opn t=>rw[hp]at h2;have:=LX h2;show(Fe t).length<=1200;omega
  |row s=>rw[hp]at h2;exact h2
  |fin=>
   show("end":Str).length<=1200;have:("end":Str).length=3:=by decide +kernel
   omega
 omega
theorem OY {R:Pw.Rw Ak Str}{n:Int}(hn:0<=n/\n<=999999999999999999)(hl:R.length<=100)(h:∀p∈R,(Bg p).length<=1300):(((("size ":Str)++nS n)::R.map Bg).map (·.length)).sum+((("size ":Str)++nS n)::R.map Bg).length*("\n":Str).length<=200000:=by
 have h1:=PB (ys:=R.map Bg) (c:=1300) fun y hy=>by
  obtain⟨s,hs,rfl⟩:=CK.mp hy
  exact h s hs
 have e1:("size ":Str).length=5:=by decide +kernel
 have e2:("\n":Str).length=1:=by decide +kernel
 have e3:=FR (i:=n) (by omega) hn.2
 rw[BN,KS,AQ,An,e2,Ax]
 rw[An]at h1
 have:1300*R.length<=1300*100:=Nat.mul_le_mul_left _ hl
 omega
def wo2 (H:Hp)(a b:Addr):Hp:=fun x=>if x=a\/x=b then none else H x
theorem C0 {H:Hp}{a b:Addr}:A7 (wo2 H a b) H:=fun x o h=>by
 unfold wo2 at h
 split at h
 .cases h
 .exact h
theorem LG {H H':Hp}{a b:Addr}(e:A7 H H'):A7 (wo2 H a b) (wo2 H' a b):=fun x o h=>by
 unfold wo2 at h ⊢
 split at h
 .cases h
 .rename_i c;rw[Ab c];exact e x o h
theorem Me {H:Hp}{a b:Addr}{o:HO}:wo2 (upd H a o) a b=wo2 H a b:=by
 funext x
 unfold wo2
 by_cases c:x=a\/x=b
 .rw[Af c,Af c]
 .rw[Ab c,Ab c,A8 fun z=>c (.inl z)]
theorem KH {H:Hp}{a b:Addr}{o:HO}:wo2 (upd H b o) a b=wo2 H a b:=by
 funext x
 unfold wo2
 by_cases c:x=a\/x=b
 .rw[Af c,Af c]
 .rw[Ab c,Ab c,A8 fun z=>c (.inr z)]
theorem G9 {H:Hp}{a b x:Addr}{o:HO}(h:H x=some o)(h1:x≠a)(h2:x≠b):wo2 H a b x=some o:=by
 unfold wo2
 rw[Ab (fun z=>z.elim h1 h2)]
 exact h
def FM (H0 H:Hp)(gl:Addr)(xs:List V)(G:List (List Nat)):Prop:=(xs=[]/\G=[])\/∃(xs':List V) (l:Addr) (G':List (List Nat)) (h:Nat) (g:List Nat),xs=xs'++[.ref l]/\G=G'++[h::g]/\AH (Hr (wo2 H gl l)) xs' G'/\H l=some (.lst (CU (h::g)))/\l≠gl/\H0 l=none
theorem FM.len {H0 H:Hp}{gl:Addr}{xs:List V}{G:List (List Nat)}(h:FM H0 H gl xs G):xs.length=G.length:=by
 rcases h with⟨rfl,rfl⟩|⟨xs',l,G',h,g,rfl,rfl,ha,_⟩
 .rfl
 .rw[Ah,Ah,ha.1];rfl
theorem FM.all {H0 H:Hp}{gl:Addr}{xs:List V}{G:List (List Nat)}(h:FM H0 H gl xs G)(hg:H gl=some (.lst xs)):Qg H gl G:=by
 refine⟨xs,hg,?_⟩
 rcases h with⟨rfl,rfl⟩|⟨xs',l,G',h,g,rfl,rfl,ha,hl,_⟩
 .exact .nil
 .exact(ha.mono fun x g z=>z.over C0).snoc ⟨l,rfl,hl⟩
theorem FM.new {H0 H:Hp}{gl l:Addr}{xs:List V}{G:List (List Nat)}{k:Nat}(h:FM H0 H gl xs G)(hg:H gl=some (.lst xs))(hl:H l=none)(hl0:H0 l=none):FM H0 (upd (upd H l (.lst [V.int (k:Int)])) gl (.lst (xs++[.ref l]))) gl (xs++[.ref l]) (G++[[k]]):=by
 have nlg:l≠gl:=(AC hg hl).symm
 refine .inr ⟨xs,l,G,k,[],rfl,rfl,?_,by rw[A8 nlg];exact A6,nlg,hl0⟩
 have keep:∀{x:Addr} {g:List Nat},x≠gl->H x=some (.lst (CU g))->Hr (wo2 (upd (upd H l (.lst [V.int (k:Int)])) gl (.lst (xs++[.ref l]))) gl l) (.ref x) g:=fun{x g} hx h=>by
  have nx:=AC h hl
  exact⟨x,rfl,G9 (by rw[A8 hx,A8 nx];exact h) hx nx⟩
 rcases h with⟨rfl,rfl⟩|⟨xs',l',G',h,g,rfl,rfl,ha,hl',nl',_⟩
 .exact .nil
 .refine(ha.mono fun x g z=>?_).snoc (keep nl' hl')
  obtain⟨y,rfl,hy⟩:=z
  unfold wo2 at hy
  split at hy
  .cases hy
  .rename_i c
   exact keep (fun z=>c (.inl z)) hy
theorem Cb.mem {Ds:List Dw}{d:Nat}{ns:List Nat}{G:List (List Nat)}(h:Cb Ds d ns G):∀g∈G,∀x∈g,x∈ns:=by
 induction h with
 |nil=>intro g hg;cases hg
 |
  cons h1 h2 h3 ih=>
  intro g hg x hx
  rcases AG.mp hg with rfl|hg
  .exact FV _ hx
  .exact Cp _ (ih g hg x hx)
theorem Cb.glen {Ds:List Dw}{d:Nat}{ns:List Nat}{G:List (List Nat)}(h:Cb Ds d ns G):∀g∈G,g.length<=ns.length:=by
 induction h with
 |nil=>intro g hg;cases hg
 |
  cons h1 h2 h3 ih=>
  intro g hg
  rw[Ah]
  rcases AG.mp hg with rfl|hg
  .omega
  .have:=ih g hg;omega
theorem RX (z:Str)(l:List Str):Do (.str z) (l.map V.str)=decide (z∈l):=by
 unfold Do
 induction l with
 |nil=>rfl
 |
  cons y l ih=>
  rw[BN,IL,ih]
  have e:ET (.str y) (.str z)=decide (z=y):=by
   show(y==z)=_
   rw[En]
   simp only[E9,DX]
   exact⟨fun e=>e.symm,fun e=>e.symm⟩
  rw[e,En]
  simp
def Gq (H:Hp)(x:V)(p:Nat×Pw.Rr Ak Str):Prop := ∃t,x = .ref t/\H t=some (.tup [.int (p.1:Int),.str (FL p.2)])
theorem Gq.tk {H H':Hp}{x:V}{p:Nat×Pw.Rr Ak Str}(k:TK H H')(h:Gq H x p):Gq H' x p:=by obtain⟨t,e,h⟩:=h;exact⟨t,e,k _ _ h⟩
structure C3 (H0 H:Hp)(rl dl o pt:Addr)(la:V)(ts:List Ak)(path:List Int)(R:Pw.Rw Ak Str)(Ds:List Dw)(tl:Ak):Prop where
 same:A7 H0 H
 op:FP (wo2 H rl dl) o ts
 pa:wo2 H rl dl pt=some (.lst (path.map V.int))
 la:E2 H la tl
 rows:∃xs,H rl=some (.lst xs)/\AH (Gq H) xs R
 deeds:∃ys,H dl=some (.lst ys)/\AH (Fq (wo2 H rl dl)) ys Ds
 rne:rl≠dl
 h0r:H0 rl=none
 h0d:H0 dl=none
theorem C3.over {H0 H H':Hp}{rl dl o pt:Addr}{la:V}{ts:List Ak}{path:List Int}{R:Pw.Rw Ak Str}{Ds:List Dw}{tl:Ak}(h:C3 H0 H rl dl o pt la ts path R Ds tl)(e:A7 H H'):C3 H0 H' rl dl o pt la ts path R Ds tl:=by
 obtain⟨xs,hx,ax⟩:=h.rows
 obtain⟨ys,hy,ay⟩:=h.deeds
 exact⟨h.same.trans e,h.op.over (LG e),LG e _ _ h.pa,h.la.tk (A7.tk e),⟨xs,e _ _ hx,ax.mono fun _ _ z=>z.tk (A7.tk e)⟩,⟨ys,e _ _ hy,ay.mono fun _ _ z=>z.over (LG e)⟩,h.rne,h.h0r,h.h0d⟩
theorem C3.row {H0 H:Hp}{rl dl o pt:Addr}{la:V}{ts:List Ak}{path:List Int}{R:Pw.Rw Ak Str}{Ds:List Dw}{tl:Ak}(h:C3 H0 H rl dl o pt la ts path R Ds tl){t:Addr}{xs:List V}{p:Nat×Pw.Rr Ak Str}(hx:H rl=some (.lst xs))(ht:H t=some (.tup [.int (p.1:Int),.str (FL p.2)])):C3 H0 (upd H rl (.lst (xs++[.ref t]))) rl dl o pt la ts path (R++[p]) Ds tl:=by
 obtain⟨xs',hx',ax⟩:=h.rows
 obtain⟨ys,hy,ay⟩:=h.deeds
 rw[hx]at hx'
 cases hx'
 have tk:TK H (upd H rl (.lst (xs++[.ref t]))):=TK.upd hx
 exact⟨fun b o hb=>by rw[A8 (AC hb h.h0r)];exact h.same _ _ hb,by rw[Me];exact h.op,by rw[Me];exact h.pa,h.la.tk tk,⟨_,A6,(ax.mono fun _ _ z=>z.tk tk).snoc ⟨t,rfl,tk _ _ ht⟩⟩,⟨ys,by rw[A8 h.rne.symm];exact hy,by rw[Me];exact ay⟩,h.rne,h.h0r,h.h0d⟩
theorem C3.deed {H0 H:Hp}{rl dl o pt:Addr}{la:V}{ts:List Ak}{path:List Int}{R:Pw.Rw Ak Str}{Ds:List Dw}{tl:Ak}(h:C3 H0 H rl dl o pt la ts path R Ds tl){x:V}{ys:List V}{D:Dw}(hy:H dl=some (.lst ys))(hD:Fq (wo2 H rl dl) x D):C3 H0 (upd H dl (.lst (ys++[x]))) rl dl o pt la ts path R (Ds++[D]) tl:=by
 obtain⟨xs,hx,ax⟩:=h.rows
 obtain⟨ys',hy',ay⟩:=h.deeds
 rw[hy]at hy'
 cases hy'
 have tk:TK H (upd H dl (.lst (ys++[x]))):=TK.upd hy
 exact⟨fun b o hb=>by rw[A8 (AC hb h.h0d)];exact h.same _ _ hb,by rw[KH];exact h.op,by rw[KH];exact h.pa,h.la.tk tk,⟨xs,by rw[A8 h.rne];exact hx,ax.mono fun _ _ z=>z.tk tk⟩,⟨_,A6,by rw[KH];exact ay.snoc hD⟩,h.rne,h.h0r,h.h0d⟩
theorem C3.newO {H0 H:Hp}{rl dl o pt:Addr}{la:V}{ts:List Ak}{path:List Int}{R:Pw.Rw Ak Str}{Ds:List Dw}{tl:Ak}(h:C3 H0 H rl dl o pt la ts path R Ds tl){p:Addr}{vs:List V}{ts':List Ak}(hp:H p=none)(hv:AH (E2 H) vs ts'):C3 H0 (upd H p (.lst vs)) rl dl p pt la ts' path R Ds tl:=by
 have e:=Ac hp (.lst vs)
 have n:=h.over e
 obtain⟨xs,hx,_⟩:=h.rows
 obtain⟨ys,hy,_⟩:=h.deeds
 have n1:=(AC hx hp).symm
 have n2:=(AC hy hp).symm
 refine⟨n.same,⟨vs,G9 A6 n1 n2,hv.mono fun v t z=>?_⟩,n.pa,n.la,n.rows,n.deeds,n.rne,n.h0r,n.h0d⟩
 obtain⟨q,a,b,rfl,h0,⟨qa,rfl,ha⟩,⟨qb,rfl,hb⟩⟩:=z
 have g:∀{c:Addr} {zs:List V},H c=some (.tup zs)->wo2 (upd H p (.lst vs)) rl dl c=some (.tup zs):=fun{c zs} hc=>G9 (e _ _ hc) (Df hc hx (by intro z;cases z)) (Df hc hy (by intro z;cases z))
 exact⟨q,.ref qa,.ref qb,rfl,g h0,⟨qa,rfl,g ha⟩,⟨qb,rfl,g hb⟩⟩
theorem C3.newP {H0 H:Hp}{rl dl o pt:Addr}{la:V}{ts:List Ak}{path path':List Int}{R:Pw.Rw Ak Str}{Ds:List Dw}{tl:Ak}(h:C3 H0 H rl dl o pt la ts path R Ds tl){p:Addr}(hp:H p=none):C3 H0 (upd H p (.lst (path'.map V.int))) rl dl o p la ts path' R Ds tl:=by
 have n:=h.over (Ac hp (.lst (path'.map V.int)))
 obtain⟨xs,hx,_⟩:=h.rows
 obtain⟨ys,hy,_⟩:=h.deeds
 exact⟨n.same,n.op,G9 A6 (AC hx hp).symm (AC hy hp).symm,n.la,n.rows,n.deeds,n.rne,n.h0r,n.h0d⟩
theorem K1.wo2' {H:Hp}{rl dl o:Addr}{x:V}{D:Dw}{xs ys:List V}{ts:List Ak}(h:K1 H o x D)(hx:H rl=some (.lst xs))(hy:H dl=some (.lst ys))(op:FP (L2.wo2 H rl dl) o ts)(eL:D.loops=ts):Fq (L2.wo2 H rl dl) x D:=by
 obtain⟨p,ps,pt,sh,rfl,h0,_,h2,h3,h4⟩:=h
 have tk:TK H (L2.wo2 H rl dl):=fun b zs hb=>G9 hb (Df hb hx (by intro z;cases z)) (Df hb hy (by intro z;cases z))
 exact⟨o,p,ps,pt,sh,rfl,tk _ _ h0,by rw[eL];exact op,h2.tk tk,h3.tk tk,tk _ _ h4⟩
theorem C3.start {H:Hp}{o pt rl dl q1 q2 la:Addr}(h1:H o=none)(h2:(upd H o (.lst [])) pt=none)(h3:(upd (upd H o (.lst [])) pt (.lst [.int 0])) rl=none)
  (h4:(upd (upd (upd H o (.lst [])) pt (.lst [.int 0])) rl (.lst [])) dl=none)
  (h5:(upd (upd (upd (upd H o (.lst [])) pt (.lst [.int 0])) rl (.lst [])) dl (.lst [])) q1=none)
  (h6:(upd (upd (upd (upd (upd H o (.lst [])) pt (.lst [.int 0])) rl (.lst [])) dl (.lst [])) q1 (.tup [.str (Str.ofString ""),.int 0])) q2=none)
  (h7:(upd (upd (upd (upd (upd (upd H o (.lst [])) pt (.lst [.int 0])) rl (.lst [])) dl (.lst [])) q1 (.tup [.str (Str.ofString ""),.int 0])) q2 (.tup [.str (Str.ofString ""),.int 0])) la=none) :
  C3 H (upd (upd (upd (upd (upd (upd (upd H o (.lst [])) pt (.lst [.int 0])) rl (.lst [])) dl (.lst [])) q1 (.tup [.str (Str.ofString ""),.int 0])) q2 (.tup [.str (Str.ofString ""),.int 0])) la (.tup [.str (Str.ofString ""),.ref q1,.ref q2])) rl dl o pt (.ref la) [] [0] [] [] ⟨"",("",0),("",0)⟩:=by
 have s1:=Ac h1 (.lst [])
 have s2:=Ac h2 (.lst [.int 0])
 have s3:=Ac h3 (.lst [])
 have s4:=Ac h4 (.lst [])
 have s5:=Ac h5 (.tup [.str (Str.ofString ""),.int 0])
 have s6:=Ac h6 (.tup [.str (Str.ofString ""),.int 0])
 have s7:=Ac h7 (.tup [.str (Str.ofString ""),.ref q1,.ref q2])
 have a1:(upd H o (.lst [])) o=some (.lst []):=A6
 have b1:=s2 _ _ a1
 have b2:(upd (upd H o (.lst [])) pt (.lst [.int 0])) pt=some (.lst [.int 0]):=A6
 have c3:(upd (upd (upd H o (.lst [])) pt (.lst [.int 0])) rl (.lst [])) rl=some (.lst []):=A6
 have nOr:o≠rl:=AC b1 h3
 have nPr:pt≠rl:=AC b2 h3
 have nOd:o≠dl:=AC (s3 _ _ b1) h4
 have nPd:pt≠dl:=AC (s3 _ _ b2) h4
 have nrd:rl≠dl:=AC c3 h4
 have t:=((s4.trans s5).trans s6).trans s7
 have t5:=(s5.trans s6).trans s7
 refine⟨((s1.trans s2).trans s3).trans t,⟨[],G9 (t _ _ (s3 _ _ b1)) nOr nOd,.nil⟩,G9 (t _ _ (s3 _ _ b2)) nPr nPd,⟨la,.ref q1,.ref q2,rfl,A6,⟨q1,rfl,s7 _ _ (s6 _ _ A6)⟩,⟨q2,rfl,s7 _ _ A6⟩⟩,⟨[],t _ _ c3,.nil⟩,⟨[],t5 _ _ A6,.nil⟩,nrd,(s1.trans s2).free h3,((s1.trans s2).trans s3).free h4⟩
def Vv:Sp:=fun vs H Q _=>∃(rl:Addr) (n:Int) (xs:List V) (R:Pw.Rw Ak Str),vs=[.ref rl,.int n]/\H rl=some (.lst xs)/\AH (Gq H) xs R/\R.length<=100/\(∀p∈R,Pw.RowOk Ak.Ok (fun s:Str=>s.length<=1200) p)/\0<=n/\n<=999999999999999999/\∀H',A7 H H'->Q (.str (HH n R)) H'
section
variable {X:Cx}
def Xn:V->V->Hp->VK->Prop:=fun o i H Q=>∃p xs v,o = .ref p/\i = .int (-1)/\H p=some (.lst (xs++[v]))/\Q v H
theorem NK:Px X Xn:=by
 intro pins s σ H o i ov iv Q I ro ri h
 obtain⟨p,xs,z,rfl,rfl,hp,q⟩:=h
 cases ro
 obtain⟨t,rfl⟩:=ri
 obtain⟨its,r,pl,hz⟩:=I.list (A3.of hp)
 obtain⟨j,h1,h2,h3,h4,h5⟩:=JV (La xs z)
 obtain⟨w,ew,rw'⟩:=r.get h2
 have hl:=r.length
 have hn:=FU
 have fin:EP X pins σ Q w s:=⟨z,H,I,rw',q⟩
 have hj:((-1:Int)+(its.toArray.size:Int)).toNat=j:=by
  rw[Nl (by omega) h4]at h1
  rw[By,←hl]
  exact BX h1
 exact wpAny_getItem_list_neg pl.isList (by omega) (by rw[By]<;>omega) (by omega) (by rw[hj];simpa using ew) fin
end
theorem Xz (n:Nat):E3 (n+1) (-1)=some n:=by
 unfold E3
 rw[Ab (by decide),Af (by omega)]
 congr 1
 omega
end L2
namespace Rd
open PySem L2
structure Dr where
 sz:Option Int
 dd:List Dw
 lp:List Ak
 pa:List Int
 la:Int
structure Da where
 d:Addr
 dx:Addr
 dl:Addr
 tl:Addr
 nl:Addr
 ll:Addr
 hl:Addr
 pl:Addr
def Da.own (A:Da)(b:Addr):Prop:=b=A.d\/b=A.dl\/b=A.tl\/b=A.nl\/b=A.ll\/b=A.hl\/b=A.pl
def szV:Option Int->V
 |none=>.non
 |some n=>.int n
def Da.fs (A:Da)(v:V):List (Str×V):=[("size",v),("deeds",.ref A.dl),("tables",.ref A.tl),("names",.ref A.nl),("lows",.ref A.ll),("highs",.ref A.hl),("path",.ref A.pl)]
def Ob:HO->Prop
 |.tup _=>True
 |.ins _ _ fs=>fs.lookup (Str.ofString "size")=none
 |_=>False
def Kp (H H':Hp):Prop := ∀b o,H b=some o->Ob o->H' b=some o
theorem Kp.trans {H H1 H2:Hp}(a:Kp H H1)(b:Kp H1 H2):Kp H H2:=fun c o h n=>b c o (a c o h n) n
theorem Kp.lst {H:Hp}{l:Addr}{xs ys:List V}(h:H l=some (.lst xs)):Kp H (upd H l (.lst ys)):=fun b o e n=>by
 rw[A8 (fun z=>by rw[z,h]at e;cases e;exact n)]
 exact e
theorem Kp.tk {H H':Hp}(e:Kp H H'):TK H H':=fun p xs h=>e _ _ h True.intro
theorem tb_kp {c:Cs}{H H':Hp}(e:Kp H H'):∀{t:Tw} {x:V},Br c H t x->Br c H' t x
 |.n i,x,h=>let ⟨t,dx,r,h⟩:=h;⟨t,dx,r,e _ _ h (by show List.lookup _ _=none;rfl)⟩
 |.v z,x,h=>let ⟨t,dx,r,h⟩:=h;⟨t,dx,r,e _ _ h (by show List.lookup _ _=none;rfl)⟩
 |.c z sp,x,h=>let ⟨t,dx,p,r,h,g⟩:=h;⟨t,dx,p,r,e _ _ h (by show List.lookup _ _=none;rfl),g.tk e.tk⟩
 |.j z l r,x,h=>let ⟨t,dx,a,b,r,h,g1,g2⟩:=h;⟨t,dx,a,b,r,e _ _ h (by show List.lookup _ _=none;rfl),tb_kp e g1,tb_kp e g2⟩
theorem PtAt.kp {c:Cs}{H H':Hp}(e:Kp H H'){v:V}{k:Tk}(h:PtAt c H v k):PtAt c H' v k:=by
 cases k with
 |s a=>exact h
 |t w=>exact tb_kp e h
theorem HJ {C:Addr}{c:Cs}{H H':Hp}{x:V}{D:Dw}(e:Kp H H')(h:DQ C c H x D):DQ C c H' x D:=by
 obtain⟨p,dx,nm,lo,hi,ps,pt,ob,ls,hs,rfl,h0,h1,h2,h3,h4,h5,h6,h7,h8⟩:=h
 exact⟨p,dx,nm,lo,hi,ps,pt,ob,ls,hs,rfl,e _ _ h0 (by show List.lookup _ _=none;rfl),e _ _ h1 True.intro,e _ _ h2 True.intro,h3.mono fun _ _ z=>z.tk e.tk,e _ _ h4 True.intro,h5.mono fun _ _ z=>z.tk e.tk,h6.tk e.tk,tb_kp e h7,e _ _ h8 True.intro⟩
def tbK (tb:List (Str×Nat)):List (Be×V):=tb.map fun p=>(.inr p.1,.int (p.2:Int))
structure DrAt (CD C:Addr)(c:Cs)(f:Str->Nat)(H:Hp)(A:Da)(D:Dr):Prop where
 o:H A.d=some (.ins CD A.dx (A.fs (szV D.sz)))
 dd:∃xs,H A.dl=some (.lst xs)/\AH (DQ C c H) xs D.dd
 tb:∃tb,H A.tl=some (.dK (tbK tb))/\(∀p∈tb,p.2=f p.1)/\tb.length<=2000*D.dd.length
 nm:H A.nl=some (.lst (D.lp.map fun t=>V.str t.nm))
 lo:∃xs,H A.ll=some (.lst xs)/\AH (fun v t=>Cm H v (Ak.lo t)) xs D.lp
 hi:∃xs,H A.hl=some (.lst xs)/\AH (fun v t=>Cm H v (Ak.hi t)) xs D.lp
 pa:H A.pl=some (.lst ((D.pa++[D.la]).map V.int))
 nd:[A.dl,A.nl,A.ll,A.hl,A.pl].Nodup
 pl:D.pa.length=D.lp.length
def Out (A:Da)(H H':Hp):Prop := ∀b o,H b=some o->¬A.own b->H' b=some o
theorem Out.of {A:Da}{H H':Hp}(e:A7 H H'):Out A H H':=fun b o h _=>e b o h
theorem Out.trans {A:Da}{H H1 H2:Hp}(a:Out A H H1)(b:Out A H1 H2):Out A H H2:=fun c o h n=>b c o (a c o h n) n
theorem Out.put {A:Da}{H:Hp}{l:Addr}{u:HO}(h:A.own l):Out A H (upd H l u):=fun b o e n=>by
 rw[A8 (show b≠l from fun z=>n (by rw[z];exact h))]
 exact e
theorem DrAt.over {CD C:Addr}{c:Cs}{f:Str->Nat}{H H':Hp}{A:Da}{D:Dr}(e:A7 H H')(h:DrAt CD C c f H A D):DrAt CD C c f H' A D:=by
 obtain⟨xs,d1,d2⟩:=h.dd
 obtain⟨tb,t1,t2⟩:=h.tb
 obtain⟨ls,l1,l2⟩:=h.lo
 obtain⟨hs,h1,h2⟩:=h.hi
 exact⟨e _ _ h.o,⟨xs,e _ _ d1,d2.mono fun _ _ z=>z.over e⟩,⟨tb,e _ _ t1,t2⟩,e _ _ h.nm,⟨ls,e _ _ l1,l2.mono fun _ _ z=>z.tk (A7.tk e)⟩,⟨hs,e _ _ h1,h2.mono fun _ _ z=>z.tk (A7.tk e)⟩,e _ _ h.pa,h.nd,h.pl⟩
theorem DrAt.not_own {CD C:Addr}{c:Cs}{f:Str->Nat}{H:Hp}{A:Da}{D:Dr}(h:DrAt CD C c f H A D){b:Addr}{o:HO}(e:H b=some o)(ob:Ob o):¬A.own b:=by
 obtain⟨xs,d1,d2⟩:=h.dd
 obtain⟨tb,t1,t2⟩:=h.tb
 obtain⟨ls,l1,l2⟩:=h.lo
 obtain⟨hs,h1,h2⟩:=h.hi
 have key:∀{a:Addr} {u:HO},H a=some u->¬Ob u->b≠a:=fun{a u} ea nu z=>by
  rw[z,ea]at e
  exact nu (BX e▸ob)
 rintro (z|z|z|z|z|z|z)
 .exact key h.o (fun z=>by have z:List.lookup _ _=none:=z;exact absurd z (by show ¬some _=none;exact fun y=>nomatch y)) z
 .exact key d1 (fun z=>z) z
 .exact key t1 (fun z=>z) z
 .exact key h.nm (fun z=>z) z
 .exact key l1 (fun z=>z) z
 .exact key h1 (fun z=>z) z
 .exact key h.pa (fun z=>z) z
theorem DrAt.kp {CD C:Addr}{c:Cs}{f:Str->Nat}{H H':Hp}{A:Da}{D:Dr}(h:DrAt CD C c f H A D)(e:Out A H H'):Kp H H':=fun b o hb ob=>e b o hb (h.not_own hb ob)
def DrAt.drn {CD C:Addr}{c:Cs}{f:Str->Nat}{H:Hp}{A:Da}{D:Dr}(h:DrAt CD C c f H A D):M5 CD H A.d (D.lp.map (·.nm)):=⟨A.dx,_,A.nl,h.o,rfl,by rw[IV];exact h.nm⟩
def D0:Dr:=⟨none,[],[],[],0⟩
def spDrI (CD C:Addr)(c:Cs):Sp:=fun vs H Q _=>∃(x dx:Addr),vs=[.ref x]/\H x=some (.ins CD dx [])/\∀(H':Hp) (A:Da),A.d=x->(∀b o,H b=some o->b≠x->H' b=some o)->(∀b,A.own b->b≠x->H b=none)->(∀f,DrAt CD C c f H' A D0)->Q .non H'
def Ml (nm:List Str):Tk->Prop
 |.t (.v z)=>z∈nm
 |.t (.c _ sp)=>sp.all (knw nm)=true
 |_=>True
def spNamesK (CD:Addr)(c:Cs):Sp:=fun vs H Q _=>∃(d l:Addr) (nm:List Str) (xs:List V) (ks:List Tk),vs=[.ref d,.ref l]/\M5 CD H d nm/\H l=some (.lst xs)/\AH (PtAt c H) xs ks/\(∀k∈ks,k.Ok)/\(∀k∈ks,Ml nm k)/\∀H',A7 H H'->Q (.bl true) H'
def LB (f:Str->Nat):Tk->Prop
 |.t (.c z sp)=>f z=sp.length
 |_=>True
def spTabs (CD:Addr)(c:Cs):Sp:=fun vs H Q _=>∃(d l dx t:Addr) (fs:List (Str×V)) (xs:List V) (ks:List Tk) (f:Str->Nat) (tb:List (Str×Nat)),vs=[.ref d,.ref l]/\H d=some (.ins CD dx fs)/\fs.lookup (Str.ofString "tables")=some (.ref t)/\H t=some (.dK (tbK tb))/\(∀p∈tb,p.2=f p.1)/\tb.length+ks.length<=100000/\H l=some (.lst xs)/\AH (PtAt c H) xs ks/\(∀k∈ks,k.Ok)/\(∀k∈ks,LB f k)/\
 ∀(H':Hp) (tb':List (Str×Nat)),(∀b o,H b=some o->b≠t->H' b=some o)->H' t=some (.dK (tbK tb'))->(∀p∈tb',p.2=f p.1)->tb'.length<=tb.length+ks.length->Q (.bl true) H'
theorem tb_val {tb:List (Str×Nat)}{f:Str->Nat}(h:∀p∈tb,p.2=f p.1){z:Str}{v:V}(e:D1 (tbK tb) (.inr z)=some v):v = .int (f z:Int):=by
 unfold D1 tbK at e
 cases hf:(tb.map fun p=>((.inr p.1:Be),V.int (p.2:Int))).find? (fun kv=>decide (kv.1=(.inr z:Be))) with
 |none=>rw[hf]at e;cases e
 |
  some q=>
  rw[hf]at e
  obtain⟨p,hp,e2⟩:=CK.mp (List.mem_of_find?_eq_some hf)
  have e3:q.1=(.inr z:Be):=by have:=List.find?_some hf;exact L5 this
  subst e2
  have e4:p.1=z:=Sum.inr.inj e3
  have e5:V.int (p.2:Int)=v:=BX e
  rw[←e5,h p hp,e4]
theorem tb_put {tb:List (Str×Nat)}{f:Str->Nat}(h:∀p∈tb,p.2=f p.1){z:Str}(e:D1 (tbK tb) (.inr z)=none):∃tb',Fi (tbK tb) (.inr z) (.int (f z:Int))=tbK tb'/\(∀p∈tb',p.2=f p.1)/\tb'.length=tb.length+1:=by
 refine⟨tb++[(z,f z)],?_,fun p hp=>?_,by rw[Ah];rfl⟩
 .have hn:(tbK tb).find? (fun kv=>decide (kv.1=(.inr z:Be)))=none:=by
   unfold D1 at e
   cases hf:(tbK tb).find? (fun kv=>decide (kv.1=(.inr z:Be))) with
   |none=>rfl
   |some q=>rw[hf]at e;cases e
  have hany:(tbK tb).any (fun kv=>decide (kv.1=(.inr z:Be)))=false:=by
   rw[List.any_eq_false]
   exact List.find?_eq_none.mp hn
  unfold Fi
  rw[hany]
  unfold tbK
  rw[AZ]
  rfl
 .rcases Bl.mp hp with hp|hp
  .exact h p hp
  .rw[D8.mp hp]
theorem flat_strs (nm:List Str):(nm.map V.str).all ED=true:=by
 rw[FY]
 intro x hx
 obtain⟨z,_,rfl⟩:=CK.mp hx
 rfl
theorem in_strs (nm:List Str)(z:Str):Do (.str z) (nm.map V.str)=decide (z∈nm):=by
 induction nm with
 |nil=>rfl
 |
  cons a l ih=>
  have e:Do (.str z) ((a::l).map V.str)=(decide (a=z)||Do (.str z) (l.map V.str)):=rfl
  rw[e,ih,←Bool.decide_or]
  exact QC.mpr (by rw[AG];exact⟨fun h=>h.elim (fun h=>.inl h.symm) .inr,fun h=>h.elim (fun h=>.inl h.symm) .inr⟩)
theorem put2 {H:Hp}{l x:Addr}{u v w:HO}(hl:H l=none)(hx:H x=some u):l≠x/\(upd (upd H l v) x w) l=some v/\∀b o,H b=some o->b≠x->(upd (upd H l v) x w) b=some o:=by
 have n:l≠x:=fun e=>by rw[e,hx]at hl;cases hl
 refine⟨n,by rw[A8 n];exact A6,fun b o e nb=>?_⟩
 rw[A8 nb,A8 (AC e hl)]
 exact e
def UU (D:Dr)(t:Ak):Dr:=⟨D.sz,D.dd,D.lp++[t],D.pa++[D.la],0⟩
def SY (D:Dr)(tb:Str)(sp:List (Str×Int))(t:Tw):Dr:=⟨D.sz,D.dd++[⟨D.lp,tb,sp,t,D.pa++[D.la]⟩],D.lp,D.pa,D.la+1⟩
theorem cel_no {z:Str}{sp:List (Str×Int)}(ok:(Tk.t (.c z sp)).Ok){c:Nat}(hc:¬(97<=c/\c<=122)/\¬(48<=c/\c<=57)/\c≠43/\c≠45/\c≠91/\c≠93:=by omega):c∉cds (Ba z sp):=by
 obtain⟨hz,hne,_,hsp⟩:=ok
 have key:∀{l:List (List Nat)},(∀a∈l,c∉a)->c∉inner l:=fun{l} hl=>by
  induction l with
  |nil=>intro z;cases z
  |
   cons a l ih=>
   cases l with
   |nil=>exact hl a AA
   |
    cons b l=>
    intro z
    have z:c∈a++([93,91]++inner (b::l)):=z
    rcases Bl.mp z with z|z
    .exact hl a AA z
    .rcases Bl.mp z with z|z
     .simp only[AG,CL,or_false]at z
      omega
     .exact ih (fun x hx=>hl x (B8 _ hx)) z
 rw[cel_cds hne]
 intro z
 rcases Bl.mp z with z|z
 .exact name_no hz hc.1 z
 .rcases AG.mp z with z|z
  .omega
  .rcases Bl.mp z with z|z
   .refine key (fun a ha=>?_) z
    obtain⟨s,hs,rfl⟩:=CK.mp ha
    exact spot_free (hsp s hs) ⟨hc.1,hc.2.1,hc.2.2.1,hc.2.2.2.1⟩
   .have:=D8.mp z
    omega
theorem map_cds_inj:∀{a b:List Str},a.map cds=b.map cds->a=b
 |[],[],_=>rfl
 |[],_::_,h=>nomatch h
 |_::_,[],h=>nomatch h
 |
  x::a,y::b,h=>by
  rw[BN,BN]at h
  injection h with h1 h2
  rw[CN h1,map_cds_inj h2]
theorem VC (c:Nat)(l:List Nat):(stp c l).length<=l.length:=by
 unfold stp
 rw[KW]
 have h1:=(List.dropWhile_sublist (· == c) (l:=(l.dropWhile (· == c)).reverse)).length_le
 have h2:=(List.dropWhile_sublist (· == c) (l:=l)).length_le
 rw[KW]at h1
 omega
theorem bare_len (l:List Nat):(bare l).length<=l.length:=by
 unfold bare
 have h:=VC 32 (if 59∈l then Cr 59 l else l)
 split at h
 .unfold Cr at h ⊢
  rename_i hc
  rw[Af hc]
  rw[Bt]at h
  omega
 .rename_i hc
  rw[Ab hc]
  exact h
theorem set_last (xs:List V)(v w:V):(xs++[v]).set xs.length w=xs++[w]:=by
 rw[List.set_append_right _ _ (Aj _),CO]
 rfl
theorem ix_end (xs:List V)(v:V):E3 (xs++[v]).length (-1)=some xs.length:=by
 rw[Ah]
 exact Xz _
section
variable {CD C:Addr}{c:Cs}{f:Str->Nat}{H H':Hp}{A:Da}{D:Dr}
theorem DrAt.ne (h:DrAt CD C c f H A D):A.nl≠A.d/\A.ll≠A.d/\A.hl≠A.d/\A.pl≠A.d/\A.dl≠A.d/\A.tl≠A.d/\A.nl≠A.tl/\A.ll≠A.tl/\A.hl≠A.tl/\A.pl≠A.tl/\A.dl≠A.tl:=by
 obtain⟨xs,d1,d2⟩:=h.dd
 obtain⟨tb,t1,t2⟩:=h.tb
 obtain⟨ls,l1,l2⟩:=h.lo
 obtain⟨hs,h1,h2⟩:=h.hi
 exact⟨Df h.nm h.o (by intro z;cases z),Df l1 h.o (by intro z;cases z),Df h1 h.o (by intro z;cases z),Df h.pa h.o (by intro z;cases z),Df d1 h.o (by intro z;cases z),Df t1 h.o (by intro z;cases z),Df h.nm t1 (by intro z;cases z),Df l1 t1 (by intro z;cases z),Df h1 t1 (by intro z;cases z),Df h.pa t1 (by intro z;cases z),Df d1 t1 (by intro z;cases z)⟩
theorem DrAt.nds (h:DrAt CD C c f H A D):(A.dl≠A.nl/\A.dl≠A.ll/\A.dl≠A.hl/\A.dl≠A.pl)/\(A.nl≠A.ll/\A.nl≠A.hl/\A.nl≠A.pl)/\(A.ll≠A.hl/\A.ll≠A.pl)/\A.hl≠A.pl:=by
 have:=h.nd
 simp only[GB,AG,CL,or_false,not_or,List.nodup_nil,QB,and_true]at this
 exact this
theorem DrAt.size (h:DrAt CD C c f H A D)(n:Int):Out A H (upd H A.d (.ins CD A.dx (Ae "size" (.int n) (A.fs (szV D.sz)))))/\DrAt CD C c f (upd H A.d (.ins CD A.dx (Ae "size" (.int n) (A.fs (szV D.sz))))) A ⟨some n,D.dd,D.lp,D.pa,D.la⟩:=by
 have out:Out A H (upd H A.d (.ins CD A.dx (Ae "size" (.int n) (A.fs (szV D.sz))))):=Out.put (.inl rfl)
 have kp:=h.kp out
 obtain⟨n1,n2,n3,n4,n5,n6,_⟩:=h.ne
 obtain⟨xs,d1,d2⟩:=h.dd
 obtain⟨tb,t1,t2⟩:=h.tb
 obtain⟨ls,l1,l2⟩:=h.lo
 obtain⟨hs,h1,h2⟩:=h.hi
 exact⟨out,A6,⟨xs,by rw[A8 n5];exact d1,d2.mono fun _ _ z=>HJ kp z⟩,⟨tb,by rw[A8 n6];exact t1,t2⟩,by rw[A8 n1];exact h.nm,⟨ls,by rw[A8 n2];exact l1,l2.mono fun _ _ z=>z.tk kp.tk⟩,⟨hs,by rw[A8 n3];exact h1,h2.mono fun _ _ z=>z.tk kp.tk⟩,by rw[A8 n4];exact h.pa,h.nd,h.pl⟩
def four (H:Hp)(A:Da)(a b c d:List V):Hp:=upd (upd (upd (upd H A.nl (.lst a)) A.ll (.lst b)) A.hl (.lst c)) A.pl (.lst d)
theorem DrAt.four (h:DrAt CD C c f H A D){lp:List Ak}{pa:List Int}{la:Int}{ls hs:List V}(hl:AH (fun v t=>Cm H v (Ak.lo t)) ls lp)(hh:AH (fun v t=>Cm H v (Ak.hi t)) hs lp)(pl:pa.length=lp.length) :
  Out A H (Rd.four H A (lp.map fun t=>V.str t.nm) ls hs ((pa++[la]).map V.int))/\DrAt CD C c f (Rd.four H A (lp.map fun t=>V.str t.nm) ls hs ((pa++[la]).map V.int)) A ⟨D.sz,D.dd,lp,pa,la⟩:=by
 have out:Out A H (Rd.four H A (lp.map fun t=>V.str t.nm) ls hs ((pa++[la]).map V.int)):=(((Out.put (.inr (.inr (.inr (.inl rfl))))).trans (Out.put (.inr (.inr (.inr (.inr (.inl rfl))))))).trans (Out.put (.inr (.inr (.inr (.inr (.inr (.inl rfl)))))))).trans (Out.put (.inr (.inr (.inr (.inr (.inr (.inr rfl)))))))
 have kp:=h.kp out
 obtain⟨n1,n2,n3,n4,n5,n6,m1,m2,m3,m4,m5⟩:=h.ne
 obtain⟨⟨a1,a2,a3,a4⟩,⟨b1,b2,b3⟩,⟨c1,c2⟩,e1⟩:=h.nds
 obtain⟨xs,d1,d2⟩:=h.dd
 obtain⟨tb,t1,t2⟩:=h.tb
 refine⟨out,?_,⟨xs,?_,d2.mono fun _ _ z=>HJ kp z⟩,⟨tb,?_,t2⟩,?_,⟨ls,?_,hl.mono fun _ _ z=>z.tk kp.tk⟩,⟨hs,?_,hh.mono fun _ _ z=>z.tk kp.tk⟩,A6,h.nd,pl⟩
 .unfold Rd.four;rw[A8 (Ne.symm n4),A8 (Ne.symm n3),A8 (Ne.symm n2),A8 (Ne.symm n1)];exact h.o
 .unfold Rd.four;rw[A8 a4,A8 a3,A8 a2,A8 a1];exact d1
 .unfold Rd.four;rw[A8 (Ne.symm m4),A8 (Ne.symm m3),A8 (Ne.symm m2),A8 (Ne.symm m1)];exact t1
 .unfold Rd.four;rw[A8 b3,A8 b2,A8 b1];exact A6
 .unfold Rd.four;rw[A8 c2,A8 c1];exact A6
 .unfold Rd.four;rw[A8 e1];exact A6
theorem DrAt.deed {H0:Hp}(h:DrAt CD C c f H0 A D){tb:List (Str×Nat)}{xs:List V}{x:V}{W:Dw}(o:H A.d=some (.ins CD A.dx (A.fs (szV D.sz))))(nm:H A.nl=some (.lst (D.lp.map fun t=>V.str t.nm))){ls hs:List V}(l1:H A.ll=some (.lst ls))(l2:AH (fun v t=>Cm H v (Ak.lo t)) ls D.lp)(h1:H A.hl=some (.lst hs))(h2:AH (fun v t=>Cm H v (Ak.hi t)) hs D.lp)(pa:H A.pl=some (.lst (D.pa.map V.int++[.int D.la])))
  (hd:H A.dl=some (.lst xs)) (pd:AH (DQ C c H) xs D.dd) (hx:DQ C c H x W) (ht:H A.tl=some (.dK (tbK tb))) (hf:∀p∈tb,p.2=f p.1) (hl:tb.length<=2000*(D.dd.length+1)) :
  Out A H (upd (upd H A.dl (.lst (xs++[x]))) A.pl (.lst (D.pa.map V.int++[.int (D.la+1)])))/\DrAt CD C c f (upd (upd H A.dl (.lst (xs++[x]))) A.pl (.lst (D.pa.map V.int++[.int (D.la+1)]))) A ⟨D.sz,D.dd++[W],D.lp,D.pa,D.la+1⟩:=by
 have out:Out A H (upd (upd H A.dl (.lst (xs++[x]))) A.pl (.lst (D.pa.map V.int++[.int (D.la+1)]))):=(Out.put (.inr (.inl rfl))).trans (Out.put (.inr (.inr (.inr (.inr (.inr (.inr rfl)))))))
 obtain⟨n1,n2,n3,n4,n5,n6,m1,m2,m3,m4,m5⟩:=h.ne
 obtain⟨⟨a1,a2,a3,a4⟩,⟨b1,b2,b3⟩,⟨c1,c2⟩,e1⟩:=h.nds
 have kp:Kp H (upd (upd H A.dl (.lst (xs++[x]))) A.pl (.lst (D.pa.map V.int++[.int (D.la+1)]))):=(Kp.lst hd).trans (Kp.lst ((A8 (Ne.symm a4)).trans pa))
 refine⟨out,?_,⟨xs++[x],?_,(pd.mono fun _ _ z=>HJ kp z).snoc (HJ kp hx)⟩,⟨tb,?_,hf,by rw[Ah];exact hl⟩,?_,⟨ls,?_,l2.mono fun _ _ z=>z.tk kp.tk⟩,⟨hs,?_,h2.mono fun _ _ z=>z.tk kp.tk⟩,?_,h.nd,h.pl⟩
 .rw[A8 (Ne.symm n4),A8 (Ne.symm n5)];exact o
 .rw[A8 a4];exact A6
 .rw[A8 (Ne.symm m4),A8 (Ne.symm m5)];exact ht
 .rw[A8 b3,A8 (Ne.symm a1)];exact nm
 .rw[A8 c2,A8 (Ne.symm a2)];exact l1
 .rw[A8 e1,A8 (Ne.symm a3)];exact h1
 .rw[A6]
  show _=some (HO.lst ((D.pa++[D.la+1]).map V.int))
  rw[AZ]
  rfl
theorem DrAt.tabs (h:DrAt CD C c f H A D)(e:∀b o,H b=some o->b≠A.tl->H' b=some o):Kp H H'/\Out A H H'/\H' A.d=some (.ins CD A.dx (A.fs (szV D.sz)))/\(∃xs,H' A.dl=some (.lst xs)/\AH (DQ C c H') xs D.dd)/\H' A.nl=some (.lst (D.lp.map fun t=>V.str t.nm))/\(∃xs,H' A.ll=some (.lst xs)/\AH (fun v t=>Cm H' v (Ak.lo t)) xs D.lp)/\(∃xs,H' A.hl=some (.lst xs)/\AH (fun v t=>Cm H' v (Ak.hi t)) xs D.lp)/\H' A.pl=some (.lst ((D.pa++[D.la]).map V.int)):=by
 have out:Out A H H':=fun b o hb n=>e b o hb (fun z=>n (.inr (.inr (.inl z))))
 have kp:=h.kp out
 obtain⟨n1,n2,n3,n4,n5,n6,m1,m2,m3,m4,m5⟩:=h.ne
 obtain⟨xs,d1,d2⟩:=h.dd
 obtain⟨ls,l1,l2⟩:=h.lo
 obtain⟨hs,h1,h2⟩:=h.hi
 exact⟨kp,out,e _ _ h.o (Ne.symm n6),⟨xs,e _ _ d1 m5,d2.mono fun _ _ z=>HJ kp z⟩,e _ _ h.nm m1,⟨ls,e _ _ l1 m2,l2.mono fun _ _ z=>z.tk kp.tk⟩,⟨hs,e _ _ h1 m3,h2.mono fun _ _ z=>z.tk kp.tk⟩,e _ _ h.pa m4⟩
end
set_option genInjectivity true in
inductive Rk where
 |sz (n:Int)
 |opn (t:Ak)
 |fin
 |ded (tb:Str) (sp:List (Str×Int)) (ks:List Tk) (t:Tw)
def EN (f:Str->Nat)(D D':Dr):Rk->Prop
 |.sz n=>D.sz=none/\2<=n/\n<=999999999999999999/\D'=⟨some n,D.dd,D.lp,D.pa,D.la⟩
 |.opn t=>D.sz≠none/\D.lp.length<3/\Bx (cds t.nm)/\t.nm∉D.lp.map (·.nm)/\SpN t.lo/\SpN t.hi/\knw (D.lp.map (·.nm)) t.lo=true/\knw (D.lp.map (·.nm)) t.hi=true/\D'=UU D t
 |.fin=>D.sz≠none/\∃(lp:List Ak) (t:Ak) (pa:List Int) (m:Int),D.lp=lp++[t]/\D.pa=pa++[m]/\D.la≠0/\D'=⟨D.sz,D.dd,lp,pa,m+1⟩
 |.ded tb sp ks t=>D.sz≠none/\D.dd.length<6/\(Tk.t (.c tb sp)).Ok/\(∀k∈ks,k.Ok)/\DC ks/\ks.length<=999/\(∃T S,run ks ⟨[],[],true⟩=some ⟨T,S,false⟩/\jw 1 S T=([t],[]))/\(∀k∈Tk.t (.c tb sp)::ks,Ml (D.lp.map (·.nm)) k)/\(∀k∈Tk.t (.c tb sp)::ks,LB f k)/\D'=SY D tb sp t
def dedT (tb:Str)(sp:List (Str×Int))(ks:List Tk):List Nat:=cds (Ba tb sp)++61::txts ks
def spSizeT (CD C:Addr)(c:Cs):Sp:=fun vs H Q _=>∃(f:Str->Nat) (A:Da) (D D':Dr) (w:Addr) (n:Int),vs=[.ref A.d,.ref w]/\DrAt CD C c f H A D/\H w=some (.lst [.str "size",.str (nS n)])/\EN f D D' (.sz n)/\∀H',Out A H H'->DrAt CD C c f H' A D'->Q (.bl true) H'
def spLoopT (CD C:Addr)(c:Cs):Sp:=fun vs H Q _=>∃(f:Str->Nat) (A:Da) (D D':Dr) (w:Addr) (t:Ak),vs=[.ref A.d,.ref w]/\DrAt CD C c f H A D/\H w=some (.lst [.str "for",.str t.nm,.str (B5 t.lo),.str (B5 t.hi)])/\EN f D D' (.opn t)/\∀H',Out A H H'->DrAt CD C c f H' A D'->Q (.bl true) H'
def spEndT (CD C:Addr)(c:Cs):Sp:=fun vs H Q _=>∃(f:Str->Nat) (A:Da) (D D':Dr) (w:Addr),vs=[.ref A.d,.ref w]/\DrAt CD C c f H A D/\H w=some (.lst [.str "end"])/\EN f D D' .fin/\∀H',Out A H H'->DrAt CD C c f H' A D'->Q (.bl true) H'
def spDeedT (CD C:Addr)(c:Cs):Sp:=fun vs H Q _=>∃(f:Str->Nat) (A:Da) (D D':Dr) (z:Str) (tb:Str) (sp:List (Str×Int)) (ks:List Tk) (t:Tw),vs=[.ref A.d,.str z]/\DrAt CD C c f H A D/\cds z=dedT tb sp ks/\z.length<=100000/\EN f D D' (.ded tb sp ks t)/\∀H',Out A H H'->DrAt CD C c f H' A D'->Q (.bl true) H'
def Wds (l:List Nat)(ws:List Str):Prop := ∃ps:List Str,IsSplit [32] l (ps.map cds)/\ps.filter (fun y:Str=>decide (y≠Str.ofString ""))=ws
theorem Wds.at {l:List Nat}{ws ps:List Str}(h:Wds l ws)(s:IsSplit [32] l (ps.map cds)):ps.filter (fun y:Str=>decide (y≠Str.ofString ""))=ws:=by
 obtain⟨p0,s0,e⟩:=h
 have:ps=p0:=map_cds_inj (s.fn s0)
 rw[this]
 exact e
def FT (l:List Nat):Rk->Prop
 |.sz n=>Wds l ["size",nS n]
 |.opn t=>Wds l ["for",t.nm,B5 t.lo,B5 t.hi]
 |.fin=>Wds l ["end"]
 |.ded tb sp ks _=>(∃w ws,Wds l (w::ws)/\w≠"for"/\w≠"end"/\w≠"size")/\l.filter (·≠32)=dedT tb sp ks
def spTaken (CD C:Addr)(c:Cs):Sp:=fun vs H Q _=>∃(f:Str->Nat) (A:Da) (D D':Dr) (z:Str) (r:Rk),vs=[.ref A.d,.str z]/\DrAt CD C c f H A D/\z.length<=100000/\FT (cds z) r/\EN f D D' r/\∀H',Out A H H'->DrAt CD C c f H' A D'->Q (.bl true) H'
inductive Rds (f:Str->Nat):List Str->Dr->Dr->Prop
 |nil {D}:Rds f [] D D
 |no {z zs D E}:bare (cds z)=[]->Rds f zs D E->Rds f (z::zs) D E
 |row {z zs D D' E r}:bare (cds z)≠[]->FT (bare (cds z)) r->EN f D D' r->Rds f zs D' E->Rds f (z::zs) D E
theorem Rds.six {f:Str->Nat}{zs:List Str}{D E:Dr}(h:Rds f zs D E):D.dd.length<=6->E.dd.length<=6:=by
 induction h with
 |nil=>exact id
 |no _ _ ih=>exact ih
 |
  @row z zs D D' E r _ _ hs _ ih=>
  intro h6
  refine ih ?_
  cases r with
  |sz n=>obtain⟨_,_,_,rfl⟩:=hs;exact h6
  |opn t=>obtain⟨_,_,_,_,_,_,_,_,rfl⟩:=hs;exact h6
  |fin=>obtain⟨_,_,_,_,_,_,_,_,rfl⟩:=hs;exact h6
  |
   ded tb sp ks t=>
   obtain⟨_,h,_,_,_,_,_,_,_,rfl⟩:=hs
   show(D.dd++[_]).length<=6
   rw[Ah,Bs]
   omega
end Rd
namespace Rd
open PySem L2
def tf (ns:List Str)(z:Str):Nat:=(ns.idxOf z+1)/2
structure Lk (nms ns:List Str)(k:Tk):Prop where
 ok:k.Ok
 kn:Ml nms k
 tb:LB (tf ns) k
def Ex.txt:Ex->Str
 |.lf t=>(Tk.t t).txt
 |.br e=>"("++e.txt++")"
 |.jn c l r=>l.txt++sg c++r.txt
theorem P6 (a b:List Tk):txts (a++b)=txts a++txts b:=by
 unfold txts
 rw[AZ,List.flatten_append]
theorem O8 (k:Tk):txts [k]=cds k.txt:=by rw[txts_cons];exact Cq _
theorem Ex.txt_tk:∀e:Ex,cds e.txt=txts e.tk
 |.lf t=>(O8 _).symm
 |
  .br e=>by
  show cds ("("++e.txt++")")=txts (.s 40::(e.tk++[.s 41]))
  rw[AS,AS,Ex.txt_tk e,txts_cons,P6,O8]
  have e1:cds ("(":Str)=[40]:=by decide +kernel
  have e2:cds (")":Str)=[41]:=by decide +kernel
  rw[e1,e2,BC]
  rfl
 |
  .jn c l r=>by
  show cds (l.txt++sg c++r.txt)=txts (l.tk ++ .s c::r.tk)
  rw[AS,AS,Ex.txt_tk l,Ex.txt_tk r,P6,txts_cons,BC]
  rfl
def Ex.lv:Ex->Nat
 |.lf _=>1
 |.br e=>e.lv
 |.jn _ l r=>l.lv+r.lv
structure G5 (nms ns:List Str)(e:Ex):Prop where
 ok:e.Ok
 lk:∀k∈e.tk,Lk nms ns k
 ln:e.tk.length+5<=8*e.lv
theorem T8 {c:Nat}{b:List Tk}(k:Tk)(h:DC b):DC (k :: .s c::b):=by
 cases k<;>exact h
theorem MH {c:Nat}{b:List Tk}(hb:DC b):∀{a:List Tk},DC a->DC (a ++ .s c::b)
 |[],_=>hb
 |[k],_=>T8 k hb
 |
  k::k2::a,h=>by
  have ih:=MH (c:=c) hb (P8 h)
  cases k with
  |s d=>exact ih
  |
   t w=>
   cases k2 with
   |s d=>exact ih
   |t w2=>exact h.elim
theorem Ex.adj:∀e:Ex,DC e.tk
 |.lf t=>True.intro
 |.br e=>MH (b:=[]) (show DC [] from True.intro) (Ex.adj e)
 |.jn c l r=>MH (Ex.adj r) (Ex.adj l)
def KnAt (H:Hp)(l:Addr)(nms:List Str):Prop:=H l=some (.lst ((("":Str)::nms).map V.str))/\nms.length<=3/\∀z∈nms,Bx (cds z)
def F3 (H:Hp)(l:Addr)(ns:List Str):Prop:=H l=some (.lst (ns.map V.str))/\ns.length=8/\ns.Nodup/\∀z∈ns,Bx (cds z)
theorem KnAt.over {H H':Hp}{l:Addr}{nms:List Str}(e:A7 H H')(h:KnAt H l nms):KnAt H' l nms:=⟨e _ _ h.1,h.2⟩
theorem F3.over {H H':Hp}{l:Addr}{ns:List Str}(e:A7 H H')(h:F3 H l ns):F3 H' l ns:=⟨e _ _ h.1,h.2⟩
theorem strs_at {zs:List Str}{i:Int}(h0:0<=i)(h1:i<(zs.length:Int)):∃z:Str,Bu (zs.map V.str) i=some (.str z)/\zs[i.toNat]?=some z:=by
 obtain⟨k,rfl⟩:∃k:Nat,i=(k:Int):=⟨i.toNat,by omega⟩
 have hk:k<zs.length:=by omega
 exact⟨zs[k],D6 (by rw[Dm,BB hk];rfl),by rw[FW];exact BB hk⟩
theorem idx_nodup {ns:List Str}{j:Nat}{z:Str}(nd:ns.Nodup)(h:ns[j]?=some z):ns.idxOf z=j:=by
 obtain⟨hj,e⟩:=BE.mp h
 rw[←e]
 exact List.Nodup.idxOf_getElem nd j hj
theorem spn_of {nms:List Str}{z:Str}{n:Int}(h:∀z∈nms,Bx (cds z))(hz:z∈("":Str)::nms)(n0 : -999999999999999999<=n)(n1:n<=999999999999999999):SpN (z,n)/\knw nms (z,n)=true:=by
 rcases AG.mp hz with rfl|hz
 .exact⟨⟨.inl rfl,(by show(Str.ofString "").length<=20;decide +kernel),n0,n1⟩,rfl⟩
 .have hk:=h z hz
  refine⟨⟨.inr hk,?_,n0,n1⟩,?_⟩
  .have:=hk.2.1
   rw[cds_len]at this
   exact BI this (by decide)
  .unfold knw
   rw[B1 hz,Bool.or_true]
theorem mem_behind {nms:List Str}{z:Str}{i:Int}(h:1<=i)(e:(("":Str)::nms)[i.toNat]?=some z):z∈nms:=by
 obtain⟨k,rfl⟩:∃k:Nat,i=((k+1:Nat):Int):=⟨i.toNat-1,by omega⟩
 rw[FW,List.getElem?_cons_succ]at e
 exact C8 e
theorem NY (x:Int):97<=DB x/\DB x<=122:=by
 unfold DB
 have h0:=BY x (show(26:Int)≠0 by decide)
 have h1:=C9 x (show(0:Int)<26 by decide)
 omega
theorem nameW_abc (xs:List Int):∀c∈Fd xs,97<=c/\c<=122:=fun c hc=>by
 unfold Fd at hc
 obtain⟨x,_,rfl⟩:=CK.mp hc
 exact NY x
theorem SQ {xs:List Int}{w:List Nat}(wl:w.length=8)(wb:∀c∈w,97<=c/\c<=122)(k:Int):1<=(BD xs w k).length/\(BD xs w k).length<=8/\∀c∈BD xs w k,97<=c/\c<=122:=by
 obtain⟨lb0,lb1⟩:=IE xs
 obtain⟨ab0,ab1⟩:=Kf xs
 unfold BD
 split
 .unfold Hq
  have b0:=BY (Cj xs+3*k) (show(8:Int)≠0 by decide)
  have b1:=C9 (Cj xs+3*k) (show(0:Int)<8 by decide)
  rw[Bt,wl]
  exact⟨by omega,by omega,fun c hc=>wb c (G3 hc)⟩
 .unfold Gw
  rw[Ah,Ah,Bs,Bt,Bt,C5,wl]
  refine⟨by omega,by omega,fun c hc=>?_⟩
  rcases Bl.mp hc with hc|hc
  .rcases Bl.mp hc with hc|hc
   .exact wb c (G3 hc)
   .rw[D8.mp hc];exact NY _
  .exact wb c (FZ (G3 hc))
theorem nameC_ok {xs:List Int}{w:List Nat}(wl:w.length=8)(wb:∀c∈w,97<=c/\c<=122)(k:Int):Bx (DD xs w k):=by
 obtain⟨h1,h2,h3⟩:=SQ (xs:=xs) wl wb k
 unfold DD
 split
 .rename_i h
  have:∀r∈DE,Bx ([122,122]++r):=by decide +kernel
  exact this _ h
 .rename_i h
  exact⟨h1,h2,fun c hc=>(HL c).mpr (h3 c hc),h⟩
def spNames23:Sp:=fun vs H Q _=>∃(c:Int),vs=[.int c,.int 8]/\∀(l:Addr) (H':Hp) (ns:List Str),A7 H H'->F3 H' l ns->Q (.ref l) H'
def spSpot23:Sp:=fun vs H Q _=>∃(x y:Int) (kl:Addr) (nms:List Str),vs=[.int x,.int y,.ref kl]/\0<=x/\x<2147483647/\0<=y/\y<2147483647/\KnAt H kl nms/\∀(r:V) (H':Hp) (s:Str×Int),A7 H H'->Cm H' r s->SpN s->knw nms s=true->Q r H'
def spCell23:Sp:=fun vs H Q _=>∃(rx kl nl:Addr) (xs:List Int) (nms ns:List Str),vs=[.ref rx,.ref kl,.ref nl]/\H rx=some (.lst (xs.map V.int))/\xs.length=5/\(∀x∈xs,0<=x/\x<2147483647)/\KnAt H kl nms/\F3 H nl ns/\∀(r p:Addr) (H':Hp) (z:Str) (sp:List (Str×Int)),A7 H H'->H' r=some (.tup [.str z,.ref p,.str (Ba z sp)])->F1 H' p sp->Lk nms ns (.t (.c z sp))->Q (.ref r) H'
def spLeaf23:Sp:=fun vs H Q _=>∃(c:Int) (kl nl:Addr) (nms ns:List Str),vs=[.int c,.ref kl,.ref nl]/\KnAt H kl nms/\F3 H nl ns/\∀(x:V) (H':Hp) (t:Tw),A7 H H'->(∃p y,x = .ref p/\H' p=some (.tup [.str (Tk.t t).txt,.int 3,y])/\EG H' t y)->Lk nms ns (.t t)->Q x H'
def Lv (n:Nat)(l l':List Nat):Prop:=l'=l\/∃k,n<=k/\k<=l.length/\l'=l.take k++32::l.drop k
section
variable {H H':Hp}{nms ns:List Str}{xs:List V}{es:List Ex}{N:Nat}
end
theorem Rm {nms ns:List Str}{ch:Nat}{l r l' r':Ex}(hc:ch=43\/ch=45\/ch=42)(okl:G5 nms ns l)(okr:G5 nms ns r)(hl:(l'=l/\st ch<=l.hd)\/l' = .br l)(hr:(r'=r/\st ch<r.hd)\/r' = .br r):G5 nms ns (.jn ch l' r')/\(Ex.jn ch l' r').lv=l.lv+r.lv:=by
 have s3:st ch<3:=by rcases hc with rfl|rfl|rfl<;>decide
 have sgk:∀c,c∈sg5->Lk nms ns (.s c):=fun c hc=>⟨hc,True.intro,True.intro⟩
 have brk:∀{e:Ex},G5 nms ns e->(∀k∈(Ex.br e).tk,Lk nms ns k):=fun{e} h k hk=>by
  have hk:k∈Tk.s 40::(e.tk++[.s 41]):=hk
  rcases AG.mp hk with rfl|hk
  .exact sgk 40 (by decide)
  .rcases Bl.mp hk with hk|hk
   .exact h.lk k hk
   .rw[D8.mp hk];exact sgk 41 (by decide)
 have brl:∀e:Ex,(Ex.br e).tk.length=e.tk.length+2:=fun e=>by
  show(Tk.s 40::(e.tk++[.s 41])).length=_
  rw[AQ,Ah]
  rfl
 have key:∀{e e':Ex},G5 nms ns e->(e'=e\/e' = .br e)->e'.Ok/\(∀k∈e'.tk,Lk nms ns k)/\e'.tk.length<=e.tk.length+2/\e'.lv=e.lv:=fun{e e'} h he=>by
  rcases he with rfl|rfl
  .exact⟨h.ok,h.lk,Qs _ _,rfl⟩
  .exact⟨h.ok,brk h,Nat.le_of_eq (brl e),rfl⟩
 obtain⟨a1,a2,a3,a4⟩:=key okl (hl.imp And.left id)
 obtain⟨b1,b2,b3,b4⟩:=key okr (hr.imp And.left id)
 have hL:st ch<=l'.hd:=by rcases hl with⟨rfl,h⟩|rfl;exact h;exact GA s3
 have hR:st ch<r'.hd:=by rcases hr with⟨rfl,h⟩|rfl;exact h;exact s3
 have lvE:(Ex.jn ch l' r').lv=l.lv+r.lv:=by show l'.lv+r'.lv=_;rw[a4,b4]
 refine⟨⟨⟨hc,a1,b1,hL,hR⟩,fun k hk=>?_,?_⟩,lvE⟩
 .have hk:k∈l'.tk ++ .s ch::r'.tk:=hk
  rcases Bl.mp hk with hk|hk
  .exact a2 k hk
  .rcases AG.mp hk with rfl|hk
   .exact sgk ch (by rcases hc with rfl|rfl|rfl<;>decide)
   .exact b2 k hk
 .have h1:=okl.ln
  have h2:=okr.ln
  rw[lvE]
  show(l'.tk ++ .s ch::r'.tk).length+5<=_
  rw[Ah,AQ]
  omega
theorem KB {n:Nat}{l l':List Nat}(h:Lv n l l'):l.length<=l'.length/\l'.length<=l.length+1:=by
 rcases h with rfl|⟨k,_,hk,rfl⟩
 .omega
 .rw[Ah,AQ,Bt,C5]
  omega
theorem join_split:∀{rows:List Str},rows≠[]->(∀z∈rows,10∉cds z)->IsSplit [10] (cds (Txt.join "\n" rows)) (rows.map cds)
 |[],h,_=>absurd rfl h
 |
  [z],_,h=>by
  rw[Ky]
  show IsSplit [10] (cds z++[]) [cds z]
  rw[Cq]
  exact .one' (h z AA)
 |
  z::z2::rows,_,h=>by
  have ih:=join_split (rows:=z2::rows) (Cy _ _) fun y hy=>h y (B8 _ hy)
  rw[Ky]at ih ⊢
  have e:cds ("\n":Str)=[10]:=by decide +kernel
  rw[BN,N0,e,BC]
  exact .cut' (h z AA) (by rw[e]at ih;exact ih)
theorem OS:∀l:List Nat,∃ps:List (List Nat),IsSplit [32] l (l.takeWhile (· != 32)::ps)
 |[]=>⟨[],.one' (fun h=>nomatch h)⟩
 |
  c::l=>by
  obtain⟨ps,h⟩:=OS l
  by_cases hc:c=32
  .subst hc
   exact⟨_,.cut' (p:=[]) (fun h=>nomatch h) h⟩
  .rw[IS,Af (Ep.mpr hc)]
   generalize hp:l.takeWhile (· != 32)::ps=qs at h
   have n32:32∉l.takeWhile (· != 32):=fun z=>by
    have:=FY.mp (List.all_takeWhile (p:=(· != 32)) (l:=l)) 32 z
    exact absurd rfl (Ep.mp this)
   cases h with
   |
    one _=>
    injection hp with e1 e2
    subst e2
    rw[e1]at n32 ⊢
    exact⟨[],.one' (fun z=>(AG.mp z).elim (fun y=>hc y.symm) n32)⟩
   |
    cut hf ht=>
    injection hp with e1 e2
    subst e2
    rw[e1]at n32 ⊢
    exact⟨_,.cut' (p:=c::_) (fun z=>(AG.mp z).elim (fun y=>hc y.symm) n32) ht⟩
theorem QT {l:List Nat}{c:Nat}{r:List Nat}(e:l=c::r)(hc:c≠32):∃ws,Wds l (AB (l.takeWhile (· != 32))::ws):=by
 obtain⟨ps,h⟩:=OS l
 have e1:l.takeWhile (· != 32)≠[]:=by rw[e,IS,Af (Ep.mpr hc)];exact Cy _ _
 refine⟨(ps.map AB).filter (fun y:Str=>decide (y≠Str.ofString "")),(AB (l.takeWhile (· != 32)))::ps.map AB,?_,?_⟩
 .have:((AB (l.takeWhile (· != 32)))::ps.map AB).map cds=l.takeWhile (· != 32)::ps:=by
   rw[BN,IV,B6]
   congr 1
   exact(Qn fun x _=>B6 x).trans (List.map_id _)
  rw[this]
  exact h
 .have hne:AB (l.takeWhile (· != 32))≠Str.ofString "":=fun z=>e1 (by have z:=congrArg cds z;rw[B6]at z;exact z)
  rw[DV,Af (B1 hne)]
theorem Sd (l:List Nat):(l.dropWhile (· == 32)).filter (· != 32)=l.filter (· != 32):=by
 induction l with
 |nil=>rfl
 |
  cons c l ih=>
  rw[Fz]
  split
  .rename_i h
   rw[ih,DV,Ab]
   simpa using h
  .rfl
theorem Sq {c:Nat}{x r:List Nat}(hc:c≠32)(hx:32∉x)(hn:r.filter (· != 32)≠[]):∃r',stp 32 (c::x++r)=c::x++r'/\r'.filter (· != 32)=r.filter (· != 32):=by
 have h1:(c::x++r).dropWhile (· == 32)=c::x++r:=by
  rw[Dz,Fz,Ab]
  simpa using hc
 have h2:(c::x++r).reverse.dropWhile (· == 32)=r.reverse.dropWhile (· == 32)++(c::x).reverse:=by
  rw[Ni]
  have key:∀{a b:List Nat},a.filter (· != 32)≠[]->(a++b).dropWhile (· == 32)=a.dropWhile (· == 32)++b:=fun{a b} h=>by
   induction a with
   |nil=>exact absurd rfl h
   |
    cons d a ih=>
    rw[Dz,Fz,Fz]
    split
    .rename_i hd
     refine ih ?_
     rw[DV,Ab (by simpa using hd)]at h
     exact h
    .rfl
  refine key ?_
  rw[Qv]
  simpa using hn
 refine⟨(r.reverse.dropWhile (· == 32)).reverse,?_,?_⟩
 .unfold stp
  rw[h1,h2,Ni,N1]
 .rw[Qv,Sd,Qv,N1]
theorem VI (l:List Nat):l.filter (fun c=>decide (c≠32))=l.filter (· != 32):=by
 congr 1
 funext c
 by_cases h:c=32
 .rw[h];rfl
 .rw[B1 h]
  exact(Ep.mpr h).symm
theorem P7 {l:List Nat}(h:32∉l):l.filter (· != 32)=l:=Qp.mpr fun c hc=>Ep.mpr fun z=>h (z▸hc)
theorem HG {l:List Nat}(h:59∉l):bare l=stp 32 l:=by unfold bare;rw[Ab h]
def HY (tb:Str)(sp:List (Str×Int))(ks:List Tk)(l:List Nat):Prop := ∃r,l=cds tb++r/\r.filter (· != 32)=91::(inner (sp.map fun s=>cds (B5 s))++[93])++61::txts ks/\10∉r/\59∉r
theorem Pu {tb:Str}{sp:List (Str×Int)}{ks:List Tk}{l:List Nat}(ok:(Tk.t (.c tb sp)).Ok)(h:HY tb sp ks l)(t:Tw):bare l≠[]/\FT (bare l) (.ded tb sp ks t)/\10∉l:=by
 obtain⟨r,rfl,hf,h10,h59⟩:=h
 have hz:=ok.1
 have n59:59∉cds tb++r:=fun z=>(Bl.mp z).elim (name_no hz (by omega)) h59
 have n10:10∉cds tb++r:=fun z=>(Bl.mp z).elim (name_no hz (by omega)) h10
 have n32:32∉cds tb:=name_no hz (by omega)
 obtain⟨c,x,ex⟩:∃c x,cds tb=c::x:=by
  cases e:cds tb with
  |nil=>have:=hz.1;rw[e]at this;exact absurd this (by decide)
  |cons c x=>exact⟨c,x,rfl⟩
 have hc:c≠32:=fun z=>n32 (by rw[ex,z];exact AA)
 have hx:32∉x:=fun z=>n32 (by rw[ex];exact B8 _ z)
 obtain⟨r',e1,e2⟩:=Sq (r:=r) hc hx (by rw[hf];exact Cy _ _)
 rw[←ex]at e1
 have hb:bare (cds tb++r)=cds tb++r':=(HG n59).trans e1
 rw[hb]
 refine⟨by rw[ex];exact Cy _ _,⟨?_,?_⟩,n10⟩
 .obtain⟨ws,hw⟩:=QT (l:=cds tb++r') (by rw[ex];rfl) hc
  have key:∀{a b:List Nat},32∉a->(a++b).takeWhile (· != 32)=a++b.takeWhile (· != 32):=fun{a b} h=>by
   induction a with
   |nil=>rfl
   |
    cons d a ih=>
    rw[Dz,IS,Af (Ep.mpr (show d≠32 from fun z=>h (by rw[z];exact AA))),ih fun z=>h (B8 _ z)]
    rfl
  rw[key n32]at hw
  have hres:cds tb++r'.takeWhile (· != 32)∉DE:=by
   cases r' with
   |nil=>rw[hf]at e2;exact absurd e2 (by intro z;cases z)
   |
    cons d r''=>
    by_cases hd:d=32
    .rw[IS,Ab (by simpa using hd),Cq]
     exact hz.2.2.2
    .rw[DV,Af (Ep.mpr hd),hf]at e2
     injection e2 with e3 _
     intro z
     have m91:(91:Nat)∈cds tb++(d::r'').takeWhile (· != 32):=by
      rw[IS,Af (Ep.mpr hd),e3]
      exact Cp _ AA
     generalize cds tb++(d::r'').takeWhile (· != 32)=u at z m91
     unfold DE at z
     simp only[AG,CL,or_false]at z
     rcases z with rfl|rfl|rfl
     .exact absurd m91 (by decide +kernel)
     .exact absurd m91 (by decide +kernel)
     .exact absurd m91 (by decide +kernel)
  have nr:∀u:Str,cds u∈DE->AB (cds tb++r'.takeWhile (· != 32))≠u:=fun u hu z=>by
   have z:=congrArg cds z
   rw[B6]at z
   exact hres (z▸hu)
  exact⟨_,ws,hw,nr "for" (by decide +kernel),nr "end" (by decide +kernel),nr "size" (by decide +kernel)⟩
 .rw[VI,G0,P7 n32,e2,hf]
  unfold dedT
  rw[cel_cds ok.2.1,BC]
theorem NG {l:List Nat}{c d:Nat}{r s:List Nat}(e1:l=c::r)(e2:l=s++[d])(hc:c≠32)(hd:d≠32):stp 32 l=l:=by
 unfold stp
 have h1:l.dropWhile (· == 32)=l:=by rw[e1,Fz,Ab (by simpa using hc)]
 have h2:l.reverse.dropWhile (· == 32)=l.reverse:=by rw[e2,Ni,List.reverse_singleton,List.singleton_append,Fz,Ab (by simpa using hd)]
 rw[h1,h2,N1]
theorem ON {l:List Nat}(h:l≠[])(n:32∉l):∃s d,l=s++[d]/\d≠32:=by
 refine⟨l.dropLast,l.getLast h,(Y4 h).symm,fun z=>n ?_⟩
 rw[←z]
 exact List.getLast_mem h
def wj:List (List Nat)->List Nat
 |[]=>[]
 |[a]=>a
 |a::b::l=>a++([32]++wj (b::l))
theorem Pq:∀{ws:List (List Nat)},ws≠[]->(∀w∈ws,32∉w)->IsSplit [32] (wj ws) ws
 |[],h,_=>absurd rfl h
 |[a],_,h=>.one' (h a AA)
 |a::b::l,_,h=>.cut' (h a AA) (Pq (Cy _ _) fun w hw=>h w (B8 _ hw))
theorem HM {c:Nat}(hc:c≠32):∀{ws:List (List Nat)},(∀w∈ws,c∉w)->c∉wj ws
 |[],_=>fun z=>nomatch z
 |[a],h=>h a AA
 |
  a::b::l,h=>fun z=>by
  have z:c∈a++([32]++wj (b::l)):=z
  rcases Bl.mp z with z|z
  .exact h a AA z
  .rcases Bl.mp z with z|z
   .exact hc (D8.mp z)
   .exact HM hc (ws:=b::l) (fun w hw=>h w (B8 _ hw)) z
theorem Oe:∀{ws:List (List Nat)},ws≠[]->(∀w∈ws,32∉w/\w≠[])->∃s d,wj ws=s++[d]/\d≠32
 |[],h,_=>absurd rfl h
 |[a],_,h=>ON (h a AA).2 (h a AA).1
 |
  a::b::l,_,h=>by
  obtain⟨s,d,e,hd⟩:=Oe (ws:=b::l) (Cy _ _) fun w hw=>h w (B8 _ hw)
  refine⟨a++([32]++s),d,?_,hd⟩
  show a++([32]++wj (b::l))=_
  rw[e]
  simp
theorem PJ:∀{ws:List (List Nat)},ws≠[]->(∀w∈ws,32∉w/\w≠[])->∃c r,wj ws=c::r/\c≠32
 |[],h,_=>absurd rfl h
 |
  a::l,_,h=>by
  obtain⟨h1,h2⟩:=h a AA
  cases a with
  |nil=>exact absurd rfl h2
  |
   cons c a=>
   refine⟨c,?_⟩
   cases l with
   |nil=>exact⟨a,rfl,fun z=>h1 (z▸AA)⟩
   |cons b l=>exact⟨_,rfl,fun z=>h1 (z▸AA)⟩
theorem MI {ws:List Str}(hn:ws≠[])(h:∀w∈ws,cds w≠[]/\32∉cds w/\59∉cds w/\10∉cds w):bare (wj (ws.map cds))≠[]/\Wds (bare (wj (ws.map cds))) ws/\10∉wj (ws.map cds):=by
 have hm:ws.map cds≠[]:=fun z=>hn (Nd.mp z)
 have h2:∀w∈ws.map cds,32∉w/\w≠[]:=fun w hw=>by
  obtain⟨z,hz,rfl⟩:=CK.mp hw
  exact⟨(h z hz).2.1,(h z hz).1⟩
 have n59:59∉wj (ws.map cds):=HM (by decide) fun w hw=>by
  obtain⟨z,hz,rfl⟩:=CK.mp hw
  exact(h z hz).2.2.1
 have n10:10∉wj (ws.map cds):=HM (by decide) fun w hw=>by
  obtain⟨z,hz,rfl⟩:=CK.mp hw
  exact(h z hz).2.2.2
 obtain⟨c,r,e1,hc⟩:=PJ hm h2
 obtain⟨s,d,e2,hd⟩:=Oe hm h2
 have hb:bare (wj (ws.map cds))=wj (ws.map cds):=(HG n59).trans (NG e1 e2 hc hd)
 rw[hb]
 refine⟨by rw[e1];exact Cy _ _,⟨ws,Pq hm fun w hw=>(h2 w hw).1,?_⟩,n10⟩
 exact Qp.mpr fun z hz=>B1 fun y=>(h z hz).1 (by rw[y];rfl)
theorem S7 {s:Str×Int}(h:SpN s):cds (B5 s)≠[]:=fun z=>by
 have:=spot_read h
 rw[z]at this
 have e:EC []=none:=by decide +kernel
 rw[e]at this
 cases this
theorem Ja {s:Str×Int}(h:SpN s):cds (B5 s)≠[]/\32∉cds (B5 s)/\59∉cds (B5 s)/\10∉cds (B5 s):=⟨S7 h,spot_free h (by omega),spot_free h (by omega),spot_free h (by omega)⟩
theorem OV {z:Str}(h:Bx (cds z)):cds z≠[]/\32∉cds z/\59∉cds z/\10∉cds z:=⟨fun e=>by have:=h.1;rw[e]at this;exact absurd this (by decide),name_no h (by omega),name_no h (by omega),name_no h (by omega)⟩
theorem US {t:Ak}(hn:Bx (cds t.nm))(hl:SpN t.lo)(hh:SpN t.hi){l:List Nat}(e:l=wj ((["for",t.nm,B5 t.lo,B5 t.hi]:List Str).map cds)):bare l≠[]/\FT (bare l) (.opn t)/\10∉l:=by
 subst e
 refine MI (Cy _ _) fun w hw=>?_
 simp only[AG,CL,or_false]at hw
 rcases hw with rfl|rfl|rfl|rfl
 .decide +kernel
 .exact OV hn
 .exact Ja hl
 .exact Ja hh
theorem Tv:bare (cds "end")≠[]/\FT (bare (cds "end")) .fin/\10∉cds "end":=MI (ws:=["end"]) (Cy _ _) fun w hw=>by
 rw[D8.mp hw]
 decide +kernel
theorem Ru {n:Int}(h0:0<=n)(h1:n<=999999999999999999){l:List Nat}(e:l=wj ((["size",nS n]:List Str).map cds)):bare l≠[]/\FT (bare l) (.sz n)/\10∉l:=by
 subst e
 obtain⟨g,_⟩:=nS_good h0 h1
 refine MI (Cy _ _) fun w hw=>?_
 simp only[AG,CL,or_false]at hw
 rcases hw with rfl|rfl
 .decide +kernel
 .exact⟨fun e=>by have:=g.1;rw[e]at this;exact absurd this (by decide),Ej g (by omega),Ej g (by omega),Ej g (by omega)⟩
theorem VB {k:Tk}(ok:k.Ok){c:Nat}(hc:c=10\/c=32\/c=59):c∉cds k.txt:=by
 cases k with
 |
  s d=>
  intro z
  have z:c∈[d]:=z
  have ok:d∈sg5:=ok
  rw[←D8.mp z]at ok
  unfold sg5 at ok
  simp only[AG,CL,or_false]at ok
  omega
 |
  t w=>
  cases w with
  |n i=>exact Ej (nS_good ok.1 ok.2).1 (by omega)
  |v z=>exact name_no ok (by omega)
  |c z sp=>exact cel_no ok (by omega)
  |j _ _ _=>exact ok.elim
theorem LC {c:Nat}(hc:c=10\/c=32\/c=59):∀{ks:List Tk},(∀k∈ks,k.Ok)->c∉txts ks
 |[],_=>fun z=>nomatch z
 |
  k::ks,h=>fun z=>by
  rw[txts_cons]at z
  rcases Bl.mp z with z|z
  .exact VB (h k AA) hc z
  .exact LC hc (ks:=ks) (fun x hx=>h x (B8 _ hx)) z
theorem SM {tb:Str}{sp:List (Str×Int)}{ks:List Tk}(ok:(Tk.t (.c tb sp)).Ok)(h:∀k∈ks,k.Ok):HY tb sp ks (dedT tb sp ks):=by
 have fr:∀{c:Nat},(c=10\/c=32\/c=59)->c∉91::(inner (sp.map fun s=>cds (B5 s))++[93])++61::txts ks:=fun{c} hc z=>by
  rcases Bl.mp z with z|z
  .have h1:=cel_no ok (c:=c) (by omega)
   rw[cel_cds ok.2.1]at h1
   exact h1 (Cp _ z)
  .rcases AG.mp z with z|z
   .omega
   .exact LC hc h z
 refine⟨91::(inner (sp.map fun s=>cds (B5 s))++[93])++61::txts ks,?_,P7 (fr (.inr (.inl rfl))),fr (.inl rfl),fr (.inr (.inr rfl))⟩
 unfold dedT
 rw[cel_cds ok.2.1,BC]
theorem Mq {tb:Str}{sp:List (Str×Int)}{ks:List Tk}{l l':List Nat}(h:HY tb sp ks l)(b:Lv (cds tb).length l l'):HY tb sp ks l':=by
 rcases b with rfl|⟨k,h1,h2,rfl⟩
 .exact h
 .obtain⟨r,rfl,hf,n10,n59⟩:=h
  refine⟨r.take (k-(cds tb).length)++32::r.drop (k-(cds tb).length),?_,?_,?_,?_⟩
  .rw[List.take_append,List.drop_append,Fy h1,List.drop_of_length_le h1,BC]
   rfl
  .rw[G0,DV,Ab (by decide),←G0,MY]
   exact hf
  .intro z
   rcases Bl.mp z with z|z
   .exact n10 (G3 z)
   .rcases AG.mp z with z|z
    .cases z
    .exact n10 (FZ z)
  .intro z
   rcases Bl.mp z with z|z
   .exact n59 (G3 z)
   .rcases AG.mp z with z|z
    .cases z
    .exact n59 (FZ z)
theorem spn9:SpN ("",0)/\SpN ("",9):=⟨⟨.inl rfl,by decide +kernel,by decide,by decide⟩,⟨.inl rfl,by decide +kernel,by decide,by decide⟩⟩
end Rd
namespace Rd
open PySem L2
def Twk (nms ns:List Str):Tw->Prop
 |.j z l r=>z∈FI/\Twk nms ns l/\Twk nms ns r
 |.n i=>Lk nms ns (.t (.n i))
 |.v z=>Lk nms ns (.t (.v z))
 |.c z sp=>Lk nms ns (.t (.c z sp))
theorem Lk.tok {nms ns:List Str}{t:Tw}(h:Lk nms ns (.t t)):Tw.Ok t:=by
 have ok:=h.ok
 cases t with
 |n i=>exact ok
 |v z=>have:=ok.2.1;rw[cds_len]at this;exact BI this (by decide)
 |c z sp=>exact⟨by have:=ok.1.2.1;rw[cds_len]at this;exact BI this (by decide),ok.2.2.1,fun s hs=>(ok.2.2.2 s hs).2⟩
 |j z l r=>exact ok.elim
theorem Twk.ok {nms ns:List Str}:∀{t:Tw},Twk nms ns t->Tw.Ok t
 |.n i,h=>Lk.tok (t:=.n i) h
 |.v z,h=>Lk.tok (t:=.v z) h
 |.c z sp,h=>Lk.tok (t:=.c z sp) h
 |.j z l r,h=>⟨h.1,Twk.ok h.2.1,Twk.ok h.2.2⟩
theorem Lk.twk {nms ns:List Str}{t:Tw}(h:Lk nms ns (.t t)):Twk nms ns t:=by
 cases t with
 |j z l r=>exact h.ok.elim
 |n i=>exact h
 |v z=>exact h
 |c z sp=>exact h
def DP (z:Str):Nat:=if z="*" then 42 else if z="-" then 45 else 43
def El (b:Bool)(e:Ex):Ex:=if b=true then .br e else e
def BZ:Tw->Ex
 |.j z l r=>.jn (DP z) (El (decide (l.hld<hz z)) (BZ l)) (El (decide (r.hld<=hz z)) (BZ r))
 |.n i=>.lf (.n i)
 |.v z=>.lf (.v z)
 |.c z sp=>.lf (.c z sp)
theorem R8 {z:Str}(h:z∈FI):sg (DP z)=z/\st (DP z)=hz z/\(DP z=43\/DP z=45\/DP z=42):=by
 have:∀w∈FI,sg (DP w)=w/\st (DP w)=hz w/\(DP w=43\/DP w=45\/DP w=42):=by decide +kernel
 exact this z h
theorem K4 (b:Bool)(e:Ex):(El b e).txt=Et b e.txt/\(El b e).sh=e.sh:=by
 cases b<;>exact⟨rfl,rfl⟩
theorem ML {nms ns:List Str}{t:Tw}(h:Lk nms ns (.t t)):G5 nms ns (.lf t):=⟨True.intro,fun k hk=>by rw[D8.mp hk];exact h,by show 1+5<=8*1;decide⟩
theorem Gs {nms ns:List Str}:∀{t:Tw},Twk nms ns t->G5 nms ns (BZ t)/\(BZ t).lv=t.sz/\(BZ t).txt=t.wr/\(BZ t).sh=t/\(BZ t).hd=t.hld
 |.n i,h=>⟨ML h,rfl,rfl,rfl,rfl⟩
 |.v z,h=>⟨ML h,rfl,rfl,rfl,rfl⟩
 |.c z sp,h=>⟨ML h,rfl,rfl,rfl,rfl⟩
 |
  .j z l r,h=>by
  obtain⟨hz3,hl,hr⟩:=h
  obtain⟨s1,s2,s3⟩:=R8 hz3
  obtain⟨a1,a2,a3,a4,a5⟩:=Gs hl
  obtain⟨b1,b2,b3,b4,b5⟩:=Gs hr
  have k1:∀{b:Bool} {e:Ex},El b e=e/\b=false\/El b e = .br e:=fun{b e}=>by
   cases b
   .exact .inl ⟨rfl,rfl⟩
   .exact .inr rfl
  obtain⟨j1,j2⟩:=Rm (nms:=nms) (ns:=ns) (ch:=DP z) (l':=El (decide (l.hld<hz z)) (BZ l)) (r':=El (decide (r.hld<=hz z)) (BZ r)) s3 a1 b1
   (k1.imp (fun h=>⟨h.1,by have:=of_decide_eq_false h.2;omega⟩) id) (k1.imp (fun h=>⟨h.1,by have:=of_decide_eq_false h.2;omega⟩) id)
  refine⟨j1,?_,?_,?_,s2⟩
  .exact j2.trans (by rw[a2,b2];rfl)
  .show(El _ (BZ l)).txt++sg (DP z)++(El _ (BZ r)).txt=_
   rw[(K4 _ _).1,(K4 _ _).1,s1,a3,b3]
   rfl
  .show Tw.j (sg (DP z)) (El _ (BZ l)).sh (El _ (BZ r)).sh=_
   rw[(K4 _ _).2,(K4 _ _).2,s1,a4,b4]
theorem leaf_tp {nms ns:List Str}{H:Hp}{x:V}{t:Tw}(lk:Lk nms ns (.t t))(h:∃p y,x = .ref p/\H p=some (.tup [.str (Tk.t t).txt,.int 3,y])/\EG H t y):DH H x t/\t.sz=1:=by
 cases t with
 |j z l r=>exact lk.ok.elim
 |n i=>exact⟨h,rfl⟩
 |v z=>exact⟨h,rfl⟩
 |c z sp=>exact⟨h,rfl⟩
structure StK (H:Hp)(nms ns:List Str)(xs:List V)(ts:List Tw)(N:Nat):Prop where
 at':AH (DH H) xs ts
 ok:∀t∈ts,Twk nms ns t
 sum:(ts.map Tw.sz).sum<=N
section
variable {H H':Hp}{nms ns:List Str}{xs:List V}{ts:List Tw}{N:Nat}
theorem StK.tk (k:TK H H')(h:StK H nms ns xs ts N):StK H' nms ns xs ts N:=⟨h.at'.mono fun _ _ z=>z.tk k,h.ok,h.sum⟩
theorem StK.old (h:StK H nms ns xs ts N):Fj H xs ts N:=⟨h.at',fun t ht=>(h.ok t ht).ok,h.sum⟩
theorem StK.len (h:StK H nms ns xs ts N):xs.length<=N:=h.old.len
theorem StK.push {x:V}{t:Tw}(h:StK H nms ns xs ts N)(hx:DH H x t)(ht:Twk nms ns t){M:Nat}(hM:N+t.sz<=M):StK H nms ns (xs++[x]) (ts++[t]) M:=by
 refine⟨h.at'.snoc hx,fun u hu=>?_,(h.old.push hx ht.ok hM).sum⟩
 rcases Bl.mp hu with z|z
 .exact h.ok u z
 .rw[D8.mp z];exact ht
theorem StK.pop (h:StK H nms ns xs ts N)(hl:0<xs.length):∃ys x us t M,xs=ys++[x]/\ts=us++[t]/\StK H nms ns ys us M/\DH H x t/\Twk nms ns t/\M+t.sz<=N:=by
 obtain⟨ys,x,us,t,M,rfl,rfl,s,hx,_,hM⟩:=h.old.pop hl
 exact⟨ys,x,us,t,M,rfl,rfl,⟨s.at',fun u hu=>h.ok u (FV _ hu),s.sum⟩,hx,h.ok t (by simp),hM⟩
end
def spTerm28:Sp:=fun vs H Q _=>∃(c:Int) (kl nl:Addr) (nms ns:List Str),vs=[.int c,.ref kl,.ref nl]/\KnAt H kl nms/\F3 H nl ns/\∀(x:V) (H':Hp) (t:Tw),A7 H H'->DH H' x t->Twk nms ns t->t.sz<=5->Q x H'
structure KM (nms:List Str)(t:Ak):Prop where
 nm:Bx (cds t.nm)
 nw:t.nm∉nms
 lo:SpN t.lo
 hi:SpN t.hi
 kl:knw nms t.lo=true
 kh:knw nms t.hi=true
theorem KM.ok {nms:List Str}{t:Ak}(h:KM nms t):t.Ok:=⟨by have:=h.nm.2.1;rw[cds_len]at this;exact BI this (by decide),h.lo.2,h.hi.2⟩
def lnm (ts:List Ak):List Str:=ts.map Ak.nm
def K2 (ts:List Ak):Prop:=ts.length<=3/\∀t∈ts,Bx (cds t.nm)/\SpN t.lo/\SpN t.hi
def spLoop28:Sp:=fun vs H Q _=>∃(c:Int) (nl o:Addr) (la:V) (ns:List Str) (ts:List Ak) (tl:Ak),vs=[.int c,.ref nl,.ref o,la]/\F3 H nl ns/\FP H o ts/\ts.length<=2/\K2 ts/\E2 H la tl/\SpN tl.lo/\SpN tl.hi/\∀(r:V) (H':Hp) (t:Ak),A7 H H'->E2 H' r t->KM (lnm ts) t->Q r H'
structure Dk (ns:List Str)(D:Dw):Prop where
 c:Lk (lnm D.loops) ns (.t (.c D.tbl D.sp))
 t:Twk (lnm D.loops) ns D.tm
 s:D.tm.sz<=5
def spDeed28:Sp:=fun vs H Q _=>∃(c:Int) (o pt nl:Addr) (ns:List Str) (ts:List Ak) (path:List Int),vs=[.int c,.ref o,.ref pt,.ref nl]/\F3 H nl ns/\FP H o ts/\K2 ts/\H pt=some (.lst (path.map V.int))/\path.length=ts.length+1/\∀(r:V) (H':Hp) (D:Dw),A7 H H'->K1 H' o r D->Dk ns D->D.loops=ts->D.path=path->Q r H'
theorem mr_eqE (K:Ya)(n:Bool):MR (Kq K n):=fun x y H Q Q' hq zz=>by obtain⟨p,q,xs,a,b,c,d,e⟩:=zz;exact⟨p,q,xs,a,b,c,d,hq _ _ e⟩
def rkS:Rk->Str
 |.sz n=>"size "++nS n
 |.opn t=>Fe t
 |.fin=>"end"
 |.ded tb sp _ t=>Ba tb sp++" = "++t.wr
inductive Stps (f:Str->Nat):Dr->List Rk->Dr->Prop
 |nil {D}:Stps f D [] D
 |cons {D D' E k ks}:EN f D D' k->Stps f D' ks E->Stps f D (k::ks) E
theorem Stps.snoc {f:Str->Nat}{D E F:Dr}{ks:List Rk}{k:Rk}(h:Stps f D ks E)(s:EN f E F k):Stps f D (ks++[k]) F:=by
 induction h with
 |nil=>exact .cons s .nil
 |cons a _ ih=>exact .cons a (ih s)
def Dk.rk (D:Dw):Rk:=.ded D.tbl D.sp (BZ D.tm).tk D.tm
theorem Dk.stp {ns:List Str}{D:Dw}(h:Dk ns D){n:Int}{Ds:List Dw}{pa:List Int}{la:Int}(d6:Ds.length<6)(hp:D.path=pa++[la]):EN (tf ns) ⟨some n,Ds,D.loops,pa,la⟩ ⟨some n,Ds++[D],D.loops,pa,la+1⟩ (Dk.rk D):=by
 obtain⟨e1,e2,e3,e4,e5⟩:=Gs h.t
 have lk:∀k∈Tk.t (.c D.tbl D.sp)::(BZ D.tm).tk,Lk (lnm D.loops) ns k:=fun k hk=>by
  rcases AG.mp hk with rfl|hk
  .exact h.c
  .exact e1.lk k hk
 obtain⟨T,S,r1,r2⟩:=Vx e1.ok
 rw[e4]at r2
 refine⟨(fun z=>nomatch z),d6,h.c.ok,fun k hk=>(e1.lk k hk).ok,Ex.adj _,?_,⟨T,S,r1,r2⟩,fun k hk=>(lk k hk).kn,fun k hk=>(lk k hk).tb,?_⟩
 .have:=e1.ln
  have:=h.s
  omega
 .show _=Dr.mk _ (Ds++[_]) _ _ _
  rw[←hp]
theorem Jb {ns nms:List Str}{t:Tw}(h:Twk nms ns t):cds t.wr=txts (BZ t).tk:=by
 obtain⟨e1,e2,e3,e4,e5⟩:=Gs h
 rw[←e3]
 exact Ex.txt_tk _
def Rok (ns:List Str):Rk->Prop
 |.sz n=>2<=n/\n<=999999999999999999
 |.opn t=>Bx (cds t.nm)/\SpN t.lo/\SpN t.hi
 |.fin=>True
 |.ded tb sp ks t=>∃nms,Lk nms ns (.t (.c tb sp))/\Twk nms ns t/\ks=(BZ t).tk/\t.sz<=5
theorem Dk.rok {ns:List Str}{D:Dw}(h:Dk ns D):Rok ns (Dk.rk D):=⟨lnm D.loops,h.c,h.t,rfl,h.s⟩
structure Rn (ns:List Str)(R:Pw.Rw Ak Str)(ts:List Ak)(path:List Int)(Ds:List Dw)(ks:List Rk)(pa:List Int)(la:Int):Prop where
 tx:R.map (fun p=>FL p.2)=ks.map rkS
 pe:path=pa++[la]
 st:∀n:Int,Stps (tf ns) ⟨some n,[],[],[],0⟩ ks ⟨some n,Ds,ts,pa,la⟩
 ok:∀k∈ks,Rok ns k
 p0:(∀x∈pa,0<=x)/\0<=la
 l6:Ds.length<=5\/0<la
 nm:K2 ts
 pl:pa.length=ts.length
 dn:0<la->Ds≠[]
 dk:∀D∈Ds,Dk ns D/\D.loops.length<=3/\D.path.length<=10
theorem Rn.start (ns:List Str):Rn ns [] [] [0] [] [] [] 0:=⟨rfl,rfl,fun _=>.nil,(fun _ h=>nomatch h),⟨(fun _ h=>nomatch h),Int.le_refl _⟩,.inl (by decide),⟨Bw _,(fun _ h=>nomatch h)⟩,rfl,(fun h=>absurd h (by decide)),(fun _ h=>nomatch h)⟩
section
variable {ns:List Str}{R:Pw.Rw Ak Str}{ts:List Ak}{path:List Int}{Ds:List Dw}{ks:List Rk}{pa:List Int}{la:Int}
theorem mem_snoc {α:Type}{P:α->Prop}{l:List α}{a:α}(h:∀x∈l,P x)(ha:P a):∀x∈l++[a],P x:=fun x hx=>by
 rcases Bl.mp hx with hx|hx
 .exact h x hx
 .rw[D8.mp hx];exact ha
theorem Rn.opn (h:Rn ns R ts path Ds ks pa la){t:Ak}(hl:ts.length<3)(ht:KM (lnm ts) t)(d5:Ds.length<=5)(d:Nat):Rn ns (R++[(d,.opn t)]) (ts++[t]) (path++[0]) Ds (ks++[.opn t]) (pa++[la]) 0:=by
 refine⟨by rw[AZ,AZ,h.tx];rfl,by rw[h.pe],fun n=>(h.st n).snoc ⟨(fun z=>nomatch z),hl,ht.nm,ht.nw,ht.lo,ht.hi,ht.kl,ht.kh,rfl⟩,mem_snoc h.ok ⟨ht.nm,ht.lo,ht.hi⟩,⟨mem_snoc h.p0.1 h.p0.2,Int.le_refl _⟩,.inl d5,⟨by rw[Ah,Bs];omega,mem_snoc h.nm.2 ⟨ht.nm,ht.lo,ht.hi⟩⟩,by rw[Ah,Ah,h.pl];rfl,(fun h=>absurd h (by decide)),h.dk⟩
theorem Rn.ded (h:Rn ns R ts path Ds ks pa la){D:Dw}(hD:Dk ns D)(hl:D.loops=ts)(hp:D.path=path)(d5:Ds.length<=5)(d:Nat):Rn ns (R++[(d,.row D.txt)]) ts (pa++[la+1]) (Ds++[D]) (ks++[Dk.rk D]) pa (la+1):=by
 have h2:=h.p0.2
 subst hl
 refine⟨by rw[AZ,AZ,h.tx];rfl,rfl,fun n=>(h.st n).snoc (hD.stp (by omega) (by rw[hp,h.pe])),mem_snoc h.ok hD.rok,⟨h.p0.1,by omega⟩,.inr (by omega),h.nm,h.pl,(fun _=>by simp),mem_snoc h.dk ⟨hD,h.nm.1,?_⟩⟩
 rw[hp,h.pe,Ah,h.pl]
 have:=h.nm.1
 show _+1<=10
 omega
theorem Rn.fin {t:Ak}{m:Int}(h:Rn ns R (ts++[t]) path Ds ks (pa++[m]) la)(l0:la≠0)(d:Nat):Rn ns (R++[(d,.fin)]) ts (pa++[m+1]) Ds (ks++[.fin]) pa (m+1):=by
 have h2:=h.p0.2
 have hm:0<=m:=h.p0.1 m (by simp)
 refine⟨by rw[AZ,AZ,h.tx];rfl,rfl,fun n=>(h.st n).snoc ⟨(fun z=>nomatch z),ts,t,pa,m,rfl,rfl,l0,rfl⟩,mem_snoc h.ok True.intro,⟨fun x hx=>h.p0.1 x (FV _ hx),by omega⟩,?_,⟨?_,fun x hx=>h.nm.2 x (FV _ hx)⟩,?_,(fun _=>h.dn (by omega)),h.dk⟩
 .exact .inr (by omega)
 .have:=h.nm.1
  rw[Ah]at this
  omega
 .have:=h.pl
  rw[Ah,Ah]at this
  exact Nat.add_right_cancel this
theorem Rn.len (h:Rn ns R ts path Ds ks pa la):path.length=ts.length+1:=by
 rw[h.pe,Ah,h.pl]
 rfl
end
end Rd
namespace EX
open PySem PySem.Spec PyProof.Rows
section
variable {M:Model}{A:Around}{E:Value->Shared->Prop}{s:Shared}
end
end EX
namespace EX
open PySem PySem.Spec PyProof.Rows
section
variable {M:Model}{A:Around}{E:Value->Shared->Prop}{s:Shared}{env:Env}
end
end EX
namespace EX
open PySem PySem.Spec PySem.Calls PyProof.Rows
section
variable {prog:Program}{w:World}{A:Around}{h:Heap}{g:Array GenState}{d:Drawn}{t:Nat}{os:OsState}{R:Result->Shared->Prop}
variable {nm q:Str}{C N:Addr}{bs bm bmB:List Value}{hdct:Bool}{sn:List Str}{sub:List Value}{ab:Bool}{col:Option Bool}{dd:Option Addr}{k0 k1 k2 k3 k5:Option Value}{B newId initId:String}
end
end EX
namespace EX
open PySem PySem.Spec PySem.Calls PyProof.Rows PySem.W PySem.Builtin PySem.Builtin.ObjectAttr
section
variable {prog:Program}{w:World}{A:Around}{E:Value->Shared->Prop}{s:Shared}{K:Frag}{x C:Addr}{ox:Obj}{od:Option Obj}{name:Str}{expr:Bool}
end
end EX
namespace EX
open PySem PySem.Spec PySem.Calls PyProof.Rows PySem.W PySem.Builtin PySem.Builtin.ObjectAttr
section
variable {prog:Program}{w:World}{A:Around}{E:Value->Shared->Prop}{s:Shared}{K:Frag}{x C:Addr}{ox:Obj}{od:Option Obj}
end
end EX
namespace EX
open PySem PySem.Spec PyProof.Rows
end EX
namespace L2
open PySem PySem.Spec PyProof.Rows EX
section
variable {P:Program}{w:World}{H:Hp}{h:Heap}{a C:Addr}{d:Option Addr}
end
section
variable {X:Cx}{pins:List (Addr×Obj)}{σ:St}{H:Hp}{s:Shared}{a C:Addr}{d:Option Addr}
end
section
variable {X:Cx}
variable {P:Program}{w:World}{K:Ya}{mg:Str->Option Value}{base:Heap}{N:List Str}{qual:Str}{scope:Scope}{f:Addr}{cd:Value}{A:Around}{outer:List Env}{s₀:Shared}{H₀:Hp}{E:XK}
end
section
variable {P:Program}{w:World}{K:Ya}{mg:Str->Option Value}{base:Heap}
end
section
variable {X:Cx}{Ek:St->XK}{e:Expr}{te:TE}{pos:Pos}
end
end L2
namespace EX
open PySem PySem.Spec PyProof.Rows
end EX
namespace L2
open PySem PySem.Spec PyProof.Rows EX
section
variable {X:Cx}{pins pins':List (Addr×Obj)}{σ:St}{H:Hp}{s:Shared}{a:Addr}{xe:Value->Shared->Prop}{pn:List (Addr×Obj)}
end
section
variable {X:Cx}{x n:Str}{np pos:Pos}{Dc:Addr}{b₀:Stmt}{suite:List Stmt}{rest:List ExceptHandler}{ts:Addr->TS}{th:Addr->Addr->Option Addr->TS}
end
section
variable {X:Cx}{k:Nat}{f C:Addr}{fd:FuncData}{ps:List Str}{sp:Sp}{dvs:List V}{ds:List Value}{Ek:St->XK}{x:Str}{p pos:Pos}{e:Expr}{es:List Expr}{t:TA}
end
end L2
namespace EX
open PySem PySem.Spec PySem.Calls PyProof.Rows PySem.W
section
variable {prog:Program}{w:World}{A:Around}{h:Heap}{g:Array GenState}{d:Drawn}{t:Nat}{os:OsState}{R:Result->Shared->Prop}{C N:Addr}{bm:List Value}
end
end EX
namespace L2
open PySem PySem.Spec PyProof.Rows
section
open EX
section
variable {X:Cx}{pins:List (Addr×Obj)}{σ:St}{H:Hp}{s:Shared}{M:Model}{A:Around}{E:Value->Shared->Prop}
end
section
variable {X:Cx}{x n:Str}{np pos:Pos}{Dc:Addr}{b₀:Stmt}{suite:List Stmt}{rest:List ExceptHandler}{ts:Addr->TS}{th:Addr->Addr->Option Addr->TS}{i:Nat}
end
section
variable {X:Cx}{k:Nat}{f C:Addr}{fd:FuncData}{ps:List Str}{sp:Sp}{CX:E1}{E:XK}{x:Str}{p pos:Pos}{e:Expr}{es:List Expr}{t:TA}
end
end
section
open EX
section
variable {X:Cx}{e o:Expr}{ta tv:TE}{f x:Str}{pos pos' p apos:Pos}
end
end
section
open EX
section
variable {P:Program}{w:World}{K:Ya}{mg:Str->Option Value}{base:Heap}
end
section
variable {X:Cx}{k:Nat}{f:Addr}{fd:FuncData}{ps:List Str}{sp:Sp}{x:Str}{p pos:Pos}{e:Expr}{es:List Expr}{t:TA}
end
end
section
open EX
end
end L2
namespace Rd
open PySem PySem.Spec L2 EX
def CF:Rk->List Str
 |.sz n=>["size",nS n]
 |.opn t=>["for",t.nm,B5 t.lo,B5 t.hi]
 |.fin=>["end"]
 |.ded tb sp _ t=>[Ba tb sp,"=",t.wr]
theorem Hg (k:Rk):cds (rkS k)=wj ((CF k).map cds):=by
 have b:cds (" ":Str)=[32]:=by decide +kernel
 cases k with
 |
  sz n=>
  show cds ("size "++nS n)=cds "size"++([32]++cds (nS n))
  rw[AS,←BC]
  congr 1
 |
  opn t=>
  show cds ("for "++t.nm++" "++B5 t.lo++" "++B5 t.hi)=cds "for"++([32]++(cds t.nm++([32]++(cds (B5 t.lo)++([32]++cds (B5 t.hi))))))
  have e:cds ("for ":Str)=cds "for"++[32]:=by decide +kernel
  rw[AS,AS,AS,AS,AS,b,e]
  simp only[BC]
 |fin=>rfl
 |
  ded tb sp ks t=>
  show cds (Ba tb sp++" = "++t.wr)=cds (Ba tb sp)++([32]++(cds "="++([32]++cds t.wr)))
  have e:cds (" = ":Str)=[32]++(cds "="++[32]):=by decide +kernel
  rw[AS,AS,e]
  simp only[BC]
theorem Md {nms ns:List Str}{t:Tw}(h:Twk nms ns t){c:Nat}(hc:c=10\/c=32\/c=59):c∉cds t.wr:=by
 rw[Jb h]
 exact LC hc fun k hk=>((Gs h).1.lk k hk).ok
theorem QX {nms ns:List Str}{t:Tw}(h:Twk nms ns t):cds t.wr≠[]:=by
 rw[Jb h]
 obtain⟨e1,_⟩:=Gs h
 intro z
 cases hk:(BZ t).tk with
 |
  nil=>
  have:∀e:Ex,e.tk≠[]:=fun e=>by
   cases e with
   |lf t=>exact Cy _ _
   |br e=>exact Cy _ _
   |jn c l r=>show l.tk++_≠[];simp
  exact this _ hk
 |
  cons k l=>
  rw[hk,txts_cons]at z
  have h1:=(Qw.mp z).1
  have ok:=(e1.lk k (by rw[hk];exact AA)).ok
  cases k with
  |s c=>cases h1
  |
   t w=>
   obtain⟨c,r,e,_⟩:=(Tk.whole ok).head
   rw[e]at h1
   cases h1
theorem J6 {ns:List Str}{k:Rk}(h:Rok ns k):∀w∈CF k,cds w≠[]/\32∉cds w/\59∉cds w/\10∉cds w:=by
 intro w hw
 cases k with
 |
  sz n=>
  obtain⟨g,_⟩:=nS_good (i:=n) (by have:=h.1;omega) h.2
  simp only[CF,AG,CL,or_false]at hw
  rcases hw with rfl|rfl
  .decide +kernel
  .exact⟨fun e=>by have:=g.1;rw[e]at this;exact absurd this (by decide),Ej g (by omega),Ej g (by omega),Ej g (by omega)⟩
 |
  opn t=>
  simp only[CF,AG,CL,or_false]at hw
  rcases hw with rfl|rfl|rfl|rfl
  .decide +kernel
  .exact OV h.1
  .exact Ja h.2.1
  .exact Ja h.2.2
 |
  fin=>
  simp only[CF,AG,CL,or_false]at hw
  subst hw
  decide +kernel
 |
  ded tb sp ks t=>
  obtain⟨nms,lk,tk,_,_⟩:=h
  simp only[CF,AG,CL,or_false]at hw
  rcases hw with rfl|rfl|rfl
  .refine⟨fun e=>?_,cel_no lk.ok,cel_no lk.ok,cel_no lk.ok⟩
   have:=lk.ok.1.1
   rw[cel_cds lk.ok.2.1]at e
   have e:=(Qw.mp e).1
   rw[e]at this
   exact absurd this (by decide)
  .decide +kernel
  .exact⟨QX tk,Md tk (.inr (.inl rfl)),Md tk (.inr (.inr rfl)),Md tk (.inl rfl)⟩
theorem Oz (k:Rk):CF k≠[]:=by cases k<;>exact Cy _ _
theorem Q6 {ns nms:List Str}{tb:Str}{sp:List (Str×Int)}{t:Tw}(lk:Lk nms ns (.t (.c tb sp)))(tk:Twk nms ns t):HY tb sp (BZ t).tk (cds (Ba tb sp++" = "++t.wr)):=by
 have e:cds (" = ":Str)=[32,61,32]:=by decide +kernel
 have d0:=SM (ks:=(BZ t).tk) lk.ok fun k hk=>((Gs tk).1.lk k hk).ok
 have e0:cds (Ba tb sp++" = "++t.wr)=(dedT tb sp (BZ t).tk).take (cds (Ba tb sp)).length++32::(61::32::txts (BZ t).tk):=by
  rw[AS,AS,e,Jb tk]
  unfold dedT
  rw[Hv,BC]
  rfl
 have cl:=congrArg List.length (cel_cds (z:=tb) lk.ok.2.1)
 rw[Ah]at cl
 have b1:=Mq d0 (l':=(dedT tb sp (BZ t).tk).take (cds (Ba tb sp)).length++32::(dedT tb sp (BZ t).tk).drop (cds (Ba tb sp)).length) (.inr ⟨_,by omega,by unfold dedT;rw[Ah];omega,rfl⟩)
 have e1:(dedT tb sp (BZ t).tk).take (cds (Ba tb sp)).length++32::(dedT tb sp (BZ t).tk).drop (cds (Ba tb sp)).length=cds (Ba tb sp)++[32,61]++txts (BZ t).tk:=by
  unfold dedT
  rw[Hv,KQ,BC]
  rfl
 rw[e1]at b1
 refine Mq b1 (.inr ⟨(cds (Ba tb sp)++[32,61]).length,by rw[Ah];omega,by rw[Ah (as:=cds (Ba tb sp)++[32,61])];exact Qs _ _,?_⟩)
 rw[Hv,KQ,AS,AS,e,Jb tk]
 simp only[BC,Dz,KU]
theorem Kd {ns:List Str}{k:Rk}(h:Rok ns k):bare (cds (rkS k))≠[]/\FT (bare (cds (rkS k))) k/\10∉cds (rkS k):=by
 cases k with
 |sz n=>exact Ru (by have:=h.1;omega) h.2 (Hg (.sz n))
 |opn t=>exact US h.1 h.2.1 h.2.2 (Hg (.opn t))
 |fin=>exact Tv
 |
  ded tb sp ks t=>
  obtain⟨nms,lk,tk,rfl,_⟩:=h
  exact Pu lk.ok (Q6 lk tk) t
theorem Rds.app {f:Str->Nat}{a b:List Str}{D E F:Dr}(h:Rds f a D E)(g:Rds f b E F):Rds f (a++b) D F:=by
 induction h with
 |nil=>exact g
 |no hb _ ih=>exact .no hb (ih g)
 |row h1 h2 h3 _ ih=>exact .row h1 h2 h3 (ih g)
theorem stps_rds {f:Str->Nat}{ns:List Str}{D E:Dr}{ks:List Rk}(h:Stps f D ks E):(∀k∈ks,Rok ns k)->Rds f (ks.map rkS) D E:=by
 induction h with
 |nil=>exact fun _=>.nil
 |cons s _ ih=>exact fun ok=>.row (Kd (ok _ AA)).1 (Kd (ok _ AA)).2.1 s (ih fun k hk=>ok k (B8 _ hk))
theorem cut_le (ns:List Int):(Ck ns (some 4) (some 59)).length<=ns.length:=by
 unfold Ck
 rw[Bt,C5]
 omega
theorem sum_le {n:Nat}:∀{l:List Str},(∀y∈l,y.length<=n)->(l.map (·.length)).sum<=n*l.length
 |[],_=>Aj _
 |
  y::l,h=>by
  have h1:=h y AA
  have h2:=sum_le (l:=l) fun z hz=>h z (B8 _ hz)
  rw[BN,KS,AQ,Nat.mul_succ]
  omega
def isD:Rk->Bool
 |.ded _ _ _ _=>true
 |_=>false
theorem stps_sz {f:Str->Nat}{n:Int}{E:Dr}{ks:List Rk}(h0:2<=n)(h1:n<=999999999999999999)(h:Stps f ⟨some n,[],[],[],0⟩ ks E):Stps f D0 (.sz n::ks) E:=.cons ⟨rfl,h0,h1,rfl⟩ h
end Rd
namespace L2
open PySem PySem.Spec PyProof.Rows
theorem OO {c:Nat}{l:List Nat}{n i:Nat}(h:Rd.NoAt [c] l n)(hi:i<n):l[i]?≠some c:=fun e=>by
 refine h i hi ?_
 have hl:=(BE.mp e).1
 rw[F7 hl]
 rw[BB hl]at e
 rw[BX e]
 rfl
def rp (c n:Nat)(l:List Nat):List Nat:=(l.map fun d=>if d=c then List.replicate n c else[d]).flatten
theorem Kb (c n:Nat)(a b:List Nat):rp c n (a++b)=rp c n a++rp c n b:=by
 unfold rp
 rw[AZ,List.flatten_append]
theorem Ke {c n:Nat}{l:List Nat}(h:c∉l):rp c n l=l:=by
 induction l with
 |nil=>rfl
 |
  cons d l ih=>
  have hd:d≠c:=fun z=>h (by rw[z];exact AA)
  show(if d=c then List.replicate n c else[d])++rp c n l=d::l
  rw[Ab hd,ih fun z=>h (B8 _ z)]
  rfl
theorem OG (c n:Nat):rp c n [c]=List.replicate n c:=by
 show(if c=c then List.replicate n c else[c])++[]=_
 rw[Af rfl,Cq]
theorem Ti (x z:Str)(c:Nat)(hc:c<256):cds (Txt.replace x ⟨#[c]⟩ z)=cds (Txt.join z (Txt.split x ⟨#[c]⟩)):=by
 unfold Txt.replace Txt.split
 cases hf:(Builtin.Str.occurrences x ⟨#[c]⟩ 0 x.length (x.length+1)).isEmpty
 .have e1:(false||((⟨#[c]⟩:Str).length==0&&z.length==0))=false:=rfl
  rw[e1]
  simp only[Na,J0]
  rw[Ab]
  .rfl
  .intro hk
   rw[MZ,DX,DX]at hk
   have hne:Builtin.Str.occurrences x ⟨#[c]⟩ 0 x.length (x.length+1)≠[]:=fun z=>by rw[z]at hf;cases hf
   have k1:=Rd.kind_le (x:=x) (y:=⟨#[c]⟩) (fun d hd=>by have e:d=c:=(by simpa[cds] using hd);omega)
   have k2:=Rd.kind_pos x
   have hl:x.length<1:=by
    rcases hk with z|z
    .exact z
    .omega
   obtain⟨f,hG,_⟩:=StrLaws.occ_tight x ⟨#[c]⟩ (Aj _)
   cases hL:Builtin.Str.occurrences x ⟨#[c]⟩ 0 x.length (x.length+1) with
   |nil=>exact hne hL
   |
    cons i r=>
    rw[hL]at hG
    have h1:=hG.2.1.1
    have:(⟨#[c]⟩:Str).length=1:=rfl
    omega
 .simp only[Bool.true_or,F8]
  split
  .exact congrArg cds (show x=Txt.join z [x] from rfl)
  .exact congrArg cds (show x=Txt.join z [x] from rfl)
theorem Y0 {c n:Nat}{z:Str}(hz:cds z=List.replicate n c){l:List Nat}{ps:List (List Nat)}(h:Rd.IsSplit [c] l ps):∀qs:List Str,qs.map cds=ps->cds (Txt.join z qs)=rp c n l:=by
 induction h with
 |
  @one p hf=>
  intro qs e
  match qs,e with
  |
   [q],e=>
   injection e with e1 _
   rw[Ky]
   show cds q++[]=_
   rw[Cq,e1]
   refine(Ke fun hm=>?_).symm
   obtain⟨i,hi⟩:=List.mem_iff_getElem?.mp hm
   exact OO hf (by have:=(BE.mp hi).1;omega) hi
 |
  @cut p l ps hf ht ih=>
  intro qs e
  match qs,e with
  |
   q::qs,e=>
   injection e with e1 e2
   have hq:qs≠[]:=fun y=>ht.ne (by rw[←e2,y];rfl)
   obtain⟨q2,qs2,rfl⟩:∃a b,qs=a::b:=by
    cases qs with
    |nil=>exact absurd rfl hq
    |cons a b=>exact⟨a,b,rfl⟩
   have ih2:=ih (q2::qs2) e2
   rw[Ky]at ih2 ⊢
   rw[BN,N0,BC,ih2,Kb,Kb,OG,e1,hz]
   congr 1
   refine(Ke fun hm=>?_).symm
   obtain⟨i,hi⟩:=List.mem_iff_getElem?.mp hm
   have hl:=(BE.mp hi).1
   exact OO hf hl (by rw[DM hl];exact hi)
theorem SU (x:Str)(c:Nat)(n:Int)(hc:c<256):cds (Txt.replace x ⟨#[c]⟩ (Txt.mul ⟨#[c]⟩ n))=rp c n.toNat (cds x):=by
 have h:=Rd.split_is x ⟨#[c]⟩ (Aj _) (fun d hd=>by have e:d=c:=(by simpa[cds] using hd);omega)
 have hcd:cds ⟨#[c]⟩=[c]:=rfl
 rw[hcd]at h
 rw[Ti x _ c hc]
 exact Y0 (MK c n) h _ rfl
theorem W8 {prog:Program}{w:World}{A:Around}{E:Value->Shared->Prop}{s:Shared}{x:Str}{t u:Tok}{Q:Value->Shared->Prop}{n:Int}(hok:MulOk x n)(h:∀t' k,(t'=t\/t'=s.toks)->Q (.str (Txt.mul x n) t') {s with toks:=k}):wpAny (model prog w) A (binaryOp .Mult (.str x t) (.int n u)) Q E s:=by
 refine P.mul_str hok.1 hok.2.1 hok.2.2 ?_
 unfold Txt.mul at h
 by_cases h1:n<1
 .rw[Af h1]
  have h':=h s.toks (s.toks+1) (.inr rfl)
  rw[Af h1]at h'
  exact⟨by decide,h'⟩
 .rw[Ab h1]at h ⊢
  by_cases hc:(n==1||x.length==0)=true
  .rw[Af hc]at h ⊢
   exact h t s.toks (.inl rfl)
  .rw[Ab hc]at h ⊢
   exact⟨fits_reps (hok.2.2 h1 (by simpa using hc)),h s.toks (s.toks+1) (.inr rfl)⟩
def IF (K:Ya):Bool:=match K.lookup cStatics with
 |
  some ⟨_,_,.dict es _,_⟩=>es.toList.all (fun e=>match e.key with
  |.str _ _=>true
  |_=>false)&&(nsFind es sharingNotToldKey).isNone
 |_=>false
theorem UD {K:Ya}{h:Heap}(X:K.In h)(q:IF K=true):NoneBooked h:=by
 unfold IF at q
 split at q
 .rename_i c d es n sl ho
  rw[GC]at q
  refine⟨fun name=>nsFind es name,⟨_,es,n,X _ _ ho,rfl,fun e he=>?_,fun _=>rfl⟩,Option.isNone_iff_eq_none.mp q.2⟩
  have:=FY.mp q.1 e (Qk.mpr he)
  split at this
  .rename_i k t hk
   exact⟨k,t,hk⟩
  .cases this
 .cases q
section
variable {X:Cx}{e o:Expr}{te to:TE}{pos:Pos}
def On (X:Cx)(e:Expr)(t:TE):Prop:=
 ∀(pins:List (Addr×Obj)) (s:Shared) (σ:St) (H:Hp) (Q:VK),A5 X pins σ H s->t σ H Q->wpAny (model X.prog X.w) X.A (eval e X.env) (fun v s'=>EP X pins σ Q v s'/\1<=s'.toks) X.xe s
def OT (X:Cx)(st:Stmt)(t:TS):Prop:=
 ∀(pins:List (Addr×Obj)) (s:Shared) (σ:St) (H:Hp) (D:DG),A5 X pins σ H s->t D σ H->wpAny (model X.prog X.w) X.A (exec st X.env) (fun f s'=>SP X pins D f s'/\1<=s'.toks) X.xe s
def Q3 (X:Cx)(st:Stmt)(t:TS):Prop:=
 ∀(pins:List (Addr×Obj)) (s:Shared) (σ:St) (H:Hp) (D:DG),1<=s.toks->A5 X pins σ H s->t D σ H->wpAny (model X.prog X.w) X.A (exec st X.env) (SP X pins D) X.xe s
theorem X9 {i:Nat}{x:Str}{pos':Pos}(hN:X.N.Nodup)(hi:X.N[i]?=some x)(hx:FO X.env.scope x)(he:On X e te)(hs:swapsWith e (some (.Name x pos')) pos.line X.env=pure false:=by rfl)(hf:X.fn x=true\/X.env.scope.names.lookup x=some .local:=by first|exact .inl rfl|exact .inr rfl|assumption) :
  OT X (.Assign [.Name x pos'] e pos) (Gb te (Am i)):=by
 intro pins s σ H D I h
 refine wpAny_Assign_Name (Ao (he pins s σ H _ I h) fun v s1 zz=>?_) hs
 obtain⟨⟨y,H1,I1,r1,q1⟩,hp⟩:=zz
 exact Rd.wpAny_toks hp (II I1 hN hi hx r1 (fun s2 I2=>⟨_,H1,I2,q1⟩) hf)
theorem VJ {c:Expr}{tc:TT}{p2:Pos}(hc:PT X c tc)(he:Ha X e te):Q3 X (.If c [.Return (some e) p2] [] pos) (JJ tc (Gm te) Ia):=by
 intro pins s σ H D hp I h
 refine wpAny_If (Ao (Rd.wpAny_toks hp (hc pins s σ H _ I h)) fun d s1 zz=>?_)
 obtain⟨⟨H1,I1,q1⟩,hp1⟩:=zz
 cases d with
 |
  true=>
  refine L3 (wpAny_Return_some (Ao (he pins s1 σ H1 _ hp1 I1 q1) fun v s2 zz=>?_))
  obtain⟨x,H2,I2,r2,q2⟩:=zz
  exact⟨x,σ,H2,I2,r2,q2⟩
 |false=>exact L1 ⟨σ,H1,I1,q1⟩
theorem SW {s1 s2:Stmt}{rest:List Stmt}{t1 t2 u:TS}(h1:OT X s1 t1)(h2:Q3 X s2 t2)(h3:DL X rest u):DL X (s1::s2::rest) (DO t1 (DO t2 u)):=by
 intro pins s σ H D I h
 refine L3 (Ao (h1 pins s σ H {D with nx:=DO t2 u D} I h) fun f s1 zz=>?_)
 obtain⟨q,hp⟩:=zz
 cases f with
 |
  next=>
  obtain⟨σ',H',I',q⟩:=q
  refine L3 (Ao (h2 pins s1 σ' H' {D with nx:=u D} hp I' q) fun f s2 q=>?_)
  cases f with
  |
   next=>
   obtain⟨σ',H',I',q⟩:=q
   exact h3 pins s2 σ' H' D I' q
  |ret v=>exact q
  |brk=>exact q
  |cont=>exact q
 |ret v=>exact q
 |brk=>exact q
 |cont=>exact q
theorem TR {c:Str}{j:Nat}{cp apos:Pos}(ho:PE X o to)
  (hbase:attributeBase o "find" X.env (eval o X.env)=eval o X.env:=by rfl)
  (hfew:((backTo pos (starEach [.Constant (.str c) j cp] X.env)).all (fun x=>!x.1)&&(backToKw pos (keywordEach [] X.env)).all (fun x=>x.1.isSome)
   && decide (([.Constant (.str c) j cp]:List Expr).length+([]:List Keyword).length+(if([]:List Keyword).isEmpty then 0 else 1)<30))=true:=by rfl)
  (hline:(apos.endLine==pos.line)=true:=by rfl) :
  On X (.Call (.Attribute o "find" apos) [.Constant (.str c) j cp] [] pos) (Mc X.K "str" (fun x xs H Q=>∃z y,x = .str z/\xs=[.str y]/\Q (.int (Txt.find z y)) H) to (Gg (tC (.str c)) FB)):=by
 intro pins s σ H Q I h
 refine Nm hbase hfew hline rfl (Ao (ho pins s σ H _ I h) fun v s1 zz=>?_)
 obtain⟨x,H1,I1,r1,ty,q1⟩:=zz
 obtain⟨h1,h2⟩:=IC I1 r1 ty
 refine⟨"str","str.find",F.plainAttrs_str,F.slot_str_find,F.type_str_find,h1,h2,?_⟩
 obtain⟨z,y,rfl,e,q⟩:=q1
 injection e with e _
 injection e with e
 subst e
 obtain⟨t,rfl⟩:=r1
 refine Calls.callWith_builtin rfl (Calls.evalArgs_plain ?_)
 show wpAny _ _ (spliced ((false,eval (.Constant (.str c) j cp) X.env)::[])) _ _ _
 refine Calls.spliced_cons (J1 (Calls.spliced_nil ?_))
 exact Rd.wpAny_toks (s:={s1 with toks:=s1.toks+1}) (N8 (Bw _)) (SC.find ⟨.int _,H1,I1.tok _,⟨_,rfl⟩,q⟩)
def XS (K:Ya)(c:Nat)(to te:TE):TE:=fun σ H Q=>to σ H fun x H1=>Kl K "str" x H1/\te σ H1 fun y H2=>∃(z:Str) (n:Int),x = .str z/\y = .int n/\0<=n/\n<=100/\z.length<=100000/\Q (.str (AB (rp c n.toNat (cds z)))) H2
theorem Sw {c:Nat}{y w':Str}{j1 j2:Nat}{p1 p2 bp apos:Pos}(hnb:IF X.K=true)(hy:y=⟨#[c]⟩)(hw:w'=⟨#[c]⟩)(hc:c<256)(ho:PE X o to)(he:PE X e te)
  (hbase:attributeBase o "replace" X.env (eval o X.env)=eval o X.env:=by rfl)
  (hfew:((backTo pos (starEach [.Constant (.str y) j1 p1,.BinOp (.Constant (.str w') j2 p2) .Mult e bp] X.env)).all (fun x=>!x.1)&&(backToKw pos (keywordEach [] X.env)).all (fun x=>x.1.isSome)
   && decide (([.Constant (.str y) j1 p1,.BinOp (.Constant (.str w') j2 p2) .Mult e bp]:List Expr).length+([]:List Keyword).length+(if([]:List Keyword).isEmpty then 0 else 1)<30))=true:=by rfl)
  (hline:(apos.endLine==pos.line)=true:=by rfl) :
  Ha X (.Call (.Attribute o "replace" apos) [.Constant (.str y) j1 p1,.BinOp (.Constant (.str w') j2 p2) .Mult e bp] [] pos) (XS X.K c to te):=by
 intro pins s σ H Q hp I h
 refine Nm hbase hfew hline rfl (Ao (Rd.wpAny_toks hp (ho pins s σ H _ I h)) fun v s1 zz=>?_)
 obtain⟨⟨x,H1,I1,r1,ty,q1⟩,hp1⟩:=zz
 obtain⟨h1,h2⟩:=IC I1 r1 ty
 refine⟨"str","str.replace",F.plainAttrs_str,F.slot_str_replace,F.type_str_replace,h1,h2,?_⟩
 refine Calls.callWith_builtin rfl (Calls.evalArgs_plain ?_)
 show wpAny _ _ (spliced ((false,eval (.Constant (.str y) j1 p1) X.env)::(false,eval (.BinOp (.Constant (.str w') j2 p2) .Mult e bp) X.env)::[])) _ _ _
 refine Calls.spliced_cons (J1 (Calls.spliced_cons ?_))
 refine wpAny_BinOp (J1 ?_)
 refine Ao (Rd.wpAny_toks (n:=s1.toks+1+1) (Aj _) (he pins {s1 with toks:=s1.toks+1+1} σ H1 _ (I1.tok _) q1)) fun v2 s2 zz=>?_
 obtain⟨⟨y2,H2,I2,r2,q2⟩,hp2⟩:=zz
 obtain⟨z,n,rfl,rfl,n0,n1,zl,q⟩:=q2
 obtain⟨t,rfl⟩:=r1
 obtain⟨t2,rfl⟩:=r2
 subst hy hw
 have ml:(Txt.mul ⟨#[c]⟩ n).length<=100:=len_mul_one rfl n1
 refine W8 (mulOk_of 4096 4096 (by show 1<=4096;decide) (by omega) (by omega) (by decide) (by decide)) fun t' k ht=>Calls.spliced_nil ?_
 have u1:s1.toks≠0:=by omega
 have ht:t'=s1.toks+1\/t'=s2.toks:=ht
 have hg:s1.toks<t':=by rcases ht with rfl|rfl<;>omega
 refine SC.replaceW2 100000 100 (by decide) u1 (fun y=>Nat.not_lt_zero _ (y▸hg)) (Co hg) zl ml (fun t3 k3=>⟨.str _,H2,I2.tok _,⟨t3,?_⟩,q⟩) (UD (I2.tok k).kIn hnb)
 exact congrArg (fun y=>Value.str y t3) (CN (by rw[B6];exact SU z c n hc))
end
end L2
namespace Rd
open PySem PySem.Spec L2 EX
theorem rk_short {ns:List Str}{k:Rk}(h:Rok ns k):(rkS k).length<=1300/\(isD k=false->(rkS k).length<=200):=by
 cases k with
 |
  sz n=>
  obtain⟨g,_⟩:=nS_good (i:=n) (by have:=h.1;omega) h.2
  have e:("size ":Str).length=5:=by decide +kernel
  have:=g.2.1
  rw[cds_len]at this
  have:(rkS (.sz n)).length<=200:=by
   show("size "++nS n).length<=200
   rw[Ax]
   omega
  exact⟨by omega,fun _=>this⟩
 |
  opn t=>
  have hn:=h.1.2.1
  rw[cds_len]at hn
  have:=LX (t:=t) ⟨by omega,h.2.1.2,h.2.2.2⟩
  have:(rkS (.opn t)).length<=200:=this
  exact⟨by omega,fun _=>this⟩
 |
  fin=>
  have:(rkS .fin).length<=200:=by show("end":Str).length<=200;decide +kernel
  exact⟨by omega,fun _=>this⟩
 |
  ded tb sp ks t=>
  obtain⟨nms,lk,tk,rfl,hs⟩:=h
  have e:(" = ":Str).length=3:=by decide +kernel
  have h1:=lk.tok
  have h1:=Fg h1.1 h1.2.1 h1.2.2
  have h2:=Tw.wr_len tk.ok
  refine⟨?_,fun z=>nomatch z⟩
  show(Ba tb sp++" = "++t.wr).length<=1300
  rw[Ax,Ax]
  omega
theorem Q9 (m:Nat)(l:List Nat):(List.replicate m 32++l).dropWhile (· == 32)=l.dropWhile (· == 32):=by
 induction m with
 |zero=>rfl
 |
  succ m ih=>
  rw[Qx,Dz,Fz,Af (by decide)]
  exact ih
theorem Rc {a b:List Nat}(h:a.filter (· != 32)≠[]):(a++b).dropWhile (· == 32)=a.dropWhile (· == 32)++b:=by
 induction a with
 |nil=>exact absurd rfl h
 |
  cons d a ih=>
  rw[Dz,Fz,Fz]
  split
  .rename_i hd
   refine ih ?_
   rw[DV,Ab (by simpa using hd)]at h
   exact h
  .rfl
theorem PN {T:List Nat}(m j:Nat)(h:T.filter (· != 32)≠[]):stp 32 (List.replicate m 32++T++List.replicate j 32)=stp 32 T:=by
 unfold stp
 rw[BC,Q9,Rc h,Ni,List.reverse_replicate,Q9]
theorem Rb {T tail:List Nat}(m:Nat)(h59:59∉T)(hn:T.filter (· != 32)≠[])(ht:tail=[]\/∃j x,tail=List.replicate j 32++59::x):bare (List.replicate m 32++T++tail)=bare T:=by
 have r59:∀n:Nat,59∉List.replicate n 32:=fun n z=>absurd (IW z) (by decide)
 rw[HG h59]
 rcases ht with rfl|⟨j,x,rfl⟩
 .rw[Cq,HG fun z=>(Bl.mp z).elim (r59 m) h59]
  have:=PN m 0 hn
  rw[List.replicate_zero,Cq]at this
  exact this
 .unfold bare
  have e:List.replicate m 32++T++(List.replicate j 32++59::x)=(List.replicate m 32++T++List.replicate j 32)++59::x:=by simp only[BC]
  rw[e,Af (Cp _ AA),(bef_app fun z=>?_).1]
  .exact PN m j hn
  .rcases Bl.mp z with z|z
   .exact(Bl.mp z).elim (r59 m) h59
   .exact r59 j z
def DF (n:Nat):List (List Nat)->List Nat
 |[]=>[]
 |[a]=>a
 |a::b::l=>a++(List.replicate n 32++DF n (b::l))
theorem Od (n:Nat):∀{ws:List (List Nat)},(∀w∈ws,32∉w)->rp 32 n (wj ws)=DF n ws
 |[],_=>rfl
 |[a],h=>Ke (h a AA)
 |
  a::b::l,h=>by
  show rp 32 n (a++([32]++wj (b::l)))=a++(List.replicate n 32++DF n (b::l))
  rw[Kb,Kb,OG,Ke (h a AA),Od n fun w hw=>h w (B8 _ hw)]
theorem Se {l:List Nat}{ps:List (List Nat)}{a:List Nat}(ha:32∉a)(h:IsSplit [32] l ps):∀n:Nat,IsSplit [32] (a++(List.replicate (n+1) 32++l)) (a::(List.replicate n []++ps)):=by
 intro n
 induction n generalizing a with
 |zero=>exact .cut' ha h
 |
  succ n ih=>
  rw[Qx,Qx (n:=n) (a:=([]:List Nat)),Dz,Dz]
  have:=ih (a:=[]) (fun z=>nomatch z)
  exact .cut' ha this
theorem Py (n:Nat):∀{ws:List (List Nat)},ws≠[]->(∀w∈ws,32∉w/\w≠[])->∃ps,IsSplit [32] (DF (n+1) ws) ps/\ps.filter (fun p=>decide (p≠[]))=ws
 |[],h,_=>absurd rfl h
 |[a],_,h=>⟨[a],.one' (h a AA).1,by rw[DV,Af (B1 (h a AA).2)];rfl⟩
 |
  a::b::l,_,h=>by
  obtain⟨ps,h1,h2⟩:=Py n (ws:=b::l) (Cy _ _) fun w hw=>h w (B8 _ hw)
  refine⟨_,Se (h a AA).1 h1 n,?_⟩
  rw[DV,Af (B1 (h a AA).2),G0,h2]
  have:(List.replicate n ([]:List Nat)).filter (fun p=>decide (p≠[]))=[]:=List.filter_eq_nil_iff.mpr fun x hx=>by rw[IW hx];decide
  rw[this]
  rfl
theorem RK {l:List Nat}{ps:List (List Nat)}{ws:List Str}(h:IsSplit [32] l ps)(e:ps.filter (fun p=>decide (p≠[]))=ws.map cds):Wds l ws:=by
 refine⟨ps.map AB,?_,?_⟩
 .rw[IV,show ps.map (cds∘AB)=ps from(Qn fun x _=>B6 x).trans (List.map_id _)]
  exact h
 .refine map_cds_inj ?_
  rw[←e]
  clear h e
  induction ps with
  |nil=>rfl
  |
   cons p ps ih=>
   rw[BN,DV,DV]
   by_cases hp:p=[]
   .subst hp
    rw[Ab (by decide +kernel),Ab (by decide)]
    exact ih
   .have hne:AB p≠Str.ofString "":=fun z=>hp (by have z:=congrArg cds z;rw[B6]at z;exact z)
    rw[Af (B1 hne),Af (B1 hp),BN,ih,B6]
theorem P1 {c n:Nat}(hc:c≠32):∀{ws:List (List Nat)},(∀w∈ws,c∉w)->c∉DF n ws
 |[],_=>fun z=>nomatch z
 |[a],h=>h a AA
 |
  a::b::l,h=>fun z=>by
  have z:c∈a++(List.replicate n 32++DF n (b::l)):=z
  rcases Bl.mp z with z|z
  .exact h a AA z
  .rcases Bl.mp z with z|z
   .exact hc (IW z)
   .exact P1 hc (ws:=b::l) (fun w hw=>h w (B8 _ hw)) z
theorem PZ (n:Nat):∀{ws:List (List Nat)},ws≠[]->(∀w∈ws,32∉w/\w≠[])->(∃c r,DF n ws=c::r/\c≠32)/\∃s d,DF n ws=s++[d]/\d≠32
 |[],h,_=>absurd rfl h
 |
  [a],_,h=>by
  obtain⟨h1,h2⟩:=h a AA
  refine⟨?_,ON h2 h1⟩
  cases a with
  |nil=>exact absurd rfl h2
  |cons c a=>exact⟨c,a,rfl,fun z=>h1 (z▸AA)⟩
 |
  a::b::l,_,h=>by
  obtain⟨_,s,d,e,hd⟩:=PZ n (ws:=b::l) (Cy _ _) fun w hw=>h w (B8 _ hw)
  obtain⟨h1,h2⟩:=h a AA
  refine⟨?_,a++(List.replicate n 32++s),d,?_,hd⟩
  .cases a with
   |nil=>exact absurd rfl h2
   |cons c a=>exact⟨c,_,rfl,fun z=>h1 (z▸AA)⟩
  .show a++(List.replicate n 32++DF n (b::l))=_
   rw[e]
   simp
structure Kx (k:Rk)(T:List Nat):Prop where
 ne:bare T≠[]
 rt:FT (bare T) k
 n10:10∉T
 n59:59∉T
 nb:T.filter (· != 32)≠[]
 ln:T.length<=1400
theorem sprd_words {ns:List Str}{k:Rk}(h:Rok ns k)(hd:isD k=false)(n:Nat)(hn:n<=2):Kx k (rp 32 (n+1) (cds (rkS k))):=by
 have hw:=J6 h
 have h2:∀w∈(CF k).map cds,32∉w/\w≠[]:=fun w hw'=>by
  obtain⟨z,hz,rfl⟩:=CK.mp hw'
  exact⟨(hw z hz).2.1,(hw z hz).1⟩
 have hm:(CF k).map cds≠[]:=fun z=>Oz k (Nd.mp z)
 have fr:∀{c:Nat},c≠32->(∀w∈CF k,c∉cds w)->c∉DF (n+1) ((CF k).map cds):=fun{c} hc hw'=>P1 hc fun w hw2=>by
  obtain⟨z,hz,rfl⟩:=CK.mp hw2
  exact hw' z hz
 have e:rp 32 (n+1) (cds (rkS k))=DF (n+1) ((CF k).map cds):=by rw[Hg];exact Od _ fun w hw=>(h2 w hw).1
 have len:(rp 32 (n+1) (cds (rkS k))).length<=3*(cds (rkS k)).length:=by
  generalize cds (rkS k)=l
  induction l with
  |nil=>exact Aj _
  |
   cons d l ih=>
   show((if d=32 then List.replicate (n+1) 32 else[d])++rp 32 (n+1) l).length<=3*(l.length+1)
   rw[Ah]
   have:(if d=32 then List.replicate (n+1) 32 else[d]).length<=3:=by
    split
    .rw[KP];omega
    .show 1<=3;decide
   omega
 have l2:=(rk_short h).2 hd
 rw[←cds_len]at l2
 have n59:59∉DF (n+1) ((CF k).map cds):=fr (by decide) fun w hw'=>(hw w hw').2.2.1
 have n10:10∉DF (n+1) ((CF k).map cds):=fr (by decide) fun w hw'=>(hw w hw').2.2.2
 obtain⟨⟨c,r,e1,hc⟩,s,d,e2,hd2⟩:=PZ (n+1) hm h2
 have hb:bare (DF (n+1) ((CF k).map cds))=DF (n+1) ((CF k).map cds):=(HG n59).trans (NG e1 e2 hc hd2)
 obtain⟨ps,p1,p2⟩:=Py n hm h2
 have W:=RK (ws:=CF k) p1 p2
 rw[e]at len ⊢
 refine⟨by rw[hb,e1];exact Cy _ _,?_,n10,n59,?_,by omega⟩
 .rw[hb]
  cases k with
  |sz n=>exact W
  |opn t=>exact W
  |fin=>exact W
  |ded tb sp ks t=>cases hd
 .rw[e1,DV,Af (Ep.mpr hc)]
  exact Cy _ _
theorem sprd_ded {ns:List Str}{tb:Str}{sp:List (Str×Int)}{ks:List Tk}{t:Tw}{l':List Nat}(h:Rok ns (.ded tb sp ks t))(b:Lv (cds tb).length (cds (rkS (.ded tb sp ks t))) l'):Kx (.ded tb sp ks t) l':=by
 have hl:=(rk_short h).1
 have bl:=KB b
 rw[cds_len]at bl
 obtain⟨nms,lk,tk,rfl,_⟩:=h
 have d:=Mq (Q6 lk tk) b
 obtain⟨r1,r2,r3⟩:=Pu lk.ok d t
 obtain⟨r,e,hf,_,h59⟩:=d
 have n59:59∉l':=by rw[e];exact fun z=>(Bl.mp z).elim (name_no lk.ok.1 (by omega)) h59
 refine⟨r1,r2,r3,n59,?_,by omega⟩
 rw[e,G0]
 intro z
 have:=(Qw.mp z).2
 rw[hf]at this
 cases this
def RB:Str:=⟨#[32,33,34,35,36,38,39,40,41,42,43,44,45,46,47,48,49,50,51,52,53,54,55,56,57,58,59,60,61,62,63,64,65,66,67,68,69,70,71,72,73,74,75,76,77,78,79,80,81,82,83,84,85,86,87,88,89,90,91,92,93,94,95,96,97,98,99,100,101,102,103,104,105,106,107,108,109,110,111,112,113,114,115,116,117,118,119,120,121,122,123,124,125,126]⟩
theorem sign_at {z:Str}(e:z=RB)(c:Int):∃d:Nat,Bu (cds z) (c%94)=some d/\d≠10:=by
 have h0:=BY c (show(94:Int)≠0 by decide)
 have h1:=C9 c (show(0:Int)<94 by decide)
 obtain⟨k,hk⟩:∃k:Nat,c%94=(k:Int):=⟨(c%94).toNat,by omega⟩
 have hl:(cds z).length=94:=by rw[e];rfl
 have hlt:k<(cds z).length:=by omega
 rw[hk]
 refine⟨(cds z)[k],D6 (BB hlt),fun hz=>?_⟩
 have hm:(cds z)[k]∈cds z:=F6 hlt
 rw[hz,e]at hm
 exact absurd hm (by decide +kernel)
theorem no_bracket {ns:List Str}{k:Rk}(h:Rok ns k)(hd:isD k=false):91∉cds (rkS k):=by
 rw[Hg]
 refine HM (by decide) fun w hw=>?_
 obtain⟨y,hy,rfl⟩:=CK.mp hw
 cases k with
 |
  sz n=>
  obtain⟨g,_⟩:=nS_good (i:=n) (by have:=h.1;omega) h.2
  simp only[CF,AG,CL,or_false]at hy
  rcases hy with rfl|rfl
  .decide +kernel
  .exact Ej g (by omega)
 |
  opn t=>
  simp only[CF,AG,CL,or_false]at hy
  rcases hy with rfl|rfl|rfl|rfl
  .decide +kernel
  .exact name_no h.1 (by omega)
  .exact spot_free h.2.1 (by omega)
  .exact spot_free h.2.2 (by omega)
 |
  fin=>
  simp only[CF,AG,CL,or_false]at hy
  subst hy
  decide +kernel
 |ded tb sp ks t=>cases hd
theorem at_bracket {ns:List Str}{tb:Str}{sp:List (Str×Int)}{ks:List Tk}{t:Tw}(h:Rok ns (.ded tb sp ks t)):Hf 91 (cds (rkS (.ded tb sp ks t)))=(((cds tb).length:Nat):Int):=by
 obtain⟨nms,lk,_⟩:=h
 have e:cds (rkS (.ded tb sp ks t))=cds tb++91::(inner (sp.map fun s=>cds (B5 s))++[93]++cds (" = "++t.wr)):=by
  show cds (Ba tb sp++" = "++t.wr)=_
  rw[AS,AS,AS,cel_cds lk.ok.2.1]
  simp only[BC,Dz]
 rw[e]
 unfold Hf
 rw[Af (Cp _ AA)]
 have n91:91∉cds tb:=name_no lk.ok.1 (by omega)
 rw[Ir (i:=(cds tb).length) (by rw[CJ (Aj _),CO];rfl) fun k hk z=>n91 (by rw[DM hk]at z;exact C8 z)]
def spSign:Sp:=fun vs H Q _=>∃c:Int,vs=[.int c]/\∀d:Nat,d≠10->Q (.str ⟨#[d]⟩) H
def spSpread:Sp:=fun vs H Q _=>∃(ns:List Str) (k:Rk) (x:Int),vs=[.str (rkS k),.int x]/\Rok ns k/\∀(z:Str) (H':Hp),A7 H H'->Kx k (cds z)->Q (.str z) H'
def Nz (kk:List Rk)(rows:List Str):Prop:=(∀y∈rows,y.length<=2000/\10∉cds y)/\rows.length<=3*kk.length+2/\∀(f:Str->Nat) (D E:Dr),Stps f D kk E->Rds f rows D E
theorem Nz.nil:Nz [] []:=⟨fun y hy=>(by cases hy),Bw _,fun f D E h=>by cases h;exact .nil⟩
theorem Nz.row {kk:List Rk}{rows:List Str}{k:Rk}{z:Str}{T tail:List Nat}{m:Nat}(h:Nz kk rows)(s:Kx k T)(e:cds z=List.replicate m 32++T++tail)(ht:tail=[]\/∃j x,tail=List.replicate j 32++59::x)(hz:z.length<=2000/\10∉cds z):Nz (kk++[k]) (rows++[z]):=by
 refine⟨mem_snoc h.1 hz,by rw[Ah,Ah];have:=h.2.1;show _+1<=3*(_+1)+2;omega,fun f D E hS=>?_⟩
 obtain⟨F,s1,s2⟩:∃F,Stps f D kk F/\EN f F E k:=by
  clear h s e
  generalize hk:kk++[k]=l at hS
  induction hS generalizing kk with
  |nil=>simp at hk
  |
   @cons D D' E a l st rest ih=>
   cases kk with
   |
    nil=>
    injection hk with e1 e2
    subst e1
    rw[←e2]at rest
    cases rest
    exact⟨D,.nil,st⟩
   |
    cons b kk=>
    injection hk with e1 e2
    subst e1
    obtain⟨F,a1,a2⟩:=ih e2
    exact⟨F,.cons st a1,a2⟩
 have hb:=Rb m s.n59 s.nb ht
 rw[←e]at hb
 exact(h.2.2 f D F s1).app (.row (by rw[hb];exact s.ne) (by rw[hb];exact s.rt) s2 .nil)
theorem Nz.no {kk:List Rk}{rows:List Str}{z:Str}(h:Nz kk rows)(hl:rows.length+1<=3*kk.length+2)(hb:bare (cds z)=[])(hz:z.length<=2000/\10∉cds z):Nz kk (rows++[z]):=
 ⟨mem_snoc h.1 hz,by rw[Ah];exact hl,fun f D E hS=>(h.2.2 f D E hS).app (.no hb .nil)⟩
theorem rem_bare (x:List Nat):bare (59::x)=[]:=by
 unfold bare
 have:=bef_app (c:=59) (x:=[]) (y:=x) (fun z=>nomatch z)
 rw[KU]at this
 rw[Af AA,this.1]
 rfl
theorem pickA {i:Int}(h0:0<=i)(h1:i<2):∃(u:Str) (j:Nat),Bu [V.str " ;",V.str ";"] i=some (.str u)/\cds u=List.replicate j 32++[59]/\u.length<=2:=by
 have:i=0\/i=1:=by omega
 rcases this with rfl|rfl
 .exact⟨" ;",1,rfl,by decide +kernel,by decide +kernel⟩
 .exact⟨";",0,rfl,by decide +kernel,by decide +kernel⟩
theorem pickB {i:Int}(h0:0<=i)(h1:i<4):∃u:Str,Bu [V.str "",V.str "  ",V.str ";",V.str " ; end"] i=some (.str u)/\bare (cds u)=[]/\10∉cds u/\u.length<=10:=by
 have:i=0\/i=1\/i=2\/i=3:=by omega
 rcases this with rfl|rfl|rfl|rfl
 .exact⟨"",rfl,by decide +kernel,by decide +kernel,by decide +kernel⟩
 .exact⟨"  ",rfl,by decide +kernel,by decide +kernel,by decide +kernel⟩
 .exact⟨";",rfl,by decide +kernel,by decide +kernel,by decide +kernel⟩
 .exact⟨" ; end",rfl,by decide +kernel,by decide +kernel,by decide +kernel⟩
def spNoisy:Sp:=fun vs H Q _=>∃(ns:List Str) (rl:Addr) (xs:List V) (R:Pw.Rw Ak Str) (ks:List Rk) (n c:Int),vs=[.ref rl,.int n,.int c]/\H rl=some (.lst xs)/\AH (Gq H) xs R/\R.map (fun p=>FL p.2)=ks.map rkS/\(∀k∈ks,Rok ns k)/\2<=n/\n<=999999999999999999/\ks.length<=70/\
 ∀(H':Hp) (rows:List Str),A7 H H'->rows≠[]->Nz (.sz n::ks) rows->Q (.str (Txt.join "\n" rows)) H'
def spReadB (CP C:Addr)(c:Cs):Sp:=fun vs H Q _=>∃(f:Str->Nat) (z:Str) (rows:List Str) (E:Dr) (n:Int),vs=[.str z]/\z.length<=900000/\IsSplit [10] (cds z) (rows.map cds)/\rows.length<=1000/\(∀y∈rows,y.length<=100000)/\Rds f rows D0 E/\E.sz=some n/\E.dd≠[]/\E.lp=[]/\∀(x dx fl:Addr) (ds:List V) (H':Hp),A7 H H'->H' x=some (.ins CP dx [("size",.int n),("deeds",.ref fl)])->H' fl=some (.lst ds)->AH (DQ C c H') ds E.dd->H fl=none->Q (.ref x) H'
def spPInitN (C:Addr):Sp:=fun vs H Q _=>∃(x dx l:Addr) (v1:V) (xs:List V),vs=[.ref x,v1,.ref l]/\H x=some (.ins C dx [])/\H l=some (.lst xs)/\xs.length<=1000/\∀(H':Hp) (dl:Addr),(∀b o,H b=some o->b≠x->H' b=some o)->(∃dx,H' x=some (.ins C dx [("size",v1),("deeds",.ref dl)]))->H' dl=some (.lst xs)->H dl=none->Q .non H'
end Rd
namespace Rd
open PySem PySem.Spec L2 EX
theorem Dk.old {ns:List Str}{D:Dw}(h:Dk ns D){ts:List Ak}{path:List Int}(o:K2 ts)(pl:path.length=ts.length+1)(eL:D.loops=ts)(eP:D.path=path):D.Ok:=by
 subst eL eP
 refine⟨fun t ht=>?_,o.1,pl,h.c.tok,h.t.ok,h.s⟩
 obtain⟨h1,h2,h3⟩:=o.2 t ht
 have:=h1.2.1
 rw[cds_len]at this
 exact⟨BI this (by decide),h2.2,h3.2⟩
def spProg29 (K:Ya):Sp:=fun vs H Q _=>∃(cl nl:Addr) (cs:List Int) (ns:List Str),vs=[.ref cl,.ref nl]/\A3 K H cl (cs.map V.int)/\cs.length<=63/\F3 H nl ns/\∀(t rl dl:Addr) (H':Hp) (xs ys:List V) (R:Pw.Rw Ak Str) (Ds:List Dw) (ks:List Rk) (la:Int),A7 H H'->H' t=some (.tup [.ref rl,.ref dl])->H' rl=some (.lst xs)->AH (Gq H') xs R->H' dl=some (.lst ys)->AH (Fq H') ys Ds->Rn ns R [] [la] Ds ks [] la->Ds≠[]->R.length<=70->Pw.LinA 0 (Ds.map Dw.dd) R->Pw.CC 0 (Ds.map Dw.dd)->(∀D∈Ds,D.Ok)->Q (.ref t) H'
theorem nz_plain {ns:List Str}:∀{R:Pw.Rw Ak Str} {ks:List Rk},R.map (fun p=>FL p.2)=ks.map rkS->(∀k∈ks,Rok ns k)->(∀p∈R,p.1<=3)->∀{kk:List Rk} {rows:List Str},Nz kk rows->Nz (kk++ks) (rows++R.map Bg)
 |[],[],_,_,_,kk,rows,h=>by rw[MX,Cq,Cq];exact h
 |[],_::_,e,_,_,_,_,_=>nomatch e
 |_::_,[],e,_,_,_,_,_=>nomatch e
 |
  p::R,k::ks,e,ok,dp,kk,rows,h=>by
  rw[BN,BN]at e
  injection e with e1 e2
  have okk:=ok k AA
  have r:=Kd okk
  have sh:=(rk_short okk).1
  have d3:=dp p AA
  have n59:59∉cds (rkS k):=by
   rw[Hg]
   refine HM (by decide) fun w hw=>?_
   obtain⟨z,hz,rfl⟩:=CK.mp hw
   exact(J6 okk z hz).2.2.1
  have nb:(cds (rkS k)).filter (· != 32)≠[]:=by
   rw[Hg]
   obtain⟨c,r,e,hc⟩:=PJ (ws:=(CF k).map cds) (fun z=>Oz k (Nd.mp z)) fun w hw=>by
    obtain⟨z,hz,rfl⟩:=CK.mp hw
    exact⟨(J6 okk z hz).2.1,(J6 okk z hz).1⟩
   rw[e,DV,Af (Ep.mpr hc)]
   exact Cy _ _
  have eb:cds (Bg p)=List.replicate p.1 32++cds (rkS k)++[]:=by
   unfold Bg
   rw[AS,e1,Cq]
   unfold EW
   rw[B6]
  have hz:(Bg p).length<=2000/\10∉cds (Bg p):=by
   refine⟨?_,?_⟩
   .rw[←cds_len,eb,Ah,Ah,KP,cds_len]
    show _+_+0<=2000
    omega
   .rw[eb,Cq]
    intro z
    rcases Bl.mp z with z|z
    .exact absurd (IW z) (by decide)
    .exact r.2.2 z
  have h2:=h.row (k:=k) ⟨r.1,r.2.1,r.2.2,n59,nb,by rw[cds_len];omega⟩ eb (.inl rfl) hz
  have:=nz_plain e2 (fun x hx=>ok x (B8 _ hx)) (fun x hx=>dp x (B8 _ hx)) h2
  rw[BC,BC]at this
  exact this
theorem nz_one {n:Int}(h:2<=n/\n<=999999999999999999):Nz [.sz n] [rkS (.sz n)]:=by
 have okk:Rok [] (.sz n):=h
 have r:=Kd okk
 have sh:=(rk_short okk).1
 refine⟨fun y hy=>?_,(by show 1<=5;decide),fun f D E hS=>?_⟩
 .rw[D8.mp hy]
  exact⟨by omega,r.2.2⟩
 .exact stps_rds (ns:=[]) hS fun k hk=>by rw[D8.mp hk];exact okk
end Rd
namespace L2
open PySem PySem.Spec PyProof.Rows
section
variable {X:Cx}{pins:List (Addr×Obj)}{s:Shared}{σ:St}{H:Hp}
end
end L2
namespace PySem
open Builtin
open AutoSeq1 (wpAny_loadPart')
end PySem
namespace L2
open PySem PySem.Spec PyProof.Rows
end L2
namespace Fo
variable {W:Type}
end Fo
namespace PySem
open PySem.Spec PyProof.Rows
open AutoSeq1 (wpAny_loadPart')
end PySem
namespace L2
open PySem PySem.Spec PyProof.Rows
end L2
namespace HU
open PySem PySem.Spec
section
variable {prog:Program}{w:World}{A:Around}{E:Value->Shared->Prop}{s:Shared}
end
end HU
namespace L2
open PySem PySem.Spec PyProof.Rows
end L2
namespace Fw
open PySem L2
def AY (i:Nat):Stmt:=PySem.Challenge.pw_furrow_k29_read_and_written_again.main.body.getD i (.Pass ⟨0,0,0,0⟩)
abbrev JW:Stmt:=Gj (AY 3) 0
abbrev Jy:Stmt:=Gj (AY 4) 0
abbrev KG:Stmt:=Gj (AY 5) 0
abbrev Je:Stmt:=Gj (AY 6) 0
abbrev K0:Stmt:=Gj (AY 8) 0
abbrev Ka:Stmt:=Gj (AY 9) 0
abbrev Iu:Stmt:=AY 34
abbrev Jg:Stmt:=AY 35
abbrev Ki:Stmt:=AY 36
abbrev JH:Stmt:=AY 38
abbrev Jp:Stmt:=AY 39
abbrev JI:Stmt:=AY 37
abbrev K8:Stmt:=AY 40
abbrev Ig:Stmt:=AY 41
abbrev K7:Stmt:=AY 60
abbrev Ho:Stmt:=AY 62
abbrev Jq:Stmt:=AY 61
abbrev KL:Stmt:=AY 59
abbrev JU:Stmt:=AY 64
abbrev Ks:Stmt:=AY 63
abbrev JK:Stmt:=Gj (AY 49) 0
abbrev HR:Stmt:=AY 57
abbrev JP:Stmt:=AY 56
abbrev KF:Stmt:=AY 58
abbrev Km:Stmt:=AY 55
abbrev JC:Stmt:=AY 52
abbrev Kt:Stmt:=AY 53
abbrev JA:Stmt:=AY 54
abbrev Kk:Stmt:=AY 51
abbrev K5:Stmt:=AY 50
abbrev JO:Stmt:=AY 10
abbrev JS:Stmt:=AY 11
abbrev Js:Stmt:=AY 12
abbrev J4:Stmt:=AY 14
abbrev J7:Stmt:=AY 15
abbrev Jz:Stmt:=AY 16
abbrev Jl:Stmt:=AY 17
abbrev Ic:Stmt:=AY 18
abbrev JZ:Stmt:=AY 19
abbrev KD:Stmt:=AY 20
abbrev Kn:Stmt:=AY 21
abbrev Kr:Stmt:=AY 22
abbrev JX:Stmt:=AY 23
abbrev JY:Stmt:=AY 24
abbrev JQ:Stmt:=AY 66
abbrev JT:Stmt:=AY 67
abbrev HN:Stmt:=AY 68
abbrev Jc:Stmt:=AY 69
abbrev Jw:Stmt:=AY 70
abbrev J5:Stmt:=AY 71
abbrev GN:Stmt:=AY 72
abbrev Jv:Stmt:=AY 73
abbrev K6:Stmt:=AY 74
abbrev K3:Stmt:=AY 75
abbrev GR:Stmt:=AY 76
abbrev Ie:Stmt:=AY 77
abbrev Ji:Stmt:=AY 78
abbrev Ku:Stmt:=AY 79
abbrev Jn:Stmt:=AY 80
abbrev HX:Stmt:=AY 81
abbrev HZ:Stmt:=AY 82
abbrev Ko:Stmt:=AY 83
theorem AV {N P:List Str}{sc:Scope}(a:sc.kind = .function:=by rfl)(b:sc.isCoroutine=false:=by rfl)(c:sc.isGenerator=false:=by rfl)(d:N.Nodup:=by decide +kernel)(e:N.take P.length=P:=by rfl)(f:∀x∈P,sc.names.lookup x=some .local\/sc.names.lookup x=some .cell:=by decide +kernel)(g:∀y∈sc.names,y.2≠.free:=by decide +kernel):AR N P sc:=⟨a,b,c,d,e,f,g⟩
theorem U2:AR ["self","n"] ["self","n"] (Az JW):=AV
theorem Wh:AR ["self","name"] ["self","name"] (Az Jy):=AV
theorem Sk:AR ["self","table","spots"] ["self","table","spots"] (Az KG):=AV
theorem VR:AR ["self","sign","left","right"] ["self","sign","left","right"] (Az Je):=AV
theorem Tn:AR ["self","names","lows","highs","table","spots","term","path"] ["self","names","lows","highs","table","spots","term","path"] (Az K0):=AV
theorem WG:AR ["self","size","deeds"] ["self","size","deeds"] (Az Ka):=AV
theorem QY:AR ["text","signs"] ["text","signs"] (Az Iu):=AV
theorem XO:AR ["text"] ["text"] (Az Jg):=AV
theorem WV:AR ["text"] ["text"] (Az Ki):=AV
theorem P0:AR ["parts","number"] ["parts"] (Az JH):=AV
theorem Qf:AR ["parts","number"] ["parts"] (Az Jp):=AV
theorem Np:AR ["text","number"] ["text"] (Az JI):=AV
theorem QH:AR ["row"] ["row"] (Az K8):=AV
theorem SN:AR ["row"] ["row"] (Az Ig):=AV
theorem JF:AR ["text","at","inside"] ["text","at"] (Az K7):=AV
theorem Ll:AR ["text","parts","spots"] ["text"] (Az Ho):=AV
theorem Ou:AR ["text","number"] ["text"] (Az Jq):=AV
theorem GI:AR ["text","parts","at","end","part"] ["text"] (Az KL):=AV
theorem Mv:AR ["terms","signs","least","right","left"] ["terms","signs","least"] (Az JU):=AV
theorem Gh:AR ["parts","terms","signs","due","part"] ["parts"] (Az Ks):=AV
theorem Td:AR ["self"] ["self"] (Az JK):=AV
theorem Va:AR ["draft","spots"] ["draft","spots"] (Az HR):=AV
theorem NW:AR ["draft","parts","part"] ["draft","parts"] (Az JP):=AV
theorem Lx:AR ["draft","parts","part","many"] ["draft","parts"] (Az KF):=AV
theorem I0:AR ["draft","row","halves","cell","parts","term"] ["draft","row"] (Az Km):=AV
theorem NC:AR ["draft","words","size"] ["draft","words"] (Az JC):=AV
theorem LM:AR ["draft","words","low","high"] ["draft","words"] (Az Kt):=AV
theorem UL:AR ["draft","words"] ["draft","words"] (Az JA):=AV
theorem PC:AR ["draft","row","words"] ["draft","row"] (Az Kk):=AV
theorem Hk:AR ["text","rows","draft","line","row","bare"] ["text"] (Az K5):=AV
theorem WB:AR ["deeds"] ["deeds"] (Az JO):=AV
theorem Jh:AR ["deeds","numbers","depth","items","group","k"] ["deeds","numbers","depth"] (Az JS):=AV
theorem MD:AR ["deeds","numbers","depth","groups","k"] ["deeds","numbers","depth"] (Az Js):=AV
theorem LW:AR ["program","size","rows"] ["program"] (Az J4):=AV
theorem HP:AR ["deeds","items","depth","blanks","rows","k","inner"] ["deeds","items","depth"] (Az J7):=AV
theorem Jo:AR ["deed","e","name","low","high"] ["deed","e"] (Az Jz):=AV
theorem LK:AR ["deed","cell","term"] ["deed"] (Az Jl):=AV
theorem QM:AR ["table","spots"] ["table","spots"] (Az Ic):=AV
theorem Li:AR ["spot","name","n"] ["spot"] (Az JZ):=AV
theorem M3:AR ["term","left","right"] ["term"] (Az KD):=AV
theorem Oq:AR ["term","needed","text"] ["term","needed"] (Az Kn):=AV
theorem VD:AR ["term"] ["term"] (Az Kr):=AV
theorem X3:AR ["term"] ["term"] (Az JX):=AV
theorem Wf:AR ["term"] ["term"] (Az JY):=AV
theorem XG:AR ["_law_script","_law_k"] ["_law_script","_law_k"] (Az JQ):=AV
theorem Ik:AR ["_law_cell_here","_law_many","_law_found","_law_number_here","_law_k"] ["_law_cell_here","_law_many"] (Az JT):=AV
theorem DY:AR ["_law_cell_here","_law_many","_law_letters","_law_xs","_law_word","_law_long","_law_at","_law_found","_law_k","_law_sign_here","_law_name"] ["_law_cell_here","_law_many"] (Az HN):=AV
theorem WL:AR ["_law_cell_here","_law_far"] ["_law_cell_here","_law_far"] (Az Jc):=AV
theorem TF:AR ["_law_spot_here"] ["_law_spot_here"] (Az Jw):=AV
theorem LI:AR ["_law_one","_law_other","_law_known","_law_n"] ["_law_one","_law_other","_law_known"] (Az J5):=AV
theorem JD:AR ["_law_xs","_law_known","_law_names_here","_law_many","_law_table","_law_spots"] ["_law_xs","_law_known","_law_names_here"] (Az GN):=AV
theorem Ij:AR ["_law_cell_here","_law_known","_law_names_here","_law_xs","_law_n","_law_name","_law_one"] ["_law_cell_here","_law_known","_law_names_here"] (Az Jv):=AV
theorem GO:AR ["_law_sign_here","_law_left","_law_right","_law_hold","_law_one","_law_other"] ["_law_sign_here","_law_left","_law_right"] (Az K6):=AV
theorem FN:AR ["_law_cell_here","_law_known","_law_names_here","_law_xs","_law_stack","_law_x","_law_right","_law_left"] ["_law_cell_here","_law_known","_law_names_here"] (Az K3):=AV
theorem Io:AR ["_law_cell_here","_law_names_here","_law_opened","_law_last","_law_xs","_law_known","_law_rest","_law_low"] ["_law_cell_here","_law_names_here","_law_opened","_law_last"] (Az GR):=AV
theorem GM:AR ["_law_cell_here","_law_opened","_law_path","_law_names_here","_law_known","_law_table","_law_spots","_law_text","_law_term_here"] ["_law_cell_here","_law_opened","_law_path","_law_names_here"] (Az Ie):=AV
theorem Dp:AR ["_law_cells","_law_names_here","_law_opened","_law_path","_law_rows","_law_deeds","_law_last","_law_cell_here","_law_loop_here","_law_text"] ["_law_cells","_law_names_here"] (Az Ji):=AV
theorem LA:AR ["_law_cell_here","_law_some"] ["_law_cell_here"] (Az Ku):=AV
theorem LD:AR ["_law_text","_law_x","_law_at"] ["_law_text","_law_x"] (Az Jn):=AV
theorem F0:AR ["_law_rows","_law_size","_law_cell_here","_law_texts","_law_xs","_law_found","_law_k","_law_x","_law_text"] ["_law_rows","_law_size","_law_cell_here"] (Az HX):=AV
theorem Vm:AR ["_law_rows","_law_size"] ["_law_rows","_law_size"] (Az HZ):=AV
theorem GK:AR ["_law_script","_law_names_here","_law_size","_law_rows","_law_deeds","_law_due"] ["_law_script"] (Az Ko):=AV
theorem QL:D4 (DR [(".0",.local),("sign",.local),("signs",.free)]) (Az Iu)  ["text","signs"] ["sign","signs"] [none,some 1]=true:=by decide +kernel
theorem TQ:(["sign","signs"]:List Str).Nodup:=by decide +kernel
theorem Rq:D4 (DR [(".0",.local),("word",.local)]) (Az Ig)  ["row"] ["word"] [none]=true:=by decide +kernel
theorem RW:(["word"]:List Str).Nodup:=by decide +kernel
theorem Rv:D4 (DR [(".0",.local),("inner",.local),("spot_of",.globalImplicit)]) (Az Ho)  ["text","parts","spots"] ["inner"] [none]=true:=by decide +kernel
theorem V3:(["inner"]:List Str).Nodup:=by decide +kernel
theorem VH:D4 (DR [(".0",.local),("spot",.local)]) (Az Ho)  ["text","parts","spots"] ["spot"] [none]=true:=by decide +kernel
theorem Ra:(["spot"]:List Str).Nodup:=by decide +kernel
theorem XU:D4 (DR [(".0",.local),("spot",.local),("draft",.free)]) (Az HR)  ["draft","spots"] ["spot","draft"] [none,some 0]=true:=by decide +kernel
theorem Tu:(["spot","draft"]:List Str).Nodup:=by decide +kernel
theorem WE:D4 (DR [(".0",.local),("spot",.local),("written_spot",.globalImplicit)]) (Az Ic)  ["table","spots"] ["spot"] [none]=true:=by decide +kernel
theorem Sm:(["spot"]:List Str).Nodup:=by decide +kernel
theorem VU:D4 (DR [(".0",.local),("_law_x",.local),("_law_letters",.free)]) (Az HN)  ["_law_cell_here","_law_many","_law_letters","_law_xs","_law_word","_law_long","_law_at","_law_found","_law_k","_law_sign_here","_law_name"] ["_law_x","_law_letters"] [none,some 2]=true:=by decide +kernel
theorem Th:(["_law_x","_law_letters"]:List Str).Nodup:=by decide +kernel
theorem RD:D4 (DR [(".0",.local),("_law_k",.local),("_law_spot",.globalImplicit),("_law_known",.free),("_law_xs",.free)]) (Az GN)  ["_law_xs","_law_known","_law_names_here","_law_many","_law_table","_law_spots"] ["_law_k","_law_known","_law_xs"] [none,some 1,some 0]=true:=by decide +kernel
theorem WN:(["_law_k","_law_known","_law_xs"]:List Str).Nodup:=by decide +kernel
theorem SR:D4 (DR [(".0",.local),("_law_spot_here",.local),("_law_spot_text",.globalImplicit)]) (Az GN)  ["_law_xs","_law_known","_law_names_here","_law_many","_law_table","_law_spots"] ["_law_spot_here"] [none]=true:=by decide +kernel
theorem RH:(["_law_spot_here"]:List Str).Nodup:=by decide +kernel
theorem W3:D4 (DR [(".0",.local),("_law_one",.local)]) (Az GR)  ["_law_cell_here","_law_names_here","_law_opened","_law_last","_law_xs","_law_known","_law_rest","_law_low"] ["_law_one"] [none]=true:=by decide +kernel
theorem RF:(["_law_one"]:List Str).Nodup:=by decide +kernel
theorem XY:D4 (DR [(".0",.local),("_law_name",.local),("_law_known",.free)]) (Az GR)  ["_law_cell_here","_law_names_here","_law_opened","_law_last","_law_xs","_law_known","_law_rest","_law_low"] ["_law_name","_law_known"] [none,some 5]=true:=by decide +kernel
theorem UR:(["_law_name","_law_known"]:List Str).Nodup:=by decide +kernel
theorem Wj:D4 (DR [(".0",.local),("_law_one",.local)]) (Az Ie)  ["_law_cell_here","_law_opened","_law_path","_law_names_here","_law_known","_law_table","_law_spots","_law_text","_law_term_here"] ["_law_one"] [none]=true:=by decide +kernel
theorem Rx:(["_law_one"]:List Str).Nodup:=by decide +kernel
theorem So:D4 (DR [(".0",.local),("_law_deep",.local),("_law_text",.local)]) (Az HX)  ["_law_rows","_law_size","_law_cell_here","_law_texts","_law_xs","_law_found","_law_k","_law_x","_law_text"] ["_law_deep","_law_text"] [none,none]=true:=by decide +kernel
theorem Ow:(["_law_deep","_law_text"]:List Str).Nodup:=by decide +kernel
theorem UW:D4 (DR [(".0",.local),("_law_deep",.local),("_law_text",.local)]) (Az HZ)  ["_law_rows","_law_size"] ["_law_deep","_law_text"] [none,none]=true:=by decide +kernel
theorem NJ:(["_law_deep","_law_text"]:List Str).Nodup:=by decide +kernel
structure B3 (K:Ya)(x:Str)(st:Stmt)(f:Addr)(d:FuncData):Prop where
 a:PySem.W.nsIn K mainGlobals x=some (some (.ref f))
 F:AN K x x st f d
structure Gi (K:Ya)(C:Addr)(x q:Str)(st:Stmt)(f:Addr)(d:FuncData):Prop where
 a:PySem.W.findIn K (.ref C) x=some (some (.ref f))
 i:PySem.W.isFn K (.ref f)=true
 F:AN K x q st f d
structure ClA (K:Ya)(C:Addr)(x:Str):Prop where
 a:PySem.W.nsIn K mainGlobals x=some (some (.ref C))
 pg:PySem.W.plainGet K C Str.empty=true
 hd:PySem.W.hasDictIn K C=true
 po:PySem.W.plainOver K C=true
 sa:PySem.W.findIn K (.ref C) "__setattr__"=some (some (.builtin "object.__setattr__"))
 mi:PySem.W.makesIn K C=true
 kc:PySem.W.keepIn K (.ref C)=true
abbrev AW (x q:Str)(st:Stmt)(ps:List Str):Prop := ∀(kV doc pm:Value) (an:Option Addr) (cdv ct:Value) (us:List Value),us.length=ps.length->bindArgs (PySem.W.fnOf x q (HV st) (Hi st) (Az st) .none kV doc pm an cdv ct) ⟨us,[]⟩=pure (ps.zip us)
structure Ad where
 f_3:Addr
 d_3:FuncData
 f_4:Addr
 d_4:FuncData
 f_5:Addr
 d_5:FuncData
 f_6:Addr
 d_6:FuncData
 f_7:Addr
 d_7:FuncData
 f_8:Addr
 d_8:FuncData
 f_l:Addr
 d_l:FuncData
 f_c:Addr
 d_c:FuncData
 f_a:Addr
 d_a:FuncData
 f_A:Addr
 d_A:FuncData
 f_B:Addr
 d_B:FuncData
 f_d:Addr
 d_d:FuncData
 f_C:Addr
 d_C:FuncData
 f_D:Addr
 d_D:FuncData
 f_E:Addr
 d_E:FuncData
 f_m:Addr
 d_m:FuncData
 f_F:Addr
 d_F:FuncData
 f_G:Addr
 d_G:FuncData
 f_h:Addr
 d_h:FuncData
 f_H:Addr
 d_H:FuncData
 f_9:Addr
 d_9:FuncData
 f_n:Addr
 d_n:FuncData
 f_I:Addr
 d_I:FuncData
 f_J:Addr
 d_J:FuncData
 f_K:Addr
 d_K:FuncData
 f_L:Addr
 d_L:FuncData
 f_M:Addr
 d_M:FuncData
 f_N:Addr
 d_N:FuncData
 f_O:Addr
 d_O:FuncData
 f_u:Addr
 d_u:FuncData
 f_P:Addr
 d_P:FuncData
 f_o:Addr
 d_o:FuncData
 f_Q:Addr
 d_Q:FuncData
 f_v:Addr
 d_v:FuncData
 f_p:Addr
 d_p:FuncData
 f_R:Addr
 d_R:FuncData
 f_S:Addr
 d_S:FuncData
 f_q:Addr
 d_q:FuncData
 f_e:Addr
 d_e:FuncData
 f_k:Addr
 d_k:FuncData
 f_w:Addr
 d_w:FuncData
 f_T:Addr
 d_T:FuncData
 f_U:Addr
 d_U:FuncData
 f_r:Addr
 d_r:FuncData
 f_i:Addr
 d_i:FuncData
 f_b:Addr
 d_b:FuncData
 f_V:Addr
 d_V:FuncData
 f_s:Addr
 d_s:FuncData
 f_f:Addr
 d_f:FuncData
 f_g:Addr
 d_g:FuncData
 f_t:Addr
 d_t:FuncData
 f_x:Addr
 d_x:FuncData
 f_y:Addr
 d_y:FuncData
 f_W:Addr
 d_W:FuncData
 f_X:Addr
 d_X:FuncData
 f_z:Addr
 d_z:FuncData
 f_Y:Addr
 d_Y:FuncData
 f_j:Addr
 d_j:FuncData
 f_Z:Addr
 d_Z:FuncData
 f_0:Addr
 d_0:FuncData
 f_1:Addr
 d_1:FuncData
 f_2:Addr
 d_2:FuncData
 c_Term:Addr
 c_Number:Addr
 c_Value:Addr
 c_Cell:Addr
 c_Joined:Addr
 c_Deed:Addr
 c_Program:Addr
 c_Draft:Addr
 u_FIGURES:Value
 u_LEAST_SIZE:Value
 u_LETTERS:Value
 u_MOST_DEEDS:Value
 u_MOST_FIGURES:Value
 u_MOST_LETTERS:Value
 u_MOST_LOOPS:Value
 u_MOST_SPOTS:Value
 u_ROW_WORDS:Addr
 u_SIGNS:Value
 u_STRENGTHS:Addr
structure Tx (w:World)(K:Ya)(mg:Str->Option Value)(a:Ad):Prop where
 F_3:AN K "__init__" "Number.__init__" JW a.f_3 a.d_3
 b_3:AL K a.d_3 ["self","n"] []
 F_4:AN K "__init__" "Value.__init__" Jy a.f_4 a.d_4
 b_4:AL K a.d_4 ["self","name"] []
 F_5:AN K "__init__" "Cell.__init__" KG a.f_5 a.d_5
 b_5:AL K a.d_5 ["self","table","spots"] []
 F_6:AN K "__init__" "Joined.__init__" Je a.f_6 a.d_6
 b_6:AL K a.d_6 ["self","sign","left","right"] []
 F_7:AN K "__init__" "Deed.__init__" K0 a.f_7 a.d_7
 b_7:AL K a.d_7 ["self","names","lows","highs","table","spots","term","path"] []
 F_8:AN K "__init__" "Program.__init__" Ka a.f_8 a.d_8
 b_8:AL K a.d_8 ["self","size","deeds"] []
 F_l:AN K "made_of" "made_of" Iu a.f_l a.d_l
 b_l:AL K a.d_l ["text","signs"] []
 m_l:mg "made_of"=some (.ref a.f_l)
 F_c:AN K "number_of" "number_of" Jg a.f_c a.d_c
 b_c:AL K a.d_c ["text"] []
 m_c:mg "number_of"=some (.ref a.f_c)
 F_a:AN K "is_name" "is_name" Ki a.f_a a.d_a
 b_a:AL K a.d_a ["text"] []
 m_a:mg "is_name"=some (.ref a.f_a)
 F_A:AN K "risen" "risen" JH a.f_A a.d_A
 b_A:AL K a.d_A ["parts"] []
 m_A:mg "risen"=some (.ref a.f_A)
 F_B:AN K "fallen" "fallen" Jp a.f_B a.d_B
 b_B:AL K a.d_B ["parts"] []
 m_B:mg "fallen"=some (.ref a.f_B)
 F_d:AN K "spot_of" "spot_of" JI a.f_d a.d_d
 b_d:AL K a.d_d ["text"] []
 m_d:mg "spot_of"=some (.ref a.f_d)
 F_C:AN K "bare_row" "bare_row" K8 a.f_C a.d_C
 b_C:AL K a.d_C ["row"] []
 m_C:mg "bare_row"=some (.ref a.f_C)
 F_D:AN K "words_of" "words_of" Ig a.f_D a.d_D
 b_D:AL K a.d_D ["row"] []
 m_D:mg "words_of"=some (.ref a.f_D)
 F_E:AN K "part_end" "part_end" K7 a.f_E a.d_E
 b_E:AL K a.d_E ["text","at"] []
 m_E:mg "part_end"=some (.ref a.f_E)
 F_m:AN K "cell_of" "cell_of" Ho a.f_m a.d_m
 b_m:AL K a.d_m ["text"] []
 m_m:mg "cell_of"=some (.ref a.f_m)
 F_F:AN K "part_of" "part_of" Jq a.f_F a.d_F
 b_F:AL K a.d_F ["text"] []
 m_F:mg "part_of"=some (.ref a.f_F)
 F_G:AN K "parts_of" "parts_of" KL a.f_G a.d_G
 b_G:AL K a.d_G ["text"] []
 m_G:mg "parts_of"=some (.ref a.f_G)
 F_h:AN K "join_waiting" "join_waiting" JU a.f_h a.d_h
 b_h:AL K a.d_h ["terms","signs","least"] []
 m_h:mg "join_waiting"=some (.ref a.f_h)
 F_H:AN K "term_of" "term_of" Ks a.f_H a.d_H
 b_H:AL K a.d_H ["parts"] []
 m_H:mg "term_of"=some (.ref a.f_H)
 F_9:AN K "__init__" "Draft.__init__" JK a.f_9 a.d_9
 b_9:AL K a.d_9 ["self"] []
 F_n:AN K "spots_known" "spots_known" HR a.f_n a.d_n
 b_n:AL K a.d_n ["draft","spots"] []
 m_n:mg "spots_known"=some (.ref a.f_n)
 F_I:AN K "names_known" "names_known" JP a.f_I a.d_I
 b_I:AL K a.d_I ["draft","parts"] []
 m_I:mg "names_known"=some (.ref a.f_I)
 F_J:AN K "tables_kept" "tables_kept" KF a.f_J a.d_J
 b_J:AL K a.d_J ["draft","parts"] []
 m_J:mg "tables_kept"=some (.ref a.f_J)
 F_K:AN K "deed_taken" "deed_taken" Km a.f_K a.d_K
 b_K:AL K a.d_K ["draft","row"] []
 m_K:mg "deed_taken"=some (.ref a.f_K)
 F_L:AN K "size_taken" "size_taken" JC a.f_L a.d_L
 b_L:AL K a.d_L ["draft","words"] []
 m_L:mg "size_taken"=some (.ref a.f_L)
 F_M:AN K "loop_taken" "loop_taken" Kt a.f_M a.d_M
 b_M:AL K a.d_M ["draft","words"] []
 m_M:mg "loop_taken"=some (.ref a.f_M)
 F_N:AN K "end_taken" "end_taken" JA a.f_N a.d_N
 b_N:AL K a.d_N ["draft","words"] []
 m_N:mg "end_taken"=some (.ref a.f_N)
 F_O:AN K "taken" "taken" Kk a.f_O a.d_O
 b_O:AL K a.d_O ["draft","row"] []
 m_O:mg "taken"=some (.ref a.f_O)
 F_u:AN K "read" "read" K5 a.f_u a.d_u
 b_u:AL K a.d_u ["text"] []
 m_u:mg "read"=some (.ref a.f_u)
 F_P:AN K "nested" "nested" JO a.f_P a.d_P
 b_P:AL K a.d_P ["deeds"] []
 m_P:mg "nested"=some (.ref a.f_P)
 F_o:AN K "items_within" "items_within" JS a.f_o a.d_o
 b_o:AL K a.d_o ["deeds","numbers","depth"] []
 m_o:mg "items_within"=some (.ref a.f_o)
 F_Q:AN K "neighbours" "neighbours" Js a.f_Q a.d_Q
 b_Q:AL K a.d_Q ["deeds","numbers","depth"] []
 m_Q:mg "neighbours"=some (.ref a.f_Q)
 F_v:AN K "written" "written" J4 a.f_v a.d_v
 b_v:AL K a.d_v ["program"] []
 m_v:mg "written"=some (.ref a.f_v)
 F_p:AN K "written_items" "written_items" J7 a.f_p a.d_p
 b_p:AL K a.d_p ["deeds","items","depth"] []
 m_p:mg "written_items"=some (.ref a.f_p)
 F_R:AN K "written_loop" "written_loop" Jz a.f_R a.d_R
 b_R:AL K a.d_R ["deed","e"] []
 m_R:mg "written_loop"=some (.ref a.f_R)
 F_S:AN K "written_deed" "written_deed" Jl a.f_S a.d_S
 b_S:AL K a.d_S ["deed"] []
 m_S:mg "written_deed"=some (.ref a.f_S)
 F_q:AN K "written_cell" "written_cell" Ic a.f_q a.d_q
 b_q:AL K a.d_q ["table","spots"] []
 m_q:mg "written_cell"=some (.ref a.f_q)
 F_e:AN K "written_spot" "written_spot" JZ a.f_e a.d_e
 b_e:AL K a.d_e ["spot"] []
 m_e:mg "written_spot"=some (.ref a.f_e)
 F_k:AN K "written_term" "written_term" KD a.f_k a.d_k
 b_k:AL K a.d_k ["term"] []
 m_k:mg "written_term"=some (.ref a.f_k)
 F_w:AN K "bracketed" "bracketed" Kn a.f_w a.d_w
 b_w:AL K a.d_w ["term","needed"] []
 m_w:mg "bracketed"=some (.ref a.f_w)
 F_T:AN K "left_needs" "left_needs" Kr a.f_T a.d_T
 b_T:AL K a.d_T ["term"] []
 m_T:mg "left_needs"=some (.ref a.f_T)
 F_U:AN K "right_needs" "right_needs" JX a.f_U a.d_U
 b_U:AL K a.d_U ["term"] []
 m_U:mg "right_needs"=some (.ref a.f_U)
 F_r:AN K "is_sum" "is_sum" JY a.f_r a.d_r
 b_r:AL K a.d_r ["term"] []
 m_r:mg "is_sum"=some (.ref a.f_r)
 F_i:AN K "_law_cell_at" "_law_cell_at" JQ a.f_i a.d_i
 b_i:AL K a.d_i ["_law_script","_law_k"] []
 m_i:mg "_law_cell_at"=some (.ref a.f_i)
 F_b:AN K "_law_stream" "_law_stream" JT a.f_b a.d_b
 b_b:AL K a.d_b ["_law_cell_here","_law_many"] []
 m_b:mg "_law_stream"=some (.ref a.f_b)
 F_V:AN K "_law_names" "_law_names" HN a.f_V a.d_V
 b_V:AL K a.d_V ["_law_cell_here","_law_many"] []
 m_V:mg "_law_names"=some (.ref a.f_V)
 F_s:AN K "_law_number" "_law_number" Jc a.f_s a.d_s
 b_s:AL K a.d_s ["_law_cell_here","_law_far"] []
 m_s:mg "_law_number"=some (.ref a.f_s)
 F_f:AN K "_law_spot_text" "_law_spot_text" Jw a.f_f a.d_f
 b_f:AL K a.d_f ["_law_spot_here"] []
 m_f:mg "_law_spot_text"=some (.ref a.f_f)
 F_g:AN K "_law_spot" "_law_spot" J5 a.f_g a.d_g
 b_g:AL K a.d_g ["_law_one","_law_other","_law_known"] []
 m_g:mg "_law_spot"=some (.ref a.f_g)
 F_t:AN K "_law_cell" "_law_cell" GN a.f_t a.d_t
 b_t:AL K a.d_t ["_law_xs","_law_known","_law_names_here"] []
 m_t:mg "_law_cell"=some (.ref a.f_t)
 F_x:AN K "_law_leaf" "_law_leaf" Jv a.f_x a.d_x
 b_x:AL K a.d_x ["_law_cell_here","_law_known","_law_names_here"] []
 m_x:mg "_law_leaf"=some (.ref a.f_x)
 F_y:AN K "_law_both" "_law_both" K6 a.f_y a.d_y
 b_y:AL K a.d_y ["_law_sign_here","_law_left","_law_right"] []
 m_y:mg "_law_both"=some (.ref a.f_y)
 F_W:AN K "_law_term" "_law_term" K3 a.f_W a.d_W
 b_W:AL K a.d_W ["_law_cell_here","_law_known","_law_names_here"] []
 m_W:mg "_law_term"=some (.ref a.f_W)
 F_X:AN K "_law_loop" "_law_loop" GR a.f_X a.d_X
 b_X:AL K a.d_X ["_law_cell_here","_law_names_here","_law_opened","_law_last"] []
 m_X:mg "_law_loop"=some (.ref a.f_X)
 F_z:AN K "_law_deed" "_law_deed" Ie a.f_z a.d_z
 b_z:AL K a.d_z ["_law_cell_here","_law_opened","_law_path","_law_names_here"] []
 m_z:mg "_law_deed"=some (.ref a.f_z)
 F_Y:AN K "_law_program" "_law_program" Ji a.f_Y a.d_Y
 b_Y:AL K a.d_Y ["_law_cells","_law_names_here"] []
 m_Y:mg "_law_program"=some (.ref a.f_Y)
 F_j:AN K "_law_sign" "_law_sign" Ku a.f_j a.d_j
 b_j:AL K a.d_j ["_law_cell_here"] []
 m_j:mg "_law_sign"=some (.ref a.f_j)
 F_Z:AN K "_law_spread" "_law_spread" Jn a.f_Z a.d_Z
 b_Z:AL K a.d_Z ["_law_text","_law_x"] []
 m_Z:mg "_law_spread"=some (.ref a.f_Z)
 F_0:AN K "_law_noisy" "_law_noisy" HX a.f_0 a.d_0
 b_0:AL K a.d_0 ["_law_rows","_law_size","_law_cell_here"] []
 m_0:mg "_law_noisy"=some (.ref a.f_0)
 F_1:AN K "_law_plain" "_law_plain" HZ a.f_1 a.d_1
 b_1:AL K a.d_1 ["_law_rows","_law_size"] []
 m_1:mg "_law_plain"=some (.ref a.f_1)
 F_2:AN K "law" "law" Ko a.f_2 a.d_2
 b_2:AL K a.d_2 ["_law_script"] []
 m_2:mg "law"=some (.ref a.f_2)
 cl_Term:DA K a.c_Term
 mc_Term:mg "Term"=some (.ref a.c_Term)
 cl_Number:DA K a.c_Number
 mc_Number:mg "Number"=some (.ref a.c_Number)
 mk_Number:Mk K a.c_Number a.f_3
 n_Number_n:BP K a.c_Number "n"
 cl_Value:DA K a.c_Value
 mc_Value:mg "Value"=some (.ref a.c_Value)
 mk_Value:Mk K a.c_Value a.f_4
 n_Value_name:BP K a.c_Value "name"
 cl_Cell:DA K a.c_Cell
 mc_Cell:mg "Cell"=some (.ref a.c_Cell)
 mk_Cell:Mk K a.c_Cell a.f_5
 n_Cell_table:BP K a.c_Cell "table"
 n_Cell_spots:BP K a.c_Cell "spots"
 cl_Joined:DA K a.c_Joined
 mc_Joined:mg "Joined"=some (.ref a.c_Joined)
 mk_Joined:Mk K a.c_Joined a.f_6
 n_Joined_sign:BP K a.c_Joined "sign"
 n_Joined_left:BP K a.c_Joined "left"
 n_Joined_right:BP K a.c_Joined "right"
 cl_Deed:DA K a.c_Deed
 mc_Deed:mg "Deed"=some (.ref a.c_Deed)
 mk_Deed:Mk K a.c_Deed a.f_7
 n_Deed_names:BP K a.c_Deed "names"
 n_Deed_lows:BP K a.c_Deed "lows"
 n_Deed_highs:BP K a.c_Deed "highs"
 n_Deed_table:BP K a.c_Deed "table"
 n_Deed_spots:BP K a.c_Deed "spots"
 n_Deed_term:BP K a.c_Deed "term"
 n_Deed_path:BP K a.c_Deed "path"
 cl_Program:DA K a.c_Program
 mc_Program:mg "Program"=some (.ref a.c_Program)
 mk_Program:Mk K a.c_Program a.f_8
 n_Program_size:BP K a.c_Program "size"
 n_Program_deeds:BP K a.c_Program "deeds"
 cl_Draft:DA K a.c_Draft
 mc_Draft:mg "Draft"=some (.ref a.c_Draft)
 mk_Draft:Mk K a.c_Draft a.f_9
 n_Draft_size:BP K a.c_Draft "size"
 n_Draft_deeds:BP K a.c_Draft "deeds"
 n_Draft_tables:BP K a.c_Draft "tables"
 n_Draft_names:BP K a.c_Draft "names"
 n_Draft_lows:BP K a.c_Draft "lows"
 n_Draft_highs:BP K a.c_Draft "highs"
 n_Draft_path:BP K a.c_Draft "path"
 ty_Number:∀(H:Hp) (x dx:Addr) (fs:List (Str×V)),H x=some (.ins a.c_Number dx fs)->CH K H (.ref x) (.ref a.c_Number)
 is_Number_Term:PySem.W.kitOne K (.ref a.c_Number) (.ref a.c_Term)=some true
 is_Number_Number:PySem.W.kitOne K (.ref a.c_Number) (.ref a.c_Number)=some true
 is_Number_Value:PySem.W.kitOne K (.ref a.c_Number) (.ref a.c_Value)=some false
 is_Number_Cell:PySem.W.kitOne K (.ref a.c_Number) (.ref a.c_Cell)=some false
 is_Number_Joined:PySem.W.kitOne K (.ref a.c_Number) (.ref a.c_Joined)=some false
 is_Number_Deed:PySem.W.kitOne K (.ref a.c_Number) (.ref a.c_Deed)=some false
 is_Number_Program:PySem.W.kitOne K (.ref a.c_Number) (.ref a.c_Program)=some false
 is_Number_Draft:PySem.W.kitOne K (.ref a.c_Number) (.ref a.c_Draft)=some false
 ty_Value:∀(H:Hp) (x dx:Addr) (fs:List (Str×V)),H x=some (.ins a.c_Value dx fs)->CH K H (.ref x) (.ref a.c_Value)
 is_Value_Term:PySem.W.kitOne K (.ref a.c_Value) (.ref a.c_Term)=some true
 is_Value_Number:PySem.W.kitOne K (.ref a.c_Value) (.ref a.c_Number)=some false
 is_Value_Value:PySem.W.kitOne K (.ref a.c_Value) (.ref a.c_Value)=some true
 is_Value_Cell:PySem.W.kitOne K (.ref a.c_Value) (.ref a.c_Cell)=some false
 is_Value_Joined:PySem.W.kitOne K (.ref a.c_Value) (.ref a.c_Joined)=some false
 is_Value_Deed:PySem.W.kitOne K (.ref a.c_Value) (.ref a.c_Deed)=some false
 is_Value_Program:PySem.W.kitOne K (.ref a.c_Value) (.ref a.c_Program)=some false
 is_Value_Draft:PySem.W.kitOne K (.ref a.c_Value) (.ref a.c_Draft)=some false
 ty_Cell:∀(H:Hp) (x dx:Addr) (fs:List (Str×V)),H x=some (.ins a.c_Cell dx fs)->CH K H (.ref x) (.ref a.c_Cell)
 is_Cell_Term:PySem.W.kitOne K (.ref a.c_Cell) (.ref a.c_Term)=some true
 is_Cell_Number:PySem.W.kitOne K (.ref a.c_Cell) (.ref a.c_Number)=some false
 is_Cell_Value:PySem.W.kitOne K (.ref a.c_Cell) (.ref a.c_Value)=some false
 is_Cell_Cell:PySem.W.kitOne K (.ref a.c_Cell) (.ref a.c_Cell)=some true
 is_Cell_Joined:PySem.W.kitOne K (.ref a.c_Cell) (.ref a.c_Joined)=some false
 is_Cell_Deed:PySem.W.kitOne K (.ref a.c_Cell) (.ref a.c_Deed)=some false
 is_Cell_Program:PySem.W.kitOne K (.ref a.c_Cell) (.ref a.c_Program)=some false
 is_Cell_Draft:PySem.W.kitOne K (.ref a.c_Cell) (.ref a.c_Draft)=some false
 ty_Joined:∀(H:Hp) (x dx:Addr) (fs:List (Str×V)),H x=some (.ins a.c_Joined dx fs)->CH K H (.ref x) (.ref a.c_Joined)
 is_Joined_Term:PySem.W.kitOne K (.ref a.c_Joined) (.ref a.c_Term)=some true
 is_Joined_Number:PySem.W.kitOne K (.ref a.c_Joined) (.ref a.c_Number)=some false
 is_Joined_Value:PySem.W.kitOne K (.ref a.c_Joined) (.ref a.c_Value)=some false
 is_Joined_Cell:PySem.W.kitOne K (.ref a.c_Joined) (.ref a.c_Cell)=some false
 is_Joined_Joined:PySem.W.kitOne K (.ref a.c_Joined) (.ref a.c_Joined)=some true
 is_Joined_Deed:PySem.W.kitOne K (.ref a.c_Joined) (.ref a.c_Deed)=some false
 is_Joined_Program:PySem.W.kitOne K (.ref a.c_Joined) (.ref a.c_Program)=some false
 is_Joined_Draft:PySem.W.kitOne K (.ref a.c_Joined) (.ref a.c_Draft)=some false
 is_str_Term:PySem.W.kitOne K (.type "str") (.ref a.c_Term)=some false
 is_str_Number:PySem.W.kitOne K (.type "str") (.ref a.c_Number)=some false
 is_str_Value:PySem.W.kitOne K (.type "str") (.ref a.c_Value)=some false
 is_str_Cell:PySem.W.kitOne K (.type "str") (.ref a.c_Cell)=some false
 is_str_Joined:PySem.W.kitOne K (.type "str") (.ref a.c_Joined)=some false
 is_str_Deed:PySem.W.kitOne K (.type "str") (.ref a.c_Deed)=some false
 is_str_Program:PySem.W.kitOne K (.type "str") (.ref a.c_Program)=some false
 is_str_Draft:PySem.W.kitOne K (.type "str") (.ref a.c_Draft)=some false
 ty_Deed:∀(H:Hp) (x dx:Addr) (fs:List (Str×V)),H x=some (.ins a.c_Deed dx fs)->CH K H (.ref x) (.ref a.c_Deed)
 is_Deed_Term:PySem.W.kitOne K (.ref a.c_Deed) (.ref a.c_Term)=some false
 is_Deed_Number:PySem.W.kitOne K (.ref a.c_Deed) (.ref a.c_Number)=some false
 is_Deed_Value:PySem.W.kitOne K (.ref a.c_Deed) (.ref a.c_Value)=some false
 is_Deed_Cell:PySem.W.kitOne K (.ref a.c_Deed) (.ref a.c_Cell)=some false
 is_Deed_Joined:PySem.W.kitOne K (.ref a.c_Deed) (.ref a.c_Joined)=some false
 is_Deed_Deed:PySem.W.kitOne K (.ref a.c_Deed) (.ref a.c_Deed)=some true
 is_Deed_Program:PySem.W.kitOne K (.ref a.c_Deed) (.ref a.c_Program)=some false
 is_Deed_Draft:PySem.W.kitOne K (.ref a.c_Deed) (.ref a.c_Draft)=some false
 ty_Program:∀(H:Hp) (x dx:Addr) (fs:List (Str×V)),H x=some (.ins a.c_Program dx fs)->CH K H (.ref x) (.ref a.c_Program)
 is_Program_Term:PySem.W.kitOne K (.ref a.c_Program) (.ref a.c_Term)=some false
 is_Program_Number:PySem.W.kitOne K (.ref a.c_Program) (.ref a.c_Number)=some false
 is_Program_Value:PySem.W.kitOne K (.ref a.c_Program) (.ref a.c_Value)=some false
 is_Program_Cell:PySem.W.kitOne K (.ref a.c_Program) (.ref a.c_Cell)=some false
 is_Program_Joined:PySem.W.kitOne K (.ref a.c_Program) (.ref a.c_Joined)=some false
 is_Program_Deed:PySem.W.kitOne K (.ref a.c_Program) (.ref a.c_Deed)=some false
 is_Program_Program:PySem.W.kitOne K (.ref a.c_Program) (.ref a.c_Program)=some true
 is_Program_Draft:PySem.W.kitOne K (.ref a.c_Program) (.ref a.c_Draft)=some false
 ty_Draft:∀(H:Hp) (x dx:Addr) (fs:List (Str×V)),H x=some (.ins a.c_Draft dx fs)->CH K H (.ref x) (.ref a.c_Draft)
 is_Draft_Term:PySem.W.kitOne K (.ref a.c_Draft) (.ref a.c_Term)=some false
 is_Draft_Number:PySem.W.kitOne K (.ref a.c_Draft) (.ref a.c_Number)=some false
 is_Draft_Value:PySem.W.kitOne K (.ref a.c_Draft) (.ref a.c_Value)=some false
 is_Draft_Cell:PySem.W.kitOne K (.ref a.c_Draft) (.ref a.c_Cell)=some false
 is_Draft_Joined:PySem.W.kitOne K (.ref a.c_Draft) (.ref a.c_Joined)=some false
 is_Draft_Deed:PySem.W.kitOne K (.ref a.c_Draft) (.ref a.c_Deed)=some false
 is_Draft_Program:PySem.W.kitOne K (.ref a.c_Draft) (.ref a.c_Program)=some false
 is_Draft_Draft:PySem.W.kitOne K (.ref a.c_Draft) (.ref a.c_Draft)=some true
 nb:IF K=true
 z_abs:mg "abs"=none
 z_all:mg "all"=none
 z_enumerate:mg "enumerate"=none
 z_int:mg "int"=none
 z_isinstance:mg "isinstance"=none
 z_len:mg "len"=none
 z_list:mg "list"=none
 z_range:mg "range"=none
 z_str:mg "str"=none
 z_tuple:mg "tuple"=none
 g_FIGURES:mg "FIGURES"=some a.u_FIGURES
 r_FIGURES:AM (.str "0123456789") a.u_FIGURES
 g_LEAST_SIZE:mg "LEAST_SIZE"=some a.u_LEAST_SIZE
 r_LEAST_SIZE:AM (.int 2) a.u_LEAST_SIZE
 g_LETTERS:mg "LETTERS"=some a.u_LETTERS
 r_LETTERS:AM (.str "abcdefghijklmnopqrstuvwxyz") a.u_LETTERS
 g_MOST_DEEDS:mg "MOST_DEEDS"=some a.u_MOST_DEEDS
 r_MOST_DEEDS:AM (.int 6) a.u_MOST_DEEDS
 g_MOST_FIGURES:mg "MOST_FIGURES"=some a.u_MOST_FIGURES
 r_MOST_FIGURES:AM (.int 18) a.u_MOST_FIGURES
 g_MOST_LETTERS:mg "MOST_LETTERS"=some a.u_MOST_LETTERS
 r_MOST_LETTERS:AM (.int 8) a.u_MOST_LETTERS
 g_MOST_LOOPS:mg "MOST_LOOPS"=some a.u_MOST_LOOPS
 r_MOST_LOOPS:AM (.int 3) a.u_MOST_LOOPS
 g_MOST_SPOTS:mg "MOST_SPOTS"=some a.u_MOST_SPOTS
 r_MOST_SPOTS:AM (.int 3) a.u_MOST_SPOTS
 g_ROW_WORDS:mg "ROW_WORDS"=some (.ref a.u_ROW_WORDS)
 r_ROW_WORDS:AM (.ref a.u_ROW_WORDS) (.ref a.u_ROW_WORDS)
 q_ROW_WORDS:∀H:Hp,Aw K H a.u_ROW_WORDS [.str "for",.str "end",.str "size"]
 g_SIGNS:mg "SIGNS"=some a.u_SIGNS
 r_SIGNS:AM (.str "+-*()") a.u_SIGNS
 g_STRENGTHS:mg "STRENGTHS"=some (.ref a.u_STRENGTHS)
 r_STRENGTHS:AM (.ref a.u_STRENGTHS) (.ref a.u_STRENGTHS)
 d_STRENGTHS:∀P:Program,MJ P w K a.u_STRENGTHS [(.inr "(",.int 0),(.inr "+",.int 1),(.inr "-",.int 1),(.inr "*",.int 2)]
def Bc (a:Ad):Cs:=⟨a.c_Number,a.c_Value,a.c_Cell,a.c_Joined⟩
section
variable {P:Program}{w:World}{K:Ya}{mg:Str->Option Value}{base:Heap}{a:Ad}
theorem OD (T:Tx w K mg a):AI P w K mg base AO 1 a.f_l a.d_l ["text","signs"] UX:=by
 refine T.F_l.ok QY (fun vs H Q E h=>?_) (fun cdv A outer s H vs Q E hr h=>?_)
 .obtain⟨_,_,rfl,_⟩:=h;rfl
 obtain⟨z,y,rfl,hz,q⟩:=h
 refine⟨_,(@Aa _ _ _ (@Aq _ _ _ _ (@Bb _ _ _ _ _ _ _ _ _ (@Lg _ rfl) (by rfl) T.z_all Mf (@A0 _ _ _ _ _ (@DZ _ _ _ _ _ _ _ ["sign","signs"] [none,some 1] _ _ _ _ (by rfl) (@UE _ _ _ _ (pv 0)) QL (fun _ _ _ _ _ _=>⟨(Bz (i:=0) TQ rfl (.inl rfl)),@Eh _,(@DS _ _ _ _ _ _ _ _ KA (pv 0) (pv 1) (by with_unfolding_all rfl))⟩) (by intro _;rfl)) A1 (by rfl)) (by decide) (by decide) (by rfl) (by rfl)))),?_⟩
 refine⟨_,rfl,z,rfl,?_⟩
 refine QZ (z:=z) (fun i ys H'=>H'=H/\ys=((cds z).take i).map fun c=>V.bl (decide (c∈cds y))) ⟨rfl,rfl⟩ (Ai (by have:=cds_len z;omega)) (fun i ys H' hi p=>?_) (fun i c ys H' hc p=>?_) (fun ys H' p r hr'=>?_)
 .obtain⟨_,rfl⟩:=p
  rw[An,Bt];omega
 .obtain⟨rfl,rfl⟩:=p
  refine⟨_,rfl,_,rfl,_,_,rfl,rfl,rfl,?_⟩
  rw[Du hc,AZ,L9]
  rfl
 .obtain⟨rfl,rfl⟩:=p
  rw[Eo]
  refine⟨r,(cds z).map fun c=>decide (c∈cds y),rfl,A3.of ?_,?_⟩
  .rw[A6,IV];rfl
  .have e:(((cds z).map fun c=>decide (c∈cds y)).all id)=decide (∀c∈cds z,c∈cds y):=by
    rw[En]
    simp only[Nj,FY,Function.comp,id,DX]
   rw[e]
   exact q _ (Ac hr' _)
theorem Ii (T:Tx w K mg a):AI P w K mg base AO 2 a.f_c a.d_c ["text"] Vj:=by
 have G_l :=@OD P w K mg base a T
 refine T.F_c.ok XO (fun vs H Q E h=>?_) (fun cdv A outer s H vs Q E hr h=>?_)
 .obtain⟨_,rfl,_⟩:=h;rfl
 obtain⟨z,rfl,hz,q⟩:=h
 refine⟨_,(@A4 _ _ _ _ _ (@AK _ _ _ _ _ _ _ _ ((@Cu _ _ _ _ _ _ _ (@Au _ _ _ _ _ _ _ _ Bv (pv 0) Ar (@Av _ _ (by decide) (by decide))) (@Cu _ _ _ _ _ _ _ (@Au _ _ _ _ _ _ _ _ Fm (@Bb _ _ _ _ _ _ _ _ _ Ih (by rfl) T.z_len BJ (@A0 _ _ _ _ _ (pv 0) A1 (by rfl)) (by decide) (by decide) (by rfl) (by rfl)) (@C7 _ _ _ _ _ (by rfl) T.g_MOST_FIGURES T.r_MOST_FIGURES (by decide)) (@Av _ _ (by decide) (by decide))) (@Dt _ _ _ _ (@Ew _ _ _ _ (@Cd _ _ _ (@As _ _ _ _ _ _ _ _ _ _ _ _ _ _ _ _ G_l (hr.mono (by omega)) (by rfl) T.m_l T.F_l.kp T.b_l .nil Ap (@A0 _ _ _ _ _ (pv 0) (@A0 _ _ _ _ _ (@C7 _ _ _ _ _ (by rfl) T.g_FIGURES T.r_FIGURES (by decide)) A1 (by rfl)) (by rfl)) (by decide) (by rfl) (by rfl)) (by intro _;rfl))))))).pt (@Aa _ _ _ (@Aq _ _ _ _ BO)) AU) (@A4 _ _ _ _ _ (@AK _ _ _ _ _ _ _ _ ((@Dg _ _ _ _ _ _ _ (@Au _ _ _ _ _ _ _ _ Bv (@Ag _ _ _ _ _ _ _ EB (pv 0) A2 (fun _ _=>rfl)) Ar (@Av _ _ (by decide) (by decide))) (@DT _ _ _ _ (@Au _ _ _ _ _ _ _ _ E4 (pv 0) Ar (@Av _ _ (by decide) (by decide)))))).pt (@Aa _ _ _ (@Aq _ _ _ _ BO)) AU) (@Aa _ _ _ (@Aq _ _ _ _ (@D7 _ _ _ _ _ _ _ _ _ Sy (by rfl) T.z_int LP (@A0 _ _ _ _ _ (pv 0) A1 (by rfl)) (by decide) (by decide) (by rfl) (by rfl)))))),?_⟩
 have qn:¬Ct (cds z)->∀H',A7 H H'->Q .non H':=fun h H' e=>by
  have:=q H' e
  unfold Fh at this
  rwa [Ab h]at this
 have hl:=cds_len z
 refine⟨_,rfl,rfl,_,rfl,?_⟩
 refine AF (fun c=>?_) (fun c=>?_)
 .have e:z="":=V.str.inj (dT c)
  refine Bm ?_
  exact qn (fun g=>by have:=g.1;rw[Hs.mp e]at this;simp at this) H (A7.refl H)
 have c1:¬z="":=fun e=>dF c (by rw[e])
 refine⟨_,rfl,_,rfl,Ai (by omega),_,_,rfl,rfl,_,rfl,?_⟩
 refine AF (fun c2=>?_) (fun c2=>?_)
 .have:=dT c2
  refine Bm ?_
  exact qn (fun g=>by have:=g.2.1;omega) H (A7.refl H)
 have c3:=dF c2
 refine⟨_,rfl,z,_,rfl,hz,fun H1 e1=>?_⟩
 refine⟨_,rfl,?_⟩
 by_cases hm:∀c∈cds z,c∈cds "0123456789"
 case neg=>
  rw[Bo hm]
  refine Bm ?_
  exact qn (fun g=>hm fun c hc=>(PU c).mpr (g.2.2.2 c hc)) H1 e1
 rw[B1 hm]
 refine Ay ?_
 have hd:∀c∈cds z,48<=c/\c<=57:=fun c hc=>(PU c).mp (hm c hc)
 have hne:cds z≠[]:=fun e=>c1 (Hs.mpr e)
 obtain⟨d,r,hdr⟩:∃d r,cds z=d::r:=by
  cases e:cds z with
  |nil=>exact absurd e hne
  |cons d r=>exact⟨d,r,rfl⟩
 refine⟨_,rfl,z,0,d,rfl,rfl,Ai (by omega),(by show Bu (cds z) ((0:Nat):Int)=some d;exact D6 (by rw[hdr];rfl)),rfl,_,rfl,?_⟩
 have fin:Ct (cds z)->Q (.int ((NumText.digitsVal (cds z):Nat):Int)) H1:=fun g=>by
  have:=q H1 e1
  unfold Fh at this
  rwa [Af g]at this
 have last:Ct (cds z)->_:=fun g=>(⟨_,rfl,z,_,rfl,intText_digits (x:=z) (fun c hc=>hd c hc) hne (by omega),by omega,fin g⟩:Gm (Ju (fun xs H Q=>∃z n,xs=[V.str z]/\intText? z=some n/\z.length<=640/\Q (V.int n) H) (Gg (EE 0) FB)) {nx:=fun x H'=>Q V.non H',rt:=Q} (L2.start ["text"] [V.str z]) H1)
 refine AF (fun c4=>?_) (fun c4=>?_)
 .have h48:d=48:=by
   have:=V.str.inj (dT c4)
   have h2:=Mj.mp this
   rw[OU]at h2
   simpa using h2
  refine⟨_,rfl,rfl,_,rfl,?_⟩
  by_cases hz0:z="0"
  .rw[B1 (congrArg V.str hz0)]
   refine Ay ?_
   refine last ?_
   rw[Mj.mp hz0]
   exact⟨by decide,by decide,by decide,by decide⟩
  .refine AF (fun _=>?_) (fun c5=>?_)
   .refine qn (fun g=>g.2.2.1 ⟨by rw[hdr,h48];rfl,?_⟩) H1 e1
    rw[hdr]
    cases r with
    |nil=>exact absurd (Mj.mpr (by rw[hdr,h48])) hz0
    |cons _ _=>simp
   .exact absurd (show(!decide (V.str z=V.str "0"))=true by rw[Bo (fun e=>hz0 (V.str.inj e))];rfl) c5
 .refine Ay ?_
  refine last ⟨by rw[hdr];simp,by omega,fun⟨h1,_⟩=>?_,hd⟩
  rw[hdr]at h1
  have:d=48:=by simpa using h1
  exact dF c4 (by rw[this];congr 1)
theorem Hh (T:Tx w K mg a):AI P w K mg base AO 2 a.f_a a.d_a ["text"] RZ:=by
 have G_l :=@OD P w K mg base a T
 refine T.F_a.ok WV (fun vs H Q E h=>?_) (fun cdv A outer s H vs Q E hr h=>?_)
 .obtain⟨_,rfl,_⟩:=h;rfl
 obtain⟨z,rfl,hz,q⟩:=h
 refine⟨_,(@A4 _ _ _ _ _ (@AK _ _ _ _ _ _ _ _ ((@Cu _ _ _ _ _ _ _ (@Au _ _ _ _ _ _ _ _ Bv (pv 0) Ar (@Av _ _ (by decide) (by decide))) (@Dt _ _ _ _ (@Au _ _ _ _ _ _ _ _ Fm (@Bb _ _ _ _ _ _ _ _ _ Ih (by rfl) T.z_len BJ (@A0 _ _ _ _ _ (pv 0) A1 (by rfl)) (by decide) (by decide) (by rfl) (by rfl)) (@C7 _ _ _ _ _ (by rfl) T.g_MOST_LETTERS T.r_MOST_LETTERS (by decide)) (@Av _ _ (by decide) (by decide)))))).pt (@Aa _ _ _ (@Aq _ _ _ _ Cv)) AU) (@Aa _ _ _ (@Aq _ _ _ _ (@ID _ _ _ _ _ _ _ (@As _ _ _ _ _ _ _ _ _ _ _ _ _ _ _ _ G_l (hr.mono (by omega)) (by rfl) T.m_l T.F_l.kp T.b_l .nil Ap (@A0 _ _ _ _ _ (pv 0) (@A0 _ _ _ _ _ (@C7 _ _ _ _ _ (by rfl) T.g_LETTERS T.r_LETTERS (by decide)) A1 (by rfl)) (by rfl)) (by decide) (by rfl) (by rfl)) (@FD _ _ _ _ _ (@DS _ _ _ _ _ _ _ _ MC (pv 0) (@C7 _ _ _ _ _ (by rfl) T.g_ROW_WORDS T.r_ROW_WORDS (by decide)) (by with_unfolding_all rfl))))))),?_⟩
 have hl:=cds_len z
 have qn:¬Bx (cds z)->∀H',A7 H H'->Q (.bl false) H':=fun h H' e=>by
  have:=q H' e
  rwa [Bo h]at this
 refine⟨_,rfl,rfl,_,rfl,?_⟩
 refine AF (fun c=>?_) (fun c=>?_)
 .have e:z="":=V.str.inj (dT c)
  refine Bm ?_
  exact qn (fun g=>by have:=g.1;rw[Hs.mp e]at this;simp at this) H (A7.refl H)
 have c1:¬z="":=fun e=>dF c (by rw[e])
 refine⟨_,rfl,_,rfl,Ai (by omega),_,_,rfl,rfl,_,rfl,?_⟩
 refine AF (fun c2=>?_) (fun c2=>?_)
 .have:=dT c2
  exact qn (fun g=>by have:=g.2.1;omega) H (A7.refl H)
 have c3:=dF c2
 refine⟨_,rfl,z,_,rfl,hz,fun H1 e1=>?_⟩
 refine⟨_,rfl,?_⟩
 have hne:1<=(cds z).length:=by
  cases e:cds z with
  |nil=>exact absurd (Hs.mpr e) c1
  |cons _ _=>simp
 refine AF (fun c4=>?_) (fun c4=>?_)
 .have h4:=dT c4
  refine⟨_,rfl,a.u_ROW_WORDS,_,rfl,.inr (T.q_ROW_WORDS _),rfl,rfl,?_⟩
  have e2:Do (V.str z) [.str "for",.str "end",.str "size"]=decide (cds z∈DE):=by
   have:=Q8 (cds z)
   rwa [Es]at this
  show Q (.bl (!Do (V.str z) [.str "for",.str "end",.str "size"])) H1
  rw[e2]
  have:=q H1 e1
  have e3:decide (Bx (cds z))=!decide (cds z∈DE):=by
   rw[En]
   simp only[DX,Bool.not_eq_true',decide_eq_false_iff_not]
   exact⟨fun g=>g.2.2.2,fun g=>⟨hne,by omega,h4,g⟩⟩
  rwa [e3]at this
 .exact qn (fun g=>dF c4 g.2.2.1) H1 e1
theorem Uh (T:Tx w K mg a):AI P w K mg base AO 3 a.f_A a.d_A ["parts"] (PP 43 HI K):=by
 have G_c :=@Ii P w K mg base a T
 have G_a :=@Hh P w K mg base a T
 refine T.F_A.ok P0 (fun vs H Q E h=>?_) (fun cdv A outer s H vs Q E hr h=>?_)
 .obtain⟨_,_,rfl,_⟩:=h;rfl
 obtain⟨p,l,rfl,hp,hl,q⟩:=h
 obtain⟨b,m,e,hpv,h1,h0,hm0,hb,he⟩:=OZ 43 l hl
 rw[hpv]at hp
 refine⟨_,(@A4 _ _ _ _ _ (@Al _ _ (1) _ _ _ _ P0.nd rfl (.inl rfl) (@As _ _ _ _ _ _ _ _ _ _ _ _ _ _ _ _ G_c (hr.mono (by omega)) (by rfl) T.m_c T.F_c.kp T.b_c .nil Ap (@A0 _ _ _ _ _ (@Ag _ _ _ _ _ _ _ B4 (pv 0) A2 (fun _ _=>rfl)) A1 (by rfl)) (by decide) (by rfl) (by rfl)) (by rfl) (by first|exact .inl rfl|exact .inr rfl|assumption)) (@A4 _ _ _ _ _ (@AK _ _ _ _ _ _ _ _ ((@Cu _ _ _ _ _ _ _ (@Au _ _ _ _ _ _ _ _ Ee (pv 1) BO (@Av _ _ (by decide) (by decide))) (@Dt _ _ _ _ (@Ew _ _ _ _ (@Cd _ _ _ (@As _ _ _ _ _ _ _ _ _ _ _ _ _ _ _ _ G_a (hr.mono (by omega)) (by rfl) T.m_a T.F_a.kp T.b_a .nil Ap (@A0 _ _ _ _ _ (@Ag _ _ _ _ _ _ _ B4 (pv 0) A2 (fun _ _=>rfl)) A1 (by rfl)) (by decide) (by rfl) (by rfl)) (by intro _;rfl)))))).pt (@Aa _ _ _ (@Aq _ _ _ _ BO)) AU) (@Aa _ _ _ (@Aq _ _ _ _ (@CQ _ _ _ _ _ (@A0 _ _ _ _ _ (@Ag _ _ _ _ _ _ _ B4 (pv 0) A2 (fun _ _=>rfl)) (@A0 _ _ _ _ _ (pv 1) A1 (by rfl)) (by rfl))))))),?_⟩
 have qn:HI l=none->∀H',A7 H H'->Q .non H':=fun z=>by rw[z]at q;exact q
 refine⟨_,rfl,p,_,2,_,rfl,rfl,hp,rfl,_,rfl,he,fun H1 e1=>?_⟩
 rw[B6]
 refine⟨_,rfl,rfl,_,rfl,?_⟩
 by_cases g:Ct e
 case neg=>
  rw[B1 (JE g)]
  refine Bm (Bm ?_)
  refine qn ?_ H1 e1
  unfold HI
  by_cases hm:43∈l
  .rw[Af hm,Ab (fun z=>g (by rw[(h1 hm).2];exact z.1))]
  .rw[Ab hm]
 have hm:43∈l:=Decidable.byContradiction fun z=>Oo (by rw[←(h0 z).2];exact g)
 rw[Jd g]
 refine Ay ?_
 refine⟨_,rfl,p,_,0,_,rfl,rfl,e1.seqT hp,rfl,_,rfl,hb,fun H2 e2=>?_⟩
 rw[B6]
 refine⟨_,rfl,?_⟩
 unfold HI at q
 rw[Af hm,←(h1 hm).1,←(h1 hm).2]at q
 by_cases hn:Bx b
 .rw[B1 hn]
  rw[Af ⟨g,hn⟩]at q
  refine Ay ?_
  exact⟨_,rfl,p,_,0,_,rfl,rfl,(e1.trans e2).seqT hp,rfl,_,rfl,AE rfl,fun r hr=>q r _ ((e1.trans e2).trans (Ac hr _)) A6⟩
 .rw[Bo hn]
  rw[Ab (fun z=>hn z.2)]at q
  refine Bm ?_
  exact q H2 (e1.trans e2)
theorem RL (T:Tx w K mg a):AI P w K mg base AO 3 a.f_B a.d_B ["parts"] (PP 45 JN K):=by
 have G_c :=@Ii P w K mg base a T
 have G_a :=@Hh P w K mg base a T
 refine T.F_B.ok Qf (fun vs H Q E h=>?_) (fun cdv A outer s H vs Q E hr h=>?_)
 .obtain⟨_,_,rfl,_⟩:=h;rfl
 obtain⟨p,l,rfl,hp,hl,q⟩:=h
 obtain⟨b,m,e,hpv,h1,h0,hm0,hb,he⟩:=OZ 45 l hl
 rw[hpv]at hp
 refine⟨_,(@A4 _ _ _ _ _ (@Al _ _ (1) _ _ _ _ Qf.nd rfl (.inl rfl) (@As _ _ _ _ _ _ _ _ _ _ _ _ _ _ _ _ G_c (hr.mono (by omega)) (by rfl) T.m_c T.F_c.kp T.b_c .nil Ap (@A0 _ _ _ _ _ (@Ag _ _ _ _ _ _ _ B4 (pv 0) A2 (fun _ _=>rfl)) A1 (by rfl)) (by decide) (by rfl) (by rfl)) (by rfl) (by first|exact .inl rfl|exact .inr rfl|assumption)) (@A4 _ _ _ _ _ (@AK _ _ _ _ _ _ _ _ (@Au _ _ _ _ _ _ _ _ Ee (pv 1) BO (@Av _ _ (by decide) (by decide))) (@Aa _ _ _ (@Aq _ _ _ _ BO)) AU) (@A4 _ _ _ _ _ (@AK _ _ _ _ _ _ _ _ ((@Cu _ _ _ _ _ _ _ (@Cd _ _ _ (@As _ _ _ _ _ _ _ _ _ _ _ _ _ _ _ _ G_a (hr.mono (by omega)) (by rfl) T.m_a T.F_a.kp T.b_a .nil Ap (@A0 _ _ _ _ _ (@Ag _ _ _ _ _ _ _ B4 (pv 0) A2 (fun _ _=>rfl)) A1 (by rfl)) (by decide) (by rfl) (by rfl)) (by intro _;rfl)) (@Dt _ _ _ _ ((@Dg _ _ _ _ _ _ _ (@Au _ _ _ _ _ _ _ _ Bv (@Ag _ _ _ _ _ _ _ B4 (pv 0) A2 (fun _ _=>rfl)) Ar (@Av _ _ (by decide) (by decide))) (@DT _ _ _ _ (@Au _ _ _ _ _ _ _ _ Fm (pv 1) A2 (@Av _ _ (by decide) (by decide)))))).pt))).pt (@Aa _ _ _ (@Aq _ _ _ _ (@CQ _ _ _ _ _ (@A0 _ _ _ _ _ (@Ag _ _ _ _ _ _ _ B4 (pv 0) A2 (fun _ _=>rfl)) (@A0 _ _ _ _ _ (@CW _ _ _ _ _ _ CV (pv 1)) A1 (by rfl)) (by rfl))))) AU) (@Aa _ _ _ (@Aq _ _ _ _ BO))))),?_⟩
 have qn:JN l=none->∀H',A7 H H'->Q .non H':=fun z=>by rw[z]at q;exact q
 refine⟨_,rfl,p,_,2,_,rfl,rfl,hp,rfl,_,rfl,he,fun H1 e1=>?_⟩
 rw[B6]
 refine⟨_,rfl,rfl,_,rfl,?_⟩
 by_cases g:Ct e
 case neg=>
  rw[B1 (JE g)]
  refine Bm ?_
  refine qn ?_ H1 e1
  unfold JN
  by_cases hm:45∈l
  .rw[Af hm,Ab (fun z=>g (by rw[(h1 hm).2];exact z))]
  .rw[Ab hm]
 have hm:45∈l:=Decidable.byContradiction fun z=>Oo (by rw[←(h0 z).2];exact g)
 rw[Jd g]
 refine Ay ?_
 refine⟨_,rfl,p,_,0,_,rfl,rfl,e1.seqT hp,rfl,_,rfl,hb,fun H2 e2=>?_⟩
 rw[B6]
 unfold JN at q
 rw[Af hm,←(h1 hm).1,←(h1 hm).2,Af g]at q
 refine⟨_,rfl,?_⟩
 by_cases hn:Bx b
 .rw[B1 hn]
  rw[Af (.inl hn)]at q
  refine Bm (Bm ?_)
  exact⟨_,rfl,p,_,0,_,rfl,rfl,(e1.trans e2).seqT hp,rfl,_,rfl,_,rfl,AE rfl,fun r hr=>q r _ ((e1.trans e2).trans (Ac hr _)) A6⟩
 rw[Bo hn]
 refine Ay ?_
 refine⟨_,rfl,p,_,0,_,rfl,rfl,(e1.trans e2).seqT hp,rfl,rfl,_,rfl,?_⟩
 by_cases hb0:b=[]
 .subst hb0
  refine Bm ?_
  refine⟨_,rfl,_,_,rfl,rfl,_,rfl,?_⟩
  refine AF (fun c=>?_) (fun c=>?_)
  .rw[Af (.inr ⟨rfl,dT c⟩)]at q
   exact⟨_,rfl,p,_,0,_,rfl,rfl,(e1.trans e2).seqT hp,rfl,_,rfl,_,rfl,AE rfl,fun r hr=>q r _ ((e1.trans e2).trans (Ac hr _)) A6⟩
  .rw[Ab (fun z=>z.elim hn fun w=>dF c w.2)]at q
   exact q _ (e1.trans e2)
 .have e5:¬V.str (AB b)=V.str (Str.ofString ""):=fun z=>hb0 (by have:=Hs.mp (V.str.inj z);rwa [B6]at this)
  rw[Bo e5]
  refine Ay (Ay ?_)
  rw[Ab (fun z=>z.elim hn fun w=>hb0 w.1)]at q
  exact q _ (e1.trans e2)
theorem Oy (T:Tx w K mg a):AI P w K mg base AO 4 a.f_d a.d_d ["text"] (TY EC):=by
 have G_c :=@Ii P w K mg base a T
 have G_a :=@Hh P w K mg base a T
 have G_A :=@Uh P w K mg base a T
 have G_B :=@RL P w K mg base a T
 refine T.F_d.ok Np (fun vs H Q E h=>?_) (fun cdv A outer s H vs Q E hr h=>?_)
 .obtain⟨_,rfl,_⟩:=h;rfl
 obtain⟨z,rfl,hz,q⟩:=h
 refine⟨_,(@A4 _ _ _ _ _ (@AK _ _ _ _ _ _ _ _ (@Cd _ _ _ (@As _ _ _ _ _ _ _ _ _ _ _ _ _ _ _ _ G_a (hr.mono (by omega)) (by rfl) T.m_a T.F_a.kp T.b_a .nil Ap (@A0 _ _ _ _ _ (pv 0) A1 (by rfl)) (by decide) (by rfl) (by rfl)) (by intro _;rfl)) (@Aa _ _ _ (@Aq _ _ _ _ (@CQ _ _ _ _ _ (@A0 _ _ _ _ _ (pv 0) (@A0 _ _ _ _ _ A2 A1 (by rfl)) (by rfl))))) AU) (@A4 _ _ _ _ _ (@Al _ _ (1) _ _ _ _ Np.nd rfl (.inl rfl) (@As _ _ _ _ _ _ _ _ _ _ _ _ _ _ _ _ G_c (hr.mono (by omega)) (by rfl) T.m_c T.F_c.kp T.b_c .nil Ap (@A0 _ _ _ _ _ (pv 0) A1 (by rfl)) (by decide) (by rfl) (by rfl)) (by rfl) (by first|exact .inl rfl|exact .inr rfl|assumption)) (@A4 _ _ _ _ _ (@AK _ _ _ _ _ _ _ _ (@Au _ _ _ _ _ _ _ _ LU (pv 1) BO (@Av _ _ (by decide) (by decide))) (@Aa _ _ _ (@Aq _ _ _ _ (@CQ _ _ _ _ _ (@A0 _ _ _ _ _ Ar (@A0 _ _ _ _ _ (pv 1) A1 (by rfl)) (by rfl))))) AU) (@A4 _ _ _ _ _ (@AK _ _ _ _ _ _ _ _ (@Au _ _ _ _ _ _ _ _ KA Ar (pv 0) (by with_unfolding_all rfl)) (@Aa _ _ _ (@Aq _ _ _ _ (@As _ _ _ _ _ _ _ _ _ _ _ _ _ _ _ _ G_A (hr.mono (by omega)) (by rfl) T.m_A T.F_A.kp T.b_A .nil Ap (@A0 _ _ _ _ _ (@B9 _ _ _ _ _ _ _ _ _ _ _ _ DN KY KZ IG (pv 0) (@A0 _ _ _ _ _ Ar A1 (by rfl)) (by rfl) (by rfl) (by rfl) (by rfl) (by rfl)) A1 (by rfl)) (by decide) (by rfl) (by rfl)))) AU) (@Aa _ _ _ (@Aq _ _ _ _ (@As _ _ _ _ _ _ _ _ _ _ _ _ _ _ _ _ G_B (hr.mono (by omega)) (by rfl) T.m_B T.F_B.kp T.b_B .nil Ap (@A0 _ _ _ _ _ (@B9 _ _ _ _ _ _ _ _ _ _ _ _ DN KY KZ IG (pv 0) (@A0 _ _ _ _ _ Ar A1 (by rfl)) (by rfl) (by rfl) (by rfl) (by rfl) (by rfl)) A1 (by rfl)) (by decide) (by rfl) (by rfl)))))))),?_⟩
 refine⟨_,rfl,z,rfl,hz,fun H1 e1=>?_⟩
 refine⟨_,rfl,?_⟩
 by_cases hn:Bx (cds z)
 .rw[B1 hn]
  unfold EC at q
  rw[Af hn,]at q
  refine Bm ?_
  refine⟨_,rfl,AE rfl,fun r hr=>q r _ (e1.trans (Ac hr _)) (by rw[Es];exact A6)⟩
 rw[Bo hn]
 refine Ay ?_
 refine⟨_,rfl,z,rfl,hz,fun H2 e2=>?_⟩
 have e12:=e1.trans e2
 refine⟨_,rfl,rfl,_,rfl,?_⟩
 unfold EC at q
 rw[Ab hn]at q
 by_cases g:Ct (cds z)
 .rw[Jd g]
  rw[Af g]at q
  refine Bm ?_
  refine⟨_,rfl,AE rfl,fun r hr=>q r _ (e12.trans (Ac hr _)) A6⟩
 rw[JE g]
 rw[Ab g]at q
 refine Ay ?_
 refine⟨_,rfl,_,_,rfl,rfl,_,rfl,?_⟩
 have ep:(!(Builtin.Str.occurrences z (Str.ofString "+") 0 z.length 1).isEmpty)=decide (43∈cds z):=L9 z 43
 have hl:=cds_len z
 rw[ep]
 by_cases hp:43∈cds z
 .rw[B1 hp]
  rw[Af hp]at q
  refine Bm ?_
  refine⟨_,rfl,rfl,z,43,rfl,rfl,Ai (by omega),fun r hr=>?_⟩
  refine⟨r,cds z,rfl,Aw.of A6,by omega,?_⟩
  unfold HI
  rw[Af hp]
  exact q.over (e12.trans (Ac hr _))
 .rw[Bo hp]
  rw[Ab hp]at q
  refine Ay ?_
  refine⟨_,rfl,rfl,z,45,rfl,rfl,Ai (by omega),fun r hr=>?_⟩
  refine⟨r,cds z,rfl,Aw.of A6,by omega,?_⟩
  exact GH.over q (e12.trans (Ac hr _))
theorem Xr (T:Tx w K mg a):AI P w K mg base AO 1 a.f_3 a.d_3 ["self","n"] (KI a.c_Number ["n"]):=by
 refine T.F_3.ok U2 (fun vs H Q E h=>?_) (fun cdv A outer s H vs Q E hr h=>?_)
 .obtain⟨_,_,vs,rfl,hl,_⟩:=h;rw[AQ,hl];rfl
 obtain⟨x,dx,vs,rfl,hl,hx,q⟩:=h
 obtain⟨n,rfl⟩:∃n,vs=[n]:=by match vs,hl with|[n],_=>exact⟨n,rfl⟩
 refine⟨_,(@Aa _ _ _ (@Cc _ _ _ _ _ _ _ _ (pv 0) (pv 1) rfl)),?_⟩
 exact⟨_,rfl,_,rfl,x,_,dx,_,rfl,hx,T.cl_Number,T.n_Number_n,(by show 0<1000;decide),q _ (fun b o e hb=>by rw[A8 hb];exact e) ⟨dx,A6⟩⟩
theorem Tg (T:Tx w K mg a):AI P w K mg base AO 1 a.f_4 a.d_4 ["self","name"] (KI a.c_Value ["name"]):=by
 refine T.F_4.ok Wh (fun vs H Q E h=>?_) (fun cdv A outer s H vs Q E hr h=>?_)
 .obtain⟨_,_,vs,rfl,hl,_⟩:=h;rw[AQ,hl];rfl
 obtain⟨x,dx,vs,rfl,hl,hx,q⟩:=h
 obtain⟨n,rfl⟩:∃n,vs=[n]:=by match vs,hl with|[n],_=>exact⟨n,rfl⟩
 refine⟨_,(@Aa _ _ _ (@Cc _ _ _ _ _ _ _ _ (pv 0) (pv 1) rfl)),?_⟩
 exact⟨_,rfl,_,rfl,x,_,dx,_,rfl,hx,T.cl_Value,T.n_Value_name,(by show 0<1000;decide),q _ (fun b o e hb=>by rw[A8 hb];exact e) ⟨dx,A6⟩⟩
theorem XB (T:Tx w K mg a):AI P w K mg base AO 1 a.f_5 a.d_5 ["self","table","spots"] (KI a.c_Cell ["table","spots"]):=by
 refine T.F_5.ok Sk (fun vs H Q E h=>?_) (fun cdv A outer s H vs Q E hr h=>?_)
 .obtain⟨_,_,vs,rfl,hl,_⟩:=h;rw[AQ,hl];rfl
 obtain⟨x,dx,vs,rfl,hl,hx,q⟩:=h
 obtain⟨n,m,rfl⟩:∃n m,vs=[n,m]:=by match vs,hl with|[n,m],_=>exact⟨n,m,rfl⟩
 refine⟨_,(@A4 _ _ _ _ _ (@Cc _ _ _ _ _ _ _ _ (pv 0) (pv 1) rfl) (@Aa _ _ _ (@Cc _ _ _ _ _ _ _ _ (pv 0) (pv 2) rfl))),?_⟩
 refine⟨_,rfl,_,rfl,x,_,dx,_,rfl,hx,T.cl_Cell,T.n_Cell_table,(by show 0<1000;decide),?_⟩
 refine⟨_,rfl,_,rfl,x,_,dx,_,rfl,A6,T.cl_Cell,T.n_Cell_spots,(by show 1<1000;decide),?_⟩
 exact q _ (fun b o e hb=>by
  repeat rw[A8 hb]
  exact e) ⟨dx,A6⟩
theorem XW (T:Tx w K mg a):AI P w K mg base AO 1 a.f_6 a.d_6 ["self","sign","left","right"] (KI a.c_Joined ["sign","left","right"]):=by
 refine T.F_6.ok VR (fun vs H Q E h=>?_) (fun cdv A outer s H vs Q E hr h=>?_)
 .obtain⟨_,_,vs,rfl,hl,_⟩:=h;rw[AQ,hl];rfl
 obtain⟨x,dx,vs,rfl,hl,hx,q⟩:=h
 obtain⟨n,m,o,rfl⟩:∃n m o,vs=[n,m,o]:=by match vs,hl with|[n,m,o],_=>exact⟨n,m,o,rfl⟩
 refine⟨_,(@A4 _ _ _ _ _ (@Cc _ _ _ _ _ _ _ _ (pv 0) (pv 1) rfl) (@A4 _ _ _ _ _ (@Cc _ _ _ _ _ _ _ _ (pv 0) (pv 2) rfl) (@Aa _ _ _ (@Cc _ _ _ _ _ _ _ _ (pv 0) (pv 3) rfl)))),?_⟩
 refine⟨_,rfl,_,rfl,x,_,dx,_,rfl,hx,T.cl_Joined,T.n_Joined_sign,(by show 0<1000;decide),?_⟩
 refine⟨_,rfl,_,rfl,x,_,dx,_,rfl,A6,T.cl_Joined,T.n_Joined_left,(by show 1<1000;decide),?_⟩
 refine⟨_,rfl,_,rfl,x,_,dx,_,rfl,A6,T.cl_Joined,T.n_Joined_right,(by show 2<1000;decide),?_⟩
 exact q _ (fun b o e hb=>by
  repeat rw[A8 hb]
  exact e) ⟨dx,A6⟩
theorem TV (T:Tx w K mg a):AI P w K mg base AO 1 a.f_7 a.d_7 ["self","names","lows","highs","table","spots","term","path"] (X0 a.c_Deed):=by
 refine T.F_7.ok Tn (fun vs H Q E h=>?_) (fun cdv A outer s H vs Q E hr h=>?_)
 .obtain⟨_,_,_,_,_,_,_,_,_,rfl,_⟩:=h;rfl
 obtain⟨x,dx,v1,v2,v3,v4,v5,v6,v7,rfl,hx,q⟩:=h
 refine⟨_,(@A4 _ _ _ _ _ (@Cc _ _ _ _ _ _ _ _ (pv 0) (pv 1) rfl) (@A4 _ _ _ _ _ (@Cc _ _ _ _ _ _ _ _ (pv 0) (pv 2) rfl) (@A4 _ _ _ _ _ (@Cc _ _ _ _ _ _ _ _ (pv 0) (pv 3) rfl) (@A4 _ _ _ _ _ (@Cc _ _ _ _ _ _ _ _ (pv 0) (pv 4) rfl) (@A4 _ _ _ _ _ (@Cc _ _ _ _ _ _ _ _ (pv 0) (pv 5) rfl) (@A4 _ _ _ _ _ (@Cc _ _ _ _ _ _ _ _ (pv 0) (pv 6) rfl) (@Aa _ _ _ (@Cc _ _ _ _ _ _ _ _ (pv 0) (pv 7) rfl)))))))),?_⟩
 refine⟨_,rfl,_,rfl,x,_,dx,_,rfl,hx,T.cl_Deed,T.n_Deed_names,(by show 0<1000;decide),?_⟩
 refine⟨_,rfl,_,rfl,x,_,dx,_,rfl,A6,T.cl_Deed,T.n_Deed_lows,(by show 1<1000;decide),?_⟩
 refine⟨_,rfl,_,rfl,x,_,dx,_,rfl,A6,T.cl_Deed,T.n_Deed_highs,(by show 2<1000;decide),?_⟩
 refine⟨_,rfl,_,rfl,x,_,dx,_,rfl,A6,T.cl_Deed,T.n_Deed_table,(by show 3<1000;decide),?_⟩
 refine⟨_,rfl,_,rfl,x,_,dx,_,rfl,A6,T.cl_Deed,T.n_Deed_spots,(by show 4<1000;decide),?_⟩
 refine⟨_,rfl,_,rfl,x,_,dx,_,rfl,A6,T.cl_Deed,T.n_Deed_term,(by show 5<1000;decide),?_⟩
 refine⟨_,rfl,_,rfl,x,_,dx,_,rfl,A6,T.cl_Deed,T.n_Deed_path,(by show 6<1000;decide),?_⟩
 exact q _ (fun b o e hb=>by
  repeat rw[A8 hb]
  exact e) ⟨dx,A6⟩
theorem TH (T:Tx w K mg a):AI P w K mg base AO 1 a.f_8 a.d_8 ["self","size","deeds"] (Rd.spPInitN a.c_Program):=by
 refine T.F_8.ok WG (fun vs H Q E h=>?_) (fun cdv A outer s H vs Q E hr h=>?_)
 .obtain⟨_,_,_,_,_,rfl,_⟩:=h;rfl
 obtain⟨x,dx,p,v1,ys,rfl,hx,hp,yl,q⟩:=h
 refine⟨_,(@A4 _ _ _ _ _ (@Cc _ _ _ _ _ _ _ _ (pv 0) (pv 1) rfl) (@Aa _ _ _ (@Cc _ _ _ _ _ _ _ _ (pv 0) (@D7 _ _ _ _ _ _ _ _ _ Xk (by rfl) T.z_list Q1 (@A0 _ _ _ _ _ (pv 2) A1 (by rfl)) (by decide) (by decide) (by rfl) (by rfl)) rfl))),?_⟩
 refine⟨_,rfl,_,rfl,x,_,dx,_,rfl,hx,T.cl_Program,T.n_Program_size,(by show 0<1000;decide),?_⟩
 have npx:p≠x:=Df hp hx (by intro z;cases z)
 refine⟨_,rfl,p,ys,rfl,.inl (A3.of (by rw[A8 npx];exact hp)),fun l hl=>?_⟩
 have nxl:x≠l:=fun e=>by rw[e,A6]at hl;cases hl
 have hlH:H l=none:=by rw[A8 (Ne.symm nxl)]at hl;exact hl
 refine⟨_,rfl,x,_,dx,_,rfl,(by rw[A8 nxl];exact A6),T.cl_Program,T.n_Program_deeds,(by show 1<1000;decide),?_⟩
 refine q _ l (fun b o e hb=>?_) ⟨dx,A6⟩ (by rw[A8 (Ne.symm nxl)];exact A6) hlH
 rw[A8 hb,A8 (AC e hlH),A8 hb]
 exact e
theorem Wb (T:Tx w K mg a):AI P w K mg base AO 1 a.f_C a.d_C ["row"] Rd.spBare:=by
 refine T.F_C.ok QH (fun vs H Q E h=>?_) (fun cdv A outer s H vs Q E hr h=>?_)
 .obtain⟨_,rfl,_⟩:=h;rfl
 obtain⟨z,rfl,hz,q⟩:=h
 have hlen:=cds_len z
 refine⟨_,(@Aa _ _ _ (@Aq _ _ _ _ (@B9 _ _ _ _ _ _ _ _ _ _ _ _ DN PySem.F.slot_str_strip PySem.F.type_str_strip TL (@Ag _ _ _ _ _ _ _ B4 (@B9 _ _ _ _ _ _ _ _ _ _ _ _ DN KY KZ IG (pv 0) (@A0 _ _ _ _ _ Ar A1 (by rfl)) (by rfl) (by rfl) (by rfl) (by rfl) (by rfl)) A2 (fun _ _=>rfl)) (@A0 _ _ _ _ _ Ar A1 (by rfl)) (by rfl) (by rfl) (by rfl) (by rfl) (by rfl)))),?_⟩
 refine⟨_,rfl,rfl,z,59,rfl,rfl,Ai (by omega),fun r hr'=>?_⟩
 have q2:=q _ (Ac hr' (.tup (Dy 59 (cds z))))
 unfold Rd.bare at q2
 by_cases h59:59∈cds z
 .rw[Af h59]at q2
  have e:Dy 59 (cds z)=[.str (AB (Cr 59 (cds z))),.str ⟨#[59]⟩,.str (AB (Dj 59 (cds z)))]:=Af h59
  refine⟨r,_,0,.str (AB (Cr 59 (cds z))),rfl,rfl,Aw.of A6,(by rw[e];rfl),rfl,_,32,rfl,rfl,?_,?_⟩
  .rw[D3]
   unfold Cr
   exact Ai (by rw[Bt];omega)
  .rw[B6]
   exact q2
 .rw[Ab h59]at q2
  have e:Dy 59 (cds z)=[.str (AB (cds z)),.str "",.str ""]:=Ab h59
  refine⟨r,_,0,.str (AB (cds z)),rfl,rfl,Aw.of A6,(by rw[e];rfl),rfl,_,32,rfl,rfl,?_,?_⟩
  .rw[D3];exact Ai (by omega)
  .rw[B6]
   exact q2
theorem Wk (T:Tx w K mg a):AI P w K mg base AO 1 a.f_D a.d_D ["row"] Rd.spWords:=by
 refine T.F_D.ok SN (fun vs H Q E h=>?_) (fun cdv A outer s H vs Q E hr h=>?_)
 .obtain⟨_,rfl,_⟩:=h;rfl
 obtain⟨z,rfl,hz,q⟩:=h
 have hlen:=cds_len z
 refine⟨_,(@Aa _ _ _ (@Aq _ _ _ _ (@DZ _ _ _ _ _ _ _ ["word"] [none] _ _ _ _ (by rfl) (@Dv _ _ _ _ (@B9 _ _ _ _ _ _ _ _ _ _ _ _ DN Qy Qz Mb (pv 0) (@A0 _ _ _ _ _ Ar A1 (by rfl)) (by rfl) (by rfl) (by rfl) (by rfl) (by rfl))) Rq (fun _ _ _ _ _ _=>⟨(Bz (i:=0) RW rfl (.inl rfl)),(@OM _ _ _ (@Au _ _ _ _ _ _ _ _ E4 (pv 0) Ar (@Av _ _ (by decide) (by decide)))),(pv 0)⟩) (by intro _;rfl)))),?_⟩
 refine⟨_,rfl,rfl,z,_,rfl,rfl,by decide +kernel,?_,by omega,fun l ps hl hs=>?_⟩
 .have e:cds (Str.ofString " ")=[32]:=by decide +kernel
  rw[e]
  intro c hc
  rw[D8.mp hc]
  decide
 have e:cds (Str.ofString " ")=[32]:=by decide +kernel
 rw[e]at hs
 refine⟨l,rfl,⟨_,A3.of A6⟩,?_⟩
 have pl:ps.length<=100001:=by
  have:=Rd.split_many (Aj _) hs
  rw[An]at this
  omega
 refine Hc (xs:=ps.map V.str) (fun i ys H'=>H'=upd H l (.lst (ps.map V.str))/\ys=((ps.take i).filter fun y:Str=>decide (y≠Str.ofString "")).map V.str) ⟨rfl,rfl⟩ (Ai (by rw[An];omega)) (fun i ys H' hi p=>?_) (fun i x ys H' hc p=>?_) (fun ys H' p t ht=>?_)
 .obtain⟨rfl,rfl⟩:=p
  refine⟨A3.of A6,?_⟩
  rw[An]
  have h1:=Nk (fun y:Str=>decide (y≠Str.ofString "")) (ps.take i)
  rw[Bt]at h1
  omega
 .obtain⟨rfl,rfl⟩:=p
  rw[Dm]at hc
  cases hy:ps[i]? with
  |none=>rw[hy]at hc;cases hc
  |
   some y=>
   rw[hy]at hc
   cases hc
   refine⟨_,rfl,rfl,_,rfl,?_⟩
   have k1:(V.str y=V.str (Str.ofString ""))↔y=Str.ofString "":=⟨fun e=>V.str.inj e,fun e=>by rw[e]⟩
   rw[Du hy,G0]
   refine AF (fun c=>?_) (fun c=>?_)
   .have n:y≠Str.ofString "":=fun e=>by rw[B1 (k1.mpr e)]at c;cases c
    refine⟨_,rfl,rfl,?_⟩
    rw[DV,Af (B1 n),AZ]
    rfl
   .have n:y=Str.ofString "":=Hw fun n=>c (by rw[Bo fun e=>n (k1.mp e)];rfl)
    refine⟨rfl,?_⟩
    rw[DV,Ab (by rw[DX];exact fun z=>z n),List.filter_nil,Cq]
 .obtain⟨rfl,rfl⟩:=p
  rw[An,Eo]
  exact q t _ ps ((Ac hl _).trans (Ac ht _)) hs A6
theorem Wv (T:Tx w K mg a):AI P w K mg base AO 1 a.f_E a.d_E ["text","at"] Rd.spPend:=by
 refine T.F_E.ok JF (fun vs H Q E h=>?_) (fun cdv A outer s H vs Q E hr h=>?_)
 .obtain⟨_,_,rfl,_⟩:=h;rfl
 obtain⟨z,i,rfl,hi,hz,q⟩:=h
 have hlen:=cds_len z
 have at':∀k:Nat,k<(cds z).length->∃c,(cds z).drop k=c::(cds z).drop (k+1)/\Bu z.cps.toList ((k:Nat):Int)=some c:=fun k hk=>⟨(cds z)[k],F7 hk,D6 (BB hk)⟩
 have zl:z.length<=sizeLine:=Ai (by omega)
 refine⟨_,(@A4 _ _ _ _ _ (@AK _ _ _ _ _ _ _ _ (@Au _ _ _ _ _ _ _ _ KA (@Ag _ _ _ _ _ _ _ EB (pv 0) (pv 1) (fun _ _=>rfl)) (@C7 _ _ _ _ _ (by rfl) T.g_SIGNS T.r_SIGNS (by decide)) (by with_unfolding_all rfl)) (@Aa _ _ _ (@Aq _ _ _ _ (@A9 _ _ _ _ _ _ _ _ C4 (pv 1) A2))) AU) (@A4 _ _ _ _ _ (@Al _ _ (2) _ _ _ _ JF.nd rfl (.inl rfl) Cv (by rfl) (by first|exact .inl rfl|exact .inr rfl|assumption)) (@A4 _ _ _ _ _ (@HQ _ _ _ _ _ _ PassesOwn.never ((@Dg _ _ _ _ _ _ _ (@Au _ _ _ _ _ _ _ _ Ey (pv 1) (@Bb _ _ _ _ _ _ _ _ _ Ih (by rfl) T.z_len BJ (@A0 _ _ _ _ _ (pv 0) A1 (by rfl)) (by decide) (by decide) (by rfl) (by rfl)) (@Av _ _ (by decide) (by decide))) (@DT _ _ _ _ ((@Cu _ _ _ _ _ _ _ (@Cd _ _ _ (pv 2) (by intro _;rfl)) (@Dt _ _ _ _ (@Au _ _ _ _ _ _ _ _ Um (@Ag _ _ _ _ _ _ _ EB (pv 0) (pv 1) (fun _ _=>rfl)) (@C7 _ _ _ _ _ (by rfl) T.g_SIGNS T.r_SIGNS (by decide)) (by with_unfolding_all rfl))))).pt))).pt (@A4 _ _ _ _ _ (@Al _ _ (2) _ _ _ _ JF.nd rfl (.inl rfl) (@M9 _ _ _ _ _ _ _ (@DS _ _ _ _ _ _ _ _ Bv (@Ag _ _ _ _ _ _ _ EB (pv 0) (pv 1) (fun _ _=>rfl)) Ar (@Av _ _ (by decide) (by decide))) (@FD _ _ _ _ _ (@ID _ _ _ _ _ _ _ (pv 2) (@FD _ _ _ _ _ (@DS _ _ _ _ _ _ _ _ E4 (@Ag _ _ _ _ _ _ _ EB (pv 0) (pv 1) (fun _ _=>rfl)) Ar (@Av _ _ (by decide) (by decide))))))) (by rfl) (by first|exact .inl rfl|exact .inr rfl|assumption)) (@Aa _ _ _ (@WC _ _ (1) _ _ _ _ _ _ JF.nd rfl (.inl rfl) A2 Ln (by first|exact .inl rfl|exact .inr rfl|assumption))))) (@Aa _ _ _ (@Aq _ _ _ _ (pv 1)))))),?_⟩
 obtain⟨c,hd,hc⟩:=at' i hi
 refine⟨_,rfl,_,rfl,_,_,c,rfl,rfl,zl,hc,_,_,rfl,rfl,_,rfl,?_⟩
 refine AF (fun cc=>?_) (fun cc=>?_)
 .have h5:c∈Rd.sg5:=Hw fun n=>BQ ((Rd.not_sign (z:=⟨#[c]⟩) (c:=c) (r:=[]) rfl n).symm.trans cc)
  refine⟨_,rfl,_,_,rfl,rfl,?_⟩
  rw[hd,Rd.pend,Af h5]at q
  exact q
 have h5:c∉Rd.sg5:=fun n=>cc (Rd.is_sign n)
 have ep:Rd.pend ((cds z).drop i)=Rd.scan false ((cds z).drop i):=by rw[hd,Rd.pend,Ab h5]
 rw[ep]at q
 dsimp only[Am]
 refine⟨fun m σ' H'=>H'=H/\∃(j:Nat) (b:Bool),σ'=[some (.str z),some (.int ((i+j:Nat):Int)),some (.bl b)]/\i+j<=(cds z).length/\m=(cds z).length-(i+j)/\Rd.scan false ((cds z).drop i)=j+Rd.scan b ((cds z).drop (i+j)),⟨_,rfl,0,false,rfl,by omega,rfl,by rw[Nc,Nat.add_zero]⟩,?_⟩
 rintro m σ' H' ⟨rfl,j,b,rfl,hj,rfl,hs⟩
 refine⟨_,rfl,_,rfl,_,rfl,zl,_,_,rfl,rfl,_,rfl,?_⟩
 refine AF (fun lt=>?_) (fun ge=>?_)
 .have lt:((i+j:Nat):Int)<((z.length:Nat):Int):=dT lt
  obtain⟨d,hd2,hd3⟩:=at' (i+j) (by omega)
  rw[hd2]at hs
  have stp:(b=true\/d∉Rd.sg5)->Rd.scan false ((cds z).drop i)=(j+1)+Rd.scan (Rd.ins b d) ((cds z).drop (i+(j+1))):=fun hc2=>by
   rw[Rd.scan,Af hc2]at hs
   rw[hs,show i+(j+1)=i+j+1 by omega]
   omega
  have body:∀(D:DG),(b=true\/d∉Rd.sg5)->∃N:St->Hp->Prop,(∀σ' H'',N σ' H''->∃m',m'<(cds z).length-(i+j)/\(H''=H'/\∃(j:Nat) (b:Bool),σ'=[some (.str z),some (.int ((i+j:Nat):Int)),some (.bl b)]/\i+j<=(cds z).length/\m'=(cds z).length-(i+j)/\Rd.scan false ((cds z).drop i)=j+Rd.scan b ((cds z).drop (i+j))))/\
    DO (Gb (NX (EU PX (EU Lj (EE 0) (EE 1)) (tC (V.str (Str.ofString "[")))) (Lr (EE 2) (EU Ny (EU Lj (EE 0) (EE 1)) (tC (V.str (Str.ofString "]")))))) (Am 2)) (LR 1 (tC (V.int 1)) (MM fun i j=>i+j)) {D with nx:=N,ct:=N} [some (V.str z),some (V.int ((i+j:Nat):Int)),some (V.bl b)] H':=fun D hc2=>by
   refine⟨fun σ'' H''=>H''=H'/\σ''=[some (.str z),some (.int (((i+j:Nat):Int)+1)),some (.bl (Rd.ins b d))],fun σ'' H'' hN=>?_,?_⟩
   .obtain⟨rfl,rfl⟩:=hN
    exact⟨_,(by omega:(cds z).length-(i+(j+1))<(cds z).length-(i+j)),rfl,j+1,Rd.ins b d,rfl,by omega,rfl,stp hc2⟩
   .refine⟨_,rfl,_,rfl,_,_,d,rfl,rfl,zl,hd3,rfl,_,rfl,?_⟩
    have k1:∀e:Nat,(V.str ⟨#[d]⟩=V.str ⟨#[e]⟩)↔d=e:=fun e=>⟨fun x=>by injection x with x;injection x with x;simpa using x,fun x=>by rw[x]⟩
    have fin:∀b',b'=Rd.ins b d->Am 2 (V.bl b') [some (V.str z),some (V.int ((i+j:Nat):Int)),some (V.bl b)] H' fun σ2 H2=>LR 1 (tC (V.int 1)) (MM fun i j=>i+j) {D with nx:=fun σ'' H''=>H''=H'/\σ''=[some (.str z),some (.int (((i+j:Nat):Int)+1)),some (.bl (Rd.ins b d))],ct:=fun σ'' H''=>H''=H'/\σ''=[some (.str z),some (.int (((i+j:Nat):Int)+1)),some (.bl (Rd.ins b d))]} σ2 H2:=fun b' eb=>by
     subst eb
     dsimp only[Am]
     exact⟨_,rfl,_,_,rfl,rfl,rfl,rfl⟩
    refine AF (fun c1=>?_) (fun c1=>?_)
    .refine fin true ?_
     have e:d=91:=(k1 91).mp (dT c1)
     unfold Rd.ins
     rw[B1 e,Bool.true_or]
    .have e:d≠91:=fun x=>dF c1 ((k1 91).mpr x)
     refine⟨_,rfl,b,rfl,?_⟩
     refine AF (fun c2=>?_) (fun c2=>?_)
     .refine⟨_,rfl,_,rfl,_,_,d,rfl,rfl,zl,hd3,rfl,fin _ ?_⟩
      unfold Rd.ins
      rw[Bo e,c2,Bool.false_or,Bool.true_and]
      show(!decide (V.str ⟨#[d]⟩=V.str ⟨#[93]⟩))=decide (d≠93)
      rw[←decide_not]
      exact QC.mpr (not_congr (k1 93))
     .refine fin false ?_
      unfold Rd.ins
      rw[Bo e,Bool.eq_false_iff.mpr c2]
      rfl
  refine⟨_,rfl,b,rfl,?_⟩
  refine AF (fun hb=>?_) (fun hb=>?_)
  .exact body {nx:=fun _ _=>True,rt:=Q,bk:=Gm (EE 1) {nx:=fun _ H'=>Q V.non H',rt:=Q}} (.inl hb)
  .refine⟨_,rfl,_,rfl,_,_,d,rfl,rfl,zl,hd3,_,_,rfl,rfl,_,rfl,?_⟩
   refine AF (fun c3=>?_) (fun c3=>?_)
   .exact body {nx:=fun _ _=>True,rt:=Q,bk:=Gm (EE 1) {nx:=fun _ H'=>Q V.non H',rt:=Q}} (.inr fun n=>by rw[Rd.is_sign n]at c3;cases c3)
   .have h6:d∈Rd.sg5:=Hw fun n=>c3 (by rw[Rd.not_sign (z:=⟨#[d]⟩) (c:=d) (r:=[]) rfl n];rfl)
    rw[Rd.scan,Ab (fun x=>x.elim hb fun y=>y h6),Nat.add_zero]at hs
    rw[hs]at q
    exact⟨_,rfl,q⟩
 .have ge:¬((i+j:Nat):Int)<((z.length:Nat):Int):=dF ge
  have nl:(cds z).drop (i+j)=[]:=IQ (by omega)
  rw[nl]at hs
  have hs:Rd.scan false ((cds z).drop i)=j:=hs
  rw[hs]at q
  exact⟨_,rfl,q⟩
theorem P2 (T:Tx w K mg a):AI P w K mg base AO 5 a.f_m a.d_m ["text"] (Rd.spCellOf (Bc a)):=by
 have G_a :=@Hh P w K mg base a T
 have G_d :=@Oy P w K mg base a T
 have G_5 :=@XB P w K mg base a T
 refine T.F_m.ok Ll (fun vs H Q E h=>?_) (fun cdv A outer s H vs Q E hr h=>?_)
 .obtain⟨_,_,rfl,_⟩:=h;rfl
 obtain⟨z,sp,rfl,ok,q⟩:=h
 obtain⟨hz,hne,hl3,hsp⟩:=ok
 have hcel:=Rd.cel_cds (z:=z) hne
 have hcl:(Ba z sp).length<=146:=Fg (by have:=hz.2.1;rw[cds_len]at this;omega) hl3 fun s hs=>(hsp s hs).2
 have nz:91∉cds z:=Rd.name_no hz (by omega)
 generalize hI:Rd.inner (sp.map fun s=>cds (B5 s))=I at hcel
 have hp:Dy 91 (cds (Ba z sp))=[.str z,.str ⟨#[91]⟩,.str (AB (I++[93]))]:=by
  unfold Dy
  rw[hcel,Af (Cp _ AA),(Rd.bef_app nz).1,(Rd.bef_app nz).2,Es]
 have zl:z.length<=1000:=by have:=hz.2.1;rw[cds_len]at this;omega
 refine⟨_,(@A4 _ _ _ _ _ (@Al _ _ (1) _ _ _ _ Ll.nd rfl (.inl rfl) (@B9 _ _ _ _ _ _ _ _ _ _ _ _ DN KY KZ IG (pv 0) (@A0 _ _ _ _ _ Ar A1 (by rfl)) (by rfl) (by rfl) (by rfl) (by rfl) (by rfl)) (by rfl) (by first|exact .inl rfl|exact .inr rfl|assumption)) (@A4 _ _ _ _ _ (@AK _ _ _ _ _ _ _ _ ((@Cu _ _ _ _ _ _ _ (@Ew _ _ _ _ (@Cd _ _ _ (@As _ _ _ _ _ _ _ _ _ _ _ _ _ _ _ _ G_a (hr.mono (by omega)) (by rfl) T.m_a T.F_a.kp T.b_a .nil Ap (@A0 _ _ _ _ _ (@Ag _ _ _ _ _ _ _ B4 (pv 1) A2 (fun _ _=>rfl)) A1 (by rfl)) (by decide) (by rfl) (by rfl)) (by intro _;rfl))) (@Dt _ _ _ _ (@Ew _ _ _ _ (@Cd _ _ _ (@B9 _ _ _ _ _ _ _ _ _ _ _ _ DN PySem.F.slot_str_endswith PySem.F.type_str_endswith UO (@Ag _ _ _ _ _ _ _ B4 (pv 1) A2 (fun _ _=>rfl)) (@A0 _ _ _ _ _ Ar A1 (by rfl)) (by rfl) (by rfl) (by rfl) (by rfl) (by rfl)) (by intro _;rfl)))))).pt (@Aa _ _ _ (@Aq _ _ _ _ BO)) AU) (@A4 _ _ _ _ _ (@Al _ _ (2) _ _ _ _ Ll.nd rfl (.inl rfl) (@D7 _ _ _ _ _ _ _ _ _ Gu (by rfl) T.z_tuple Gf (@A0 _ _ _ _ _ (@DZ _ _ _ _ _ _ _ ["inner"] [none] _ _ _ _ (by rfl) (@Dv _ _ _ _ (@B9 _ _ _ _ _ _ _ _ _ _ _ _ DN Qy Qz Mb (@Di _ _ _ _ _ _ _ _ _ _ FC (@Ag _ _ _ _ _ _ _ B4 (pv 1) A2 (fun _ _=>rfl)) E7 (@Cz _ _ _ (@CW _ _ _ _ _ _ CV A2))) (@A0 _ _ _ _ _ Ar A1 (by rfl)) (by rfl) (by rfl) (by rfl) (by rfl) (by rfl))) Rv (fun _ _ _ _ _ _=>⟨(Bz (i:=0) V3 rfl (.inl rfl)),@Eh _,(@As _ _ _ _ _ _ _ _ _ _ _ _ _ _ _ _ G_d (hr.mono (by omega)) (by rfl) T.m_d T.F_d.kp T.b_d .nil Ap (@A0 _ _ _ _ _ (pv 0) A1 (by rfl)) (by decide) (by rfl) (by rfl))⟩) (by intro _;rfl)) A1 (by rfl)) (by decide) (by decide) (by rfl) (by rfl)) (by rfl) (by first|exact .inl rfl|exact .inr rfl|assumption)) (@A4 _ _ _ _ _ (@AK _ _ _ _ _ _ _ _ ((@Cu _ _ _ _ _ _ _ (@Au _ _ _ _ _ _ _ _ Fm (@Bb _ _ _ _ _ _ _ _ _ C6 (by rfl) T.z_len BJ (@A0 _ _ _ _ _ (pv 2) A1 (by rfl)) (by decide) (by decide) (by rfl) (by rfl)) (@C7 _ _ _ _ _ (by rfl) T.g_MOST_SPOTS T.r_MOST_SPOTS (by decide)) (@Av _ _ (by decide) (by decide))) (@Dt _ _ _ _ (@Ew _ _ _ _ (@Cd _ _ _ (@Bb _ _ _ _ _ _ _ _ _ (@Lg _ rfl) (by rfl) T.z_all Mf (@A0 _ _ _ _ _ (@DZ _ _ _ _ _ _ _ ["spot"] [none] _ _ _ _ (by rfl) (@Kg _ _ _ _ (pv 2)) VH (fun _ _ _ _ _ _=>⟨(Bz (i:=0) Ra rfl (.inl rfl)),@Eh _,(@DS _ _ _ _ _ _ _ _ LU (pv 0) BO (@Av _ _ (by decide) (by decide)))⟩) (by intro _;rfl)) A1 (by rfl)) (by decide) (by decide) (by rfl) (by rfl)) (by intro _;rfl)))))).pt (@Aa _ _ _ (@Aq _ _ _ _ BO)) AU) (@Aa _ _ _ (@Aq _ _ _ _ (@Hd _ _ _ _ _ _ _ _ _ _ _ _ _ _ _ _ _ T.mk_Cell G_5 (hr.mono (by omega)) (by rfl) T.mc_Cell T.b_5 .nil Ap (@A0 _ _ _ _ _ (@Ag _ _ _ _ _ _ _ B4 (pv 1) A2 (fun _ _=>rfl)) (@A0 _ _ _ _ _ (pv 2) A1 (by rfl)) (by rfl)) (by decide) (by rfl) (by rfl)))))))),?_⟩
 refine⟨_,rfl,rfl,_,91,rfl,rfl,Ai (by omega),fun r hr'=>?_⟩
 rw[hp]
 dsimp only[Am]
 refine⟨_,rfl,r,_,_,_,rfl,rfl,Aw.of A6,rfl,z,rfl,zl,fun H2 e2=>⟨_,rfl,?_⟩⟩
 rw[B1 hz]
 refine Ay ?_
 have hr2:=e2 _ _ (A6 (H:=H))
 refine⟨_,rfl,r,_,_,_,rfl,rfl,Aw.of hr2,rfl,rfl,_,93,rfl,rfl,_,rfl,?_⟩
 have lst:(cds (AB (I++[93]))).getLast?=some 93:=by rw[B6,List.getLast?_concat]
 rw[B1 lst]
 refine Ay ?_
 have hIl:(AB (I++[93])).length<=146:=by
  have e:=congrArg List.length hcel
  rw[cds_len,Ah,AQ]at e
  rw[D3]
  omega
 refine⟨_,rfl,r,_,_,_,rfl,rfl,Aw.of hr2,rfl,_,rfl,_,rfl,_,rfl,Ai (by omega),rfl,_,_,rfl,rfl,by decide +kernel,?_,?_,fun lp ps hlp hs=>?_⟩
 .have e:cds (Str.ofString "][")=[93,91]:=by decide +kernel
  rw[e]
  intro c hc
  simp only[AG,CL,or_false]at hc
  omega
 .rw[B6,Rd.cut_last,D3]
  rw[D3,Ah]at hIl
  omega
 have hps:ps.map cds=sp.map fun s=>cds (B5 s):=by
  have e:cds (Str.ofString "][")=[93,91]:=by decide +kernel
  rw[e,B6,B6,Rd.cut_last,←hI]at hs
  refine hs.fn (Rd.inner_split (by simpa using hne) fun x hx=>?_)
  obtain⟨s,hs',rfl⟩:=CK.mp hx
  exact Rd.spot_free (hsp s hs') (by omega)
 have psl:ps.length=sp.length:=by have:=congrArg List.length hps;simpa using this
 have H3s:=Ac hlp (.lst (ps.map V.str))
 refine⟨lp,rfl,⟨_,A3.of A6⟩,?_⟩
 refine Hc (xs:=ps.map V.str) (fun i ys H'=>A7 (upd H2 lp (.lst (ps.map V.str))) H'/\AH (Cm H') ys (sp.take i)/\i<=sp.length) ⟨A7.refl _,⟨rfl,fun _ _ _ x=>by cases x⟩,Bw _⟩ (Ai (by rw[An];omega)) (fun i ys H' hi p=>?_) (fun i x ys H' hc p=>?_) (fun ys H' p t ht=>?_)
 .exact⟨A3.of (p.1 _ _ A6),by rw[p.2.1.1,Bt];omega⟩
 .obtain⟨pe,pa,pi⟩:=p
  rw[Dm]at hc
  cases hy:ps[i]? with
  |none=>rw[hy]at hc;cases hc
  |
   some y=>
   rw[hy]at hc
   cases hc
   have hil:i<sp.length:=by rw[←psl];exact(BE.mp hy).1
   have ey:cds y=cds (B5 sp[i]):=by
    have e:=congrArg (fun l:List (List Nat)=>l[i]?) hps
    simp only[Dm,hy,BB hil,Option.map_some]at e
    exact BX e
   have hn:=hsp sp[i] (F6 hil)
   refine⟨_,rfl,y,rfl,?_,?_⟩
   .have:=Eg hn.2
    rw[←cds_len]at this ⊢
    rw[ey]
    omega
   rw[ey,Rd.spot_read hn]
   intro r5 H5 e5 h5
   rw[Es]at h5
   refine⟨pe.trans e5,?_,hil⟩
   rw[Du (BB hil)]
   exact(pa.mono fun _ _ x=>x.tk (A7.tk e5)).snoc ⟨r5,rfl,h5⟩
 obtain⟨pe,pa,-⟩:=p
 rw[An,psl,Eo]at pa
 refine⟨t,ys,rfl,.inl ⟨A3.of A6,fun tp htp=>?_⟩⟩
 dsimp only[Am]
 have s4:A7 H (upd (upd H' t (.lst ys)) tp (.tup ys)):=(Ac hr' _).trans (e2.trans (H3s.trans (pe.trans ((Ac ht _).trans (Ac htp _)))))
 have pa4:AH (Cm (upd (upd H' t (.lst ys)) tp (.tup ys))) ys sp:=pa.mono fun _ _ x=>x.tk (A7.tk ((Ac ht _).trans (Ac htp _)))
 have htp4:(upd (upd H' t (.lst ys)) tp (.tup ys)) tp=some (.tup ys):=A6
 have hr4:(upd (upd H' t (.lst ys)) tp (.tup ys)) r=some (.tup [.str z,.str ⟨#[91]⟩,.str (AB (I++[93]))]):=((Ac ht _).trans (Ac htp _)) _ _ (pe _ _ (H3s _ _ hr2))
 generalize upd (upd H' t (.lst ys)) tp (.tup ys)=H4 at s4 pa4 htp4 hr4
 have yl:ys.length=sp.length:=pa.1
 refine⟨_,rfl,tp,ys,rfl,.inr (Aw.of htp4),_,_,rfl,rfl,_,rfl,?_⟩
 have nl:decide ((3:Int)<((ys.length:Nat):Int))=false:=Bo (by omega)
 rw[nl]
 refine Ay ?_
 refine⟨_,rfl,tp,rfl,⟨_,Aw.of htp4⟩,?_⟩
 refine K9 (xs:=ys) (fun i bs H'=>H'=H4/\bs=(List.replicate i true).map V.bl) ⟨rfl,rfl⟩ (Ai (by omega)) (fun i bs H' hi p=>?_) (fun i x bs H' hc p=>?_) (fun bs H' p t5 ht5=>?_)
 .obtain⟨rfl,rfl⟩:=p
  exact⟨Aw.of htp4,by simp⟩
 .obtain⟨rfl,rfl⟩:=p
  have hil:i<sp.length:=by rw[←yl];exact(BE.mp hc).1
  obtain⟨t6,rfl,_⟩:=pa4.2 i x sp[i] hc (BB hil)
  refine⟨_,rfl,rfl,rfl,?_⟩
  rw[List.replicate_succ',AZ]
  rfl
 obtain⟨rfl,rfl⟩:=p
 refine⟨t5,_,rfl,A3.of A6,_,rfl,?_⟩
 have al:(List.replicate ys.length true).all id=true:=by simp
 rw[al]
 refine Ay ?_
 have s5:=Ac ht5 (.lst ((List.replicate ys.length true).map V.bl))
 refine⟨_,rfl,r,_,0,_,rfl,rfl,Aw.of (s5 _ _ hr4),rfl,_,rfl,fun x dx nx ndx ne=>⟨x,dx,[_,_],rfl,rfl,A6,fun H6 k6 hx6=>⟨rfl,?_⟩⟩⟩
 obtain⟨dx6,hx6⟩:=hx6
 have e6:=G7 nx ndx k6
 exact q _ _ (s4.trans (s5.trans e6)) ⟨x,dx6,tp,rfl,hx6,ys,(s5.trans e6) _ _ htp4,pa4.mono fun _ _ x=>x.tk (A7.tk (s5.trans e6))⟩
theorem U7 (T:Tx w K mg a):AI P w K mg base AO 6 a.f_F a.d_F ["text"] (Rd.spPartOf (Bc a)):=by
 have G_a :=@Hh P w K mg base a T
 have G_c :=@Ii P w K mg base a T
 have G_m :=@P2 P w K mg base a T
 have G_4 :=@Tg P w K mg base a T
 have G_3 :=@Xr P w K mg base a T
 refine T.F_F.ok Ou (fun vs H Q E h=>?_) (fun cdv A outer s H vs Q E hr h=>?_)
 .obtain⟨_,rfl,_⟩:=h;rfl
 obtain⟨k,rfl,ok,q⟩:=h
 refine⟨_,(@A4 _ _ _ _ _ (@AK _ _ _ _ _ _ _ _ (@Au _ _ _ _ _ _ _ _ KA (pv 0) (@C7 _ _ _ _ _ (by rfl) T.g_SIGNS T.r_SIGNS (by decide)) (by with_unfolding_all rfl)) (@Aa _ _ _ (@Aq _ _ _ _ (pv 0))) AU) (@A4 _ _ _ _ _ (@AK _ _ _ _ _ _ _ _ (@Cd _ _ _ (@As _ _ _ _ _ _ _ _ _ _ _ _ _ _ _ _ G_a (hr.mono (by omega)) (by rfl) T.m_a T.F_a.kp T.b_a .nil Ap (@A0 _ _ _ _ _ (pv 0) A1 (by rfl)) (by decide) (by rfl) (by rfl)) (by intro _;rfl)) (@Aa _ _ _ (@Aq _ _ _ _ (@Hd _ _ _ _ _ _ _ _ _ _ _ _ _ _ _ _ _ T.mk_Value G_4 (hr.mono (by omega)) (by rfl) T.mc_Value T.b_4 .nil Ap (@A0 _ _ _ _ _ (pv 0) A1 (by rfl)) (by decide) (by rfl) (by rfl)))) AU) (@A4 _ _ _ _ _ (@Al _ _ (1) _ _ _ _ Ou.nd rfl (.inl rfl) (@As _ _ _ _ _ _ _ _ _ _ _ _ _ _ _ _ G_c (hr.mono (by omega)) (by rfl) T.m_c T.F_c.kp T.b_c .nil Ap (@A0 _ _ _ _ _ (pv 0) A1 (by rfl)) (by decide) (by rfl) (by rfl)) (by rfl) (by first|exact .inl rfl|exact .inr rfl|assumption)) (@A4 _ _ _ _ _ (@AK _ _ _ _ _ _ _ _ (@Au _ _ _ _ _ _ _ _ LU (pv 1) BO (@Av _ _ (by decide) (by decide))) (@Aa _ _ _ (@Aq _ _ _ _ (@Hd _ _ _ _ _ _ _ _ _ _ _ _ _ _ _ _ _ T.mk_Number G_3 (hr.mono (by omega)) (by rfl) T.mc_Number T.b_3 .nil Ap (@A0 _ _ _ _ _ (pv 1) A1 (by rfl)) (by decide) (by rfl) (by rfl)))) AU) (@Aa _ _ _ (@Aq _ _ _ _ (@As _ _ _ _ _ _ _ _ _ _ _ _ _ _ _ _ G_m (hr.mono (by omega)) (by rfl) T.m_m T.F_m.kp T.b_m .nil Ap (@A0 _ _ _ _ _ (pv 0) A1 (by rfl)) (by decide) (by rfl) (by rfl)))))))),?_⟩
 refine⟨_,rfl,_,_,rfl,rfl,_,rfl,?_⟩
 cases k with
 |
  s c=>
  have e:=Rd.is_sign ok
  refine AF (fun _=>⟨_,rfl,q _ _ (A7.refl _) rfl⟩) (fun n=>absurd e n)
 |
  t w=>
  obtain⟨c,r,ec,hc⟩:=(Rd.Tk.whole ok).head
  have e:=Rd.not_sign ec hc
  refine AF (fun y=>absurd (e.symm.trans y) BQ) (fun _=>?_)
  cases w with
  |j _ _ _=>exact ok.elim
  |
   v z=>
   have hn:Bx (cds z):=ok
   refine⟨_,rfl,z,rfl,?_,fun H1 e1=>⟨_,rfl,?_⟩⟩
   .have:=hn.2.1;rw[cds_len]at this;omega
   refine AF (fun _=>?_) (fun n=>absurd (B1 hn) n)
   refine⟨_,rfl,fun x dx nx ndx ne=>⟨x,dx,[_],rfl,rfl,A6,fun H2 k2 hx2=>⟨rfl,?_⟩⟩⟩
   obtain⟨dx2,hx2⟩:=hx2
   exact q _ _ (e1.trans (G7 nx ndx k2)) ⟨x,dx2,rfl,hx2⟩
  |
   n i=>
   obtain⟨g,d⟩:=Rd.nS_good ok.1 ok.2
   have l18:(nS i).length<=1000:=by have:=g.2.1;rw[cds_len]at this;omega
   refine⟨_,rfl,nS i,rfl,l18,fun H1 e1=>⟨_,rfl,?_⟩⟩
   refine AF (fun y=>absurd (dT y) (Rd.num_name g)) (fun _=>?_)
   refine⟨_,rfl,nS i,rfl,l18,fun H2 e2=>?_⟩
   rw[Jd g,d]
   dsimp only[Am]
   refine⟨_,rfl,rfl,_,rfl,?_⟩
   refine AF (fun _=>?_) (fun n=>absurd rfl n)
   refine⟨_,rfl,fun x dx nx ndx ne=>⟨x,dx,[_],rfl,rfl,A6,fun H3 k3 hx3=>⟨rfl,?_⟩⟩⟩
   obtain⟨dx3,hx3⟩:=hx3
   exact q _ _ (e1.trans (e2.trans (G7 nx ndx k3))) ⟨x,dx3,rfl,hx3⟩
  |
   c z sp=>
   have ok':=ok
   obtain⟨hz,hne,hl3,hsp⟩:=ok
   have hcel:=Rd.cel_cds (z:=z) hne
   have hcl:(Ba z sp).length<=146:=Fg (by have:=hz.2.1;rw[cds_len]at this;omega) hl3 fun s hs=>(hsp s hs).2
   have m91:(91:Nat)∈cds (Ba z sp):=by rw[hcel];exact Cp _ AA
   refine⟨_,rfl,Ba z sp,rfl,by omega,fun H1 e1=>⟨_,rfl,?_⟩⟩
   refine AF (fun y=>absurd (dT y) (J8 m91 (by omega))) (fun _=>?_)
   refine⟨_,rfl,Ba z sp,rfl,by omega,fun H2 e2=>?_⟩
   rw[JE (Kj m91 (by omega))]
   dsimp only[Am]
   refine⟨_,rfl,rfl,_,rfl,?_⟩
   refine AF (fun y=>absurd y (by decide)) (fun _=>?_)
   exact⟨_,rfl,z,sp,rfl,ok',fun x H3 e3 hx=>q _ _ (e1.trans (e2.trans e3)) hx⟩
theorem Wa (T:Tx w K mg a):AI P w K mg base AO 7 a.f_G a.d_G ["text"] (Rd.spPartsOf (Bc a)):=by
 have G_E :=@Wv P w K mg base a T
 have G_F :=@U7 P w K mg base a T
 refine T.F_G.ok GI (fun vs H Q E h=>?_) (fun cdv A outer s H vs Q E hr h=>?_)
 .obtain⟨_,_,rfl,_⟩:=h;rfl
 obtain⟨z,ks,rfl,hz,zl,ok,ad,q⟩:=h
 have hlen:=cds_len z
 refine⟨_,(@A4 _ _ _ _ _ (@Al _ _ (1) _ _ _ _ GI.nd rfl (.inl rfl) (@Bj _ _ _ _ A1) (by rfl) (by first|exact .inl rfl|exact .inr rfl|assumption)) (@A4 _ _ _ _ _ (@Al _ _ (2) _ _ _ _ GI.nd rfl (.inl rfl) A2 (by rfl) (by first|exact .inl rfl|exact .inr rfl|assumption)) (@A4 _ _ _ _ _ (@HQ _ _ _ _ _ _ PassesOwn.never (@Au _ _ _ _ _ _ _ _ Ey (pv 2) (@Bb _ _ _ _ _ _ _ _ _ Ih (by rfl) T.z_len BJ (@A0 _ _ _ _ _ (pv 0) A1 (by rfl)) (by decide) (by decide) (by rfl) (by rfl)) (@Av _ _ (by decide) (by decide))) (@A4 _ _ _ _ _ (@Al _ _ (3) _ _ _ _ GI.nd rfl (.inl rfl) (@As _ _ _ _ _ _ _ _ _ _ _ _ _ _ _ _ G_E (hr.mono (by omega)) (by rfl) T.m_E T.F_E.kp T.b_E .nil Ap (@A0 _ _ _ _ _ (pv 0) (@A0 _ _ _ _ _ (pv 2) A1 (by rfl)) (by rfl)) (by decide) (by rfl) (by rfl)) (by rfl) (by first|exact .inl rfl|exact .inr rfl|assumption)) (@A4 _ _ _ _ _ (@Al _ _ (4) _ _ _ _ GI.nd rfl (.inl rfl) (@As _ _ _ _ _ _ _ _ _ _ _ _ _ _ _ _ G_F (hr.mono (by omega)) (by rfl) T.m_F T.F_F.kp T.b_F .nil Ap (@A0 _ _ _ _ _ (@Di _ _ _ _ _ _ _ _ _ _ FC (pv 0) (@Cz _ _ _ (pv 2)) (@Cz _ _ _ (pv 3))) A1 (by rfl)) (by decide) (by rfl) (by rfl)) (by rfl) (by first|exact .inl rfl|exact .inr rfl|assumption)) (@A4 _ _ _ _ _ (@AK _ _ _ _ _ _ _ _ (@Au _ _ _ _ _ _ _ _ Ee (pv 4) BO (@Av _ _ (by decide) (by decide))) (@Aa _ _ _ (@Aq _ _ _ _ BO)) AU) (@A4 _ _ _ _ _ (@Bp _ _ _ _ (@B9 _ _ _ _ _ _ _ _ _ _ _ _ Bh BS BU BM (pv 1) (@A0 _ _ _ _ _ (pv 4) A1 (by rfl)) (by rfl) (by rfl) (by rfl) (by rfl) (by rfl)) (by rfl)) (@Aa _ _ _ (@Al _ _ (2) _ _ _ _ GI.nd rfl (.inl rfl) (pv 3) (by rfl) (by first|exact .inl rfl|exact .inr rfl|assumption)))))))) (@Aa _ _ _ (@Aq _ _ _ _ (pv 1)))))),?_⟩
 refine⟨AE rfl,fun l hl=>?_⟩
 dsimp only[Am]
 refine⟨fun m σ' H'=>∃(j i:Nat) (xs:List V) (o3 o4:Option V),σ'=[some (.str z),some (.ref l),some (.int (i:Int)),o3,o4]/\j<=ks.length/\m=ks.length-j/\(cds z).drop i=Rd.txts (ks.drop j)/\i<=(cds z).length/\xs.length<=i/\A7 H H'/\H' l=some (.lst xs)/\AH (Rd.PtAt (Bc a) H') xs (ks.take j),⟨_,0,0,[],none,none,rfl,Bw _,rfl,hz,Bw _,Bw _,Ac hl _,A6,rfl,fun _ _ _ x=>by cases x⟩,?_⟩
 rintro m σ' H1 ⟨j,i,xs,o3,o4,rfl,hj,rfl,hd,hi,hxl,e1,hl1,pa⟩
 refine⟨_,rfl,_,rfl,_,rfl,Ai (by omega),_,_,rfl,rfl,_,rfl,?_⟩
 refine AF (fun lt=>?_) (fun ge=>?_)
 .have lt:((i:Nat):Int)<((z.length:Nat):Int):=dT lt
  have jl:j<ks.length:=Hw fun n=>by
   have nk:ks.drop j=[]:=IQ (by omega)
   rw[nk]at hd
   have:=congrArg List.length hd
   rw[C5]at this
   have:(cds z).length-i=0:=this
   omega
  have ed:=F7 jl
  rw[ed,Rd.txts_cons]at hd
  have okj:=ok ks[j] (F6 jl)
  obtain⟨hp,hp1⟩:=Rd.pend_cons okj (l:=ks.drop (j+1)) (fun x hx=>ok x (FZ hx)) (by rw[←ed];exact Rd.adj_drop j ad)
  have hle:i+(cds (ks[j]).txt).length<=(cds z).length:=by
   have:=congrArg List.length hd
   rw[C5,Ah]at this
   omega
  refine⟨fun σ' H'=>∃m',m'<ks.length-j/\∃(j i:Nat) (xs:List V) (o3 o4:Option V),σ'=[some (.str z),some (.ref l),some (.int (i:Int)),o3,o4]/\j<=ks.length/\m'=ks.length-j/\(cds z).drop i=Rd.txts (ks.drop j)/\i<=(cds z).length/\xs.length<=i/\A7 H H'/\H' l=some (.lst xs)/\AH (Rd.PtAt (Bc a) H') xs (ks.take j),fun σ' H' x=>x,?_⟩
  refine⟨_,rfl,_,rfl,z,i,rfl,by omega,zl,?_⟩
  rw[hd,hp]
  dsimp only[Am]
  have ecut:AB (Ck (cds z) (some ((i:Nat):Int)) (some ((i+(cds (ks[j]).txt).length:Nat):Int)))=(ks[j]).txt:=by
   rw[Lc _ (by omega) (by omega) (by omega) (by omega)]
   rw[show(((i:Nat):Int)).toNat=i by omega,show(((i+(cds (ks[j]).txt).length:Nat):Int)).toNat-i=(cds (ks[j]).txt).length by omega,hd,Hv,Es]
  refine⟨_,rfl,_,rfl,_,rfl,_,rfl,_,rfl,_,rfl,Ai (by omega),?_⟩
  rw[ecut]
  refine⟨ks[j],rfl,okj,fun x H2 e2 hx=>?_⟩
  dsimp only[Am]
  refine⟨_,rfl,rfl,_,rfl,?_⟩
  refine AF (fun y=>absurd (dT y) (hx.some okj)) (fun _=>?_)
  have hl2:=e2 _ _ hl1
  have nl:=Rd.NL.upd (ys:=xs++[x]) hl2
  refine⟨_,rfl,.inl ⟨rfl,_,A3.of hl2⟩,_,rfl,l,_,_,rfl,rfl,hl2,BK (by omega),_,rfl,?_⟩
  refine⟨ks.length-(j+1),by omega,j+1,i+(cds (ks[j]).txt).length,xs++[x],_,_,rfl,jl,rfl,?_,hle,by rw[Ah,Bs];omega,?_,A6,?_⟩
  .rw[←IR,hd,KQ]
  .exact fun b o e=>by rw[A8 (AC e hl)];exact e2 _ _ (e1 b o e)
  .rw[Du (BB jl)]
   exact(pa.mono fun _ _ y=>(y.over e2).nl nl).snoc (hx.nl nl)
 .have ge:¬((i:Nat):Int)<((z.length:Nat):Int):=dF ge
  have nl:(cds z).drop i=[]:=IQ (by omega)
  rw[nl]at hd
  have jl:j=ks.length:=Hw fun n=>by
   have jl:j<ks.length:=by omega
   have ed:=F7 jl
   rw[ed,Rd.txts_cons]at hd
   have hp1:=(Rd.pend_cons (ok ks[j] (F6 jl)) (l:=ks.drop (j+1)) (fun x hx=>ok x (FZ hx)) (by rw[←ed];exact Rd.adj_drop j ad)).2
   have:=congrArg List.length hd
   rw[Ah]at this
   have:0=(cds (ks[j]).txt).length+(Rd.txts (ks.drop (j+1))).length:=this
   omega
  subst jl
  rw[Eo]at pa
  exact⟨_,rfl,q l xs H1 e1 hl hl1 pa⟩
theorem U6 (T:Tx w K mg a):AI P w K mg base AO 3 a.f_h a.d_h ["terms","signs","least"] (Rd.spJoinW (Bc a)):=by
 have G_6 :=@XW P w K mg base a T
 refine T.F_h.ok Mv (fun vs H Q E h=>?_) (fun cdv A outer s H vs Q E hr h=>?_)
 .obtain⟨_,_,_,_,_,_,_,rfl,_⟩:=h;rfl
 obtain⟨l,r,ts,ss,Tt,S,k,rfl,lr,k1,hl,hr',pa,es,hS,hn,h1000,q⟩:=h
 subst es
 refine⟨_,(@Aa _ _ _ (@HQ _ _ _ _ _ _ PassesOwn.never ((@Dg _ _ _ _ _ _ _ (@Au _ _ _ _ _ _ _ _ (@IB _ (@FH _ _ hr)) (pv 1) (@Bj _ _ _ _ A1) (@Av _ _ (by decide) (by decide))) (@DT _ _ _ _ (@Au _ _ _ _ _ _ _ _ Sf (@Jm _ _ _ _ _ _ (@C7 _ _ _ _ _ (by rfl) T.g_STRENGTHS T.r_STRENGTHS (by decide)) (@Ag _ _ _ _ _ _ _ AX (pv 1) (@CW _ _ _ _ _ _ CV A2) (fun _ _=>rfl)) (fun _ _=>rfl)) (pv 2) (@Av _ _ (by decide) (by decide)))))).pt (@A4 _ _ _ _ _ (@Al _ _ (3) _ _ _ _ Mv.nd rfl (.inl rfl) (@Ec _ _ _ _ _ _ _ _ _ Bh EK EL Em (pv 0) (by rfl) (by rfl)) (by rfl) (by first|exact .inl rfl|exact .inr rfl|assumption)) (@A4 _ _ _ _ _ (@Al _ _ (4) _ _ _ _ Mv.nd rfl (.inl rfl) (@Ec _ _ _ _ _ _ _ _ _ Bh EK EL Em (pv 0) (by rfl) (by rfl)) (by rfl) (by first|exact .inl rfl|exact .inr rfl|assumption)) (@Aa _ _ _ (@Bp _ _ _ _ (@B9 _ _ _ _ _ _ _ _ _ _ _ _ Bh BS BU BM (pv 0) (@A0 _ _ _ _ _ (@Hd _ _ _ _ _ _ _ _ _ _ _ _ _ _ _ _ _ T.mk_Joined G_6 (hr.mono (by omega)) (by rfl) T.mc_Joined T.b_6 .nil Ap (@A0 _ _ _ _ _ (@Ec _ _ _ _ _ _ _ _ _ Bh EK EL Em (pv 1) (by rfl) (by rfl)) (@A0 _ _ _ _ _ (pv 4) (@A0 _ _ _ _ _ (pv 3) A1 (by rfl)) (by rfl)) (by rfl)) (by decide) (by rfl) (by rfl)) A1 (by rfl)) (by rfl) (by rfl) (by rfl) (by rfl) (by rfl)) (by rfl))))))),?_⟩
 refine⟨fun m σ' H'=>∃(ts:List V) (T':List Tw) (S':List Nat) (o3 o4:Option V),σ'=[some (.ref l),some (.ref r),some (.int (k:Int)),o3,o4]/\m=S'.length/\Rd.B2 l r H H'/\H' l=some (.lst ts)/\H' r=some (.lst (S'.reverse.map fun a=>V.str (Rd.sg a)))/\AH (fun v t=>Br (Bc a) H' t v) ts T'.reverse/\(∀a∈S',a∈Rd.sg5/\a≠41)/\Rd.nb S'<T'.length/\T'.length<=1000/\Rd.jw k S' T'=Rd.jw k S Tt,⟨_,ts,Tt,S,none,none,rfl,rfl,fun b o e _ _=>e,hl,hr',pa,hS,hn,h1000,rfl⟩,?_⟩
 rintro m σ' H1 ⟨ts1,T1,S1,o3,o4,rfl,rfl,b1,hl1,hr1,pa1,hS1,hn1,l1,ej⟩
 refine⟨_,rfl,AE rfl,fun e0 he0=>?_⟩
 have r1:(upd H1 e0 (.lst [])) r=some (.lst (S1.reverse.map fun a=>V.str (Rd.sg a))):=by rw[A8 (AC hr1 he0)];exact hr1
 have l1':(upd H1 e0 (.lst [])) l=some (.lst ts1):=by rw[A8 (AC hl1 he0)];exact hl1
 have b2:Rd.B2 l r H (upd H1 e0 (.lst [])):=fun b o e n1 n2=>Ac he0 _ _ _ (b1 b o e n1 n2)
 have pa2:AH (fun v t=>Br (Bc a) (upd H1 e0 (.lst [])) t v) ts1 T1.reverse:=pa1.mono fun _ _ x=>Br.over (Ac he0 _) x
 have he2:(upd H1 e0 (.lst [])) e0=some (.lst []):=A6
 generalize upd H1 e0 (.lst [])=H2 at r1 l1' b2 pa2 he2
 refine⟨r,e0,_,rfl,rfl,A3.of r1,A3.of he2,_,rfl,?_⟩
 have fin:Rd.jw k S1 T1=(T1,S1)->Q .non H2:=fun hj=>q ts1 _ H2 b2 l1' r1 (by rw[←ej,hj];exact pa2) (by rw[←ej,hj])
 cases S1 with
 |
  nil=>
  refine AF (fun y=>absurd y (by decide)) (fun _=>?_)
  exact AF (fun y=>absurd y BQ) (fun _=>fin (by cases T1<;>rfl))
 |
  cons c S2=>
  refine AF (fun _=>?_) (fun y=>absurd (by simp) y)
  have hc:=hS1 c AA
  have er:(c::S2).reverse.map (fun a=>V.str (Rd.sg a))=S2.reverse.map (fun a=>V.str (Rd.sg a))++[.str (Rd.sg c)]:=by rw[Hx,AZ];rfl
  rw[er]at r1
  refine⟨_,rfl,_,rfl,r,_,_,_,rfl,rfl,A3.of r1,La _ _,a.u_STRENGTHS,Rd.strV,.inr (Rd.sg c),_,rfl,T.d_STRENGTHS P,rfl,Rd.st_val hc,_,rfl,_,_,rfl,rfl,_,rfl,?_⟩
  refine AF (fun ge=>?_) (fun lt=>fin (Rd.jw_no (by have:=dF lt;omega)))
  have ge:(k:Int)<=((Rd.st c:Nat):Int):=dT ge
  have n40:c≠40:=fun z=>by subst z;exact absurd ge (by show ¬(k:Int)<=0;omega)
  rw[Rd.nb_cons n40]at hn1
  match T1,hn1,l1,ej,pa2,fin with
  |[],hn1,_,_,_,_=>exact absurd hn1 (by show ¬_<0;omega)
  |[_],hn1,_,_,_,_=>exact absurd hn1 (by show ¬_<1;omega)
  |
   t2::t1::T2,hn1,l1,ej,pa2,_=>
   rw[Rd.jw_yes (by omega)]at ej
   rw[Hx,Hx]at pa2
   obtain⟨u1,x2,rfl,pa3,hx2⟩:=Rd.all2_pop pa2
   obtain⟨u2,x1,rfl,pa4,hx1⟩:=Rd.all2_pop pa3
   refine⟨fun σ' H'=>∃m',m'<(c::S2).length/\∃(ts:List V) (T':List Tw) (S':List Nat) (o3 o4:Option V),σ'=[some (.ref l),some (.ref r),some (.int (k:Int)),o3,o4]/\m'=S'.length/\Rd.B2 l r H H'/\H' l=some (.lst ts)/\H' r=some (.lst (S'.reverse.map fun a=>V.str (Rd.sg a)))/\AH (fun v t=>Br (Bc a) H' t v) ts T'.reverse/\(∀a∈S',a∈Rd.sg5/\a≠41)/\Rd.nb S'<T'.length/\T'.length<=1000/\Rd.jw k S' T'=Rd.jw k S Tt,fun σ' H' x=>x,?_⟩
   refine⟨_,rfl,.inl ⟨rfl,_,A3.of l1'⟩,l,_,x2,rfl,rfl,l1',Ce.1,?_⟩
   rw[Ce.2]
   dsimp only[Am]
   refine⟨_,rfl,.inl ⟨rfl,_,A3.of A6⟩,l,_,x1,rfl,rfl,A6,Ce.1,?_⟩
   rw[Ce.2,ND]
   dsimp only[Am]
   have n3:Rd.NL H2 (upd H2 l (.lst u2)):=Rd.NL.upd l1'
   have r3:(upd H2 l (.lst u2)) r=some (.lst (S2.reverse.map (fun a=>V.str (Rd.sg a))++[.str (Rd.sg c)])):=by rw[A8 (Ne.symm lr)];exact r1
   have l3:(upd H2 l (.lst u2)) l=some (.lst u2):=A6
   have b3:Rd.B2 l r H (upd H2 l (.lst u2)):=fun b o e m1 m2=>by rw[A8 m1];exact b2 b o e m1 m2
   generalize upd H2 l (.lst u2)=H3 at n3 r3 l3 b3
   refine⟨_,rfl,.inl ⟨rfl,_,A3.of l3⟩,_,rfl,.inl ⟨rfl,_,A3.of r3⟩,r,_,.str (Rd.sg c),rfl,rfl,r3,Ce.1,?_⟩
   rw[Ce.2]
   have n4:Rd.NL H3 (upd H3 r (.lst (S2.reverse.map fun a=>V.str (Rd.sg a)))):=Rd.NL.upd r3
   have r4:(upd H3 r (.lst (S2.reverse.map fun a=>V.str (Rd.sg a)))) r=some (.lst (S2.reverse.map fun a=>V.str (Rd.sg a))):=A6
   have l4:(upd H3 r (.lst (S2.reverse.map fun a=>V.str (Rd.sg a)))) l=some (.lst u2):=by rw[A8 lr];exact l3
   have b4:Rd.B2 l r H (upd H3 r (.lst (S2.reverse.map fun a=>V.str (Rd.sg a)))):=fun b o e m1 m2=>by rw[A8 m2];exact b3 b o e m1 m2
   generalize upd H3 r (.lst (S2.reverse.map fun a=>V.str (Rd.sg a)))=H4 at n4 r4 l4 b4
   refine⟨_,rfl,_,rfl,fun x dx nx ndx ne=>⟨x,dx,[_,_,_],rfl,rfl,A6,fun H5 k5 hx5=>⟨rfl,?_⟩⟩⟩
   obtain⟨dx5,hx5⟩:=hx5
   have e5:=G7 nx ndx k5
   have l5:=e5 _ _ l4
   have n6:Rd.NL H5 (upd H5 l (.lst (u2++[.ref x]))):=Rd.NL.upd l5
   have u2l:u2.length<=1000:=by
    rw[pa4.1,KW]
    rw[AQ,AQ]at l1
    omega
   have n26:Rd.NL H2 (upd H5 l (.lst (u2++[.ref x]))):=n3.trans (n4.trans ((Rd.NL.of e5).trans n6))
   refine⟨l,_,_,rfl,rfl,l5,BK (by omega),S2.length,IK _,u2++[.ref x],.j (Rd.sg c) t1 t2::T2,S2,_,_,rfl,rfl,fun b o e m1 m2=>?_,A6,?_,?_,fun d hd=>hS1 d (B8 _ hd),?_,?_,ej⟩
   .rw[A8 m1];exact e5 _ _ (b4 b o e m1 m2)
   .rw[A8 (Ne.symm lr)];exact e5 _ _ r4
   .rw[Hx]
    exact(pa4.mono fun _ _ y=>Rd.tb_nl n26 y).snoc ⟨x,dx5,x1,x2,rfl,n6 _ _ hx5 (fun _ z=>nomatch z),Rd.tb_nl n26 hx1,Rd.tb_nl n26 hx2⟩
   .rw[AQ]at hn1 ⊢
    rw[AQ]at hn1
    omega
   .rw[AQ]at l1 ⊢
    rw[AQ]at l1
    omega
theorem W1 (T:Tx w K mg a):AI P w K mg base AO 4 a.f_H a.d_H ["parts"] (Rd.spTermOf (Bc a)):=by
 have G_h :=@U6 P w K mg base a T
 refine T.F_H.ok Gh (fun vs H Q E h=>?_) (fun cdv A outer s H vs Q E hr h=>?_)
 .obtain⟨_,_,_,_,_,_,rfl,_⟩:=h;rfl
 obtain⟨l,xs,ks,Tt,S,t,rfl,hl,pa,xl,ok,hrun,hj,q⟩:=h
 have isT:∀{H':Hp} {x:V} {w':Tw},Br (Bc a) H' w' x->∃ty,CH K H' x ty/\PySem.W.kitOne K ty (.ref a.c_Term)=some true:=fun{H' x w'} hx=>by
  cases w' with
  |n i=>obtain⟨_,_,rfl,hx⟩:=hx;exact⟨_,T.ty_Number _ _ _ _ hx,T.is_Number_Term⟩
  |v z=>obtain⟨_,_,rfl,hx⟩:=hx;exact⟨_,T.ty_Value _ _ _ _ hx,T.is_Value_Term⟩
  |c z sp=>obtain⟨_,_,_,rfl,hx,_⟩:=hx;exact⟨_,T.ty_Cell _ _ _ _ hx,T.is_Cell_Term⟩
  |j z l r=>obtain⟨_,_,_,_,rfl,hx,_⟩:=hx;exact⟨_,T.ty_Joined _ _ _ _ hx,T.is_Joined_Term⟩
 refine⟨_,(@A4 _ _ _ _ _ (@Al _ _ (1) _ _ _ _ Gh.nd rfl (.inl rfl) (@Bj _ _ _ _ A1) (by rfl) (by first|exact .inl rfl|exact .inr rfl|assumption)) (@A4 _ _ _ _ _ (@Al _ _ (2) _ _ _ _ Gh.nd rfl (.inl rfl) (@Bj _ _ _ _ A1) (by rfl) (by first|exact .inl rfl|exact .inr rfl|assumption)) (@A4 _ _ _ _ _ (@Al _ _ (3) _ _ _ _ Gh.nd rfl (.inl rfl) Cv (by rfl) (by first|exact .inl rfl|exact .inr rfl|assumption)) (@A4 _ _ _ _ _ (@Ed _ _ _ _ _ _ _ _ PassesOwn.never rfl (@Dv _ _ _ _ (pv 0)) (Bz (i:=4) Gh.nd rfl (.inl rfl)) (@A4 _ _ _ _ _ (@AK _ _ _ _ _ _ _ _ (@Au _ _ _ _ _ _ _ _ E4 (pv 3) (@M9 _ _ _ _ _ _ _ (@Bb _ _ _ _ _ _ _ _ _ EV (by rfl) T.z_isinstance F4 (@A0 _ _ _ _ _ (pv 4) (@A0 _ _ _ _ _ (@C7 _ _ (.ref a.c_Term) _ _ (by rfl) T.mc_Term rfl (by decide)) A1 (by rfl)) (by rfl)) (by decide) (by decide) (by rfl) (by rfl)) (@FD _ _ _ _ _ (@DS _ _ _ _ _ _ _ _ Bv (pv 4) Ar (@Av _ _ (by decide) (by decide))))) (@Av _ _ (by decide) (by decide))) (@Aa _ _ _ (@Aq _ _ _ _ BO)) AU) (@Aa _ _ _ (@AK _ _ _ _ _ _ _ _ (@Cd _ _ _ (@Bb _ _ _ _ _ _ _ _ _ EV (by rfl) T.z_isinstance F4 (@A0 _ _ _ _ _ (pv 4) (@A0 _ _ _ _ _ (@C7 _ _ (.ref a.c_Term) _ _ (by rfl) T.mc_Term rfl (by decide)) A1 (by rfl)) (by rfl)) (by decide) (by decide) (by rfl) (by rfl)) (by intro _;rfl)) (@A4 _ _ _ _ _ (@Bp _ _ _ _ (@B9 _ _ _ _ _ _ _ _ _ _ _ _ Bh BS BU BM (pv 1) (@A0 _ _ _ _ _ (pv 4) A1 (by rfl)) (by rfl) (by rfl) (by rfl) (by rfl) (by rfl)) (by rfl)) (@Aa _ _ _ (@Al _ _ (3) _ _ _ _ Gh.nd rfl (.inl rfl) Cv (by rfl) (by first|exact .inl rfl|exact .inr rfl|assumption)))) (@Aa _ _ _ (@AK _ _ _ _ _ _ _ _ (@Au _ _ _ _ _ _ _ _ Bv (pv 4) Ar (@Av _ _ (by decide) (by decide))) (@A4 _ _ _ _ _ (@Bp _ _ _ _ (@As _ _ _ _ _ _ _ _ _ _ _ _ _ _ _ _ G_h (hr.mono (by omega)) (by rfl) T.m_h T.F_h.kp T.b_h .nil Ap (@A0 _ _ _ _ _ (pv 1) (@A0 _ _ _ _ _ (pv 2) (@A0 _ _ _ _ _ (@Jm _ _ _ _ _ _ (@C7 _ _ _ _ _ (by rfl) T.g_STRENGTHS T.r_STRENGTHS (by decide)) Ar (fun _ _=>rfl)) A1 (by rfl)) (by rfl)) (by rfl)) (by decide) (by rfl) (by rfl)) (by rfl)) (@A4 _ _ _ _ _ (@AK _ _ _ _ _ _ _ _ (@Au _ _ _ _ _ _ _ _ (@Mw _ (@FH _ _ hr)) (pv 2) (@Bj _ _ _ _ A1) (@Av _ _ (by decide) (by decide))) (@Aa _ _ _ (@Aq _ _ _ _ BO)) AU) (@Aa _ _ _ (@Bp _ _ _ _ (@Ec _ _ _ _ _ _ _ _ _ Bh EK EL Em (pv 2) (by rfl) (by rfl)) (by rfl))))) (@A4 _ _ _ _ _ (@AK _ _ _ _ _ _ _ _ (@Au _ _ _ _ _ _ _ _ E4 (pv 4) Ar (@Av _ _ (by decide) (by decide))) (@Aa _ _ _ (@Bp _ _ _ _ (@As _ _ _ _ _ _ _ _ _ _ _ _ _ _ _ _ G_h (hr.mono (by omega)) (by rfl) T.m_h T.F_h.kp T.b_h .nil Ap (@A0 _ _ _ _ _ (pv 1) (@A0 _ _ _ _ _ (pv 2) (@A0 _ _ _ _ _ (@Jm _ _ _ _ _ _ (@C7 _ _ _ _ _ (by rfl) T.g_STRENGTHS T.r_STRENGTHS (by decide)) (pv 4) (fun _ _=>rfl)) A1 (by rfl)) (by rfl)) (by rfl)) (by decide) (by rfl) (by rfl)) (by rfl))) AU) (@A4 _ _ _ _ _ (@Bp _ _ _ _ (@B9 _ _ _ _ _ _ _ _ _ _ _ _ Bh BS BU BM (pv 2) (@A0 _ _ _ _ _ (pv 4) A1 (by rfl)) (by rfl) (by rfl) (by rfl) (by rfl) (by rfl)) (by rfl)) (@Aa _ _ _ (@Al _ _ (3) _ _ _ _ Gh.nd rfl (.inl rfl) Cv (by rfl) (by first|exact .inl rfl|exact .inr rfl|assumption)))))))))) (by intro _;rfl)) (@A4 _ _ _ _ _ (@AK _ _ _ _ _ _ _ _ (@Cd _ _ _ (pv 3) (by intro _;rfl)) (@Aa _ _ _ (@Aq _ _ _ _ BO)) AU) (@A4 _ _ _ _ _ (@Bp _ _ _ _ (@As _ _ _ _ _ _ _ _ _ _ _ _ _ _ _ _ G_h (hr.mono (by omega)) (by rfl) T.m_h T.F_h.kp T.b_h .nil Ap (@A0 _ _ _ _ _ (pv 1) (@A0 _ _ _ _ _ (pv 2) (@A0 _ _ _ _ _ (@Jm _ _ _ _ _ _ (@C7 _ _ _ _ _ (by rfl) T.g_STRENGTHS T.r_STRENGTHS (by decide)) Ar (fun _ _=>rfl)) A1 (by rfl)) (by rfl)) (by rfl)) (by decide) (by rfl) (by rfl)) (by rfl)) (@A4 _ _ _ _ _ (@AK _ _ _ _ _ _ _ _ (@Au _ _ _ _ _ _ _ _ (@IB _ (@FH _ _ hr)) (pv 2) (@Bj _ _ _ _ A1) (@Av _ _ (by decide) (by decide))) (@Aa _ _ _ (@Aq _ _ _ _ BO)) AU) (@Aa _ _ _ (@Aq _ _ _ _ (@Ag _ _ _ _ _ _ _ AX (pv 1) A2 (fun _ _=>rfl))))))))))),?_⟩
 refine⟨AE rfl,fun tl htl=>?_⟩
 dsimp only[Am]
 refine⟨AE rfl,fun sl hsl=>?_⟩
 dsimp only[Am]
 have ts:tl≠sl:=AC (A6 (H:=H)) hsl
 have H0t:(upd (upd H tl (.lst [])) sl (.lst [])) tl=some (.lst []):=by rw[A8 ts];exact A6
 have H0s:(upd (upd H tl (.lst [])) sl (.lst [])) sl=some (.lst []):=A6
 have e0:A7 H (upd (upd H tl (.lst [])) sl (.lst [])):=(Ac htl _).trans (Ac hsl _)
 have tl0:H tl=none:=htl
 have sl0:H sl=none:=(Ac htl _).free hsl
 generalize upd (upd H tl (.lst [])) sl (.lst [])=H0 at H0t H0s e0
 refine⟨_,rfl,l,rfl,⟨_,A3.of (e0 _ _ hl)⟩,?_⟩
 refine FG (xs:=xs) (fun i σ' H'=>∃(z:Rd.Sta) (tv:List V) (o4:Option V),σ'=[some (.ref l),some (.ref tl),some (.ref sl),some (.bl z.due),o4]/\A7 H H'/\Rd.run (ks.take i) ⟨[],[],true⟩=some z/\Rd.Wt z/\z.T.length<=i/\z.S.length<=i/\H' tl=some (.lst tv)/\H' sl=some (.lst (z.S.reverse.map fun a=>V.str (Rd.sg a)))/\AH (fun v t=>Br (Bc a) H' t v) tv z.T.reverse) ?_ (fun i σ' H' hi p=>?_) (fun i x σ' H' hx p=>?_) (fun σ' H' p=>?_)
 .exact⟨⟨[],[],true⟩,[],none,rfl,e0,rfl,⟨(fun c hc=>nomatch hc),rfl⟩,Aj _,Aj _,H0t,H0s,rfl,fun _ _ _ x=>by cases x⟩
 .obtain⟨z,tv,o4,rfl,e1,_⟩:=p
  exact A3.of (e1 _ _ hl)
 .obtain⟨z,tv,o4,rfl,e1,hz,wt,zt,zs,ht,hs,pz⟩:=p
  dsimp only[Am]
  have il:i<xs.length:=(BE.mp hx).1
  obtain⟨k,hk⟩:∃k,ks[i]?=some k:=⟨ks[i]'(by rw[←pa.1];exact il),BB _⟩
  have hpk:=(pa.2 i x k hx hk).over e1
  have okk:=ok k (C8 hk)
  obtain⟨z',u,r1,st1,r2⟩:=Rd.run_at hrun hk
  obtain rfl:z'=z:=BX (r1.symm.trans hz)
  have wu:=wt.step okk st1
  have zl2:z'.T.length<=1000:=by omega
  obtain⟨zT,zS,zd⟩:=z'
  have b12:∀{H2:Hp},Rd.B2 tl sl H' H2->A7 H H2:=fun{H2} b2 b o e=>b2 b o (e1 b o e) (AC e tl0) (AC e sl0)
  cases k with
  |
   t w'=>
   cases zd with
   |false=>cases st1
   |
    true=>
    have st1:some (⟨w'::zT,zS,false⟩:Rd.Sta)=some u:=st1
    cases st1
    obtain⟨ty,h1,h2⟩:=isT hpk
    refine⟨_,rfl,_,rfl,x,_,ty,_,true,rfl,rfl,h1,h2,_,rfl,?_⟩
    refine Bm ⟨rfl,_,rfl,?_⟩
    refine AF (fun y=>absurd (show(!decide (V.bl true=V.bl true))=true from y) (by decide)) (fun _=>?_)
    refine⟨_,rfl,x,_,ty,_,true,rfl,rfl,h1,h2,_,rfl,?_⟩
    refine Bm ?_
    have nl:=Rd.NL.upd (ys:=tv++[x]) ht
    have tvl:tv.length<=1000:=by rw[pz.1,KW];exact zl2
    refine⟨_,rfl,.inl ⟨rfl,_,A3.of ht⟩,_,rfl,tl,_,_,rfl,rfl,ht,BK (by omega),?_⟩
    dsimp only[Am]
    refine⟨⟨w'::zT,zS,false⟩,tv++[x],_,rfl,fun b o e=>?_,r2,wu,?_,Qq zs,A6,?_,?_⟩
    .rw[A8 (AC e tl0)];exact e1 b o e
    .show zT.length+1<=i+1
     have:zT.length<=i:=zt
     omega
    .rw[A8 (Ne.symm ts)];exact hs
    .show AH _ _ (w'::zT).reverse
     rw[Hx]
     exact(pz.mono fun _ _ y=>Rd.tb_nl nl y).snoc (Rd.tb_nl nl hpk)
  |
   s c=>
   have hpk:x = .str ⟨#[c]⟩:=hpk
   subst hpk
   have okc:c∈Rd.sg5:=okk
   have k1:∀e:Nat,(V.str ⟨#[c]⟩=V.str ⟨#[e]⟩)↔c=e:=fun e=>⟨fun x=>by injection x with x;injection x with x;simpa using x,fun x=>by rw[x]⟩
   have hd:zd=decide (V.str ⟨#[c]⟩=V.str (Str.ofString "(")):=by
    rw[Rd.step]at st1
    by_cases c40:c=40
    .rw[Af c40]at st1
     cases zd with
     |false=>cases st1
     |true=>exact(B1 ((k1 40).mpr c40)).symm
    .rw[Ab c40]at st1
     cases zd with
     |true=>cases st1
     |false=>exact(Bo fun z=>c40 ((k1 40).mp z)).symm
   refine⟨_,rfl,_,rfl,_,_,_,_,false,rfl,rfl,.str _,T.is_str_Term,_,rfl,?_⟩
   refine Ay ⟨_,rfl,rfl,rfl,_,rfl,?_⟩
   refine AF (fun y=>?_) (fun _=>?_)
   .rw[←hd]at y
    exact absurd (show(!decide (V.bl zd=V.bl zd))=true from y) (by simp)
   refine⟨_,rfl,_,_,_,_,false,rfl,rfl,.str _,T.is_str_Term,_,rfl,?_⟩
   refine Ay ?_
   refine⟨_,rfl,rfl,_,rfl,?_⟩
   refine AF (fun y=>?_) (fun y=>?_)
   .have c41:c=41:=(k1 41).mp (dT y)
    subst c41
    obtain rfl:zd=false:=by rw[hd];exact Bo fun z=>absurd ((k1 40).mp z) (by decide)
    have wn:Rd.nb zS+1=zT.length:=wt.nb
    rw[Rd.step,Ab (by decide),Ab (show ¬(Rd.Sta.due ⟨zT,zS,false⟩=true) from BQ),Af rfl]at st1
    refine⟨_,rfl,_,rfl,a.u_STRENGTHS,Rd.strV,.inr (Rd.sg 43),_,rfl,T.d_STRENGTHS P,rfl,Rd.st_val ⟨by decide,by decide⟩,tl,sl,tv,_,zT,zS,1,rfl,ts,Aj _,ht,hs,pz,rfl,wt.sg,by omega,zl2,fun ts' ss' H2 b2 ht2 hs2 pz2 es2=>?_⟩
    subst es2
    cases hS:(Rd.jw 1 zS zT).2 with
    |nil=>simp only[hS]at st1;cases st1
    |
     cons d S'=>
     simp only[hS]at st1
     cases st1
     have er:(d::S').reverse.map (fun a=>V.str (Rd.sg a))=S'.reverse.map (fun a=>V.str (Rd.sg a))++[.str (Rd.sg d)]:=by rw[Hx,AZ];rfl
     rw[hS,er]at hs2
     refine⟨_,rfl,AE rfl,fun en hen=>?_⟩
     have e3:=Ac hen (.lst [])
     have hs3:=e3 _ _ hs2
     have ht3:=e3 _ _ ht2
     refine⟨sl,en,_,rfl,rfl,A3.of hs3,A3.of A6,_,rfl,?_⟩
     refine AF (fun y=>absurd y (by simp)) (fun _=>?_)
     refine⟨_,rfl,.inl ⟨rfl,_,A3.of hs3⟩,sl,_,_,rfl,rfl,hs3,Ce.1,?_⟩
     rw[Ce.2]
     refine⟨⟨(Rd.jw 1 zS zT).1,S',false⟩,ts',_,rfl,fun b o e=>?_,r2,wu,?_,?_,?_,A6,?_⟩
     .rw[A8 (AC e sl0)];exact e3 _ _ (b12 b2 b o e)
     .have:=Rd.jw_len 1 (S:=zS) (T:=zT)
      have:zT.length<=i:=zt
      show(Rd.jw 1 zS zT).1.length<=i+1
      omega
     .have h2:=Rd.jw_len2 1 (S:=zS) (T:=zT)
      rw[hS,AQ]at h2
      have:zS.length<=i:=zs
      show S'.length<=i+1
      omega
     .rw[A8 ts];exact ht3
     .exact pz2.mono fun _ _ y=>Rd.tb_nl ((Rd.NL.of e3).trans (Rd.NL.upd hs3)) y
   .have c41:c≠41:=fun z=>dF y ((k1 41).mpr z)
    refine⟨_,rfl,rfl,_,rfl,?_⟩
    have last:∀(T2:List Tw) (S2:List Nat) (tv2:List V) (H2:Hp),Rd.B2 tl sl H' H2->H2 tl=some (.lst tv2)->H2 sl=some (.lst (S2.reverse.map fun a=>V.str (Rd.sg a)))->AH (fun v t=>Br (Bc a) H2 t v) tv2 T2.reverse->some (⟨T2,c::S2,true⟩:Rd.Sta)=some u->T2.length<=i->S2.length<=i->
      Of (.ref sl) [.str ⟨#[c]⟩] H2 fun v H3=>∃(z:Rd.Sta) (tv:List V) (o4:Option V),[some (.ref l),some (.ref tl),some (.ref sl),some (.bl true),some (V.str ⟨#[c]⟩)]=[some (.ref l),some (.ref tl),some (.ref sl),some (.bl z.due),o4]/\A7 H H3/\Rd.run (ks.take (i+1)) ⟨[],[],true⟩=some z/\Rd.Wt z/\z.T.length<=i+1/\z.S.length<=i+1/\H3 tl=some (.lst tv)/\H3 sl=some (.lst (z.S.reverse.map fun a=>V.str (Rd.sg a)))/\AH (fun v t=>Br (Bc a) H3 t v) tv z.T.reverse:=fun T2 S2 tv2 H2 b2 ht2 hs2 pz2 hu t2 s2=>by
     cases hu
     refine⟨sl,_,_,rfl,rfl,hs2,BK (by rw[An,KW];omega),⟨T2,c::S2,true⟩,tv2,_,rfl,fun b o e=>?_,r2,wu,Qq t2,N8 s2,?_,?_,?_⟩
     .rw[A8 (AC e sl0)];exact b12 b2 b o e
     .rw[A8 ts];exact ht2
     .rw[A6]
      show _=some (HO.lst ((c::S2).reverse.map fun a=>V.str (Rd.sg a)))
      rw[Hx,AZ]
      rfl
     .exact pz2.mono fun _ _ y=>Rd.tb_nl (Rd.NL.upd hs2) y
    have c40d:∀c40:c≠40,zd=false:=fun c40=>by rw[hd];exact Bo fun z=>c40 ((k1 40).mp z)
    have zT':zT.length<=i:=zt
    have zS':zS.length<=i:=zs
    refine AF (fun ne=>?_) (fun eq=>?_)
    .have c40:c≠40:=fun z=>by
      have e:decide (V.str ⟨#[c]⟩=V.str (Str.ofString "("))=true:=B1 ((k1 40).mpr z)
      rw[e]at ne
      cases ne
     obtain rfl:=c40d c40
     have wn:Rd.nb zS+1=zT.length:=wt.nb
     rw[Rd.step,Ab c40,Ab (show ¬(Rd.Sta.due ⟨zT,zS,false⟩=true) from BQ),Ab c41]at st1
     refine⟨_,rfl,_,rfl,_,rfl,a.u_STRENGTHS,Rd.strV,.inr (Rd.sg c),_,rfl,T.d_STRENGTHS P,rfl,Rd.st_val ⟨okc,c41⟩,tl,sl,tv,_,zT,zS,Rd.st c,rfl,ts,(by unfold Rd.st;rw[Ab c40];split<;>decide),ht,hs,pz,rfl,wt.sg,by omega,zl2,fun ts' ss' H2 b2 ht2 hs2 pz2 es2=>?_⟩
     subst es2
     have j1:=Rd.jw_len (Rd.st c) (S:=zS) (T:=zT)
     have j2:=Rd.jw_len2 (Rd.st c) (S:=zS) (T:=zT)
     exact⟨_,rfl,.inl ⟨rfl,_,A3.of hs2⟩,_,rfl,last _ _ ts' H2 b2 ht2 hs2 pz2 st1 (by omega) (by omega)⟩
    .have c40:c=40:=Hw fun n=>eq (by rw[show decide (V.str ⟨#[c]⟩=V.str (Str.ofString "("))=false from Bo fun z=>n ((k1 40).mp z)];rfl)
     subst c40
     obtain rfl:zd=true:=by rw[hd];exact B1 rfl
     have st1:some (⟨zT,40::zS,true⟩:Rd.Sta)=some u:=st1
     exact⟨_,rfl,.inl ⟨rfl,_,A3.of hs⟩,_,rfl,last zT zS tv H' (fun b o e _ _=>e) ht hs pz st1 zT' zS'⟩
 .obtain⟨z,tv,o4,rfl,e1,hz,wt,zt,zs,ht,hs,pz⟩:=p
  rw[pa.1,Eo]at hz
  obtain rfl:=BX (hz.symm.trans hrun)
  have wn:Rd.nb S+1=Tt.length:=wt.nb
  refine⟨_,rfl,_,rfl,?_⟩
  refine AF (fun y=>absurd y BQ) (fun _=>?_)
  refine⟨_,rfl,_,rfl,a.u_STRENGTHS,Rd.strV,.inr (Rd.sg 43),_,rfl,T.d_STRENGTHS P,rfl,Rd.st_val ⟨by decide,by decide⟩,tl,sl,tv,_,Tt,S,1,rfl,ts,Aj _,ht,hs,pz,rfl,wt.sg,by omega,by have:Tt.length<=xs.length:=zt;omega,fun ts' ss' H2 b2 ht2 hs2 pz2 es2=>?_⟩
  rw[hj]at pz2 es2
  have e2:A7 H H2:=fun b o e=>b2 b o (e1 b o e) (AC e tl0) (AC e sl0)
  refine⟨_,rfl,AE rfl,fun en hen=>?_⟩
  subst es2
  refine⟨sl,en,_,rfl,rfl,A3.of (by rw[A8 (AC hs2 hen)];exact hs2),A3.of A6,_,rfl,?_⟩
  refine AF (fun y=>absurd (show false=true from y) BQ) (fun _=>?_)
  obtain⟨u0,x0,rfl,p0,hx0⟩:=Rd.all2_pop (ys:=[]) pz2
  obtain rfl:u0=[]:=L0 p0.1
  exact⟨_,rfl,tl,_,0,x0,rfl,rfl,A3.of (by rw[A8 (AC ht2 hen)];exact ht2),rfl,q x0 _ (e2.trans (Ac hen _)) (Br.over (Ac hen _) hx0)⟩
theorem TZ (T:Tx w K mg a):AI P w K mg base AO 1 a.f_9 a.d_9 ["self"] (Rd.spDrI a.c_Draft a.c_Deed (Bc a)):=by
 refine T.F_9.ok Td (fun vs H Q E h=>?_) (fun cdv A outer s H vs Q E hr h=>?_)
 .obtain⟨_,_,rfl,_⟩:=h;rfl
 obtain⟨x,dx,rfl,hx,q⟩:=h
 refine⟨_,(@A4 _ _ _ _ _ (@Cc _ _ _ _ _ _ _ _ (pv 0) BO rfl) (@A4 _ _ _ _ _ (@Cc _ _ _ _ _ _ _ _ (pv 0) (@Bj _ _ _ _ A1) rfl) (@A4 _ _ _ _ _ (@Cc _ _ _ _ _ _ _ _ (pv 0) TU rfl) (@A4 _ _ _ _ _ (@Cc _ _ _ _ _ _ _ _ (pv 0) (@Bj _ _ _ _ A1) rfl) (@A4 _ _ _ _ _ (@Cc _ _ _ _ _ _ _ _ (pv 0) (@Bj _ _ _ _ A1) rfl) (@A4 _ _ _ _ _ (@Cc _ _ _ _ _ _ _ _ (pv 0) (@Bj _ _ _ _ A1) rfl) (@Aa _ _ _ (@Cc _ _ _ _ _ _ _ _ (pv 0) (@Bj _ _ _ _ (@A0 _ _ _ _ _ A2 A1 (by rfl))) rfl)))))))),?_⟩
 refine⟨_,rfl,x,_,dx,_,rfl,hx,T.cl_Draft,T.n_Draft_size,(by show 0<1000;decide),?_⟩
 have k1:∀b o,H b=some o->b≠x->(upd H x (.ins a.c_Draft dx (Ae "size" V.non []))) b=some o:=fun b o e n=>by rw[A8 n];exact e
 have x1:(upd H x (.ins a.c_Draft dx (Ae "size" V.non []))) x=some (.ins a.c_Draft dx (Ae "size" V.non [])):=A6
 change DO _ _ _ [some (.ref x)] (upd H x (.ins a.c_Draft dx (Ae "size" V.non [])))
 generalize upd H x (.ins a.c_Draft dx (Ae "size" V.non []))=H1 at k1 x1
 refine⟨AE rfl,fun dl hdl=>⟨_,rfl,x,_,dx,_,rfl,(by rw[A8 (AC x1 hdl)];exact x1),T.cl_Draft,T.n_Draft_deeds,(by show 1<1000;decide),?_⟩⟩
 obtain⟨fdl,gdl,k'⟩:=Rd.put2 (v:=.lst []) (w:=.ins a.c_Draft dx (Ae "deeds" (.ref dl) (Ae "size" V.non []))) hdl x1
 have ndl:H dl=none:=(by cases z:H dl with|none=>rfl|some u=>rw[k1 dl u z fdl]at hdl;cases hdl)
 have k2:∀b o,H b=some o->b≠x->_:=fun b o e n=>k' b o (k1 b o e n) n
 have x2:(upd (upd H1 dl (.lst [])) x (.ins a.c_Draft dx (Ae "deeds" (.ref dl) (Ae "size" V.non [])))) x=some (.ins a.c_Draft dx (Ae "deeds" (.ref dl) (Ae "size" V.non []))):=A6
 change DO _ _ _ [some (.ref x)] (upd (upd H1 dl (.lst [])) x (.ins a.c_Draft dx (Ae "deeds" (.ref dl) (Ae "size" V.non []))))
 clear k'
 generalize upd (upd H1 dl (.lst [])) x (.ins a.c_Draft dx (Ae "deeds" (.ref dl) (Ae "size" V.non [])))=H2 at k2 x2 gdl
 have odl:=gdl
 refine fun tl htl=>⟨_,rfl,x,_,dx,_,rfl,(by rw[A8 (AC x2 htl)];exact x2),T.cl_Draft,T.n_Draft_tables,(by show 2<1000;decide),?_⟩
 obtain⟨ftl,gtl,k'⟩:=Rd.put2 (v:=.dK []) (w:=.ins a.c_Draft dx (Ae "tables" (.ref tl) (Ae "deeds" (.ref dl) (Ae "size" V.non [])))) htl x2
 have ntl:H tl=none:=(by cases z:H tl with|none=>rfl|some u=>rw[k2 tl u z ftl]at htl;cases htl)
 have gdl:=k' _ _ gdl fdl
 have k3:∀b o,H b=some o->b≠x->_:=fun b o e n=>k' b o (k2 b o e n) n
 have x3:(upd (upd H2 tl (.dK [])) x (.ins a.c_Draft dx (Ae "tables" (.ref tl) (Ae "deeds" (.ref dl) (Ae "size" V.non []))))) x=some (.ins a.c_Draft dx (Ae "tables" (.ref tl) (Ae "deeds" (.ref dl) (Ae "size" V.non [])))):=A6
 change DO _ _ _ [some (.ref x)] (upd (upd H2 tl (.dK [])) x (.ins a.c_Draft dx (Ae "tables" (.ref tl) (Ae "deeds" (.ref dl) (Ae "size" V.non [])))))
 clear k'
 generalize upd (upd H2 tl (.dK [])) x (.ins a.c_Draft dx (Ae "tables" (.ref tl) (Ae "deeds" (.ref dl) (Ae "size" V.non []))))=H3 at k3 x3 gdl gtl
 have odl:=gdl
 refine⟨AE rfl,fun nl hnl=>⟨_,rfl,x,_,dx,_,rfl,(by rw[A8 (AC x3 hnl)];exact x3),T.cl_Draft,T.n_Draft_names,(by show 3<1000;decide),?_⟩⟩
 obtain⟨fnl,gnl,k'⟩:=Rd.put2 (v:=.lst []) (w:=.ins a.c_Draft dx (Ae "names" (.ref nl) (Ae "tables" (.ref tl) (Ae "deeds" (.ref dl) (Ae "size" V.non []))))) hnl x3
 have nnl:H nl=none:=(by cases z:H nl with|none=>rfl|some u=>rw[k3 nl u z fnl]at hnl;cases hnl)
 have gdl:=k' _ _ gdl fdl
 have ddlnl:dl≠nl:=fun z=>by rw[z]at odl;rw[odl]at hnl;cases hnl
 have gtl:=k' _ _ gtl ftl
 have k4:∀b o,H b=some o->b≠x->_:=fun b o e n=>k' b o (k3 b o e n) n
 have x4:(upd (upd H3 nl (.lst [])) x (.ins a.c_Draft dx (Ae "names" (.ref nl) (Ae "tables" (.ref tl) (Ae "deeds" (.ref dl) (Ae "size" V.non [])))))) x=some (.ins a.c_Draft dx (Ae "names" (.ref nl) (Ae "tables" (.ref tl) (Ae "deeds" (.ref dl) (Ae "size" V.non []))))):=A6
 change DO _ _ _ [some (.ref x)] (upd (upd H3 nl (.lst [])) x (.ins a.c_Draft dx (Ae "names" (.ref nl) (Ae "tables" (.ref tl) (Ae "deeds" (.ref dl) (Ae "size" V.non []))))))
 clear k'
 generalize upd (upd H3 nl (.lst [])) x (.ins a.c_Draft dx (Ae "names" (.ref nl) (Ae "tables" (.ref tl) (Ae "deeds" (.ref dl) (Ae "size" V.non [])))))=H4 at k4 x4 gdl gtl gnl
 have odl:=gdl
 have onl:=gnl
 refine⟨AE rfl,fun ll hll=>⟨_,rfl,x,_,dx,_,rfl,(by rw[A8 (AC x4 hll)];exact x4),T.cl_Draft,T.n_Draft_lows,(by show 4<1000;decide),?_⟩⟩
 obtain⟨fll,gll,k'⟩:=Rd.put2 (v:=.lst []) (w:=.ins a.c_Draft dx (Ae "lows" (.ref ll) (Ae "names" (.ref nl) (Ae "tables" (.ref tl) (Ae "deeds" (.ref dl) (Ae "size" V.non [])))))) hll x4
 have nll:H ll=none:=(by cases z:H ll with|none=>rfl|some u=>rw[k4 ll u z fll]at hll;cases hll)
 have gdl:=k' _ _ gdl fdl
 have ddlll:dl≠ll:=fun z=>by rw[z]at odl;rw[odl]at hll;cases hll
 have gtl:=k' _ _ gtl ftl
 have gnl:=k' _ _ gnl fnl
 have dnlll:nl≠ll:=fun z=>by rw[z]at onl;rw[onl]at hll;cases hll
 have k5:∀b o,H b=some o->b≠x->_:=fun b o e n=>k' b o (k4 b o e n) n
 have x5:(upd (upd H4 ll (.lst [])) x (.ins a.c_Draft dx (Ae "lows" (.ref ll) (Ae "names" (.ref nl) (Ae "tables" (.ref tl) (Ae "deeds" (.ref dl) (Ae "size" V.non []))))))) x=some (.ins a.c_Draft dx (Ae "lows" (.ref ll) (Ae "names" (.ref nl) (Ae "tables" (.ref tl) (Ae "deeds" (.ref dl) (Ae "size" V.non [])))))):=A6
 change DO _ _ _ [some (.ref x)] (upd (upd H4 ll (.lst [])) x (.ins a.c_Draft dx (Ae "lows" (.ref ll) (Ae "names" (.ref nl) (Ae "tables" (.ref tl) (Ae "deeds" (.ref dl) (Ae "size" V.non [])))))))
 clear k'
 generalize upd (upd H4 ll (.lst [])) x (.ins a.c_Draft dx (Ae "lows" (.ref ll) (Ae "names" (.ref nl) (Ae "tables" (.ref tl) (Ae "deeds" (.ref dl) (Ae "size" V.non []))))))=H5 at k5 x5 gdl gtl gnl gll
 have odl:=gdl
 have onl:=gnl
 have oll:=gll
 refine⟨AE rfl,fun hl hhl=>⟨_,rfl,x,_,dx,_,rfl,(by rw[A8 (AC x5 hhl)];exact x5),T.cl_Draft,T.n_Draft_highs,(by show 5<1000;decide),?_⟩⟩
 obtain⟨fhl,ghl,k'⟩:=Rd.put2 (v:=.lst []) (w:=.ins a.c_Draft dx (Ae "highs" (.ref hl) (Ae "lows" (.ref ll) (Ae "names" (.ref nl) (Ae "tables" (.ref tl) (Ae "deeds" (.ref dl) (Ae "size" V.non []))))))) hhl x5
 have nhl:H hl=none:=(by cases z:H hl with|none=>rfl|some u=>rw[k5 hl u z fhl]at hhl;cases hhl)
 have gdl:=k' _ _ gdl fdl
 have ddlhl:dl≠hl:=fun z=>by rw[z]at odl;rw[odl]at hhl;cases hhl
 have gtl:=k' _ _ gtl ftl
 have gnl:=k' _ _ gnl fnl
 have dnlhl:nl≠hl:=fun z=>by rw[z]at onl;rw[onl]at hhl;cases hhl
 have gll:=k' _ _ gll fll
 have dllhl:ll≠hl:=fun z=>by rw[z]at oll;rw[oll]at hhl;cases hhl
 have k6:∀b o,H b=some o->b≠x->_:=fun b o e n=>k' b o (k5 b o e n) n
 have x6:(upd (upd H5 hl (.lst [])) x (.ins a.c_Draft dx (Ae "highs" (.ref hl) (Ae "lows" (.ref ll) (Ae "names" (.ref nl) (Ae "tables" (.ref tl) (Ae "deeds" (.ref dl) (Ae "size" V.non [])))))))) x=some (.ins a.c_Draft dx (Ae "highs" (.ref hl) (Ae "lows" (.ref ll) (Ae "names" (.ref nl) (Ae "tables" (.ref tl) (Ae "deeds" (.ref dl) (Ae "size" V.non []))))))):=A6
 dsimp only
 clear k'
 generalize upd (upd H5 hl (.lst [])) x (.ins a.c_Draft dx (Ae "highs" (.ref hl) (Ae "lows" (.ref ll) (Ae "names" (.ref nl) (Ae "tables" (.ref tl) (Ae "deeds" (.ref dl) (Ae "size" V.non [])))))))=H6 at k6 x6 gdl gtl gnl gll ghl
 have odl:=gdl
 have onl:=gnl
 have oll:=gll
 have ohl:=ghl
 refine⟨AE rfl,fun pl hpl=>⟨_,rfl,x,_,dx,_,rfl,(by rw[A8 (AC x6 hpl)];exact x6),T.cl_Draft,T.n_Draft_path,(by show 6<1000;decide),?_⟩⟩
 obtain⟨fpl,gpl,k'⟩:=Rd.put2 (v:=.lst [.int 0]) (w:=.ins a.c_Draft dx (Ae "path" (.ref pl) (Ae "highs" (.ref hl) (Ae "lows" (.ref ll) (Ae "names" (.ref nl) (Ae "tables" (.ref tl) (Ae "deeds" (.ref dl) (Ae "size" V.non [])))))))) hpl x6
 have npl:H pl=none:=(by cases z:H pl with|none=>rfl|some u=>rw[k6 pl u z fpl]at hpl;cases hpl)
 have gdl:=k' _ _ gdl fdl
 have ddlpl:dl≠pl:=fun z=>by rw[z]at odl;rw[odl]at hpl;cases hpl
 have gtl:=k' _ _ gtl ftl
 have gnl:=k' _ _ gnl fnl
 have dnlpl:nl≠pl:=fun z=>by rw[z]at onl;rw[onl]at hpl;cases hpl
 have gll:=k' _ _ gll fll
 have dllpl:ll≠pl:=fun z=>by rw[z]at oll;rw[oll]at hpl;cases hpl
 have ghl:=k' _ _ ghl fhl
 have dhlpl:hl≠pl:=fun z=>by rw[z]at ohl;rw[ohl]at hpl;cases hpl
 have k7:∀b o,H b=some o->b≠x->_:=fun b o e n=>k' b o (k6 b o e n) n
 have x7:(upd (upd H6 pl (.lst [.int 0])) x (.ins a.c_Draft dx (Ae "path" (.ref pl) (Ae "highs" (.ref hl) (Ae "lows" (.ref ll) (Ae "names" (.ref nl) (Ae "tables" (.ref tl) (Ae "deeds" (.ref dl) (Ae "size" V.non []))))))))) x=some (.ins a.c_Draft dx (Ae "path" (.ref pl) (Ae "highs" (.ref hl) (Ae "lows" (.ref ll) (Ae "names" (.ref nl) (Ae "tables" (.ref tl) (Ae "deeds" (.ref dl) (Ae "size" V.non [])))))))):=A6
 refine q _ ⟨x,dx,dl,tl,nl,ll,hl,pl⟩ rfl k7 ?_ fun f=>⟨x7,⟨_,gdl,rfl,fun _ _ _ z=>by cases z⟩,⟨[],gtl,(fun p hp=>nomatch hp),Bw _⟩,gnl,⟨_,gll,rfl,fun _ _ _ z=>by cases z⟩,⟨_,ghl,rfl,fun _ _ _ z=>by cases z⟩,gpl,?_,rfl⟩
 .rintro b (z|z|z|z|z|z|z) n
  .exact absurd z n
  .rw[z];exact ndl
  .rw[z];exact ntl
  .rw[z];exact nnl
  .rw[z];exact nll
  .rw[z];exact nhl
  .rw[z];exact npl
 .simp only[GB,AG,CL,or_false,not_or,List.nodup_nil,QB,and_true]
  exact⟨⟨ddlnl,ddlll,ddlhl,ddlpl⟩,⟨dnlll,dnlhl,dnlpl⟩,⟨dllhl,dllpl⟩,dhlpl⟩
theorem Qa (T:Tx w K mg a):AI P w K mg base AO 1 a.f_n a.d_n ["draft","spots"] (Rd.spKnown a.c_Draft):=by
 refine T.F_n.ok Va (fun vs H Q E h=>?_) (fun cdv A outer s H vs Q E hr h=>?_)
 .obtain⟨_,_,_,_,rfl,_⟩:=h;rfl
 obtain⟨d,p,nm,sp,rfl,⟨dx,fs,n,hd,hf,hn⟩,⟨ys,hp,pa⟩,sl,q⟩:=h
 refine⟨_,(@Aa _ _ _ (@Aq _ _ _ _ (@Bb _ _ _ _ _ _ _ _ _ (@Lg _ rfl) (by rfl) T.z_all Mf (@A0 _ _ _ _ _ (@DZ _ _ _ _ _ _ _ ["spot","draft"] [none,some 0] _ _ _ _ (by rfl) (@Kg _ _ _ _ (pv 1)) XU (fun _ _ _ _ _ _=>⟨(Bz (i:=0) Tu rfl (.inl rfl)),@Eh _,(@M9 _ _ _ _ _ _ _ (@DS _ _ _ _ _ _ _ _ Bv (@Ag _ _ _ _ _ _ _ (show EM _ (HK K) from B4) (pv 0) A2 (fun _ _=>rfl)) Ar (@Av _ _ (by decide) (by decide))) (@FD _ _ _ _ _ (@DS _ _ _ _ _ _ _ _ (show BG _ _ (Kz K false) from Hb) (@Ag _ _ _ _ _ _ _ (show EM _ (HK K) from B4) (pv 0) A2 (fun _ _=>rfl)) (show PE _ _ (Pd K _ "names") from B0 (pv 1) rfl) (by with_unfolding_all rfl))))⟩) (by intro _;rfl)) A1 (by rfl)) (by decide) (by decide) (by rfl) (by rfl)))),?_⟩
 refine⟨_,rfl,p,rfl,⟨_,Aw.of hp⟩,?_⟩
 have yl:ys.length=sp.length:=pa.1
 refine K9 (xs:=ys) (fun i bs H'=>H'=H/\bs=((sp.take i).map (Rd.knw nm)).map V.bl) ⟨rfl,rfl⟩ (Ai (by omega)) (fun i bs H' hi p=>?_) (fun i x bs H' hc p=>?_) (fun bs H' p t5 ht5=>?_)
 .obtain⟨rfl,rfl⟩:=p
  exact⟨Aw.of hp,by simp;omega⟩
 .obtain⟨rfl,rfl⟩:=p
  have hil:i<sp.length:=by rw[←yl];exact(BE.mp hc).1
  obtain⟨t6,rfl,h6⟩:=pa.2 i x sp[i] hc (BB hil)
  refine⟨_,rfl,t6,_,0,_,rfl,rfl,Aw.of h6,rfl,rfl,_,rfl,?_⟩
  have k1:(V.str (sp[i]).1=V.str (Str.ofString ""))↔(sp[i]).1=Str.ofString "":=⟨fun e=>V.str.inj e,fun e=>by rw[e]⟩
  rw[Du (BB hil),AZ,AZ]
  refine AF (fun y=>⟨rfl,?_⟩) (fun y=>?_)
  .have e:Rd.knw nm sp[i]=true:=by unfold Rd.knw;rw[B1 (k1.mp (dT y))];rfl
   show _=_++[V.bl (Rd.knw nm sp[i])]
   rw[e]
  .have e:Rd.knw nm sp[i]=decide ((sp[i]).1∈nm):=by unfold Rd.knw;rw[Bo fun z=>dF y (k1.mpr z)];rfl
   refine⟨_,rfl,t6,_,0,_,rfl,rfl,Aw.of h6,rfl,_,rfl,d,_,dx,fs,_,rfl,hd,T.cl_Draft,T.n_Draft_names,hf,n,_,rfl,.inl (A3.of hn),rfl,Rd.flat_strs nm,?_⟩
   refine⟨rfl,?_⟩
   show _=_++[V.bl (Rd.knw nm sp[i])]
   rw[e,Rd.in_strs]
   rfl
 obtain⟨rfl,rfl⟩:=p
 refine⟨t5,_,rfl,A3.of A6,?_⟩
 have q2:=q _ (Ac ht5 (.lst (((sp.take ys.length).map (Rd.knw nm)).map V.bl)))
 rw[yl,Eo]at q2 ⊢
 have e:(sp.map (Rd.knw nm)).all id=sp.all (Rd.knw nm):=by rw[Nj];rfl
 rw[e]
 exact q2
theorem Rg (T:Tx w K mg a):AI P w K mg base AO 2 a.f_I a.d_I ["draft","parts"] (Rd.spNamesK a.c_Draft (Bc a)):=by
 have G_n :=@Qa P w K mg base a T
 refine T.F_I.ok NW (fun vs H Q E h=>?_) (fun cdv A outer s H vs Q E hr h=>?_)
 .obtain⟨_,_,_,_,_,rfl,_⟩:=h;rfl
 obtain⟨d,l,nm,xs,ks,rfl,hd,hl,pa,ok,kn,q⟩:=h
 refine⟨_,(@A4 _ _ _ _ _ (@Ed _ _ _ _ _ _ _ _ PassesOwn.never rfl (@Dv _ _ _ _ (pv 1)) (Bz (i:=2) NW.nd rfl (.inl rfl)) (@A4 _ _ _ _ _ (@AK _ _ _ _ _ _ _ _ ((@Dg _ _ _ _ _ _ _ (@Cd _ _ _ (@Bb _ _ _ _ _ _ _ _ _ EV (by rfl) T.z_isinstance F4 (@A0 _ _ _ _ _ (pv 2) (@A0 _ _ _ _ _ (@C7 _ _ (.ref a.c_Value) _ _ (by rfl) T.mc_Value rfl (by decide)) A1 (by rfl)) (by rfl)) (by decide) (by decide) (by rfl) (by rfl)) (by intro _;rfl)) (@DT _ _ _ _ (@Au _ _ _ _ _ _ _ _ MC (@B0 _ _ _ _ _ (pv 2) rfl) (@B0 _ _ _ _ _ (pv 0) rfl) (by with_unfolding_all rfl))))).pt (@Aa _ _ _ (@Aq _ _ _ _ Cv)) AU) (@Aa _ _ _ (@AK _ _ _ _ _ _ _ _ ((@Dg _ _ _ _ _ _ _ (@Cd _ _ _ (@Bb _ _ _ _ _ _ _ _ _ EV (by rfl) T.z_isinstance F4 (@A0 _ _ _ _ _ (pv 2) (@A0 _ _ _ _ _ (@C7 _ _ (.ref a.c_Cell) _ _ (by rfl) T.mc_Cell rfl (by decide)) A1 (by rfl)) (by rfl)) (by decide) (by decide) (by rfl) (by rfl)) (by intro _;rfl)) (@DT _ _ _ _ (@Ew _ _ _ _ (@Cd _ _ _ (@As _ _ _ _ _ _ _ _ _ _ _ _ _ _ _ _ G_n (hr.mono (by omega)) (by rfl) T.m_n T.F_n.kp T.b_n .nil Ap (@A0 _ _ _ _ _ (pv 0) (@A0 _ _ _ _ _ (@B0 _ _ _ _ _ (pv 2) rfl) A1 (by rfl)) (by rfl)) (by decide) (by rfl) (by rfl)) (by intro _;rfl)))))).pt (@Aa _ _ _ (@Aq _ _ _ _ Cv)) AU))) (by intro _;rfl)) (@Aa _ _ _ (@Aq _ _ _ _ Cv))),?_⟩
 refine⟨_,rfl,l,rfl,⟨_,A3.of hl⟩,?_⟩
 refine FG (xs:=xs) (fun i σ' H'=>A7 H H'/\∃o2:Option V,σ'=[some (.ref d),some (.ref l),o2]) ⟨A7.refl _,_,rfl⟩ (fun i σ' H' _ p=>p.1.seq (A3.of hl)) (fun i x σ' H' hx p=>?_) (fun σ' H' p=>?_)
 .obtain⟨e,o2,rfl⟩:=p
  dsimp only[Am]
  have il:i<xs.length:=(BE.mp hx).1
  obtain⟨k,hk⟩:∃k,ks[i]?=some k:=⟨ks[i]'(by rw[←pa.1];exact il),BB _⟩
  have hpk:=(pa.2 i x k hx hk).over e
  have okk:=ok k (C8 hk)
  have knk:=kn k (C8 hk)
  obtain⟨ddx,fs,n,hd0,hf,hn0⟩:=hd
  have hd:=e _ _ hd0
  have hn:=e _ _ hn0
  cases k with
  |
   s c=>
   have hpk:x = .str ⟨#[c]⟩:=hpk
   subst hpk
   refine⟨_,rfl,_,_,_,_,false,rfl,rfl,.str _,T.is_str_Value,_,rfl,Ay ?_⟩
   exact⟨_,rfl,_,_,_,_,false,rfl,rfl,.str _,T.is_str_Cell,_,rfl,Ay ⟨e,_,rfl⟩⟩
  |
   t w'=>
   cases w' with
   |
    n i=>
    obtain⟨t0,dx,rfl,hx0⟩:=hpk
    refine⟨_,rfl,_,_,_,_,false,rfl,rfl,T.ty_Number _ _ _ _ hx0,T.is_Number_Value,_,rfl,Ay ?_⟩
    exact⟨_,rfl,_,_,_,_,false,rfl,rfl,T.ty_Number _ _ _ _ hx0,T.is_Number_Cell,_,rfl,Ay ⟨e,_,rfl⟩⟩
   |
    v z=>
    obtain⟨t0,dx,rfl,hx0⟩:=hpk
    refine⟨_,rfl,_,_,_,_,true,rfl,rfl,T.ty_Value _ _ _ _ hx0,T.is_Value_Value,_,rfl,Bm ?_⟩
    refine⟨_,rfl,t0,_,dx,_,_,rfl,hx0,T.cl_Value,T.n_Value_name,rfl,_,rfl,d,_,ddx,fs,_,rfl,hd,T.cl_Draft,T.n_Draft_names,hf,n,_,rfl,.inl (A3.of hn),rfl,Rd.flat_strs nm,_,rfl,?_⟩
    have e1:Do (V.str z) (nm.map V.str)=true:=by rw[Rd.in_strs];exact B1 knk
    rw[e1]
    refine Ay ?_
    exact⟨_,rfl,_,_,_,_,false,rfl,rfl,T.ty_Value _ _ _ _ hx0,T.is_Value_Cell,_,rfl,Ay ⟨e,_,rfl⟩⟩
   |
    c z sp=>
    obtain⟨t0,dx,p0,rfl,hx0,hp0⟩:=hpk
    refine⟨_,rfl,_,_,_,_,false,rfl,rfl,T.ty_Cell _ _ _ _ hx0,T.is_Cell_Value,_,rfl,Ay ?_⟩
    refine⟨_,rfl,_,_,_,_,true,rfl,rfl,T.ty_Cell _ _ _ _ hx0,T.is_Cell_Cell,_,rfl,Bm ?_⟩
    refine⟨_,rfl,_,rfl,t0,_,dx,_,_,rfl,hx0,T.cl_Cell,T.n_Cell_spots,rfl,d,p0,nm,sp,rfl,⟨ddx,fs,n,hd,hf,hn⟩,hp0,(by have:=okk.2.2.1;omega),fun H2 e2=>⟨_,rfl,?_⟩⟩
    rw[show sp.all (Rd.knw nm)=true from knk]
    exact Ay ⟨e.trans e2,_,rfl⟩
   |j _ _ _=>exact okk.elim
 .obtain⟨e,o2,rfl⟩:=p
  exact q _ e
theorem V7 (T:Tx w K mg a):AI P w K mg base AO 1 a.f_J a.d_J ["draft","parts"] (Rd.spTabs a.c_Draft (Bc a)):=by
 refine T.F_J.ok Lx (fun vs H Q E h=>?_) (fun cdv A outer s H vs Q E hr h=>?_)
 .obtain⟨_,_,_,_,_,_,_,_,_,rfl,_⟩:=h;rfl
 obtain⟨d,l,dx,t,fs,xs,ks,f,tb,rfl,hd,hf,ht,hfb,tl,hl,pa,ok,kf,q⟩:=h
 refine⟨_,(@A4 _ _ _ _ _ (@Ed _ _ _ _ _ _ _ _ PassesOwn.never rfl (@Dv _ _ _ _ (pv 1)) (Bz (i:=2) Lx.nd rfl (.inl rfl)) (@Aa _ _ _ (@AK _ _ _ _ _ _ _ _ (@Cd _ _ _ (@Bb _ _ _ _ _ _ _ _ _ EV (by rfl) T.z_isinstance F4 (@A0 _ _ _ _ _ (pv 2) (@A0 _ _ _ _ _ (@C7 _ _ (.ref a.c_Cell) _ _ (by rfl) T.mc_Cell rfl (by decide)) A1 (by rfl)) (by rfl)) (by decide) (by decide) (by rfl) (by rfl)) (by intro _;rfl)) (@A4 _ _ _ _ _ (@Al _ _ (3) _ _ _ _ Lx.nd rfl (.inl rfl) (@Bb _ _ _ _ _ _ _ _ _ C6 (by rfl) T.z_len BJ (@A0 _ _ _ _ _ (@B0 _ _ _ _ _ (pv 2) rfl) A1 (by rfl)) (by decide) (by decide) (by rfl) (by rfl)) (by rfl) (by first|exact .inl rfl|exact .inr rfl|assumption)) (@Aa _ _ _ (@AK _ _ _ _ _ _ _ _ (@Au _ _ _ _ _ _ _ _ E4 (@V2 _ _ _ _ _ _ _ _ _ (@B0 _ _ _ _ _ (pv 0) rfl) (@B0 _ _ _ _ _ (pv 2) rfl) (pv 3) ⟨rfl,rfl,rfl,rfl⟩) (pv 3) (@Av _ _ (by decide) (by decide))) (@Aa _ _ _ (@Aq _ _ _ _ Cv)) AU))) AU)) (by intro _;rfl)) (@Aa _ _ _ (@Aq _ _ _ _ Cv))),?_⟩
 have ntl:∀{b:Addr} {o:HO},H b=some o->(∀kv,o≠.dK kv)->b≠t:=fun{b o} e n z=>by rw[z,ht]at e;exact n _ (BX e).symm
 refine⟨_,rfl,l,rfl,⟨_,A3.of hl⟩,?_⟩
 refine FG (xs:=xs) (fun i σ' H'=>(∀b o,H b=some o->b≠t->H' b=some o)/\(∃o2 o3:Option V,σ'=[some (.ref d),some (.ref l),o2,o3])/\∃tb',H' t=some (.dK (Rd.tbK tb'))/\(∀p∈tb',p.2=f p.1)/\tb'.length<=tb.length+i) ⟨fun _ _ e _=>e,⟨_,_,rfl⟩,tb,ht,hfb,Aj _⟩ (fun i σ' H' _ p=>A3.of (p.1 _ _ hl (ntl hl (fun _ z=>nomatch z)))) (fun i x σ' H' hx p=>?_) (fun σ' H' p=>?_)
 .obtain⟨e,⟨o2,o3,rfl⟩,tb',ht',hf',tl'⟩:=p
  dsimp only[Am]
  have il:i<xs.length:=(BE.mp hx).1
  obtain⟨k,hk⟩:∃k,ks[i]?=some k:=⟨ks[i]'(by rw[←pa.1];exact il),BB _⟩
  have kp:Rd.Kp H H':=fun b o e' ob=>e b o e' (ntl e' (fun _ z=>by rw[z]at ob;exact ob))
  have hpk:=(pa.2 i x k hx hk).kp kp
  have okk:=ok k (C8 hk)
  have kfk:=kf k (C8 hk)
  have hd':=e _ _ hd (ntl hd (fun _ z=>nomatch z))
  cases k with
  |
   s c=>
   have hpk:x = .str ⟨#[c]⟩:=hpk
   subst hpk
   exact⟨_,rfl,_,_,_,_,false,rfl,rfl,.str _,T.is_str_Cell,_,rfl,Ay ⟨e,⟨_,_,rfl⟩,tb',ht',hf',by omega⟩⟩
  |
   t w'=>
   cases w' with
   |
    n i=>
    obtain⟨t0,dx,rfl,hx0⟩:=hpk
    exact⟨_,rfl,_,_,_,_,false,rfl,rfl,T.ty_Number _ _ _ _ hx0,T.is_Number_Cell,_,rfl,Ay ⟨e,⟨_,_,rfl⟩,tb',ht',hf',by omega⟩⟩
   |
    v z=>
    obtain⟨t0,dx,rfl,hx0⟩:=hpk
    exact⟨_,rfl,_,_,_,_,false,rfl,rfl,T.ty_Value _ _ _ _ hx0,T.is_Value_Cell,_,rfl,Ay ⟨e,⟨_,_,rfl⟩,tb',ht',hf',by omega⟩⟩
   |
    c z sp=>
    obtain⟨t0,dx0,p0,rfl,hx0,ys,hp0,pa0⟩:=hpk
    have yl:((ys.length:Nat):Int)=((f z:Nat):Int):=by rw[show f z=sp.length from kfk,pa0.1]
    refine⟨_,rfl,_,_,_,_,true,rfl,rfl,T.ty_Cell _ _ _ _ hx0,T.is_Cell_Cell,_,rfl,Bm ?_⟩
    refine⟨_,rfl,t0,_,dx0,_,_,rfl,hx0,T.cl_Cell,T.n_Cell_spots,rfl,p0,ys,rfl,.inr (Aw.of hp0),?_⟩
    rw[yl]
    dsimp only[Am]
    refine⟨_,rfl,d,_,dx,fs,_,rfl,hd',T.cl_Draft,T.n_Draft_tables,hf,t,rfl,.inl ⟨_,.inl ht'⟩,?_⟩
    refine⟨_,rfl,t0,_,dx0,_,_,rfl,hx0,T.cl_Cell,T.n_Cell_table,rfl,_,rfl,_,.inr z,ht',rfl,?_,fun v hv=>?_,fun hn=>?_⟩
    .have:=pa.1;unfold Rd.tbK;rw[An];omega
    .rw[Rd.tb_val hf' hv]
     refine⟨_,rfl,rfl,_,rfl,?_⟩
     rw[B1 rfl]
     exact Ay ⟨e,⟨_,_,rfl⟩,tb',ht',hf',by omega⟩
    .obtain⟨tb2,e2,h2,l2⟩:=Rd.tb_put hf' hn
     rw[e2]
     refine⟨_,rfl,rfl,_,rfl,?_⟩
     rw[B1 rfl]
     exact Ay ⟨fun b o e' nb=>by rw[A8 nb];exact e b o e' nb,⟨_,_,rfl⟩,tb2,A6,h2,by omega⟩
   |j _ _ _=>exact okk.elim
 .obtain⟨e,⟨o2,o3,rfl⟩,tb',ht',hf',tl'⟩:=p
  rw[pa.1]at tl'
  exact q _ tb' e ht' hf' tl'
theorem WS (T:Tx w K mg a):AI P w K mg base AO 8 a.f_K a.d_K ["draft","row"] (Rd.spDeedT a.c_Draft a.c_Deed (Bc a)):=by
 have G_m :=@P2 P w K mg base a T
 have G_G :=@Wa P w K mg base a T
 have G_H :=@W1 P w K mg base a T
 have G_I :=@Rg P w K mg base a T
 have G_J :=@V7 P w K mg base a T
 have G_7 :=@TV P w K mg base a T
 refine T.F_K.ok I0 (fun vs H Q E h=>?_) (fun cdv A outer s H vs Q E hr h=>?_)
 .obtain⟨_,_,_,_,_,_,_,_,_,rfl,_⟩:=h;rfl
 obtain⟨f,B,D,D',z,tb,sp,ks,t,rfl,hD,hz,zl,hs,q⟩:=h
 refine⟨_,(@A4 _ _ _ _ _ (@Al _ _ (2) _ _ _ _ I0.nd rfl (.inl rfl) (@B9 _ _ _ _ _ _ _ _ _ _ _ _ DN KY KZ IG (pv 1) (@A0 _ _ _ _ _ Ar A1 (by rfl)) (by rfl) (by rfl) (by rfl) (by rfl) (by rfl)) (by rfl) (by first|exact .inl rfl|exact .inr rfl|assumption)) (@A4 _ _ _ _ _ (@Al _ _ (3) _ _ _ _ I0.nd rfl (.inl rfl) (@As _ _ _ _ _ _ _ _ _ _ _ _ _ _ _ _ G_m (hr.mono (by omega)) (by rfl) T.m_m T.F_m.kp T.b_m .nil Ap (@A0 _ _ _ _ _ (@Ag _ _ _ _ _ _ _ B4 (pv 2) A2 (fun _ _=>rfl)) A1 (by rfl)) (by decide) (by rfl) (by rfl)) (by rfl) (by first|exact .inl rfl|exact .inr rfl|assumption)) (@A4 _ _ _ _ _ (@Al _ _ (4) _ _ _ _ I0.nd rfl (.inl rfl) (@As _ _ _ _ _ _ _ _ _ _ _ _ _ _ _ _ G_G (hr.mono (by omega)) (by rfl) T.m_G T.F_G.kp T.b_G .nil Ap (@A0 _ _ _ _ _ (@Ag _ _ _ _ _ _ _ B4 (pv 2) A2 (fun _ _=>rfl)) A1 (by rfl)) (by decide) (by rfl) (by rfl)) (by rfl) (by first|exact .inl rfl|exact .inr rfl|assumption)) (@A4 _ _ _ _ _ (@AK _ _ _ _ _ _ _ _ ((@Cu _ _ _ _ _ _ _ (@Au _ _ _ _ _ _ _ _ Bv (@Bb _ _ _ _ _ _ _ _ _ C6 (by rfl) T.z_len BJ (@A0 _ _ _ _ _ (@B0 _ _ _ _ _ (pv 0) rfl) A1 (by rfl)) (by decide) (by decide) (by rfl) (by rfl)) (@C7 _ _ _ _ _ (by rfl) T.g_MOST_DEEDS T.r_MOST_DEEDS (by decide)) (@Av _ _ (by decide) (by decide))) (@Cu _ _ _ _ _ _ _ (@Au _ _ _ _ _ _ _ _ Ee (pv 3) BO (@Av _ _ (by decide) (by decide))) (@Dt _ _ _ _ (@Au _ _ _ _ _ _ _ _ Ee (pv 4) BO (@Av _ _ (by decide) (by decide))))))).pt (@Aa _ _ _ (@Aq _ _ _ _ Cv)) AU) (@A4 _ _ _ _ _ (@Al _ _ (5) _ _ _ _ I0.nd rfl (.inl rfl) (@As _ _ _ _ _ _ _ _ _ _ _ _ _ _ _ _ G_H (hr.mono (by omega)) (by rfl) T.m_H T.F_H.kp T.b_H .nil Ap (@A0 _ _ _ _ _ (pv 4) A1 (by rfl)) (by decide) (by rfl) (by rfl)) (by rfl) (by first|exact .inl rfl|exact .inr rfl|assumption)) (@A4 _ _ _ _ _ (@AK _ _ _ _ _ _ _ _ ((@Cu _ _ _ _ _ _ _ (@Au _ _ _ _ _ _ _ _ Ee (pv 5) BO (@Av _ _ (by decide) (by decide))) (@Cu _ _ _ _ _ _ _ (@Ew _ _ _ _ (@Cd _ _ _ (@As _ _ _ _ _ _ _ _ _ _ _ _ _ _ _ _ G_I (hr.mono (by omega)) (by rfl) T.m_I T.F_I.kp T.b_I .nil Ap (@A0 _ _ _ _ _ (pv 0) (@A0 _ _ _ _ _ (@A9 _ _ _ _ _ _ _ _ EZ (@Bj _ _ _ _ (@A0 _ _ _ _ _ (pv 3) A1 (by rfl))) (pv 4)) A1 (by rfl)) (by rfl)) (by decide) (by rfl) (by rfl)) (by intro _;rfl))) (@Dt _ _ _ _ (@Ew _ _ _ _ (@Cd _ _ _ (@As _ _ _ _ _ _ _ _ _ _ _ _ _ _ _ _ G_J (hr.mono (by omega)) (by rfl) T.m_J T.F_J.kp T.b_J .nil Ap (@A0 _ _ _ _ _ (pv 0) (@A0 _ _ _ _ _ (@A9 _ _ _ _ _ _ _ _ EZ (@Bj _ _ _ _ (@A0 _ _ _ _ _ (pv 3) A1 (by rfl))) (pv 4)) A1 (by rfl)) (by rfl)) (by decide) (by rfl) (by rfl)) (by intro _;rfl))))))).pt (@Aa _ _ _ (@Aq _ _ _ _ Cv)) AU) (@A4 _ _ _ _ _ (@Bp _ _ _ _ (@B9 _ _ _ _ _ _ _ _ _ _ _ _ Bh BS BU BM (@B0 _ _ _ _ _ (pv 0) rfl) (@A0 _ _ _ _ _ (@Hd _ _ _ _ _ _ _ _ _ _ _ _ _ _ _ _ _ T.mk_Deed G_7 (hr.mono (by omega)) (by rfl) T.mc_Deed T.b_7 .nil Ap (@A0 _ _ _ _ _ (@D7 _ _ _ _ _ _ _ _ _ Gu (by rfl) T.z_tuple Gf (@A0 _ _ _ _ _ (@B0 _ _ _ _ _ (pv 0) rfl) A1 (by rfl)) (by decide) (by decide) (by rfl) (by rfl)) (@A0 _ _ _ _ _ (@D7 _ _ _ _ _ _ _ _ _ Gu (by rfl) T.z_tuple Gf (@A0 _ _ _ _ _ (@B0 _ _ _ _ _ (pv 0) rfl) A1 (by rfl)) (by decide) (by decide) (by rfl) (by rfl)) (@A0 _ _ _ _ _ (@D7 _ _ _ _ _ _ _ _ _ Gu (by rfl) T.z_tuple Gf (@A0 _ _ _ _ _ (@B0 _ _ _ _ _ (pv 0) rfl) A1 (by rfl)) (by decide) (by decide) (by rfl) (by rfl)) (@A0 _ _ _ _ _ (@B0 _ _ _ _ _ (pv 3) rfl) (@A0 _ _ _ _ _ (@B0 _ _ _ _ _ (pv 3) rfl) (@A0 _ _ _ _ _ (pv 5) (@A0 _ _ _ _ _ (@D7 _ _ _ _ _ _ _ _ _ Gu (by rfl) T.z_tuple Gf (@A0 _ _ _ _ _ (@B0 _ _ _ _ _ (pv 0) rfl) A1 (by rfl)) (by decide) (by decide) (by rfl) (by rfl)) A1 (by rfl)) (by rfl)) (by rfl)) (by rfl)) (by rfl)) (by rfl)) (by rfl)) (by decide) (by rfl) (by rfl)) A1 (by rfl)) (by rfl) (by rfl) (by rfl) (by rfl) (by rfl)) (by rfl)) (@A4 _ _ _ _ _ (@Pz _ _ _ _ _ _ _ _ _ _ _ _ _ (@B0 _ _ _ _ _ (pv 0) rfl) (@CW _ _ _ _ _ _ CV A2) NK A2 Ln Pi (by intros;rfl)) (@Aa _ _ _ (@Aq _ _ _ _ Cv)))))))))),?_⟩
 obtain⟨s0,d6,okc,okk,adj,kl,⟨Tt,S,hrun,hjw⟩,kn,kf,rfl⟩:=hs
 have n61:61∉cds (Ba tb sp):=Rd.cel_no okc
 have hp:Dy 61 (cds z)=[.str (Ba tb sp),.str ⟨#[61]⟩,.str (AB (Rd.txts ks))]:=by
  unfold Dy
  rw[hz]
  unfold Rd.dedT
  rw[Af (Cp _ AA),(Rd.bef_app n61).1,(Rd.bef_app n61).2,Es]
 have hlen:=cds_len z
 have tl2:(AB (Rd.txts ks)).length<=100000:=by
  rw[D3]
  have e:=congrArg List.length hz
  unfold Rd.dedT at e
  rw[Ah,AQ]at e
  omega
 refine⟨_,rfl,rfl,_,61,rfl,rfl,Ai (by omega),fun r hr'=>?_⟩
 rw[hp]
 have e1:=Ac hr' (.tup [.str (Ba tb sp),.str ⟨#[61]⟩,.str (AB (Rd.txts ks))])
 have hr1:(upd H r (.tup [.str (Ba tb sp),.str ⟨#[61]⟩,.str (AB (Rd.txts ks))])) r=_:=A6
 generalize upd H r (.tup [.str (Ba tb sp),.str ⟨#[61]⟩,.str (AB (Rd.txts ks))])=H1 at e1 hr1
 dsimp only[Am]
 refine⟨_,rfl,r,_,_,_,rfl,rfl,Aw.of hr1,rfl,tb,sp,rfl,okc,fun cx H2 e2 hc2=>?_⟩
 dsimp only[Am]
 have hr2:=e2 _ _ hr1
 refine⟨_,rfl,r,_,_,_,rfl,rfl,Aw.of hr2,rfl,_,ks,rfl,B6 _,tl2,okk,adj,fun pl xs H3 e3 hpl hxs pa3=>?_⟩
 dsimp only[Am]
 have e13:=e1.trans (e2.trans e3)
 have hD3:=hD.over e13
 have hc3:=Br.over e3 hc2
 obtain⟨c0,cdx,cp,rfl,hc0,hcp⟩:=hc3
 obtain⟨ds,hds,pds⟩:=hD3.dd
 refine⟨_,rfl,B.d,_,B.dx,_,_,rfl,hD3.o,T.cl_Draft,T.n_Draft_deeds,rfl,B.dl,_,rfl,.inl (A3.of hds),rfl,_,rfl,?_⟩
 refine AF (fun y=>absurd (V.int.inj (dT y)) (by rw[pds.1];omega)) (fun _=>?_)
 refine⟨_,rfl,rfl,_,rfl,Ay ?_⟩
 refine⟨_,rfl,rfl,_,rfl,Ay ?_⟩
 refine⟨_,rfl,pl,xs,ks,Tt,S,t,rfl,hxs,pa3,(by rw[pa3.1];omega),okk,hrun,hjw,fun tv H4 e4 htv=>?_⟩
 dsimp only[Am]
 have tn:tv≠.non:=by
  cases t with
  |n i=>obtain⟨_,_,rfl,_⟩:=htv;exact fun z=>nomatch z
  |v z=>obtain⟨_,_,rfl,_⟩:=htv;exact fun z=>nomatch z
  |c z sp=>obtain⟨_,_,_,rfl,_⟩:=htv;exact fun z=>nomatch z
  |j z l r=>obtain⟨_,_,_,_,rfl,_⟩:=htv;exact fun z=>nomatch z
 refine⟨_,rfl,rfl,_,rfl,?_⟩
 refine AF (fun y=>absurd (dT y) tn) (fun _=>?_)
 have e14:=e13.trans e4
 have xl:xs.length<=999:=by rw[pa3.1];exact kl
 refine⟨_,rfl,_,rfl,AE rfl,fun l1 hl1=>⟨_,rfl,l1,pl,[.ref c0],xs,rfl,rfl,A6,(Ac hl1 _) _ _ (e4 _ _ hxs),Ai (by show 1+_<=_;omega),fun l2 hl2=>?_⟩⟩
 have e5:=e4.trans ((Ac hl1 (.lst [.ref c0])).trans (Ac hl2 (.lst ([.ref c0]++xs))))
 have hl25:(upd (upd H4 l1 (.lst [.ref c0])) l2 (.lst ([.ref c0]++xs))) l2=some (.lst ([.ref c0]++xs)):=A6
 have htv5:=Br.over ((Ac hl1 (.lst [.ref c0])).trans (Ac hl2 (.lst ([.ref c0]++xs)))) htv
 generalize upd (upd H4 l1 (.lst [.ref c0])) l2 (.lst ([.ref c0]++xs))=H5 at e5 hl25 htv5
 have hcel:Br (Bc a) H3 (.c tb sp) (.ref c0):=⟨c0,cdx,cp,rfl,hc0,hcp⟩
 have pall:AH (Rd.PtAt (Bc a) H3) ([.ref c0]++xs) (.t (.c tb sp)::ks):=AH.cons hcel pa3
 have oall:∀k∈Rd.Tk.t (.c tb sp)::ks,k.Ok:=fun k hk=>by
  rcases AG.mp hk with rfl|hk
  .exact okc
  .exact okk k hk
 refine⟨B.d,l2,_,_,.t (.c tb sp)::ks,rfl,(hD3.over e5).drn,hl25,pall.mono fun _ _ x=>x.over e5,oall,kn,fun H6 e6=>⟨_,rfl,Ay ?_⟩⟩
 have e36:=e5.trans e6
 have hD6:=hD3.over e36
 refine⟨_,rfl,_,rfl,AE rfl,fun l1 hl1=>⟨_,rfl,l1,pl,[.ref c0],xs,rfl,rfl,A6,(Ac hl1 _) _ _ (e36 _ _ hxs),Ai (by show 1+_<=_;omega),fun l2 hl2=>?_⟩⟩
 have e7:=e36.trans ((Ac hl1 (.lst [.ref c0])).trans (Ac hl2 (.lst ([.ref c0]++xs))))
 have hl27:(upd (upd H6 l1 (.lst [.ref c0])) l2 (.lst ([.ref c0]++xs))) l2=some (.lst ([.ref c0]++xs)):=A6
 have htv7:=Br.over (e6.trans ((Ac hl1 (.lst [.ref c0])).trans (Ac hl2 (.lst ([.ref c0]++xs))))) htv5
 generalize upd (upd H6 l1 (.lst [.ref c0])) l2 (.lst ([.ref c0]++xs))=H7 at e7 hl27 htv7
 have hD7:=hD3.over e7
 obtain⟨tbs,ht7,hf7,tl7⟩:=hD7.tb
 refine⟨B.d,l2,B.dx,B.tl,_,_,.t (.c tb sp)::ks,f,tbs,rfl,hD7.o,rfl,ht7,hf7,(by rw[AQ];omega),hl27,pall.mono fun _ _ x=>x.over e7,oall,kf,fun H8 tb8 e8 ht8 hf8 tl8=>⟨_,rfl,Ay ?_⟩⟩
 obtain⟨kp8,out8,o8,⟨ds8,hds8,pds8⟩,nm8,⟨ls8,hls8,pls8⟩,⟨hs8,hhs8,phs8⟩,pa8⟩:=hD7.tabs e8
 have hD8:Rd.DrAt a.c_Draft a.c_Deed (Bc a) f H7 B D:=hD7
 have htv8:=Rd.tb_kp kp8 htv7
 have hc8:=Rd.tb_kp kp8 (Br.over e7 hcel)
 obtain⟨c0',cdx',cp',ec0,hc0,hcp⟩:=hc8
 cases ec0
 clear hc2 hcel pall
 refine⟨_,rfl,B.d,_,B.dx,_,_,rfl,o8,T.cl_Draft,T.n_Draft_deeds,rfl,.inl ⟨rfl,_,A3.of hds8⟩,?_⟩
 refine⟨_,rfl,B.d,_,B.dx,_,_,rfl,o8,T.cl_Draft,T.n_Draft_names,rfl,B.nl,_,rfl,.inl ⟨A3.of nm8,fun t1 ht1=>?_⟩⟩
 have s1:=Ac ht1 (.tup (D.lp.map fun t=>V.str t.nm))
 have g1:(upd H8 t1 (.tup (D.lp.map fun t=>V.str t.nm))) t1=_:=A6
 generalize upd H8 t1 (.tup (D.lp.map fun t=>V.str t.nm))=H9 at s1 g1
 refine⟨_,rfl,B.d,_,B.dx,_,_,rfl,s1 _ _ o8,T.cl_Draft,T.n_Draft_lows,rfl,B.ll,_,rfl,.inl ⟨A3.of (s1 _ _ hls8),fun t2 ht2=>?_⟩⟩
 have s2:=s1.trans (Ac ht2 (.tup ls8))
 have g1:=(Ac ht2 (.tup ls8)) _ _ g1
 have g2:(upd H9 t2 (.tup ls8)) t2=_:=A6
 generalize upd H9 t2 (.tup ls8)=H10 at s2 g1 g2
 refine⟨_,rfl,B.d,_,B.dx,_,_,rfl,s2 _ _ o8,T.cl_Draft,T.n_Draft_highs,rfl,B.hl,_,rfl,.inl ⟨A3.of (s2 _ _ hhs8),fun t3 ht3=>?_⟩⟩
 have s3:=s2.trans (Ac ht3 (.tup hs8))
 have g1:=(Ac ht3 (.tup hs8)) _ _ g1
 have g2:=(Ac ht3 (.tup hs8)) _ _ g2
 have g3:(upd H10 t3 (.tup hs8)) t3=_:=A6
 generalize upd H10 t3 (.tup hs8)=H11 at s3 g1 g2 g3
 refine⟨_,rfl,c0,_,cdx',_,_,rfl,s3 _ _ hc0,T.cl_Cell,T.n_Cell_table,rfl,_,rfl,c0,_,cdx',_,_,rfl,s3 _ _ hc0,T.cl_Cell,T.n_Cell_spots,rfl,_,rfl,?_⟩
 refine⟨_,rfl,B.d,_,B.dx,_,_,rfl,s3 _ _ o8,T.cl_Draft,T.n_Draft_path,rfl,B.pl,_,rfl,.inl ⟨A3.of (s3 _ _ pa8),fun t4 ht4=>?_⟩⟩
 have s4:=s3.trans (Ac ht4 (.tup ((D.pa++[D.la]).map V.int)))
 have g1:=(Ac ht4 (.tup ((D.pa++[D.la]).map V.int))) _ _ g1
 have g2:=(Ac ht4 (.tup ((D.pa++[D.la]).map V.int))) _ _ g2
 have g3:=(Ac ht4 (.tup ((D.pa++[D.la]).map V.int))) _ _ g3
 have g4:(upd H11 t4 (.tup ((D.pa++[D.la]).map V.int))) t4=_:=A6
 generalize upd H11 t4 (.tup ((D.pa++[D.la]).map V.int))=H12 at s4 g1 g2 g3 g4
 intro x dx nx ndx ne
 refine⟨x,dx,_,_,_,_,_,_,_,rfl,A6,fun H13 k13 hx13=>⟨rfl,?_⟩⟩
 obtain⟨dx2,hx13⟩:=hx13
 have m13:=G7 nx ndx k13
 have s5:=s4.trans m13
 have hds13:=s5 _ _ hds8
 have hDo:DQ a.c_Deed (Bc a) H13 (.ref x) ⟨D.lp,tb,sp,t,D.pa++[D.la]⟩:=⟨x,dx2,t1,t2,t3,cp',t4,tv,ls8,hs8,rfl,hx13,m13 _ _ g1,m13 _ _ g2,pls8.mono fun _ _ z=>z.tk (A7.tk s5),m13 _ _ g3,phs8.mono fun _ _ z=>z.tk (A7.tk s5),hcp.tk (A7.tk s5),Br.over s5 htv8,m13 _ _ g4⟩
 have pa13:H13 B.pl=some (.lst (D.pa.map V.int++[.int D.la])):=by rw[s5 _ _ pa8,AZ];rfl
 have k13:=hD7.deed (s5 _ _ o8) (s5 _ _ nm8) (s5 _ _ hls8) (pls8.mono fun _ _ z=>z.tk (A7.tk s5)) (s5 _ _ hhs8) (phs8.mono fun _ _ z=>z.tk (A7.tk s5)) pa13 hds13 (pds8.mono fun _ _ z=>z.over s5) hDo (s5 _ _ ht8) hf8 (by rw[AQ]at tl8;omega)
 obtain⟨⟨a1,a2,a3,a4⟩,_⟩:=hD7.nds
 have n4:=hD7.ne.2.2.2.2.1
 have o14:(upd H13 B.dl (.lst (ds8++[.ref x]))) B.d=_:=(A8 (Ne.symm n4)).trans (s5 _ _ o8)
 have p14:(upd H13 B.dl (.lst (ds8++[.ref x]))) B.pl=_:=(A8 (Ne.symm a4)).trans pa13
 refine⟨B.dl,_,_,rfl,rfl,hds13,BK (by rw[pds8.1];omega),?_⟩
 refine⟨_,rfl,B.d,_,B.dx,_,_,rfl,o14,T.cl_Draft,T.n_Draft_path,rfl,_,rfl,B.pl,_,_,rfl,rfl,p14,_,_,rfl,rfl,B.pl,_,_,_,rfl,rfl,p14,Rd.ix_end _ _,?_⟩
 rw[Rd.set_last]
 exact q _ ((Rd.Out.of (e13.trans e7)).trans (out8.trans ((Rd.Out.of s5).trans k13.1))) k13.2
theorem Vr (T:Tx w K mg a):AI P w K mg base AO 3 a.f_L a.d_L ["draft","words"] (Rd.spSizeT a.c_Draft a.c_Deed (Bc a)):=by
 have G_c :=@Ii P w K mg base a T
 refine T.F_L.ok NC (fun vs H Q E h=>?_) (fun cdv A outer s H vs Q E hr h=>?_)
 .obtain⟨_,_,_,_,_,_,rfl,_⟩:=h;rfl
 obtain⟨f,B,D,D',wl,n,rfl,hD,hw,hs,q⟩:=h
 refine⟨_,(@A4 _ _ _ _ _ (@AK _ _ _ _ _ _ _ _ ((@Cu _ _ _ _ _ _ _ (@Au _ _ _ _ _ _ _ _ E4 (@Bb _ _ _ _ _ _ _ _ _ C6 (by rfl) T.z_len BJ (@A0 _ _ _ _ _ (pv 1) A1 (by rfl)) (by decide) (by decide) (by rfl) (by rfl)) A2 (@Av _ _ (by decide) (by decide))) (@Dt _ _ _ _ (@Au _ _ _ _ _ _ _ _ E4 (@Ag _ _ _ _ _ _ _ AX (pv 1) A2 (fun _ _=>rfl)) Ar (@Av _ _ (by decide) (by decide)))))).pt (@Aa _ _ _ (@Aq _ _ _ _ Cv)) AU) (@A4 _ _ _ _ _ (@Al _ _ (2) _ _ _ _ NC.nd rfl (.inl rfl) (@As _ _ _ _ _ _ _ _ _ _ _ _ _ _ _ _ G_c (hr.mono (by omega)) (by rfl) T.m_c T.F_c.kp T.b_c .nil Ap (@A0 _ _ _ _ _ (@Ag _ _ _ _ _ _ _ AX (pv 1) A2 (fun _ _=>rfl)) A1 (by rfl)) (by decide) (by rfl) (by rfl)) (by rfl) (by first|exact .inl rfl|exact .inr rfl|assumption)) (@A4 _ _ _ _ _ (@AK _ _ _ _ _ _ _ _ ((@Cu _ _ _ _ _ _ _ (@Au _ _ _ _ _ _ _ _ Ee (pv 2) BO (@Av _ _ (by decide) (by decide))) (@Dt _ _ _ _ (@Au _ _ _ _ _ _ _ _ Ey (pv 2) (@C7 _ _ _ _ _ (by rfl) T.g_LEAST_SIZE T.r_LEAST_SIZE (by decide)) (@Av _ _ (by decide) (by decide)))))).pt (@Aa _ _ _ (@Aq _ _ _ _ Cv)) AU) (@A4 _ _ _ _ _ (@Cc _ _ _ _ _ _ _ _ (pv 0) (pv 2) rfl) (@Aa _ _ _ (@Aq _ _ _ _ Cv)))))),?_⟩
 obtain⟨s0,s1,s2,rfl⟩:=hs
 obtain⟨gd,dg⟩:=Rd.nS_good (i:=n) (by omega) s2
 have nv:Fh (cds (nS n)) = .int n:=by unfold Fh;rw[Af gd];exact congrArg V.int dg
 have nl:(nS n).length<=1000:=by rw[←cds_len];have:=gd.2.1;omega
 refine⟨_,rfl,wl,_,rfl,.inl (A3.of hw),rfl,_,rfl,Ay ?_⟩
 refine⟨_,rfl,wl,_,_,_,rfl,rfl,A3.of hw,rfl,rfl,_,rfl,Ay ?_⟩
 refine⟨_,rfl,wl,_,_,_,rfl,rfl,A3.of hw,rfl,_,rfl,nl,fun H1 e1=>?_⟩
 rw[nv]
 dsimp only[Am]
 refine⟨_,rfl,rfl,_,rfl,Ay ?_⟩
 refine⟨_,rfl,_,_,rfl,rfl,_,rfl,?_⟩
 rw[Bo (show ¬n<2 by omega)]
 refine Ay ?_
 have hD1:=hD.over e1
 obtain⟨o2,d2⟩:=hD1.size n
 exact⟨_,rfl,_,rfl,B.d,_,B.dx,_,rfl,hD1.o,T.cl_Draft,T.n_Draft_size,(by show 7<1000;decide),q _ ((Rd.Out.of e1).trans o2) d2⟩
theorem UV (T:Tx w K mg a):AI P w K mg base AO 5 a.f_M a.d_M ["draft","words"] (Rd.spLoopT a.c_Draft a.c_Deed (Bc a)):=by
 have G_a :=@Hh P w K mg base a T
 have G_d :=@Oy P w K mg base a T
 have G_n :=@Qa P w K mg base a T
 refine T.F_M.ok LM (fun vs H Q E h=>?_) (fun cdv A outer s H vs Q E hr h=>?_)
 .obtain⟨_,_,_,_,_,_,rfl,_⟩:=h;rfl
 obtain⟨f,B,D,D',wl,t,rfl,hD,hw,hs,q⟩:=h
 refine⟨_,(@A4 _ _ _ _ _ (@AK _ _ _ _ _ _ _ _ ((@Cu _ _ _ _ _ _ _ (@Au _ _ _ _ _ _ _ _ E4 (@Bb _ _ _ _ _ _ _ _ _ C6 (by rfl) T.z_len BJ (@A0 _ _ _ _ _ (pv 1) A1 (by rfl)) (by decide) (by decide) (by rfl) (by rfl)) A2 (@Av _ _ (by decide) (by decide))) (@Dt _ _ _ _ (@Au _ _ _ _ _ _ _ _ Bv (@Bb _ _ _ _ _ _ _ _ _ C6 (by rfl) T.z_len BJ (@A0 _ _ _ _ _ (@B0 _ _ _ _ _ (pv 0) rfl) A1 (by rfl)) (by decide) (by decide) (by rfl) (by rfl)) (@C7 _ _ _ _ _ (by rfl) T.g_MOST_LOOPS T.r_MOST_LOOPS (by decide)) (@Av _ _ (by decide) (by decide)))))).pt (@Aa _ _ _ (@Aq _ _ _ _ Cv)) AU) (@A4 _ _ _ _ _ (@AK _ _ _ _ _ _ _ _ ((@Cu _ _ _ _ _ _ _ (@Ew _ _ _ _ (@Cd _ _ _ (@As _ _ _ _ _ _ _ _ _ _ _ _ _ _ _ _ G_a (hr.mono (by omega)) (by rfl) T.m_a T.F_a.kp T.b_a .nil Ap (@A0 _ _ _ _ _ (@Ag _ _ _ _ _ _ _ AX (pv 1) A2 (fun _ _=>rfl)) A1 (by rfl)) (by decide) (by rfl) (by rfl)) (by intro _;rfl))) (@Dt _ _ _ _ (@Au _ _ _ _ _ _ _ _ Hb (@Ag _ _ _ _ _ _ _ AX (pv 1) A2 (fun _ _=>rfl)) (@B0 _ _ _ _ _ (pv 0) rfl) (by with_unfolding_all rfl))))).pt (@Aa _ _ _ (@Aq _ _ _ _ Cv)) AU) (@A4 _ _ _ _ _ (@Al _ _ (2) _ _ _ _ LM.nd rfl (.inl rfl) (@As _ _ _ _ _ _ _ _ _ _ _ _ _ _ _ _ G_d (hr.mono (by omega)) (by rfl) T.m_d T.F_d.kp T.b_d .nil Ap (@A0 _ _ _ _ _ (@Ag _ _ _ _ _ _ _ AX (pv 1) A2 (fun _ _=>rfl)) A1 (by rfl)) (by decide) (by rfl) (by rfl)) (by rfl) (by first|exact .inl rfl|exact .inr rfl|assumption)) (@A4 _ _ _ _ _ (@Al _ _ (3) _ _ _ _ LM.nd rfl (.inl rfl) (@As _ _ _ _ _ _ _ _ _ _ _ _ _ _ _ _ G_d (hr.mono (by omega)) (by rfl) T.m_d T.F_d.kp T.b_d .nil Ap (@A0 _ _ _ _ _ (@Ag _ _ _ _ _ _ _ AX (pv 1) A2 (fun _ _=>rfl)) A1 (by rfl)) (by decide) (by rfl) (by rfl)) (by rfl) (by first|exact .inl rfl|exact .inr rfl|assumption)) (@A4 _ _ _ _ _ (@AK _ _ _ _ _ _ _ _ ((@Cu _ _ _ _ _ _ _ (@Au _ _ _ _ _ _ _ _ Ee (pv 2) BO (@Av _ _ (by decide) (by decide))) (@Cu _ _ _ _ _ _ _ (@Au _ _ _ _ _ _ _ _ Ee (pv 3) BO (@Av _ _ (by decide) (by decide))) (@Dt _ _ _ _ (@Ew _ _ _ _ (@Cd _ _ _ (@As _ _ _ _ _ _ _ _ _ _ _ _ _ _ _ _ G_n (hr.mono (by omega)) (by rfl) T.m_n T.F_n.kp T.b_n .nil Ap (@A0 _ _ _ _ _ (pv 0) (@A0 _ _ _ _ _ (@CQ _ _ _ _ _ (@A0 _ _ _ _ _ (pv 2) (@A0 _ _ _ _ _ (pv 3) A1 (by rfl)) (by rfl))) A1 (by rfl)) (by rfl)) (by decide) (by rfl) (by rfl)) (by intro _;rfl))))))).pt (@Aa _ _ _ (@Aq _ _ _ _ Cv)) AU) (@A4 _ _ _ _ _ (@Bp _ _ _ _ (@B9 _ _ _ _ _ _ _ _ _ _ _ _ Bh BS BU BM (@B0 _ _ _ _ _ (pv 0) rfl) (@A0 _ _ _ _ _ (@Ag _ _ _ _ _ _ _ AX (pv 1) A2 (fun _ _=>rfl)) A1 (by rfl)) (by rfl) (by rfl) (by rfl) (by rfl) (by rfl)) (by rfl)) (@A4 _ _ _ _ _ (@Bp _ _ _ _ (@B9 _ _ _ _ _ _ _ _ _ _ _ _ Bh BS BU BM (@B0 _ _ _ _ _ (pv 0) rfl) (@A0 _ _ _ _ _ (pv 2) A1 (by rfl)) (by rfl) (by rfl) (by rfl) (by rfl) (by rfl)) (by rfl)) (@A4 _ _ _ _ _ (@Bp _ _ _ _ (@B9 _ _ _ _ _ _ _ _ _ _ _ _ Bh BS BU BM (@B0 _ _ _ _ _ (pv 0) rfl) (@A0 _ _ _ _ _ (pv 3) A1 (by rfl)) (by rfl) (by rfl) (by rfl) (by rfl) (by rfl)) (by rfl)) (@A4 _ _ _ _ _ (@Bp _ _ _ _ (@B9 _ _ _ _ _ _ _ _ _ _ _ _ Bh BS BU BM (@B0 _ _ _ _ _ (pv 0) rfl) (@A0 _ _ _ _ _ A2 A1 (by rfl)) (by rfl) (by rfl) (by rfl) (by rfl) (by rfl)) (by rfl)) (@Aa _ _ _ (@Aq _ _ _ _ Cv))))))))))),?_⟩
 obtain⟨s0,l3,hnm,hnin,slo,shi,klo,khi,rfl⟩:=hs
 have zl:t.nm.length<=1000:=by have:=hnm.2.1;rw[cds_len]at this;omega
 refine⟨_,rfl,wl,_,rfl,.inl (A3.of hw),rfl,_,rfl,Ay ?_⟩
 refine⟨_,rfl,B.d,_,B.dx,_,_,rfl,hD.o,T.cl_Draft,T.n_Draft_names,rfl,B.nl,_,rfl,.inl (A3.of hD.nm),rfl,_,rfl,?_⟩
 refine AF (fun y=>absurd (V.int.inj (dT y)) (by rw[An];omega)) (fun _=>?_)
 refine⟨_,rfl,wl,_,_,_,rfl,rfl,A3.of hw,rfl,_,rfl,zl,fun H1 e1=>⟨_,rfl,?_⟩⟩
 rw[B1 hnm]
 refine Ay ?_
 have hD1:=hD.over e1
 have hw1:=e1 _ _ hw
 have hn1:H1 B.nl=some (.lst ((D.lp.map (·.nm)).map V.str)):=by rw[IV];exact hD1.nm
 refine⟨_,rfl,wl,_,_,_,rfl,rfl,A3.of hw1,rfl,_,rfl,B.d,_,B.dx,_,_,rfl,hD1.o,T.cl_Draft,T.n_Draft_names,rfl,B.nl,_,rfl,.inl (A3.of hn1),rfl,Rd.flat_strs _,_,rfl,?_⟩
 rw[show Do (V.str t.nm) ((D.lp.map (·.nm)).map V.str)=false from(Rd.in_strs _ _).trans (Bo hnin)]
 refine Ay ?_
 refine⟨_,rfl,wl,_,_,_,rfl,rfl,A3.of hw1,rfl,_,rfl,(by have:=Eg slo.2;omega),?_⟩
 rw[Rd.spot_read slo]
 intro r2 H2 e2 h2
 rw[Es]at h2
 dsimp only[Am]
 have hw2:=e2 _ _ hw1
 refine⟨_,rfl,wl,_,_,_,rfl,rfl,A3.of hw2,rfl,_,rfl,(by have:=Eg shi.2;omega),?_⟩
 rw[Rd.spot_read shi]
 intro r3 H3 e3 h3
 rw[Es]at h3
 dsimp only[Am]
 refine⟨_,rfl,rfl,_,rfl,Ay ?_⟩
 refine⟨_,rfl,rfl,_,rfl,Ay ?_⟩
 refine⟨_,rfl,_,rfl,_,rfl,AE rfl,fun tp htp=>?_⟩
 have e4:=e1.trans (e2.trans (e3.trans (Ac htp (.tup [.ref r2,.ref r3]))))
 have h24:=(e3.trans (Ac htp (.tup [.ref r2,.ref r3]))) _ _ h2
 have h34:=(Ac htp (.tup [.ref r2,.ref r3])) _ _ h3
 have htp4:(upd H3 tp (.tup [.ref r2,.ref r3])) tp=some (.tup [.ref r2,.ref r3]):=A6
 generalize upd H3 tp (.tup [.ref r2,.ref r3])=H4 at e4 h24 h34 htp4
 refine⟨B.d,tp,_,[t.lo,t.hi],rfl,(hD.over e4).drn,⟨_,htp4,rfl,fun i x s hx hs=>?_⟩,(by show 2<=1000;decide),fun H5 e5=>⟨_,rfl,?_⟩⟩
 .match i,hx,hs with
  |0,hx,hs=>cases hx;cases hs;exact⟨r2,rfl,h24⟩
  |1,hx,hs=>cases hx;cases hs;exact⟨r3,rfl,h34⟩
  |_+2,hx,hs=>cases hx
 rw[show([t.lo,t.hi].all (Rd.knw (D.lp.map (·.nm))))=true from by rw[MU,MU,klo,khi];rfl]
 refine Ay ?_
 have e05:=e4.trans e5
 have hD5:=hD.over e05
 have hw5:=e05 _ _ hw
 have s2:Cm H5 (.ref r2) t.lo:=⟨r2,rfl,e5 _ _ h24⟩
 have s3:Cm H5 (.ref r3) t.hi:=⟨r3,rfl,e5 _ _ h34⟩
 obtain⟨y1,y2,y3,y4,y5,y6,m1,m2,m3,m4,m5⟩:=hD5.ne
 obtain⟨⟨a1,a2,a3,a4⟩,⟨b1,b2,b3⟩,⟨c1,c2⟩,d1⟩:=hD5.nds
 obtain⟨ls,hls,pls⟩:=hD5.lo
 obtain⟨hs,hhs,phs⟩:=hD5.hi
 have k4:=hD5.four (lp:=D.lp++[t]) (pa:=D.pa++[D.la]) (la:=0) (pls.snoc s2) (phs.snoc s3) (by rw[Ah,Ah,hD5.pl];rfl)
 have hnm5:=hD5.nm
 refine⟨_,rfl,B.d,_,B.dx,_,_,rfl,hD5.o,T.cl_Draft,T.n_Draft_names,rfl,.inl ⟨rfl,_,A3.of hnm5⟩,_,rfl,wl,_,_,_,rfl,rfl,A3.of hw5,rfl,B.nl,_,_,rfl,rfl,hnm5,BK (by rw[An];omega),?_⟩
 rw[show D.lp.map (fun t=>V.str t.nm)++[.str t.nm]=(D.lp++[t]).map (fun t=>V.str t.nm) from by rw[AZ];rfl]
 have o1:(upd H5 B.nl (.lst ((D.lp++[t]).map fun t=>V.str t.nm))) B.d=_:=((A8 (Ne.symm y1)).trans hD5.o)
 have l1:(upd H5 B.nl (.lst ((D.lp++[t]).map fun t=>V.str t.nm))) B.ll=_:=((A8 (Ne.symm b1)).trans hls)
 refine⟨_,rfl,B.d,_,B.dx,_,_,rfl,o1,T.cl_Draft,T.n_Draft_lows,rfl,.inl ⟨rfl,_,A3.of l1⟩,_,rfl,B.ll,_,_,rfl,rfl,l1,BK (by rw[pls.1];omega),?_⟩
 have o2:(upd (upd H5 B.nl (.lst ((D.lp++[t]).map fun t=>V.str t.nm))) B.ll (.lst (ls++[.ref r2]))) B.d=_:=((A8 (Ne.symm y2)).trans o1)
 have l2:(upd (upd H5 B.nl (.lst ((D.lp++[t]).map fun t=>V.str t.nm))) B.ll (.lst (ls++[.ref r2]))) B.hl=_:=((A8 (Ne.symm c1)).trans ((A8 (Ne.symm b2)).trans hhs))
 refine⟨_,rfl,B.d,_,B.dx,_,_,rfl,o2,T.cl_Draft,T.n_Draft_highs,rfl,.inl ⟨rfl,_,A3.of l2⟩,_,rfl,B.hl,_,_,rfl,rfl,l2,BK (by rw[phs.1];omega),?_⟩
 have o3:(upd (upd (upd H5 B.nl (.lst ((D.lp++[t]).map fun t=>V.str t.nm))) B.ll (.lst (ls++[.ref r2]))) B.hl (.lst (hs++[.ref r3]))) B.d=_:=((A8 (Ne.symm y3)).trans o2)
 have l3':(upd (upd (upd H5 B.nl (.lst ((D.lp++[t]).map fun t=>V.str t.nm))) B.ll (.lst (ls++[.ref r2]))) B.hl (.lst (hs++[.ref r3]))) B.pl=_:=((A8 (Ne.symm d1)).trans ((A8 (Ne.symm c2)).trans ((A8 (Ne.symm b3)).trans hD5.pa)))
 refine⟨_,rfl,B.d,_,B.dx,_,_,rfl,o3,T.cl_Draft,T.n_Draft_path,rfl,.inl ⟨rfl,_,A3.of l3'⟩,B.pl,_,_,rfl,rfl,l3',BK (by rw[An,Ah,hD5.pl,Bs];omega),?_⟩
 rw[AZ (f:=V.int) (l₁:=D.pa++[D.la]) (l₂:=[0])]at k4
 exact q _ ((Rd.Out.of e05).trans k4.1) k4.2
theorem Y2 (T:Tx w K mg a):AI P w K mg base AO 1 a.f_N a.d_N ["draft","words"] (Rd.spEndT a.c_Draft a.c_Deed (Bc a)):=by
 refine T.F_N.ok UL (fun vs H Q E h=>?_) (fun cdv A outer s H vs Q E hr h=>?_)
 .obtain⟨_,_,_,_,_,rfl,_⟩:=h;rfl
 obtain⟨f,B,D,D',wl,rfl,hD,hw,hs,q⟩:=h
 refine⟨_,(@A4 _ _ _ _ _ (@AK _ _ _ _ _ _ _ _ ((@Cu _ _ _ _ _ _ _ (@Au _ _ _ _ _ _ _ _ E4 (@Bb _ _ _ _ _ _ _ _ _ C6 (by rfl) T.z_len BJ (@A0 _ _ _ _ _ (pv 1) A1 (by rfl)) (by decide) (by decide) (by rfl) (by rfl)) A2 (@Av _ _ (by decide) (by decide))) (@Cu _ _ _ _ _ _ _ (@Au _ _ _ _ _ _ _ _ (@Mw _ (@FH _ _ hr)) (@B0 _ _ _ _ _ (pv 0) rfl) (@Bj _ _ _ _ A1) (@Av _ _ (by decide) (by decide))) (@Dt _ _ _ _ (@Au _ _ _ _ _ _ _ _ Bv (@Ag _ _ _ _ _ _ _ AX (@B0 _ _ _ _ _ (pv 0) rfl) (@CW _ _ _ _ _ _ CV A2) (fun _ _=>rfl)) A2 (@Av _ _ (by decide) (by decide))))))).pt (@Aa _ _ _ (@Aq _ _ _ _ Cv)) AU) (@A4 _ _ _ _ _ (@Bp _ _ _ _ (@Ec _ _ _ _ _ _ _ _ _ Bh EK EL Em (@B0 _ _ _ _ _ (pv 0) rfl) (by rfl) (by rfl)) (by rfl)) (@A4 _ _ _ _ _ (@Bp _ _ _ _ (@Ec _ _ _ _ _ _ _ _ _ Bh EK EL Em (@B0 _ _ _ _ _ (pv 0) rfl) (by rfl) (by rfl)) (by rfl)) (@A4 _ _ _ _ _ (@Bp _ _ _ _ (@Ec _ _ _ _ _ _ _ _ _ Bh EK EL Em (@B0 _ _ _ _ _ (pv 0) rfl) (by rfl) (by rfl)) (by rfl)) (@A4 _ _ _ _ _ (@Bp _ _ _ _ (@Ec _ _ _ _ _ _ _ _ _ Bh EK EL Em (@B0 _ _ _ _ _ (pv 0) rfl) (by rfl) (by rfl)) (by rfl)) (@A4 _ _ _ _ _ (@Pz _ _ _ _ _ _ _ _ _ _ _ _ _ (@B0 _ _ _ _ _ (pv 0) rfl) (@CW _ _ _ _ _ _ CV A2) NK A2 Ln Pi (by intros;rfl)) (@Aa _ _ _ (@Aq _ _ _ _ Cv)))))))),?_⟩
 obtain⟨s0,lp,t0,pa,m,e1,e2,la0,rfl⟩:=hs
 refine⟨_,rfl,wl,_,rfl,.inl (A3.of hw),rfl,_,rfl,Ay ?_⟩
 refine⟨_,rfl,B.d,_,B.dx,_,_,rfl,hD.o,T.cl_Draft,T.n_Draft_names,rfl,AE rfl,fun en hen=>?_⟩
 have es:=Ac hen (.lst [])
 have hD1:=hD.over es
 have hen1:(upd H en (.lst [])) en=some (.lst []):=A6
 generalize upd H en (.lst [])=H1 at es hD1 hen1
 obtain⟨n1,n2,n3,n4,n5,n6,m1,m2,m3,m4,m5⟩:=hD1.ne
 obtain⟨⟨a1,a2,a3,a4⟩,⟨b1,b2,b3⟩,⟨c1,c2⟩,d1⟩:=hD1.nds
 have hnm:H1 B.nl=some (.lst (lp.map (fun t=>V.str t.nm)++[.str t0.nm])):=by rw[hD1.nm,e1,AZ];rfl
 obtain⟨ls,hls,pls⟩:=hD1.lo
 obtain⟨hs,hhs,phs⟩:=hD1.hi
 rw[e1]at pls phs
 obtain⟨ls,lx,rfl,pls,-⟩:=Rd.all2_pop pls
 obtain⟨hs,hx,rfl,phs,-⟩:=Rd.all2_pop phs
 have hpa:H1 B.pl=some (.lst ((pa.map V.int++[.int m])++[.int D.la])):=by rw[hD1.pa,e2,AZ,AZ];rfl
 refine⟨B.nl,en,_,rfl,rfl,A3.of hnm,A3.of hen1,_,rfl,?_⟩
 refine AF (fun y=>absurd y (by simp)) (fun _=>?_)
 refine⟨_,rfl,B.d,_,B.dx,_,_,rfl,hD1.o,T.cl_Draft,T.n_Draft_path,rfl,_,rfl,B.pl,_,_,_,rfl,rfl,A3.of hpa,La _ _,rfl,_,rfl,?_⟩
 refine AF (fun y=>absurd (V.int.inj (dT y)) la0) (fun _=>?_)
 refine⟨_,rfl,B.d,_,B.dx,_,_,rfl,hD1.o,T.cl_Draft,T.n_Draft_names,rfl,.inl ⟨rfl,_,A3.of hnm⟩,B.nl,_,_,rfl,rfl,hnm,Ce.1,?_⟩
 rw[Ce.2]
 have o1:(upd H1 B.nl (.lst (lp.map fun t=>V.str t.nm))) B.d=_:=((A8 (Ne.symm n1)).trans hD1.o)
 have l1:(upd H1 B.nl (.lst (lp.map fun t=>V.str t.nm))) B.ll=_:=((A8 (Ne.symm b1)).trans hls)
 refine⟨_,rfl,B.d,_,B.dx,_,_,rfl,o1,T.cl_Draft,T.n_Draft_lows,rfl,.inl ⟨rfl,_,A3.of l1⟩,B.ll,_,_,rfl,rfl,l1,Ce.1,?_⟩
 rw[Ce.2]
 have o2:(upd (upd H1 B.nl (.lst (lp.map fun t=>V.str t.nm))) B.ll (.lst ls)) B.d=_:=((A8 (Ne.symm n2)).trans o1)
 have l2:(upd (upd H1 B.nl (.lst (lp.map fun t=>V.str t.nm))) B.ll (.lst ls)) B.hl=_:=((A8 (Ne.symm c1)).trans ((A8 (Ne.symm b2)).trans hhs))
 refine⟨_,rfl,B.d,_,B.dx,_,_,rfl,o2,T.cl_Draft,T.n_Draft_highs,rfl,.inl ⟨rfl,_,A3.of l2⟩,B.hl,_,_,rfl,rfl,l2,Ce.1,?_⟩
 rw[Ce.2]
 have o3:(upd (upd (upd H1 B.nl (.lst (lp.map fun t=>V.str t.nm))) B.ll (.lst ls)) B.hl (.lst hs)) B.d=_:=((A8 (Ne.symm n3)).trans o2)
 have l3:(upd (upd (upd H1 B.nl (.lst (lp.map fun t=>V.str t.nm))) B.ll (.lst ls)) B.hl (.lst hs)) B.pl=_:=((A8 (Ne.symm d1)).trans ((A8 (Ne.symm c2)).trans ((A8 (Ne.symm b3)).trans hpa)))
 refine⟨_,rfl,B.d,_,B.dx,_,_,rfl,o3,T.cl_Draft,T.n_Draft_path,rfl,.inl ⟨rfl,_,A3.of l3⟩,B.pl,_,_,rfl,rfl,l3,Ce.1,?_⟩
 rw[Ce.2]
 have o4:(upd (upd (upd (upd H1 B.nl (.lst (lp.map fun t=>V.str t.nm))) B.ll (.lst ls)) B.hl (.lst hs)) B.pl (.lst (pa.map V.int++[.int m]))) B.d=_:=((A8 (Ne.symm n4)).trans o3)
 refine⟨_,rfl,B.d,_,B.dx,_,_,rfl,o4,T.cl_Draft,T.n_Draft_path,rfl,_,rfl,B.pl,_,_,rfl,rfl,A6,_,_,rfl,rfl,B.pl,_,_,_,rfl,rfl,A6,Rd.ix_end _ _,?_⟩
 rw[Rd.set_last,ND]
 have k4:=hD1.four (lp:=lp) (pa:=pa) (la:=m+1) pls phs (by have:=hD1.pl;rw[e1,e2,Ah,Ah]at this;exact Nat.add_right_cancel this)
 rw[AZ]at k4
 exact q _ ((Rd.Out.of es).trans k4.1) k4.2
theorem S9 (T:Tx w K mg a):AI P w K mg base AO 9 a.f_O a.d_O ["draft","row"] (Rd.spTaken a.c_Draft a.c_Deed (Bc a)):=by
 have G_D :=@Wk P w K mg base a T
 have G_L :=@Vr P w K mg base a T
 have G_M :=@UV P w K mg base a T
 have G_N :=@Y2 P w K mg base a T
 have G_K :=@WS P w K mg base a T
 refine T.F_O.ok PC (fun vs H Q E h=>?_) (fun cdv A outer s H vs Q E hr h=>?_)
 .obtain⟨_,_,_,_,_,_,rfl,_⟩:=h;rfl
 obtain⟨f,B,D,D',z,r,rfl,hD,zl,hr',hs,q⟩:=h
 refine⟨_,(@A4 _ _ _ _ _ (@Al _ _ (2) _ _ _ _ PC.nd rfl (.inl rfl) (@As _ _ _ _ _ _ _ _ _ _ _ _ _ _ _ _ G_D (hr.mono (by omega)) (by rfl) T.m_D T.F_D.kp T.b_D .nil Ap (@A0 _ _ _ _ _ (pv 1) A1 (by rfl)) (by decide) (by rfl) (by rfl)) (by rfl) (by first|exact .inl rfl|exact .inr rfl|assumption)) (@A4 _ _ _ _ _ (@AK _ _ _ _ _ _ _ _ (@Au _ _ _ _ _ _ _ _ Ee (@B0 _ _ _ _ _ (pv 0) rfl) BO (@Av _ _ (by decide) (by decide))) (@Aa _ _ _ (@Aq _ _ _ _ (@As _ _ _ _ _ _ _ _ _ _ _ _ _ _ _ _ G_L (hr.mono (by omega)) (by rfl) T.m_L T.F_L.kp T.b_L .nil Ap (@A0 _ _ _ _ _ (pv 0) (@A0 _ _ _ _ _ (pv 2) A1 (by rfl)) (by rfl)) (by decide) (by rfl) (by rfl)))) AU) (@A4 _ _ _ _ _ (@AK _ _ _ _ _ _ _ _ (@Au _ _ _ _ _ _ _ _ Bv (@Ag _ _ _ _ _ _ _ AX (pv 2) A2 (fun _ _=>rfl)) Ar (@Av _ _ (by decide) (by decide))) (@Aa _ _ _ (@Aq _ _ _ _ (@As _ _ _ _ _ _ _ _ _ _ _ _ _ _ _ _ G_M (hr.mono (by omega)) (by rfl) T.m_M T.F_M.kp T.b_M .nil Ap (@A0 _ _ _ _ _ (pv 0) (@A0 _ _ _ _ _ (pv 2) A1 (by rfl)) (by rfl)) (by decide) (by rfl) (by rfl)))) AU) (@A4 _ _ _ _ _ (@AK _ _ _ _ _ _ _ _ (@Au _ _ _ _ _ _ _ _ Bv (@Ag _ _ _ _ _ _ _ AX (pv 2) A2 (fun _ _=>rfl)) Ar (@Av _ _ (by decide) (by decide))) (@Aa _ _ _ (@Aq _ _ _ _ (@As _ _ _ _ _ _ _ _ _ _ _ _ _ _ _ _ G_N (hr.mono (by omega)) (by rfl) T.m_N T.F_N.kp T.b_N .nil Ap (@A0 _ _ _ _ _ (pv 0) (@A0 _ _ _ _ _ (pv 2) A1 (by rfl)) (by rfl)) (by decide) (by rfl) (by rfl)))) AU) (@Aa _ _ _ (@Aq _ _ _ _ (@Ug _ _ _ _ _ _ _ _ _ _ _ _ E4 (@Ag _ _ _ _ _ _ _ AX (pv 2) A2 (fun _ _=>rfl)) (by rfl) (@SE _ _ _ _ _ _ _ _ _ _ _ _ _ _ _ _ G_K (hr.mono (by omega)) (by rfl) T.m_K T.F_K.kp T.b_K .nil Ap (@Wx _ _ _ _ _ (pv 0) (@RA _ _ _ (@Uj _ _ _ _ (32) _ _ _ _ _ _ _ (by rfl) (by rfl) (by decide) (pv 1) (by rfl) (by rfl) (by rfl)) (by rfl)) (by rfl)) (by decide) (by rfl) (by rfl))))))))),?_⟩
 refine⟨_,rfl,z,rfl,zl,fun wl H1 ps e1 hsp hwl=>?_⟩
 dsimp only[Am]
 have hD1:=hD.over e1
 have hlen:=cds_len z
 have key:∀{ws:List Str},Rd.Wds (cds z) ws->H1 wl=some (.lst (ws.map V.str)):=fun{ws} hw=>by rw[hwl,hw.at hsp]
 have q1:∀H',Rd.Out B H1 H'->Rd.DrAt a.c_Draft a.c_Deed (Bc a) f H' B D'->Q (.bl true) H':=fun H' o d=>q H' ((Rd.Out.of e1).trans o) d
 have notnone:D.sz≠none->∃m,Rd.szV D.sz = .int m:=fun h=>by
  cases hz:D.sz with
  |none=>exact absurd hz h
  |some m=>exact⟨m,rfl⟩
 cases r with
 |
  sz n=>
  have hw:=key hr'
  refine⟨_,rfl,B.d,_,B.dx,_,_,rfl,hD1.o,T.cl_Draft,T.n_Draft_size,rfl,rfl,_,rfl,?_⟩
  rw[hs.1]
  refine Bm ?_
  exact⟨_,rfl,_,rfl,f,B,D,D',wl,n,rfl,hD1,hw,hs,q1⟩
 |
  opn t=>
  have hw:=key hr'
  obtain⟨m,em⟩:=notnone hs.1
  refine⟨_,rfl,B.d,_,B.dx,_,_,rfl,hD1.o,T.cl_Draft,T.n_Draft_size,rfl,rfl,_,rfl,?_⟩
  rw[em]
  refine Ay ?_
  refine⟨_,rfl,wl,_,_,_,rfl,rfl,A3.of hw,rfl,rfl,_,rfl,Bm ?_⟩
  exact⟨_,rfl,_,rfl,f,B,D,D',wl,t,rfl,hD1,hw,hs,q1⟩
 |
  fin=>
  have hw:=key hr'
  obtain⟨m,em⟩:=notnone hs.1
  refine⟨_,rfl,B.d,_,B.dx,_,_,rfl,hD1.o,T.cl_Draft,T.n_Draft_size,rfl,rfl,_,rfl,?_⟩
  rw[em]
  refine Ay ?_
  refine⟨_,rfl,wl,_,_,_,rfl,rfl,A3.of hw,rfl,rfl,_,rfl,Ay ?_⟩
  refine⟨_,rfl,wl,_,_,_,rfl,rfl,A3.of hw,rfl,rfl,_,rfl,Bm ?_⟩
  exact⟨_,rfl,_,rfl,f,B,D,D',wl,rfl,hD1,hw,hs,q1⟩
 |
  ded tb sp ks t=>
  obtain⟨⟨w0,ws,hw0,n1,n2,n3⟩,hrow⟩:=hr'
  have hw:=key hw0
  obtain⟨m,em⟩:=notnone hs.1
  have at0:Bu ((w0::ws).map V.str) 0=some (.str w0):=D6 (j:=0) rfl
  have ne:∀{u:Str},w0≠u->decide (V.str w0=V.str u)=false:=fun h=>Bo fun e=>h (V.str.inj e)
  refine⟨_,rfl,B.d,_,B.dx,_,_,rfl,hD1.o,T.cl_Draft,T.n_Draft_size,rfl,rfl,_,rfl,?_⟩
  rw[em]
  refine Ay ?_
  refine⟨_,rfl,wl,_,_,_,rfl,rfl,A3.of hw,at0,rfl,_,rfl,?_⟩
  rw[ne n1]
  refine Ay ?_
  refine⟨_,rfl,wl,_,_,_,rfl,rfl,A3.of hw,at0,rfl,_,rfl,?_⟩
  rw[ne n2]
  refine Ay ?_
  refine⟨_,rfl,wl,_,_,_,rfl,rfl,A3.of hw,at0,rfl,_,rfl,?_⟩
  rw[ne n3]
  refine Bm ?_
  refine⟨_,rfl,_,rfl,rfl,z,rfl,by omega,f,B,D,D',_,tb,sp,ks,t,rfl,hD1,?_,?_,hs,q1⟩
  .rw[B6,←hrow]
   congr 1
   funext c
   by_cases h:c=32
   .rw[h];rfl
   .rw[B1 h]
    exact Ep.mpr h
  .rw[D3]
   have:=Nk (· != 32) (cds z)
   omega
theorem RG (T:Tx w K mg a):AI P w K mg base AO 10 a.f_u a.d_u ["text"] (Rd.spReadB a.c_Program a.c_Deed (Bc a)):=by
 have G_C :=@Wb P w K mg base a T
 have G_O :=@S9 P w K mg base a T
 have G_9 :=@TZ P w K mg base a T
 have G_8 :=@TH P w K mg base a T
 refine T.F_u.ok Hk (fun vs H Q E h=>?_) (fun cdv A outer s H vs Q E hr h=>?_)
 .obtain⟨_,_,_,_,_,rfl,_⟩:=h;rfl
 obtain⟨f,z,rows,E,n,rfl,zl,hsp,rl,hrw,hR,hE,dne,lpn,q⟩:=h
 refine⟨_,(@A4 _ _ _ _ _ (@Al _ _ (1) _ _ _ _ Hk.nd rfl (.inl rfl) (@B9 _ _ _ _ _ _ _ _ _ _ _ _ DN Qy Qz Mb (pv 0) (@A0 _ _ _ _ _ Ar A1 (by rfl)) (by rfl) (by rfl) (by rfl) (by rfl) (by rfl)) (by rfl) (by first|exact .inl rfl|exact .inr rfl|assumption)) (@A4 _ _ _ _ _ (@Al _ _ (2) _ _ _ _ Hk.nd rfl (.inl rfl) (@Tr _ _ _ _ _ _ _ _ _ _ _ _ _ _ T.mk_Draft G_9 (hr.mono (by omega)) (by rfl) T.mc_Draft T.b_9 .nil Ap (by decide)) (by rfl) (by first|exact .inl rfl|exact .inr rfl|assumption)) (@A4 _ _ _ _ _ (@Ed _ _ _ _ _ _ _ _ PassesOwn.never rfl (@Vo _ _ _ _ _ _ _ _ _ _ _ (by rfl) T.z_enumerate (@A0 _ _ _ _ _ (pv 1) A1 (by rfl)) (by rfl)) (Hj rfl (E5 (Bz (i:=3) Hk.nd rfl (.inl rfl)) (E5 (Bz (i:=4) Hk.nd rfl (.inl rfl)) Hm))) (@A4 _ _ _ _ _ (@Al _ _ (5) _ _ _ _ Hk.nd rfl (.inl rfl) (@As _ _ _ _ _ _ _ _ _ _ _ _ _ _ _ _ G_C (hr.mono (by omega)) (by rfl) T.m_C T.F_C.kp T.b_C .nil Ap (@A0 _ _ _ _ _ (pv 4) A1 (by rfl)) (by decide) (by rfl) (by rfl)) (by rfl) (by first|exact .inl rfl|exact .inr rfl|assumption)) (@Aa _ _ _ (@AK _ _ _ _ _ _ _ _ ((@Dg _ _ _ _ _ _ _ (@Au _ _ _ _ _ _ _ _ E4 (pv 5) Ar (@Av _ _ (by decide) (by decide))) (@DT _ _ _ _ (@Ew _ _ _ _ (@Cd _ _ _ (@As _ _ _ _ _ _ _ _ _ _ _ _ _ _ _ _ G_O (hr.mono (by omega)) (by rfl) T.m_O T.F_O.kp T.b_O .nil Ap (@A0 _ _ _ _ _ (pv 2) (@A0 _ _ _ _ _ (pv 5) A1 (by rfl)) (by rfl)) (by decide) (by rfl) (by rfl)) (by intro _;rfl)))))).pt (@Aa _ _ _ O0) AU))) (by intro _;rfl)) (@A4 _ _ _ _ _ (@AK _ _ _ _ _ _ _ _ ((@Cu _ _ _ _ _ _ _ (@Au _ _ _ _ _ _ _ _ Ee (@B0 _ _ _ _ _ (pv 2) rfl) BO (@Av _ _ (by decide) (by decide))) (@Cu _ _ _ _ _ _ _ (@Au _ _ _ _ _ _ _ _ (@Mw _ (@FH _ _ hr)) (@B0 _ _ _ _ _ (pv 2) rfl) (@Bj _ _ _ _ A1) (@Av _ _ (by decide) (by decide))) (@Dt _ _ _ _ (@Au _ _ _ _ _ _ _ _ (@IB _ (@FH _ _ hr)) (@B0 _ _ _ _ _ (pv 2) rfl) (@Bj _ _ _ _ A1) (@Av _ _ (by decide) (by decide))))))).pt (@Aa _ _ _ O0) AU) (@Aa _ _ _ (@Aq _ _ _ _ (@Hd _ _ _ _ _ _ _ _ _ _ _ _ _ _ _ _ _ T.mk_Program G_8 (hr.mono (by omega)) (by rfl) T.mc_Program T.b_8 .nil Ap (@A0 _ _ _ _ _ (@B0 _ _ _ _ _ (pv 2) rfl) (@A0 _ _ _ _ _ (@B0 _ _ _ _ _ (pv 2) rfl) A1 (by rfl)) (by rfl)) (by decide) (by rfl) (by rfl)))))))),?_⟩
 have ec:cds (Str.ofString "\n")=[10]:=by decide +kernel
 refine⟨_,rfl,rfl,z,_,rfl,rfl,by decide +kernel,?_,by omega,fun l ps hl hs=>?_⟩
 .rw[ec]
  intro c hc
  rw[D8.mp hc]
  decide
 rw[ec]at hs
 obtain rfl:ps=rows:=Rd.map_cds_inj (hs.fn hsp)
 have e1:=Ac hl (.lst (ps.map V.str))
 have hl1:(upd H l (.lst (ps.map V.str))) l=_:=A6
 generalize upd H l (.lst (ps.map V.str))=H1 at e1 hl1
 dsimp only[Am]
 refine fun x dx nx ndx ne=>⟨x,dx,rfl,A6,fun H2 B hBd k2 fr hD0=>⟨rfl,?_⟩⟩
 subst hBd
 have e2:A7 H1 H2:=G7 nx ndx k2
 have fr1:∀b,B.own b->H1 b=none:=fun b hb=>by
  by_cases hbx:b=B.d
  .rw[hbx];exact nx
  .cases hz:H1 b with
   |none=>rfl
   |
    some u=>
    have:=fr b hb hbx
    rw[A8 hbx,A8 (AC hz ndx),hz]at this
    cases this
 have onto:∀{H' H'':Hp},A7 H1 H'->Rd.Out B H' H''->A7 H1 H'':=fun{H' H''} s o b u hb=>o b u (s b u hb) fun hown=>by rw[fr1 b hown]at hb;cases hb
 dsimp only[Am]
 refine⟨_,rfl,l,rfl,⟨_,A3.of (e2 _ _ hl1)⟩,?_⟩
 refine Sz (xs:=ps.map V.str) (fun i σ' H'=>(∃o3 o4 o5:Option V,σ'=[some (.str z),some (.ref l),some (.ref B.d),o3,o4,o5])/\A7 H1 H'/\∃D,Rd.DrAt a.c_Draft a.c_Deed (Bc a) f H' B D/\Rd.Rds f (ps.drop i) D E) ⟨⟨_,_,_,rfl⟩,e2,Rd.D0,hD0 f,hR⟩ (fun i σ' H' _ pp=>A3.of (pp.2.1 _ _ hl1)) (fun i y Tt σ' H' hy pp hT=>?_) (fun σ' H' pp=>?_)
 .obtain⟨⟨o3,o4,o5,rfl⟩,e3,D,hD,hRi⟩:=pp
  rw[Dm]at hy
  cases hyi:ps[i]? with
  |none=>rw[hyi]at hy;cases hy
  |
   some u=>
   rw[hyi]at hy
   cases hy
   have ul:u.length<=100000:=hrw u (C8 hyi)
   have hil:=(BE.mp hyi).1
   have ed:ps.drop i=u::ps.drop (i+1):=by
    rw[F7 hil]
    rw[BB hil]at hyi
    rw[BX hyi]
   rw[ed]at hRi
   have sT:=Ac hT (.tup [V.int ((i:Int)+1),.str u])
   have hD4:=hD.over sT
   have e4:=e3.trans sT
   refine⟨Tt,_,rfl,Aw.of A6,rfl,_,_,rfl,_,_,rfl,rfl,?_⟩
   generalize upd H' Tt (.tup [V.int ((i:Int)+1),.str u])=H4 at hD4 e4
   refine⟨_,rfl,u,rfl,ul,fun H5 e5=>?_⟩
   dsimp only[Am]
   have hD5:=hD4.over e5
   have e15:=e4.trans e5
   refine⟨_,rfl,rfl,_,rfl,?_⟩
   have kb:(V.str (AB (Rd.bare (cds u)))=V.str (Str.ofString ""))↔Rd.bare (cds u)=[]:=⟨fun e=>by have e:=congrArg cds (V.str.inj e);rw[B6]at e;exact e,fun e=>by rw[e];rfl⟩
   cases hRi with
   |
    no hb hRn=>
    refine AF (fun y=>?_) (fun _=>?_)
    .rw[B1 (kb.mpr hb)]at y
     cases y
    .exact Ay ⟨⟨_,_,_,rfl⟩,e15,D,hD5,hRn⟩
   |
    @row _ _ _ D' _ r hb hrt hst hRn=>
    refine AF (fun _=>?_) (fun y=>?_)
    .refine⟨_,rfl,_,rfl,f,B,D,D',_,r,rfl,hD5,?_,?_,hst,fun H6 out hD6=>⟨_,rfl,Ay ?_⟩⟩
     .rw[D3]
      have:=Rd.bare_len (cds u)
      have:=cds_len u
      omega
     .rw[B6];exact hrt
     .exact⟨⟨_,_,_,rfl⟩,onto e15 out,D',hD6,hRn⟩
    .exact absurd (show(!decide (V.str (AB (Rd.bare (cds u)))=V.str (Str.ofString "")))=true from by rw[Bo fun e=>hb (kb.mp e)];rfl) y
 .obtain⟨⟨o3,o4,o5,rfl⟩,e3,D,hD,hRi⟩:=pp
  rw[An,IU]at hRi
  cases hRi
  obtain⟨ds,hds,pds⟩:=hD.dd
  have d6:=hR.six (Bw _)
  refine⟨_,rfl,B.d,_,B.dx,_,_,rfl,hD.o,T.cl_Draft,T.n_Draft_size,rfl,rfl,_,rfl,?_⟩
  rw[hE]
  refine Ay ?_
  refine⟨_,rfl,B.d,_,B.dx,_,_,rfl,hD.o,T.cl_Draft,T.n_Draft_deeds,rfl,AE rfl,fun en hen=>?_⟩
  have s4:=Ac hen (.lst [])
  have he4:(upd H' en (.lst [])) en=_:=A6
  generalize upd H' en (.lst [])=H4 at s4 he4
  refine⟨B.dl,en,_,rfl,rfl,A3.of (s4 _ _ hds),A3.of he4,_,rfl,?_⟩
  have dsn:ds≠[]:=fun z=>dne (L0 (by rw[←pds.1,z];rfl))
  refine AF (fun y=>absurd (List.isEmpty_iff.mp y) dsn) (fun _=>?_)
  have hD4:=hD.over s4
  refine⟨_,rfl,B.d,_,B.dx,_,_,rfl,hD4.o,T.cl_Draft,T.n_Draft_names,rfl,AE rfl,fun en2 hen2=>?_⟩
  have s5:=Ac hen2 (.lst [])
  have he5:(upd H4 en2 (.lst [])) en2=_:=A6
  generalize upd H4 en2 (.lst [])=H5 at s5 he5
  have hD5:=hD4.over s5
  refine⟨B.nl,en2,_,rfl,rfl,A3.of hD5.nm,A3.of he5,_,rfl,?_⟩
  rw[lpn]
  refine Ay ?_
  have hds5:=(s4.trans s5) _ _ hds
  refine⟨_,rfl,B.d,_,B.dx,_,_,rfl,hD5.o,T.cl_Draft,T.n_Draft_size,rfl,_,rfl,B.d,_,B.dx,_,_,rfl,hD5.o,T.cl_Draft,T.n_Draft_deeds,rfl,?_⟩
  intro x dx nx ndx ne
  refine⟨x,dx,B.dl,_,ds,rfl,A6,(by rw[A8 (AC hds5 nx),A8 (AC hds5 ndx)];exact hds5),by rw[pds.1];omega,fun H6 dl k6 hx6 hdl6 hnew=>⟨rfl,?_⟩⟩
  obtain⟨dx6,hx6⟩:=hx6
  have e56:=G7 nx ndx k6
  rw[hE]at hx6
  have fl5:H5 dl=none:=by
   cases hz:H5 dl with
   |none=>rfl
   |
    some u=>
    rw[A8 (AC hz nx),A8 (AC hz ndx),hz]at hnew
    cases hnew
  exact q x dx6 dl ds _ (e1.trans (e3.trans (s4.trans (s5.trans e56)))) hx6 hdl6 (pds.mono fun _ _ w=>w.over (s4.trans (s5.trans e56))) ((e1.trans (e3.trans (s4.trans s5))).free fl5)
theorem P5 (T:Tx w K mg a):AI P w K mg base AO 1 a.f_e a.d_e ["spot"] NZ:=by
 refine T.F_e.ok Li (fun vs H Q E h=>?_) (fun cdv A outer s H vs Q E hr h=>?_)
 .obtain⟨_,_,rfl,_⟩:=h;rfl
 obtain⟨x,s,rfl,⟨t,rfl,ht⟩,⟨b0,b1,b2⟩,q⟩:=h
 refine⟨_,(@A4 _ _ _ _ _ (@Al _ _ (1) _ _ _ _ Li.nd rfl (.inl rfl) (@Ag _ _ _ _ _ _ _ B4 (pv 0) A2 (fun _ _=>rfl)) (by rfl) (by first|exact .inl rfl|exact .inr rfl|assumption)) (@A4 _ _ _ _ _ (@Al _ _ (2) _ _ _ _ Li.nd rfl (.inl rfl) (@Ag _ _ _ _ _ _ _ B4 (pv 0) A2 (fun _ _=>rfl)) (by rfl) (by first|exact .inl rfl|exact .inr rfl|assumption)) (@A4 _ _ _ _ _ (@AK _ _ _ _ _ _ _ _ (@Au _ _ _ _ _ _ _ _ Bv (pv 1) Ar (@Av _ _ (by decide) (by decide))) (@Aa _ _ _ (@Aq _ _ _ _ (@D7 _ _ _ _ _ _ _ _ _ Gk (by rfl) T.z_str Gn (@A0 _ _ _ _ _ (pv 2) A1 (by rfl)) (by decide) (by decide) (by rfl) (by rfl)))) AU) (@A4 _ _ _ _ _ (@AK _ _ _ _ _ _ _ _ (@Au _ _ _ _ _ _ _ _ Bv (pv 2) A2 (@Av _ _ (by decide) (by decide))) (@Aa _ _ _ (@Aq _ _ _ _ (pv 1))) AU) (@A4 _ _ _ _ _ (@AK _ _ _ _ _ _ _ _ (@Au _ _ _ _ _ _ _ _ Fm (pv 2) A2 (@Av _ _ (by decide) (by decide))) (@Aa _ _ _ (@Aq _ _ _ _ (@Ly _ _ _ _ _ _ _ _ (@FK _ _ _ _ (pv 1)) Ar (@MN _ _ _ _ (pv 2))))) AU) (@Aa _ _ _ (@Aq _ _ _ _ (@OC _ _ _ _ _ _ (@FK _ _ _ _ (pv 1)) (@MN _ _ _ _ (pv 2)))))))))),?_⟩
 have nl:=FR b1 b2
 unfold nS at nl
 have pl:=NU
 have em:∀x:Str,Str.empty++x=x:=fun x=>CN (by rw[AS];rfl)
 unfold B5 at q
 refine⟨_,rfl,t,_,0,_,rfl,rfl,Aw.of ht,rfl,?_⟩
 dsimp only[Am]
 refine⟨_,rfl,t,_,1,_,rfl,rfl,Aw.of ht,rfl,?_⟩
 dsimp only[Am]
 refine⟨_,rfl,rfl,_,rfl,?_⟩
 by_cases c1:s.1=""
 .rw[Af c1]at q
  refine CM (v:=true) (B1 (congrArg V.str c1)) (Bm ?_)
  exact⟨_,rfl,_,rfl,ES b1 b2,q⟩
 rw[Ab c1]at q
 refine CM (v:=false) (dS c1) (Ay ?_)
 refine⟨_,rfl,rfl,_,rfl,?_⟩
 by_cases c2:s.2=0
 .rw[Af c2]at q
  refine CM (v:=true) (B1 (congrArg V.int c2)) (Bm ?_)
  exact⟨_,rfl,q⟩
 rw[Ab c2]at q
 refine CM (v:=false) (Bo fun z=>c2 (V.int.inj z)) (Ay ?_)
 refine⟨_,rfl,_,_,rfl,rfl,_,rfl,?_⟩
 by_cases c3:0<s.2
 .rw[Af c3]at q
  refine CM (v:=true) (B1 c3) (Bm ?_)
  refine⟨_,rfl,_,rfl,Ai (by omega),_,rfl,Ai (by rw[em];omega),?_⟩
  rw[em]
  exact⟨_,rfl,Ai (by rw[Ax];omega),_,rfl,_,rfl,ES b1 b2,_,rfl,Ai (by rw[Ax,Ax];omega),q⟩
 .rw[Ab c3]at q
  refine CM (v:=false) (Bo c3) (Ay ?_)
  refine⟨_,rfl,_,rfl,Ai (by omega),_,rfl,Ai (by rw[em];omega),?_⟩
  rw[em]
  exact⟨_,rfl,_,rfl,ES b1 b2,_,rfl,Ai (by rw[Ax];omega),q⟩
theorem Qc (T:Tx w K mg a):AI P w K mg base AO 2 a.f_q a.d_q ["table","spots"] RO:=by
 have G_e :=@P5 P w K mg base a T
 refine T.F_q.ok QM (fun vs H Q E h=>?_) (fun cdv A outer s H vs Q E hr h=>?_)
 .obtain⟨_,_,_,rfl,_⟩:=h;rfl
 obtain⟨z,p,sp,rfl,⟨xs,hp,ax⟩,zl,sl,hB,q⟩:=h
 refine⟨_,(@Aa _ _ _ (@Aq _ _ _ _ (@A9 _ _ _ _ _ _ _ _ Bk (pv 0) (@B9 _ _ _ _ _ _ _ _ _ _ _ _ DN IX IY GW Ar (@A0 _ _ _ _ _ (@DZ _ _ _ _ _ _ _ ["spot"] [none] _ _ _ _ (by rfl) (@Kg _ _ _ _ (pv 1)) WE (fun _ _ _ _ _ _=>⟨(Bz (i:=0) Sm rfl (.inl rfl)),@Eh _,(@A9 _ _ _ _ _ _ _ _ Bk (@A9 _ _ _ _ _ _ _ _ Bk Ar (@As _ _ _ _ _ _ _ _ _ _ _ _ _ _ _ _ G_e (hr.mono (by omega)) (by rfl) T.m_e T.F_e.kp T.b_e .nil Ap (@A0 _ _ _ _ _ (pv 0) A1 (by rfl)) (by decide) (by rfl) (by rfl))) Ar)⟩) (by intro _;rfl)) A1 (by rfl)) (by rfl) (by rfl) (by rfl) (by rfl) (by rfl))))),?_⟩
 have xl:=ax.1
 refine⟨_,rfl,rfl,_,rfl,p,rfl,⟨_,Aw.of hp⟩,?_⟩
 refine K9 (xs:=xs) (fun i ys H'=>H'=H/\ys=((sp.take i).map D9).map V.str) ⟨rfl,rfl⟩ (Ai (by omega)) (fun i ys H' hi pp=>⟨by rw[pp.1];exact Aw.of hp,by rw[pp.2,An,An,Bt];omega⟩) (fun i x ys H' hx pp=>?_) (fun ys H' pp r hr'=>?_)
 .obtain⟨rfl,rfl⟩:=pp
  obtain⟨s1,hs,hsp⟩:=ax.get' hx
  have hb:=hB s1 (C8 hs)
  have l1:=Eg hb
  have l2:("[":Str).length=1:=by decide +kernel
  have l3:("]":Str).length=1:=by decide +kernel
  refine⟨_,rfl,x,s1,rfl,hsp,hb,_,_,rfl,rfl,Ai (by omega),_,_,rfl,rfl,Ai (by rw[Ax];omega),rfl,?_⟩
  rw[Du hs,AZ,AZ]
  rfl
 obtain⟨rfl,rfl⟩:=pp
 rw[Fy (by omega)]
 have hs:=LL sl hB
 have cl:=Fg zl sl hB
 unfold Ba at cl
 rw[Ax]at cl
 refine⟨_,r,_,rfl,rfl,.inl (A3.of A6),BI hs (by decide),_,_,rfl,rfl,Ai (by omega),?_⟩
 exact q _ (Ac hr' _)
theorem OX (T:Tx w K mg a):AI P w K mg base AO 1 a.f_r a.d_r ["term"] (Xi (Bc a)):=by
 refine T.F_r.ok Wf (fun vs H Q E h=>?_) (fun cdv A outer s H vs Q E hr h=>?_)
 .obtain⟨_,_,rfl,_⟩:=h;rfl
 obtain⟨x,t,rfl,ht,q⟩:=h
 refine⟨_,(@Aa _ _ _ (@Aq _ _ _ _ (@ID _ _ _ _ _ _ _ (@Bb _ _ _ _ _ _ _ _ _ EV (by rfl) T.z_isinstance F4 (@A0 _ _ _ _ _ (pv 0) (@A0 _ _ _ _ _ (@C7 _ _ (.ref a.c_Joined) _ _ (by rfl) T.mc_Joined rfl (by decide)) A1 (by rfl)) (by rfl)) (by decide) (by decide) (by rfl) (by rfl)) (@FD _ _ _ _ _ (@DS _ _ _ _ _ _ _ _ E4 (@B0 _ _ _ _ _ (pv 0) rfl) Ar (@Av _ _ (by decide) (by decide))))))),?_⟩
 cases t with
 |
  n i=>
  obtain⟨t,dx,rfl,h⟩:=ht
  exact⟨_,rfl,_,_,_,_,_,rfl,rfl,T.ty_Number _ t dx _ h,T.is_Number_Joined,_,rfl,Ay q⟩
 |
  v z=>
  obtain⟨t,dx,rfl,h⟩:=ht
  exact⟨_,rfl,_,_,_,_,_,rfl,rfl,T.ty_Value _ t dx _ h,T.is_Value_Joined,_,rfl,Ay q⟩
 |
  c z sp=>
  obtain⟨t,dx,p,rfl,h,_⟩:=ht
  exact⟨_,rfl,_,_,_,_,_,rfl,rfl,T.ty_Cell _ t dx _ h,T.is_Cell_Joined,_,rfl,Ay q⟩
 |
  j z l r=>
  obtain⟨t,dx,y1,y2,rfl,h,_,_⟩:=ht
  refine⟨_,rfl,_,_,_,_,_,rfl,rfl,T.ty_Joined _ t dx _ h,T.is_Joined_Joined,_,rfl,Bm ?_⟩
  refine⟨_,rfl,t,_,dx,_,_,rfl,h,T.cl_Joined,T.n_Joined_sign,rfl,rfl,?_⟩
  have e:decide (Tw.hld (.j z l r)<=1)=!decide (V.str z=V.str (Str.ofString "*")):=by
   show decide (hz z<=1)=_
   unfold hz
   by_cases c:z="*"
   .rw[Af c,B1 (show V.str z=V.str (Str.ofString "*") from congrArg V.str c)];rfl
   .rw[Ab c,Bo (show ¬V.str z=V.str (Str.ofString "*") from fun e=>c (V.str.inj e))];rfl
  rw[e]at q
  exact q
theorem Tp (T:Tx w K mg a):AI P w K mg base AO 2 a.f_T a.d_T ["term"] (We (Bc a)):=by
 have G_r :=@OX P w K mg base a T
 refine T.F_T.ok VD (fun vs H Q E h=>?_) (fun cdv A outer s H vs Q E hr h=>?_)
 .obtain⟨_,_,_,_,rfl,_⟩:=h;rfl
 obtain⟨x,z,l,r,rfl,⟨t,dx,y1,y2,rfl,h,hl,_⟩,q⟩:=h
 refine⟨_,(@Aa _ _ _ (@Aq _ _ _ _ (@ID _ _ _ _ _ _ _ (@DS _ _ _ _ _ _ _ _ Bv (@B0 _ _ _ _ _ (pv 0) rfl) Ar (@Av _ _ (by decide) (by decide))) (@FD _ _ _ _ _ (@As _ _ _ _ _ _ _ _ _ _ _ _ _ _ _ _ G_r (hr.mono (by omega)) (by rfl) T.m_r T.F_r.kp T.b_r .nil Ap (@A0 _ _ _ _ _ (@B0 _ _ _ _ _ (pv 0) rfl) A1 (by rfl)) (by decide) (by rfl) (by rfl)))))),?_⟩
 refine⟨_,rfl,t,_,dx,_,_,rfl,h,T.cl_Joined,T.n_Joined_sign,rfl,rfl,_,rfl,?_⟩
 unfold hz at q
 by_cases c:z="*"
 .rw[Af c,show decide (l.hld<2)=decide (l.hld<=1) from QC.mpr (by omega)]at q
  refine CM (v:=true) (B1 (congrArg V.str c)) (Bm ?_)
  exact⟨_,rfl,t,_,dx,_,_,rfl,h,T.cl_Joined,T.n_Joined_left,rfl,y1,l,rfl,hl,q⟩
 .rw[Ab c,Bo (by have:=l.hld_pos;omega)]at q
  have e:decide (V.str z=V.str (Str.ofString "*"))=false:=Bo fun e=>c (V.str.inj e)
  rw[e]
  exact Ay q
theorem RM (T:Tx w K mg a):AI P w K mg base AO 2 a.f_U a.d_U ["term"] (SS (Bc a)):=by
 have G_r :=@OX P w K mg base a T
 refine T.F_U.ok X3 (fun vs H Q E h=>?_) (fun cdv A outer s H vs Q E hr h=>?_)
 .obtain⟨_,_,_,_,rfl,_⟩:=h;rfl
 obtain⟨x,z,l,r,rfl,⟨t,dx,y1,y2,rfl,h,_,hr2⟩,q⟩:=h
 refine⟨_,(@A4 _ _ _ _ _ (@AK _ _ _ _ _ _ _ _ (@Au _ _ _ _ _ _ _ _ Bv (@B0 _ _ _ _ _ (pv 0) rfl) Ar (@Av _ _ (by decide) (by decide))) (@Aa _ _ _ (@Aq _ _ _ _ (@Bb _ _ _ _ _ _ _ _ _ EV (by rfl) T.z_isinstance F4 (@A0 _ _ _ _ _ (@B0 _ _ _ _ _ (pv 0) rfl) (@A0 _ _ _ _ _ (@C7 _ _ (.ref a.c_Joined) _ _ (by rfl) T.mc_Joined rfl (by decide)) A1 (by rfl)) (by rfl)) (by decide) (by decide) (by rfl) (by rfl)))) AU) (@Aa _ _ _ (@Aq _ _ _ _ (@As _ _ _ _ _ _ _ _ _ _ _ _ _ _ _ _ G_r (hr.mono (by omega)) (by rfl) T.m_r T.F_r.kp T.b_r .nil Ap (@A0 _ _ _ _ _ (@B0 _ _ _ _ _ (pv 0) rfl) A1 (by rfl)) (by decide) (by rfl) (by rfl))))),?_⟩
 refine⟨_,rfl,t,_,dx,_,_,rfl,h,T.cl_Joined,T.n_Joined_sign,rfl,rfl,_,rfl,?_⟩
 unfold hz at q
 by_cases c:z="*"
 .rw[Af c]at q
  refine CM (v:=true) (B1 (congrArg V.str c)) (Bm ?_)
  refine⟨_,rfl,t,_,dx,_,_,rfl,h,T.cl_Joined,T.n_Joined_right,rfl,?_⟩
  cases r with
  |
   n i=>
   obtain⟨t',dx',rfl,h'⟩:=hr2
   exact⟨_,_,_,_,_,rfl,rfl,T.ty_Number _ t' dx' _ h',T.is_Number_Joined,q⟩
  |
   v z=>
   obtain⟨t',dx',rfl,h'⟩:=hr2
   exact⟨_,_,_,_,_,rfl,rfl,T.ty_Value _ t' dx' _ h',T.is_Value_Joined,q⟩
  |
   c z sp=>
   obtain⟨t',dx',p,rfl,h',_⟩:=hr2
   exact⟨_,_,_,_,_,rfl,rfl,T.ty_Cell _ t' dx' _ h',T.is_Cell_Joined,q⟩
  |
   j z l r=>
   obtain⟨t',dx',_,_,rfl,h',_,_⟩:=hr2
   rw[B1 (show Tw.hld (.j z l r)<=2 from(Ox z).2)]at q
   exact⟨_,_,_,_,_,rfl,rfl,T.ty_Joined _ t' dx' _ h',T.is_Joined_Joined,q⟩
 .rw[Ab c]at q
  refine CM (v:=false) (dS c) (Ay ?_)
  exact⟨_,rfl,t,_,dx,_,_,rfl,h,T.cl_Joined,T.n_Joined_right,rfl,y2,r,rfl,hr2,q⟩
theorem RE (T:Tx w K mg a)(n:Nat)(G_k:AI P w K mg base AO (2*n+3) a.f_k a.d_k ["term"] (M7 (Bc a) n)):AI P w K mg base AO (2*n+4) a.f_w a.d_w ["term","needed"] (Ve (Bc a) n):=by
 refine T.F_w.ok Oq (fun vs H Q E h=>?_) (fun cdv A outer s H vs Q E hr h=>?_)
 .obtain⟨_,_,_,rfl,_⟩:=h;rfl
 obtain⟨x,b,t,rfl,ht,ok,hm,hn,q⟩:=h
 refine⟨_,(@A4 _ _ _ _ _ (@Al _ _ (2) _ _ _ _ Oq.nd rfl (.inl rfl) (@As _ _ _ _ _ _ _ _ _ _ _ _ _ _ _ _ G_k (hr.mono (by omega)) (by rfl) T.m_k T.F_k.kp T.b_k .nil Ap (@A0 _ _ _ _ _ (pv 0) A1 (by rfl)) (by decide) (by rfl) (by rfl)) (by rfl) (by first|exact .inl rfl|exact .inr rfl|assumption)) (@A4 _ _ _ _ _ (@AK _ _ _ _ _ _ _ _ (@Cd _ _ _ (pv 1) (by intro _;rfl)) (@Aa _ _ _ (@Aq _ _ _ _ (@Ly _ _ _ _ _ _ _ _ Ar (@FK _ _ _ _ (pv 2)) Ar))) AU) (@Aa _ _ _ (@Aq _ _ _ _ (pv 2))))),?_⟩
 have wl:=Tw.wr_len ok
 have l2:("(":Str).length=1:=by decide +kernel
 have l3:(")":Str).length=1:=by decide +kernel
 have em:∀x:Str,Str.empty++x=x:=fun x=>CN (by rw[AS];rfl)
 refine⟨_,rfl,x,t,rfl,ht,ok,hm,hn,fun H1 e1=>?_⟩
 dsimp only[Am]
 cases b with
 |
  true=>
  refine⟨_,rfl,_,rfl,Bm ?_⟩
  refine⟨_,rfl,Ai (by rw[em];omega),?_⟩
  rw[em]
  exact⟨_,rfl,_,rfl,Ai (by omega),_,rfl,Ai (by rw[Ax];omega),_,rfl,Ai (by rw[Ax,Ax];omega),q _ e1⟩
 |
  false=>
  refine⟨_,rfl,_,rfl,Ay ?_⟩
  exact⟨_,rfl,q _ e1⟩
theorem Ph (T:Tx w K mg a):∀n:Nat,AI P w K mg base AO (2*n+3) a.f_k a.d_k ["term"] (M7 (Bc a) n)
 |
  0=>by
  have no:∀vs H Q E,¬M7 (Bc a) 0 vs H Q E:=fun vs H Q E h=>by
   obtain⟨x,t,_,_,_,hm,_⟩:=h
   have:=t.sz_pos
   omega
  exact⟨fun vs H Q E h=>absurd h (no vs H Q E),fun A outer s H args us vs Q E _ _ _ _ h=>absurd h (no vs H Q E)⟩
 |
  n+1=>by
  have G_w :=@RE P w K mg base a T n (Ph T n)
  have G_T :=@Tp P w K mg base a T
  have G_U :=@RM P w K mg base a T
  have G_q :=@Qc P w K mg base a T
  refine T.F_k.ok M3 (fun vs H Q E h=>?_) (fun cdv A outer s H vs Q E hr h=>?_)
  .obtain⟨_,_,rfl,_⟩:=h;rfl
  obtain⟨x,tm,rfl,ht,ok,hm,hn,q⟩:=h
  refine⟨_,(@A4 _ _ _ _ _ (@AK _ _ _ _ _ _ _ _ (@Cd _ _ _ (@Bb _ _ _ _ _ _ _ _ _ EV (by rfl) T.z_isinstance F4 (@A0 _ _ _ _ _ (pv 0) (@A0 _ _ _ _ _ (@C7 _ _ (.ref a.c_Joined) _ _ (by rfl) T.mc_Joined rfl (by decide)) A1 (by rfl)) (by rfl)) (by decide) (by decide) (by rfl) (by rfl)) (by intro _;rfl)) (@A4 _ _ _ _ _ (@Al _ _ (1) _ _ _ _ M3.nd rfl (.inl rfl) (@As _ _ _ _ _ _ _ _ _ _ _ _ _ _ _ _ G_w (hr.mono (by omega)) (by rfl) T.m_w T.F_w.kp T.b_w .nil Ap (@A0 _ _ _ _ _ (@B0 _ _ _ _ _ (pv 0) rfl) (@A0 _ _ _ _ _ (@As _ _ _ _ _ _ _ _ _ _ _ _ _ _ _ _ G_T (hr.mono (by omega)) (by rfl) T.m_T T.F_T.kp T.b_T .nil Ap (@A0 _ _ _ _ _ (pv 0) A1 (by rfl)) (by decide) (by rfl) (by rfl)) A1 (by rfl)) (by rfl)) (by decide) (by rfl) (by rfl)) (by rfl) (by first|exact .inl rfl|exact .inr rfl|assumption)) (@A4 _ _ _ _ _ (@Al _ _ (2) _ _ _ _ M3.nd rfl (.inl rfl) (@As _ _ _ _ _ _ _ _ _ _ _ _ _ _ _ _ G_w (hr.mono (by omega)) (by rfl) T.m_w T.F_w.kp T.b_w .nil Ap (@A0 _ _ _ _ _ (@B0 _ _ _ _ _ (pv 0) rfl) (@A0 _ _ _ _ _ (@As _ _ _ _ _ _ _ _ _ _ _ _ _ _ _ _ G_U (hr.mono (by omega)) (by rfl) T.m_U T.F_U.kp T.b_U .nil Ap (@A0 _ _ _ _ _ (pv 0) A1 (by rfl)) (by decide) (by rfl) (by rfl)) A1 (by rfl)) (by rfl)) (by decide) (by rfl) (by rfl)) (by rfl) (by first|exact .inl rfl|exact .inr rfl|assumption)) (@Aa _ _ _ (@Aq _ _ _ _ (@A9 _ _ _ _ _ _ _ _ Bk (@A9 _ _ _ _ _ _ _ _ Bk (pv 1) (@B0 _ _ _ _ _ (pv 0) rfl)) (pv 2)))))) AU) (@A4 _ _ _ _ _ (@AK _ _ _ _ _ _ _ _ (@Cd _ _ _ (@Bb _ _ _ _ _ _ _ _ _ EV (by rfl) T.z_isinstance F4 (@A0 _ _ _ _ _ (pv 0) (@A0 _ _ _ _ _ (@C7 _ _ (.ref a.c_Number) _ _ (by rfl) T.mc_Number rfl (by decide)) A1 (by rfl)) (by rfl)) (by decide) (by decide) (by rfl) (by rfl)) (by intro _;rfl)) (@Aa _ _ _ (@Aq _ _ _ _ (@D7 _ _ _ _ _ _ _ _ _ Gk (by rfl) T.z_str Gn (@A0 _ _ _ _ _ (@B0 _ _ _ _ _ (pv 0) rfl) A1 (by rfl)) (by decide) (by decide) (by rfl) (by rfl)))) AU) (@A4 _ _ _ _ _ (@AK _ _ _ _ _ _ _ _ (@Cd _ _ _ (@Bb _ _ _ _ _ _ _ _ _ EV (by rfl) T.z_isinstance F4 (@A0 _ _ _ _ _ (pv 0) (@A0 _ _ _ _ _ (@C7 _ _ (.ref a.c_Cell) _ _ (by rfl) T.mc_Cell rfl (by decide)) A1 (by rfl)) (by rfl)) (by decide) (by decide) (by rfl) (by rfl)) (by intro _;rfl)) (@Aa _ _ _ (@Aq _ _ _ _ (@As _ _ _ _ _ _ _ _ _ _ _ _ _ _ _ _ G_q (hr.mono (by omega)) (by rfl) T.m_q T.F_q.kp T.b_q .nil Ap (@A0 _ _ _ _ _ (@B0 _ _ _ _ _ (pv 0) rfl) (@A0 _ _ _ _ _ (@B0 _ _ _ _ _ (pv 0) rfl) A1 (by rfl)) (by rfl)) (by decide) (by rfl) (by rfl)))) AU) (@Aa _ _ _ (@Aq _ _ _ _ (@B0 _ _ _ _ _ (pv 0) rfl)))))),?_⟩
  cases tm with
  |
   n i=>
   obtain⟨t,dx,rfl,h⟩:=ht
   obtain⟨i0,i1⟩:=ok
   refine⟨_,rfl,_,_,_,_,_,rfl,rfl,T.ty_Number _ t dx _ h,T.is_Number_Joined,_,rfl,Ay ?_⟩
   refine⟨_,rfl,_,_,_,_,_,rfl,rfl,T.ty_Number _ t dx _ h,T.is_Number_Number,_,rfl,Bm ?_⟩
   exact⟨_,rfl,t,_,dx,_,_,rfl,h,T.cl_Number,T.n_Number_n,rfl,_,rfl,ES (by omega) i1,q _ (A7.refl _)⟩
  |
   v z=>
   obtain⟨t,dx,rfl,h⟩:=ht
   refine⟨_,rfl,_,_,_,_,_,rfl,rfl,T.ty_Value _ t dx _ h,T.is_Value_Joined,_,rfl,Ay ?_⟩
   refine⟨_,rfl,_,_,_,_,_,rfl,rfl,T.ty_Value _ t dx _ h,T.is_Value_Number,_,rfl,Ay ?_⟩
   refine⟨_,rfl,_,_,_,_,_,rfl,rfl,T.ty_Value _ t dx _ h,T.is_Value_Cell,_,rfl,Ay ?_⟩
   exact⟨_,rfl,t,_,dx,_,_,rfl,h,T.cl_Value,T.n_Value_name,rfl,q _ (A7.refl _)⟩
  |
   c z sp=>
   obtain⟨t,dx,p,rfl,h,hsp⟩:=ht
   obtain⟨o1,o2,o3⟩:=ok
   refine⟨_,rfl,_,_,_,_,_,rfl,rfl,T.ty_Cell _ t dx _ h,T.is_Cell_Joined,_,rfl,Ay ?_⟩
   refine⟨_,rfl,_,_,_,_,_,rfl,rfl,T.ty_Cell _ t dx _ h,T.is_Cell_Number,_,rfl,Ay ?_⟩
   refine⟨_,rfl,_,_,_,_,_,rfl,rfl,T.ty_Cell _ t dx _ h,T.is_Cell_Cell,_,rfl,Bm ?_⟩
   exact⟨_,rfl,t,_,dx,_,_,rfl,h,T.cl_Cell,T.n_Cell_table,rfl,_,rfl,t,_,dx,_,_,rfl,h,T.cl_Cell,T.n_Cell_spots,rfl,z,p,sp,rfl,hsp,o1,o2,o3,fun H' e=>q _ e⟩
  |
   j z l r=>
   have ht':=ht
   obtain⟨t,dx,y1,y2,rfl,h,hl,hrr⟩:=ht
   have ok':=ok
   obtain⟨hz3,okl,okr⟩:=ok
   have:=l.sz_pos
   have:=r.sz_pos
   have hm:l.sz+r.sz<=n+1:=hm
   have wL:=Tw.wr_len okl
   have wR:=Tw.wr_len okr
   have zl:=Lh hz3
   have bL:=GY (decide (l.hld<hz z)) l.wr
   have bR:=GY (decide (r.hld<=hz z)) r.wr
   refine⟨_,rfl,_,_,_,_,_,rfl,rfl,T.ty_Joined _ t dx _ h,T.is_Joined_Joined,_,rfl,Bm ?_⟩
   refine⟨_,rfl,t,_,dx,_,_,rfl,h,T.cl_Joined,T.n_Joined_left,rfl,_,rfl,.ref t,z,l,r,rfl,ht',y1,_,l,rfl,hl,okl,by omega,by omega,fun H1 e1=>?_⟩
   dsimp only[Am]
   have h1:=e1 _ _ h
   refine⟨_,rfl,t,_,dx,_,_,rfl,h1,T.cl_Joined,T.n_Joined_right,rfl,_,rfl,.ref t,z,l,r,rfl,Br.over e1 ht',y2,_,r,rfl,hrr.over e1,okr,by omega,by omega,fun H2 e2=>?_⟩
   dsimp only[Am]
   have h2:=e2 _ _ h1
   exact⟨_,rfl,_,rfl,t,_,dx,_,_,rfl,h2,T.cl_Joined,T.n_Joined_sign,rfl,_,_,rfl,rfl,Ai (by omega),_,rfl,_,_,rfl,rfl,Ai (by rw[Ax];omega),q _ (e1.trans e2)⟩
theorem RS (T:Tx w K mg a):AI P w K mg base AO 2 a.f_R a.d_R ["deed","e"] (UQ a.c_Deed (Bc a)):=by
 have G_e :=@P5 P w K mg base a T
 refine T.F_R.ok Jo (fun vs H Q E h=>?_) (fun cdv A outer s H vs Q E hr h=>?_)
 .obtain⟨_,_,_,_,rfl,_⟩:=h;rfl
 obtain⟨x,D,e,t,rfl,⟨p,dx,nm,lo,hi,ps,pt,ob,ls,hs,rfl,h0,h1,h2,h3,h4,h5,h6,h7,h8⟩,ok,he,q⟩:=h
 refine⟨_,(@A4 _ _ _ _ _ (@Al _ _ (2) _ _ _ _ Jo.nd rfl (.inl rfl) (@Ag _ _ _ _ _ _ _ B4 (@B0 _ _ _ _ _ (pv 0) rfl) (pv 1) (fun _ _=>rfl)) (by rfl) (by first|exact .inl rfl|exact .inr rfl|assumption)) (@A4 _ _ _ _ _ (@Al _ _ (3) _ _ _ _ Jo.nd rfl (.inl rfl) (@As _ _ _ _ _ _ _ _ _ _ _ _ _ _ _ _ G_e (hr.mono (by omega)) (by rfl) T.m_e T.F_e.kp T.b_e .nil Ap (@A0 _ _ _ _ _ (@Ag _ _ _ _ _ _ _ B4 (@B0 _ _ _ _ _ (pv 0) rfl) (pv 1) (fun _ _=>rfl)) A1 (by rfl)) (by decide) (by rfl) (by rfl)) (by rfl) (by first|exact .inl rfl|exact .inr rfl|assumption)) (@A4 _ _ _ _ _ (@Al _ _ (4) _ _ _ _ Jo.nd rfl (.inl rfl) (@As _ _ _ _ _ _ _ _ _ _ _ _ _ _ _ _ G_e (hr.mono (by omega)) (by rfl) T.m_e T.F_e.kp T.b_e .nil Ap (@A0 _ _ _ _ _ (@Ag _ _ _ _ _ _ _ B4 (@B0 _ _ _ _ _ (pv 0) rfl) (pv 1) (fun _ _=>rfl)) A1 (by rfl)) (by decide) (by rfl) (by rfl)) (by rfl) (by first|exact .inl rfl|exact .inr rfl|assumption)) (@Aa _ _ _ (@Aq _ _ _ _ (@Vy _ _ _ _ _ _ _ _ _ _ _ _ _ _ Ar (@FK _ _ _ _ (pv 2)) Ar (@FK _ _ _ _ (pv 3)) Ar (@FK _ _ _ _ (pv 4)))))))),?_⟩
 obtain⟨tk1,tk2,tk3⟩:=ok.lp t (C8 he)
 have l2:=Eg tk2
 have l3:=Eg tk3
 have e4:("for ":Str).length=4:=by decide +kernel
 have e1:(" ":Str).length=1:=by decide +kernel
 have em:∀x:Str,Str.empty++x=x:=fun x=>CN (by rw[AS];rfl)
 obtain⟨xl,hxl,sl⟩:=h3.get he
 obtain⟨xh,hxh,sh⟩:=h5.get he
 have hn:(D.loops.map fun t=>V.str t.nm)[e]?=some (V.str t.nm):=by rw[Dm,he];rfl
 refine⟨_,rfl,p,_,dx,_,_,rfl,h0,T.cl_Deed,T.n_Deed_names,rfl,_,rfl,nm,_,_,_,rfl,rfl,Aw.of h1,D6 hn,?_⟩
 dsimp only[Am]
 refine⟨_,rfl,p,_,dx,_,_,rfl,h0,T.cl_Deed,T.n_Deed_lows,rfl,_,rfl,lo,_,_,_,rfl,rfl,Aw.of h2,D6 hxl,xl,t.lo,rfl,sl,tk2,?_⟩
 dsimp only[Am]
 refine⟨_,rfl,p,_,dx,_,_,rfl,h0,T.cl_Deed,T.n_Deed_highs,rfl,_,rfl,hi,_,_,_,rfl,rfl,Aw.of h4,D6 hxh,xh,t.hi,rfl,sh,tk3,?_⟩
 dsimp only[Am]
 refine⟨_,rfl,Ai (by rw[em];omega),?_⟩
 rw[em]
 refine⟨_,rfl,_,rfl,Ai (by omega),_,rfl,Ai (by rw[Ax];omega),_,rfl,Ai (by rw[Ax,Ax];omega),?_⟩
 refine⟨_,rfl,_,rfl,Ai (by omega),_,rfl,Ai (by rw[Ax,Ax,Ax];omega),_,rfl,Ai (by rw[Ax,Ax,Ax,Ax];omega),?_⟩
 exact⟨_,rfl,_,rfl,Ai (by omega),_,rfl,Ai (by rw[Ax,Ax,Ax,Ax,Ax];omega),q⟩
theorem Xy (T:Tx w K mg a):AI P w K mg base AO 14 a.f_S a.d_S ["deed"] (Sn a.c_Deed (Bc a)):=by
 have G_q :=@Qc P w K mg base a T
 have G_k :=@Ph P w K mg base a T 5
 refine T.F_S.ok LK (fun vs H Q E h=>?_) (fun cdv A outer s H vs Q E hr h=>?_)
 .obtain⟨_,_,rfl,_⟩:=h;rfl
 obtain⟨x,D,rfl,⟨p,dx,nm,lo,hi,ps,pt,ob,ls,hs,rfl,h0,h1,h2,h3,h4,h5,h6,h7,h8⟩,ok,q⟩:=h
 refine⟨_,(@A4 _ _ _ _ _ (@Al _ _ (1) _ _ _ _ LK.nd rfl (.inl rfl) (@As _ _ _ _ _ _ _ _ _ _ _ _ _ _ _ _ G_q (hr.mono (by omega)) (by rfl) T.m_q T.F_q.kp T.b_q .nil Ap (@A0 _ _ _ _ _ (@B0 _ _ _ _ _ (pv 0) rfl) (@A0 _ _ _ _ _ (@B0 _ _ _ _ _ (pv 0) rfl) A1 (by rfl)) (by rfl)) (by decide) (by rfl) (by rfl)) (by rfl) (by first|exact .inl rfl|exact .inr rfl|assumption)) (@A4 _ _ _ _ _ (@Al _ _ (2) _ _ _ _ LK.nd rfl (.inl rfl) (@As _ _ _ _ _ _ _ _ _ _ _ _ _ _ _ _ G_k (hr.mono (by omega)) (by rfl) T.m_k T.F_k.kp T.b_k .nil Ap (@A0 _ _ _ _ _ (@B0 _ _ _ _ _ (pv 0) rfl) A1 (by rfl)) (by decide) (by rfl) (by rfl)) (by rfl) (by first|exact .inl rfl|exact .inr rfl|assumption)) (@Aa _ _ _ (@Aq _ _ _ _ (@Ly _ _ _ _ _ _ _ _ (@FK _ _ _ _ (pv 1)) Ar (@FK _ _ _ _ (pv 2))))))),?_⟩
 have l1:=Fg ok.c.1 ok.c.2.1 ok.c.2.2
 have l2:=Tw.wr_len ok.t
 have l3:=ok.s
 have e3:(" = ":Str).length=3:=by decide +kernel
 have em:∀x:Str,Str.empty++x=x:=fun x=>CN (by rw[AS];rfl)
 refine⟨_,rfl,p,_,dx,_,_,rfl,h0,T.cl_Deed,T.n_Deed_table,rfl,_,rfl,p,_,dx,_,_,rfl,h0,T.cl_Deed,T.n_Deed_spots,rfl,D.tbl,ps,D.sp,rfl,h6,ok.c.1,ok.c.2.1,ok.c.2.2,fun H1 e1=>?_⟩
 dsimp only[Am]
 refine⟨_,rfl,p,_,dx,_,_,rfl,e1 _ _ h0,T.cl_Deed,T.n_Deed_term,rfl,ob,D.tm,rfl,h7.over e1,ok.t,ok.s,by decide,fun H2 e2=>?_⟩
 dsimp only[Am]
 refine⟨_,rfl,_,rfl,Ai (by omega),_,rfl,Ai (by rw[em];omega),?_⟩
 rw[em]
 exact⟨_,rfl,Ai (by rw[Ax];omega),_,rfl,_,rfl,Ai (by omega),_,rfl,Ai (by rw[Ax,Ax];omega),q _ (e1.trans e2)⟩
theorem QF (T:Tx w K mg a):AI P w K mg base AO 1 a.f_Q a.d_Q ["deeds","numbers","depth"] (Xp a.c_Deed (Bc a)):=by
 refine T.F_Q.ok MD (fun vs H Q E h=>?_) (fun cdv A outer s H vs Q E hr h=>?_)
 .obtain⟨_,_,_,_,_,rfl,_⟩:=h;rfl
 obtain⟨dl,nl,d,Ds,ns,rfl,⟨xs,hdl,ax⟩,hnl,hin,nlen,q⟩:=h
 refine⟨_,(@A4 _ _ _ _ _ (@Al _ _ (3) _ _ _ _ MD.nd rfl (.inl rfl) (@Bj _ _ _ _ A1) (by rfl) (by first|exact .inl rfl|exact .inr rfl|assumption)) (@A4 _ _ _ _ _ (@Ed _ _ _ _ _ _ _ _ PassesOwn.never rfl (@Dv _ _ _ _ (pv 1)) (Bz (i:=4) MD.nd rfl (.inl rfl)) (@Aa _ _ _ (@AK _ _ _ _ _ _ _ _ ((@Dg _ _ _ _ _ _ _ (@W9 _ _ _ (pv 3) (fun _=>rfl)) (@DT _ _ _ _ (@Au _ _ _ _ _ _ _ _ Bv (@Ag _ _ _ _ _ _ _ B4 (@B0 _ _ _ _ _ (@Ag _ _ _ _ _ _ _ AX (pv 0) (@Ag _ _ _ _ _ _ _ AX (@Ag _ _ _ _ _ _ _ AX (pv 3) (@CW _ _ _ _ _ _ CV A2) (fun _ _=>rfl)) A2 (fun _ _=>rfl)) (fun _ _=>rfl)) rfl) (pv 2) (fun _ _=>rfl)) (@Ag _ _ _ _ _ _ _ B4 (@B0 _ _ _ _ _ (@Ag _ _ _ _ _ _ _ AX (pv 0) (pv 4) (fun _ _=>rfl)) rfl) (pv 2) (fun _ _=>rfl)) (@Av _ _ (by decide) (by decide)))))).pt (@Aa _ _ _ (@Bp _ _ _ _ (@B9 _ _ _ _ _ _ _ _ _ _ _ _ Bh BS BU BM (@Ag _ _ _ _ _ _ _ AX (pv 3) (@CW _ _ _ _ _ _ CV A2) (fun _ _=>rfl)) (@A0 _ _ _ _ _ (pv 4) A1 (by rfl)) (by rfl) (by rfl) (by rfl) (by rfl) (by rfl)) (by rfl))) (@Aa _ _ _ (@Bp _ _ _ _ (@B9 _ _ _ _ _ _ _ _ _ _ _ _ Bh BS BU BM (pv 3) (@A0 _ _ _ _ _ (@Bj _ _ _ _ (@A0 _ _ _ _ _ (pv 4) A1 (by rfl))) A1 (by rfl)) (by rfl) (by rfl) (by rfl) (by rfl) (by rfl)) (by rfl))))) (by intro _;rfl)) (@Aa _ _ _ (@Aq _ _ _ _ (pv 3))))),?_⟩
 refine⟨AE rfl,fun gl hgl=>?_⟩
 have s1:=Ac hgl (.lst [])
 have hgl1:(upd H gl (.lst [])) gl=some (.lst []):=A6
 dsimp only[Am]
 generalize upd H gl (.lst [])=H1 at s1 hgl1
 have nln:(CU ns).length=ns.length:=by unfold CU;rw[An]
 refine⟨_,rfl,nl,rfl,⟨_,A3.of (s1 _ _ hnl)⟩,?_⟩
 refine FG (xs:=CU ns) (fun i σ' H'=>∃(ys:List V) (G:List (List Nat)) (o4:Option V),σ'=[some (.ref dl),some (.ref nl),some (.int (d:Int)),some (.ref gl),o4]/\A7 H H'/\H' gl=some (.lst ys)/\FM H H' gl ys G/\GP Ds d (ns.take i) G/\G.length<=i) ⟨[],[],_,rfl,s1,hgl1,.inl ⟨rfl,rfl⟩,.nil,Aj _⟩ (fun i σ' H' _ pp=>by obtain⟨_,_,_,_,e,_⟩:=pp;exact A3.of (e _ _ hnl)) (fun i x σ' H' hx pp=>?_) (fun σ' H' pp=>?_)
 rotate_left
 .obtain⟨ys,G,o4,rfl,e,hg,st,gp,_⟩:=pp
  rw[nln,Eo]at gp
  exact⟨_,rfl,q gl _ G e hgl (st.all hg) gp.isG⟩
 obtain⟨ys,G,o4,rfl,e,hg,st,gp,glen⟩:=pp
 have hi:i<ns.length:=by have:=(BE.mp hx).1;omega
 have hk:ns[i]?=some ns[i]:=BB hi
 obtain⟨k,ek⟩:∃k,ns[i]=k:=⟨_,rfl⟩
 rw[ek]at hk
 have exk:x=V.int (k:Int):=by unfold CU at hx;rw[Dm,hk]at hx;exact(BX hx).symm
 subst exk
 obtain⟨D,hD,ok,hd⟩:=hin k (C8 hk)
 obtain⟨v,hv,⟨p,dx,nm,lo,hi2,ps,pt,ob,ls,hs,rfl,h0,h1,h2,h3,h4,h5,h6,h7,h8⟩⟩:=ax.get hD
 have pk:Bu (D.path.map V.int) (d:Int)=some (.int (BW Ds d k)):=by
  rw[ER hD]
  exact EY (ns:=D.path) (k:=(d:Int)) (Int.natCast_nonneg _) (by have:=ok.pl;omega)
 have tks:ns.take (i+1)=ns.take i++[k]:=Du hk
 rw[tks]
 have yl:=st.len
 dsimp only[Am]
 refine KJ (fun H2=>H2=H'/\∀g h,G.getLast?=some g->g.head?=some h->BW Ds d h≠BW Ds d k) (fun H2 pp=>?_) (fun els=>?_)
 .obtain⟨rfl,hne⟩:=pp
  refine⟨_,rfl,.inl ⟨rfl,_,A3.of hg⟩,_,rfl,AE rfl,fun l hl=>?_⟩
  have s2:=Ac hl (.lst [V.int (k:Int)])
  refine⟨gl,_,_,rfl,rfl,s2 _ _ hg,BK (by omega),?_⟩
  refine⟨ys++[.ref l],G++[[k]],_,rfl,fun b ob eb=>by rw[A8 (AC eb hgl)];exact s2 _ _ (e _ _ eb),A6,st.new hg hl (e.free hl),.new gp hne,by rw[Ah,Bs];omega⟩
 .refine⟨_,rfl,_,.inl ⟨_,A3.of hg,rfl⟩,?_⟩
  have il0:∀{h:Nat} {g:List Nat},Bu (CU (h::g)) (0:Int)=some (.int (h:Int)):=fun{h g}=>by unfold CU;exact D6 (j:=0) rfl
  rcases st with⟨rfl,rfl⟩|⟨ys',l,G',h,g,rfl,rfl,hall,hl,nlg,hl0⟩
  .exact Ay (els _ ⟨rfl,fun g h hG=>by cases hG⟩)
  have ne1:(!(ys'++[V.ref l]).isEmpty)=true:=by cases ys'<;>rfl
  rw[ne1]
  refine Bm ?_
  have hmem:h∈ns:=by
   have:=gp.isG.mem (h::g) (by simp) h AA
   exact G3 this
  obtain⟨Dh,hDh,okh,hdh⟩:=hin h hmem
  obtain⟨vh,hvh,⟨p',dx',nm',lo',hi',ps',pt',ob',ls',hs',rfl,k0,_,_,_,_,_,_,_,k8⟩⟩:=ax.get hDh
  have ph:Bu (Dh.path.map V.int) (d:Int)=some (.int (BW Ds d h)):=by
   rw[ER hDh]
   exact EY (ns:=Dh.path) (k:=(d:Int)) (Int.natCast_nonneg _) (by have:=okh.pl;omega)
  refine⟨_,rfl,_,rfl,_,rfl,gl,_,_,_,rfl,rfl,A3.of hg,Fn _ _ [] rfl,l,_,_,_,rfl,rfl,A3.of hl,il0,dl,_,_,_,rfl,rfl,A3.of (e _ _ hdl),D6 hvh,p',_,dx',_,_,rfl,e _ _ k0,T.cl_Deed,T.n_Deed_path,rfl,_,rfl,pt',_,_,_,rfl,rfl,Aw.of (e _ _ k8),ph,?_⟩
  refine⟨_,rfl,_,rfl,dl,_,_,_,rfl,rfl,A3.of (e _ _ hdl),D6 hv,p,_,dx,_,_,rfl,e _ _ h0,T.cl_Deed,T.n_Deed_path,rfl,_,rfl,pt,_,_,_,rfl,rfl,Aw.of (e _ _ h8),pk,rfl,_,rfl,?_⟩
  by_cases c:BW Ds d h=BW Ds d k
  .refine CM (v:=true) (B1 (congrArg V.int c)) (Bm ?_)
   refine⟨_,rfl,_,rfl,gl,_,_,_,rfl,rfl,A3.of hg,Fn _ _ [] rfl,.inl ⟨rfl,_,A3.of hl⟩,_,rfl,l,_,_,rfl,rfl,hl,BK ?_,?_⟩
   .have:=gp.isG.glen (h::g) (by simp)
    unfold CU
    rw[An]
    rw[Bt]at this
    omega
   .refine⟨ys'++[.ref l],G'++[h::g++[k]],_,rfl,fun b ob eb=>by rw[A8 (AC eb hl0)];exact e _ _ eb,by rw[A8 nlg.symm];exact hg,?_,.more gp c,by rw[Ah,Bs]at glen ⊢;omega⟩
    refine .inr ⟨ys',l,G',h,g++[k],rfl,rfl,?_,?_,nlg,hl0⟩
    .rw[KH];exact hall
    .rw[A6,show CU (h::(g++[k]))=CU (h::g)++[V.int (k:Int)] from by unfold CU;exact AZ (l₁:=h::g) (l₂:=[k])]
  .refine CM (v:=false) (Bo fun z=>c (V.int.inj z)) (Ay ?_)
   refine els _ ⟨rfl,fun g1 h1 hG hh=>?_⟩
   rw[Ng]at hG
   cases hG
   cases hh
   exact c
theorem Nu (T:Tx w K mg a):∀n:Nat,AI P w K mg base AO (n+2) a.f_o a.d_o ["deeds","numbers","depth"] (O3 a.c_Deed (Bc a) n)
 |
  0=>by
  have no:∀vs H Q E,¬O3 a.c_Deed (Bc a) 0 vs H Q E:=fun vs H Q E h=>by
   obtain⟨dl,nl,d,Ds,ns,ds,_,_,_,_,_,_,_,h1,h2,_⟩:=h
   omega
  exact⟨fun vs H Q E h=>absurd h (no vs H Q E),fun A outer s H args us vs Q E _ _ _ _ h=>absurd h (no vs H Q E)⟩
 |
  n+1=>by
  have G_Q :=@QF P w K mg base a T
  have G_o:=Nu T n
  refine T.F_o.ok Jh (fun vs H Q E h=>?_) (fun cdv A outer s H vs Q E hr h=>?_)
  .obtain⟨_,_,_,_,_,_,rfl,_⟩:=h;rfl
  obtain⟨dl,nl,d,Ds,ns,ds,rfl,hDo,hnl,hin,nlen,got,cc,d3,dn,q⟩:=h
  refine⟨_,(@A4 _ _ _ _ _ (@Al _ _ (3) _ _ _ _ Jh.nd rfl (.inl rfl) (@Bj _ _ _ _ A1) (by rfl) (by first|exact .inl rfl|exact .inr rfl|assumption)) (@A4 _ _ _ _ _ (@Ed _ _ _ _ _ _ _ _ PassesOwn.never rfl (@Dv _ _ _ _ (@As _ _ _ _ _ _ _ _ _ _ _ _ _ _ _ _ G_Q (hr.mono (by omega)) (by rfl) T.m_Q T.F_Q.kp T.b_Q .nil Ap (@A0 _ _ _ _ _ (pv 0) (@A0 _ _ _ _ _ (pv 1) (@A0 _ _ _ _ _ (pv 2) A1 (by rfl)) (by rfl)) (by rfl)) (by decide) (by rfl) (by rfl))) (Bz (i:=4) Jh.nd rfl (.inl rfl)) (@A4 _ _ _ _ _ (@Al _ _ (5) _ _ _ _ Jh.nd rfl (.inl rfl) (@Ag _ _ _ _ _ _ _ AX (pv 4) A2 (fun _ _=>rfl)) (by rfl) (by first|exact .inl rfl|exact .inr rfl|assumption)) (@Aa _ _ _ (@AK _ _ _ _ _ _ _ _ (@Au _ _ _ _ _ _ _ _ Bv (@Bb _ _ _ _ _ _ _ _ _ C6 (by rfl) T.z_len BJ (@A0 _ _ _ _ _ (@B0 _ _ _ _ _ (@Ag _ _ _ _ _ _ _ AX (pv 0) (pv 5) (fun _ _=>rfl)) rfl) A1 (by rfl)) (by decide) (by decide) (by rfl) (by rfl)) (pv 2) (@Av _ _ (by decide) (by decide))) (@Aa _ _ _ (@Bp _ _ _ _ (@B9 _ _ _ _ _ _ _ _ _ _ _ _ Bh BS BU BM (pv 3) (@A0 _ _ _ _ _ (@CQ _ _ _ _ _ (@A0 _ _ _ _ _ (pv 5) (@A0 _ _ _ _ _ BO A1 (by rfl)) (by rfl))) A1 (by rfl)) (by rfl) (by rfl) (by rfl) (by rfl) (by rfl)) (by rfl))) (@Aa _ _ _ (@Bp _ _ _ _ (@B9 _ _ _ _ _ _ _ _ _ _ _ _ Bh BS BU BM (pv 3) (@A0 _ _ _ _ _ (@CQ _ _ _ _ _ (@A0 _ _ _ _ _ (pv 5) (@A0 _ _ _ _ _ (@As _ _ _ _ _ _ _ _ _ _ _ _ _ _ _ _ G_o (hr.mono (by omega)) (by rfl) T.m_o T.F_o.kp T.b_o .nil Ap (@A0 _ _ _ _ _ (pv 0) (@A0 _ _ _ _ _ (pv 4) (@A0 _ _ _ _ _ (@A9 _ _ _ _ _ _ _ _ C4 (pv 2) A2) A1 (by rfl)) (by rfl)) (by rfl)) (by decide) (by rfl) (by rfl)) A1 (by rfl)) (by rfl))) A1 (by rfl)) (by rfl) (by rfl) (by rfl) (by rfl) (by rfl)) (by rfl)))))) (by intro _;rfl)) (@Aa _ _ _ (@Aq _ _ _ _ (pv 3))))),?_⟩
  refine⟨AE rfl,fun it hit=>?_⟩
  have s1:=Ac hit (.lst [])
  have hit1:(upd H it (.lst [])) it=some (.lst []):=A6
  dsimp only[Am]
  generalize upd H it (.lst [])=H1 at s1 hit1
  refine⟨_,rfl,_,rfl,_,rfl,dl,nl,d,Ds,ns,rfl,hDo.over s1,s1 _ _ hnl,hin,nlen,fun gl H2 G e2 hglN hG isG=>?_⟩
  obtain⟨ys,hgl,ay⟩:=hG
  have e02:=s1.trans e2
  have ngi:gl≠it:=(AC hit1 hglN).symm
  refine⟨gl,rfl,⟨_,A3.of hgl⟩,?_⟩
  refine FG (xs:=ys) (fun i σ' H'=>∃(zs:List V) (f:Pw.Fs) (done rest:List Nat) (o4 o5:Option V),σ'=[some (.ref dl),some (.ref nl),some (.int (d:Int)),some (.ref it),o4,o5]/\(∀b o,b≠it->H2 b=some o->H' b=some o)/\H' it=some (.lst zs)/\CG (Ft H H' it) f zs/\Pw.IsF (getD Ds) f done d/\Cb Ds d rest (G.drop i)/\ns=done++rest/\Cn f<=n+1/\zs.length<=done.length/\(∀x y,done.getLast?=some x->rest.head?=some y->BW Ds d x≠BW Ds d y)) ⟨[],.nil,[],ns,_,_,rfl,fun _ _ _ h=>h,e2 _ _ hit1,rfl,rfl,isG,rfl,Bw _,Aj _,fun x y hx=>by cases hx⟩ (fun i σ' H' _ pp=>by obtain⟨_,_,_,_,_,_,_,k,_⟩:=pp;exact A3.of (k _ _ ngi hgl)) (fun i x σ' H' hx pp=>?_) (fun σ' H' pp=>?_)
  rotate_left
  .obtain⟨zs,f,done,rest,o4,o5,rfl,k,hz,fa,isf,ig,en,fd,zl,_⟩:=pp
   rw[ay.1,IU]at ig
   cases ig
   rw[Cq]at en
   subst en
   exact⟨_,rfl,q it _ f zs (fun b o hb=>k b o (AC hb hit) (e02 _ _ hb)) hit hz (fa.over QS) isf fd zl⟩
  obtain⟨zs,f,done,rest,o4,o5,rfl,k,hz,fa,isf,ig,en,fd,zl,hdf⟩:=pp
  obtain⟨g,hg,l,rfl,hl⟩:=ay.get' hx
  have dc:G.drop i=g::G.drop (i+1):=by
   obtain⟨hh,rfl⟩:=BE.mp hg
   exact F7 hh
  rw[dc]at ig
  generalize G.drop (i+1)=G2 at ig
  cases ig with
  |@cons kk g' rest' _ i1 i2 i3=>
  have nli:l≠it:=fun z=>by
   have h1:=e2 _ _ hit1
   rw[←z,hl]at h1
   cases h1
  have keep:∀{b o},H b=some o->H' b=some o:=fun{b o} hb=>k b o (AC hb hit) (e02 _ _ hb)
  have eH:A7 H H':=fun b o hb=>keep hb
  have hl':H' l=some (.lst (CU (kk::g'))):=k _ _ nli hl
  subst en
  obtain⟨D,hD,ok,hdl⟩:=hin kk (by simp)
  have hDo':=hDo.over eH
  obtain⟨xs,hxs,ax⟩:=hDo'
  obtain⟨v,hv,hvo⟩:=ax.get hD
  obtain⟨p,dx,nm,lo,hi2,ps,pt,ob,ls,hs,rfl,h0,h1,h2,h3,h4,h5,h6,h7,h8⟩:=id hvo
  obtain⟨ds1,ds2,rfl,got1,got2⟩:=Pw.Got.split got
  obtain⟨dsg,ds3,rfl,got3,got4⟩:=Pw.Got.split (ns:=kk::g') got2
  have ccg:Pw.CC d dsg:=Pw.CC.left (Pw.CC.right cc)
  have memD:∀x∈done,∃a,getD Ds x=some a:=fun x hx=>by
   obtain⟨Dx,hDx,_⟩:=hin x (FV _ hx)
   exact⟨_,Ge hDx⟩
  have diff:∀(x y:Nat) (a b:Pw.Dd Ak Str),done.getLast?=some x->(kk::g').head?=some y->getD Ds x=some a->getD Ds y=some b->a.path.getD d 0≠b.path.getD d 0:=fun x y a b hx hy ha hb=>by
   obtain⟨Da,hDa,rfl⟩:=Gx ha
   obtain⟨Db,hDb,rfl⟩:=Gx hb
   have:=hdf x y hx (by cases hy;rfl)
   rw[ER hDa,ER hDb]at this
   exact this
  have nxt:∀x y,(done++(kk::g')).getLast?=some x->rest'.head?=some y->BW Ds d x≠BW Ds d y:=fun x y hx hy=>by
   have hx':x∈kk::g':=by
    rw[Ng]at hx
    cases hgl2:(kk::g').getLast? with
    |none=>simp at hgl2
    |
     some z=>
     rw[hgl2]at hx
     cases hx
     exact Qt hgl2
   have e:BW Ds d x=BW Ds d kk:=by
    rcases AG.mp hx' with rfl|h
    .rfl
    .exact i1 x h
   rw[e]
   exact(i2 y hy).symm
  have zlen:zs.length<=10:=by rw[Ah]at nlen;omega
  have nlen2:(kk::g').length<=10:=by
   have:=nlen
   rw[Ah,Ah]at this
   omega
  dsimp only[Am]
  refine⟨_,rfl,l,_,_,_,rfl,rfl,A3.of hl',(show Bu (CU (kk::g')) (0:Int)=some (.int (kk:Int)) from by unfold CU;exact D6 (j:=0) rfl),?_⟩
  dsimp only[Am]
  refine⟨_,rfl,_,rfl,dl,_,_,_,rfl,rfl,A3.of hxs,D6 hv,p,_,dx,_,_,rfl,h0,T.cl_Deed,T.n_Deed_names,rfl,nm,_,rfl,.inr (Aw.of h1),_,rfl,rfl,_,rfl,?_⟩
  rw[An]
  by_cases c:D.loops.length=d
  .refine CM (v:=true) (B1 (congrArg (fun m:Nat=>V.int (m:Int)) c)) (Bm ?_)
   have g0:g'=[]:=by
    cases g' with
    |nil=>rfl
    |
     cons k2 g2=>
     cases got3 with
     |
      cons q1 q2=>
      cases q2 with
      |
       cons q3 q4=>
       rw[Ge hD]at q1
       cases q1
       obtain⟨D2,hD2,rfl⟩:=Gx q3
       obtain⟨⟨cx,c1,c2⟩,_⟩:=ccg
       have c3:cx<=D.loops.length:=c2.1
       have ce:cx=d:=by omega
       subst ce
       have:=i1 k2 AA
       rw[ER hD2,ER hD]at this
       exact absurd this.symm c2.2.2.2.2
   subst g0
   refine⟨_,rfl,.inl ⟨rfl,_,A3.of hz⟩,_,rfl,AE rfl,fun t ht=>?_⟩
   have s3:=Ac ht (.tup [V.int (kk:Int),V.non])
   refine⟨it,_,_,rfl,rfl,s3 _ _ hz,BK (by omega),?_⟩
   have nti:t≠it:=(AC hz ht).symm
   refine⟨zs++[.ref t],Fb f (.leaf kk .nil),done++[kk],rest',_,_,rfl,fun b o hb h=>by rw[A8 hb];exact s3 _ _ (k b o hb h),A6,?_,Jk isf ⟨[],D.dd,rfl,Ge hD,c,rfl⟩ diff memD,i3,by rw[BC],BI (Jt f _) (Nat.max_le.mpr ⟨fd,by show max 1 0<=n+1;omega⟩),by rw[Ah,Ah];exact Nat.add_le_add zl (Aj _),nxt⟩
   exact(fa.over (LN fun b o hb h=>by rw[A8 hb];exact s3 _ _ h)).app ⟨t,[],rfl,Iz (eH.free ht) nti (by rw[A8 nti];exact A6),rfl⟩
  .refine CM (v:=false) (Bo fun z=>c (by have:=V.int.inj z;omega)) (Ay ?_)
   have hlt:d<D.loops.length:=by omega
   have ll:=ok.ll
   have hv2:∀y∈dsg,y.path.getD d 0=D.dd.path.getD d 0:=fun y hy=>by
    obtain⟨k',hk',e⟩:=got3.mem y hy
    obtain⟨D',hD',rfl⟩:=Gx e
    have:BW Ds d k'=BW Ds d kk:=by
     rcases AG.mp hk' with rfl|h
     .rfl
     .exact i1 k' h
    rw[ER hD',ER hD]at this
    exact this
   have up:=(Pw.CC.up ccg hv2 (fun y hy=>by
    obtain⟨k',hk',e⟩:=got3.head hy
    cases hk'
    rw[Ge hD]at e
    cases e
    exact hlt)).1
   have hin2:Mg Ds (d+1) (kk::g'):=fun x hx=>by
    obtain⟨Dx,hDx,okx,_⟩:=hin x (Cp _ (FV _ hx))
    refine⟨Dx,hDx,okx,?_⟩
    obtain⟨y,hy,ey⟩:=got3.find hx
    rw[Ge hDx]at ey
    cases ey
    exact Pw.CC.le up _ hy
   have nlen3:zs.length+1<=11:=by omega
   refine⟨_,rfl,.inl ⟨rfl,_,A3.of hz⟩,_,rfl,_,rfl,_,rfl,_,rfl,_,_,rfl,rfl,dl,l,d+1,Ds,kk::g',dsg,rfl,⟨xs,hxs,ax⟩,hl',hin2,nlen2,got3,up,by omega,by omega,fun r H3 sub ws e3 hrN hr3 fs3 is3 fd3 wl3=>⟨AE rfl,fun t ht=>?_⟩⟩
   have s4:=Ac ht (.tup [V.int (kk:Int),V.ref r])
   have hz3:=e3 _ _ hz
   refine⟨it,_,_,rfl,rfl,s4 _ _ hz3,BK (by omega),?_⟩
   have nti:t≠it:=(AC hz3 ht).symm
   have nri:r≠it:=(AC hz hrN).symm
   refine⟨zs++[.ref t],Fb f (.node kk sub .nil),done++(kk::g'),rest',_,_,rfl,fun b o hb h=>by rw[A8 hb];exact s4 _ _ (e3 _ _ (k b o hb h)),A6,?_,Jk isf ⟨g',[],D.dd,by simp,Ge hD,hlt,fun x hx b hb=>?_,fun x b hx=>(by cases hx),is3,rfl⟩ diff memD,i3,by rw[BC],BI (Jt f _) (Nat.max_le.mpr ⟨fd,by show max (Cn sub+1) 0<=n+1;omega⟩),by rw[Ah,Ah];exact Nat.add_le_add zl (by rw[AQ,AQ];exact N8 (Bw _)),nxt⟩
   .have up4:∀b o,b≠it->H3 b=some o->(upd (upd H3 t (.tup [V.int (kk:Int),V.ref r])) it (.lst (zs++[.ref t]))) b=some o:=fun b o hb h=>by rw[A8 hb];exact s4 _ _ h
    exact(fa.over (LN fun b o hb h=>up4 b o hb (e3 _ _ h))).app ⟨t,r,ws,[],rfl,Iz (eH.free (e3.free ht)) nti (by rw[A8 nti];exact A6),Iz (eH.free hrN) nri (up4 _ _ nri hr3),(fs3.over (T3 eH hz)).over (LN up4),rfl⟩
   .obtain⟨Db,hDb,rfl⟩:=Gx hb
    have:=i1 x hx
    rw[ER hDb,ER hD]at this
    exact this
theorem OQ (T:Tx w K mg a):∀n:Nat,AI P w K mg base AO (n+15) a.f_p a.d_p ["deeds","items","depth"] (Q5 a.c_Deed (Bc a) n)
 |
  0=>by
  have no:∀vs H Q E,¬Q5 a.c_Deed (Bc a) 0 vs H Q E:=fun vs H Q E h=>by
   obtain⟨_,_,_,_,f,_,_,_,_,_,_,_,h1,_⟩:=h
   omega
  exact⟨fun vs H Q E h=>absurd h (no vs H Q E),fun A outer s H args us vs Q E _ _ _ _ h=>absurd h (no vs H Q E)⟩
 |
  n+1=>by
  have G_S :=@Xy P w K mg base a T
  have G_R :=@RS P w K mg base a T
  have G_p:=OQ T n
  refine T.F_p.ok HP (fun vs H Q E h=>?_) (fun cdv A outer s H vs Q E hr h=>?_)
  .obtain⟨_,_,_,_,_,_,_,rfl,_⟩:=h;rfl
  obtain⟨dl,il,d,Ds,f,xs,R,rfl,hDo,hok,hil,hfs,fd,dn,hR,Rl,q⟩:=h
  refine⟨_,(@A4 _ _ _ _ _ (@Al _ _ (3) _ _ _ _ HP.nd rfl (.inl rfl) (@A9 _ _ _ _ _ _ _ _ LY Ar (pv 2)) (by rfl) (by first|exact .inl rfl|exact .inr rfl|assumption)) (@A4 _ _ _ _ _ (@Al _ _ (4) _ _ _ _ HP.nd rfl (.inl rfl) (@Bj _ _ _ _ A1) (by rfl) (by first|exact .inl rfl|exact .inr rfl|assumption)) (@A4 _ _ _ _ _ (@Ed _ _ _ _ _ _ _ _ PassesOwn.never rfl (@Dv _ _ _ _ (pv 1)) (Hj rfl (E5 (Bz (i:=5) HP.nd rfl (.inl rfl)) (E5 (Bz (i:=6) HP.nd rfl (.inl rfl)) Hm))) (@Aa _ _ _ (@AK _ _ _ _ _ _ _ _ (@Au _ _ _ _ _ _ _ _ Ee (pv 6) BO (@Av _ _ (by decide) (by decide))) (@Aa _ _ _ (@Bp _ _ _ _ (@B9 _ _ _ _ _ _ _ _ _ _ _ _ Bh BS BU BM (pv 4) (@A0 _ _ _ _ _ (@A9 _ _ _ _ _ _ _ _ Bk (pv 3) (@As _ _ _ _ _ _ _ _ _ _ _ _ _ _ _ _ G_S (hr.mono (by omega)) (by rfl) T.m_S T.F_S.kp T.b_S .nil Ap (@A0 _ _ _ _ _ (@Ag _ _ _ _ _ _ _ AX (pv 0) (pv 5) (fun _ _=>rfl)) A1 (by rfl)) (by decide) (by rfl) (by rfl))) A1 (by rfl)) (by rfl) (by rfl) (by rfl) (by rfl) (by rfl)) (by rfl))) (@A4 _ _ _ _ _ (@Bp _ _ _ _ (@B9 _ _ _ _ _ _ _ _ _ _ _ _ Bh BS BU BM (pv 4) (@A0 _ _ _ _ _ (@A9 _ _ _ _ _ _ _ _ Bk (pv 3) (@As _ _ _ _ _ _ _ _ _ _ _ _ _ _ _ _ G_R (hr.mono (by omega)) (by rfl) T.m_R T.F_R.kp T.b_R .nil Ap (@A0 _ _ _ _ _ (@Ag _ _ _ _ _ _ _ AX (pv 0) (pv 5) (fun _ _=>rfl)) (@A0 _ _ _ _ _ (pv 2) A1 (by rfl)) (by rfl)) (by decide) (by rfl) (by rfl))) A1 (by rfl)) (by rfl) (by rfl) (by rfl) (by rfl) (by rfl)) (by rfl)) (@A4 _ _ _ _ _ (@Bp _ _ _ _ (@B9 _ _ _ _ _ _ _ _ _ _ _ _ Bh PySem.F.slot_list_extend PySem.F.type_list_extend OR (pv 4) (@A0 _ _ _ _ _ (@As _ _ _ _ _ _ _ _ _ _ _ _ _ _ _ _ G_p (hr.mono (by omega)) (by rfl) T.m_p T.F_p.kp T.b_p .nil Ap (@A0 _ _ _ _ _ (pv 0) (@A0 _ _ _ _ _ (pv 6) (@A0 _ _ _ _ _ (@A9 _ _ _ _ _ _ _ _ C4 (pv 2) A2) A1 (by rfl)) (by rfl)) (by rfl)) (by decide) (by rfl) (by rfl)) A1 (by rfl)) (by rfl) (by rfl) (by rfl) (by rfl) (by rfl)) (by rfl)) (@Aa _ _ _ (@Bp _ _ _ _ (@B9 _ _ _ _ _ _ _ _ _ _ _ _ Bh BS BU BM (pv 4) (@A0 _ _ _ _ _ (@A9 _ _ _ _ _ _ _ _ Bk (pv 3) Ar) A1 (by rfl)) (by rfl) (by rfl) (by rfl) (by rfl) (by rfl)) (by rfl))))))) (by intro _;rfl)) (@Aa _ _ _ (@Aq _ _ _ _ (pv 4)))))),?_⟩
  have e1:(" ":Str).length=1:=by decide +kernel
  have e3:("end":Str).length=3:=by decide +kernel
  refine⟨_,rfl,_,_,rfl,rfl,by omega,by omega,by rw[e1];decide,?_⟩
  rw[Pj]
  have bl:=KB d
  dsimp only[Am]
  refine⟨AE rfl,fun rl hrl=>?_⟩
  have s1:=Ac hrl (.lst [])
  have hrl1:(upd H rl (.lst [])) rl=some (.lst []):=A6
  dsimp only[Am]
  generalize upd H rl (.lst [])=H1 at s1 hrl1
  refine⟨_,rfl,il,rfl,⟨_,A3.of (s1 _ _ hil)⟩,?_⟩
  refine FG (xs:=xs) (fun i σ' H'=>∃(g:Pw.Fs) (R1 R2:Pw.Rw Ak Str) (o5 o6:Option V),σ'=[some (.ref dl),some (.ref il),some (.int (d:Int)),some (.str (EW d)),some (.ref rl),o5,o6]/\A7 H H'/\H' rl=some (.lst ((R1.map Bg).map V.str))/\CG H g (xs.drop i)/\Pw.RowsF (getD Ds) g d R2/\R=R1++R2/\Cn g<n+1) ⟨f,[],R,_,_,rfl,s1,hrl1,hfs,hR,rfl,fd⟩ (fun i σ' H' _ pp=>by obtain⟨_,_,_,_,_,_,e,_⟩:=pp;exact A3.of (e _ _ hil)) (fun i x σ' H' hx pp=>?_) (fun σ' H' pp=>?_)
  rotate_left
  .obtain⟨g,R1,R2,o5,o6,rfl,e,hrl',fs,rf,eR,_⟩:=pp
   rw[IU]at fs
   cases g with
   |
    nil=>
    cases rf
    rw[Cq]at eR
    subst eR
    exact⟨_,rfl,q rl _ e hrl'⟩
   |leaf k r=>obtain⟨_,_,z,_⟩:=fs;cases z
   |node k s r=>obtain⟨_,_,_,_,z,_⟩:=fs;cases z
  obtain⟨g,R1,R2,o5,o6,rfl,e,hrl',fs,rf,eR,fdg⟩:=pp
  have dc:xs.drop i=x::xs.drop (i+1):=by
   obtain⟨hh,rfl⟩:=BE.mp hx
   exact F7 hh
  rw[dc]at fs
  have Rl':R1.length+R2.length<=100:=by rw[eR,Ah]at Rl;exact Rl
  cases g with
  |nil=>cases fs
  |
   leaf k rest=>
   obtain⟨t,xs',ex,ht,fs'⟩:=fs
   cases ex
   cases rf with
   |@leaf _ _ _ aa R' r1 r2=>
   obtain⟨D,hD,rfl⟩:=Gx r1
   have okD:=hok D (C8 hD)
   have tl:=Dw.txt_len okD
   have hDo':=hDo.over e
   obtain⟨ys,hys,ay⟩:=id hDo'
   obtain⟨v,hv,hvo⟩:=ay.get hD
   rw[AQ]at Rl'
   refine⟨t,_,rfl,Aw.of (e _ _ ht),rfl,_,_,rfl,_,_,rfl,rfl,?_⟩
   refine⟨_,rfl,rfl,_,rfl,CM (v:=true) (B1 rfl) (Bm ?_)⟩
   refine⟨_,rfl,.inl ⟨rfl,_,A3.of hrl'⟩,_,rfl,_,rfl,_,rfl,dl,_,_,_,rfl,rfl,A3.of hys,D6 hv,v,D,rfl,hvo,okD,fun H2 e2=>⟨_,_,rfl,rfl,Ai (by omega),rl,_,_,rfl,rfl,e2 _ _ hrl',BK (by rw[An,An];omega),?_⟩⟩
   refine⟨rest,R1++[(d,.row D.txt)],R',_,_,rfl,fun b o hb=>by rw[A8 (AC hb hrl)];exact e2 _ _ (e _ _ hb),?_,fs',r2,by rw[eR,BC];rfl,by have:max 1 (Cn rest)<n+1:=fdg;omega⟩
   rw[A6,AZ,AZ]
   rfl
  |
   node k sub rest=>
   obtain⟨t,l,ws,xs',ex,ht,hl,fsub,fs'⟩:=fs
   cases ex
   cases rf with
   |@node _ _ _ _ aa lt Rs R' r1 r2 r3 r4=>
   obtain⟨D,hD,rfl⟩:=Gx r1
   have okD:=hok D (C8 hD)
   have ll:=LX (okD.lp lt (C8 r2))
   have hDo':=hDo.over e
   obtain⟨ys,hys,ay⟩:=id hDo'
   obtain⟨v,hv,hvo⟩:=ay.get hD
   have fdg:max (Cn sub+1) (Cn rest)<n+1:=fdg
   rw[Ah,AQ,AQ]at Rl'
   refine⟨t,_,rfl,Aw.of (e _ _ ht),rfl,_,_,rfl,_,_,rfl,rfl,?_⟩
   refine⟨_,rfl,rfl,_,rfl,CM (v:=false) (Bo fun z=>by cases z) (Ay ?_)⟩
   refine⟨_,rfl,.inl ⟨rfl,_,A3.of hrl'⟩,_,rfl,_,rfl,_,rfl,dl,_,_,_,rfl,rfl,A3.of hys,D6 hv,_,rfl,v,D,d,lt,rfl,hvo,okD,r2,_,_,rfl,rfl,Ai (by omega),rl,_,_,rfl,rfl,hrl',BK (by rw[An,An];omega),?_⟩
   have eA:A7 H (upd H' rl (.lst (((R1.map Bg).map V.str)++[V.str (EW d++Fe lt)]))):=fun b o hb=>by rw[A8 (AC hb hrl)];exact e _ _ hb
   have hA:(upd H' rl (.lst (((R1.map Bg).map V.str)++[V.str (EW d++Fe lt)]))) rl=some (.lst (((R1++[(d,Pw.Rr.opn lt)]).map Bg).map V.str)):=by rw[A6,AZ,AZ];rfl
   generalize upd H' rl (.lst (((R1.map Bg).map V.str)++[V.str (EW d++Fe lt)]))=HA at eA hA
   refine⟨_,rfl,.inl ⟨rfl,_,A3.of hA⟩,_,rfl,_,rfl,_,rfl,_,_,rfl,rfl,dl,l,d+1,Ds,sub,ws,Rs,rfl,hDo.over eA,hok,eA _ _ hl,CG.over eA fsub,by omega,by omega,r3,by omega,fun r HB eB hB=>?_⟩
   refine⟨rl,r,_,_,rfl,rfl,eB _ _ hA,hB,Ai (by rw[An,An,An,An,Ah,Bs];omega),?_⟩
   have eC:A7 H (upd HB rl (.lst ((((R1++[(d,Pw.Rr.opn lt)]).map Bg).map V.str)++((Rs.map Bg).map V.str)))):=fun b o hb=>by rw[A8 (AC hb hrl)];exact eB _ _ (eA _ _ hb)
   have hC:(upd HB rl (.lst ((((R1++[(d,Pw.Rr.opn lt)]).map Bg).map V.str)++((Rs.map Bg).map V.str)))) rl=some (.lst (((R1++[(d,Pw.Rr.opn lt)]++Rs).map Bg).map V.str)):=by rw[A6];simp only[AZ,BC]
   generalize upd HB rl (.lst ((((R1++[(d,Pw.Rr.opn lt)]).map Bg).map V.str)++((Rs.map Bg).map V.str)))=HC at eC hC
   refine⟨_,rfl,.inl ⟨rfl,_,A3.of hC⟩,_,rfl,_,_,rfl,rfl,Ai (by omega),rl,_,_,rfl,rfl,hC,BK (by rw[An,An,Ah,Ah,Bs];omega),?_⟩
   refine⟨rest,R1++[(d,Pw.Rr.opn lt)]++Rs++[(d,Pw.Rr.fin)],R',_,_,rfl,fun b o hb=>by rw[A8 (AC hb hrl)];exact eC _ _ hb,?_,fs',r4,by rw[eR];simp,by omega⟩
   rw[A6]
   simp only[AZ,BC]
   rfl
theorem SG (T:Tx w K mg a):AI P w K mg base AO 7 a.f_P a.d_P ["deeds"] (WW a.c_Deed (Bc a)):=by
 have G_o :=@Nu P w K mg base a T 4
 refine T.F_P.ok WB (fun vs H Q E h=>?_) (fun cdv A outer s H vs Q E hr h=>?_)
 .obtain⟨_,_,rfl,_⟩:=h;rfl
 obtain⟨dl,Ds,rfl,hDo,ok,q⟩:=h
 refine⟨_,(@Aa _ _ _ (@Aq _ _ _ _ (@As _ _ _ _ _ _ _ _ _ _ _ _ _ _ _ _ G_o (hr.mono (by omega)) (by rfl) T.m_o T.F_o.kp T.b_o .nil Ap (@A0 _ _ _ _ _ (pv 0) (@A0 _ _ _ _ _ (@U1 _ _ _ _ _ _ _ rfl (by rfl) T.z_list (by rfl) T.z_range (@A0 _ _ _ _ _ (@Bb _ _ _ _ _ _ _ _ _ C6 (by rfl) T.z_len BJ (@A0 _ _ _ _ _ (pv 0) A1 (by rfl)) (by decide) (by decide) (by rfl) (by rfl)) A1 (by rfl)) (by rfl)) (@A0 _ _ _ _ _ A2 A1 (by rfl)) (by rfl)) (by rfl)) (by decide) (by rfl) (by rfl)))),?_⟩
 obtain⟨xs,hdl,ax⟩:=id hDo
 have xl:=ax.1
 refine⟨_,rfl,_,rfl,dl,_,rfl,.inl (A3.of hdl),xs.length,rfl,by have:=ok.2.1;omega,fun nl hnl=>?_⟩
 have s1:=Ac hnl (.lst (EO xs.length))
 have hnl1:(upd H nl (.lst (EO xs.length))) nl=some (.lst (CU (List.range Ds.length))):=by rw[A6,xl];rfl
 generalize upd H nl (.lst (EO xs.length))=H1 at s1 hnl1
 refine⟨dl,nl,0,Ds,List.range Ds.length,Ds.map Dw.dd,rfl,hDo.over s1,hnl1,fun k hk=>?_,by rw[Nb];exact ok.2.1,NB,ok.2.2,by decide,by decide,fun r H' f ys e hrN hr2 fs isf fd _=>?_⟩
 .rw[IJ]at hk
  exact⟨Ds[k],BB hk,ok.1 _ (F6 hk),Bw _⟩
 .exact q r _ f ys (s1.trans e) hr2 (fs.over Wi) isf fd
theorem SZ (T:Tx w K mg a):AI P w K mg base AO 21 a.f_v a.d_v ["program"] (UZ a.c_Program a.c_Deed (Bc a)):=by
 have G_P :=@SG P w K mg base a T
 have G_p :=@OQ P w K mg base a T 5
 refine T.F_v.ok LW (fun vs H Q E h=>?_) (fun cdv A outer s H vs Q E hr h=>?_)
 .obtain⟨_,_,_,rfl,_⟩:=h;rfl
 obtain⟨v,n,Ds,rfl,⟨x,dx,dl,rfl,hx,hDo⟩,ok,n0,n1,q⟩:=h
 refine⟨_,(@A4 _ _ _ _ _ (@Al _ _ (1) _ _ _ _ LW.nd rfl (.inl rfl) (@B0 _ _ _ _ _ (pv 0) rfl) (by rfl) (by first|exact .inl rfl|exact .inr rfl|assumption)) (@A4 _ _ _ _ _ (@Al _ _ (2) _ _ _ _ LW.nd rfl (.inl rfl) (@Bj _ _ _ _ (@A0 _ _ _ _ _ (@OC _ _ _ _ _ _ Ar (@MN _ _ _ _ (pv 1))) A1 (by rfl))) (by rfl) (by first|exact .inl rfl|exact .inr rfl|assumption)) (@A4 _ _ _ _ _ (@Bp _ _ _ _ (@B9 _ _ _ _ _ _ _ _ _ _ _ _ Bh PySem.F.slot_list_extend PySem.F.type_list_extend OR (pv 2) (@A0 _ _ _ _ _ (@As _ _ _ _ _ _ _ _ _ _ _ _ _ _ _ _ G_p (hr.mono (by omega)) (by rfl) T.m_p T.F_p.kp T.b_p .nil Ap (@A0 _ _ _ _ _ (@B0 _ _ _ _ _ (pv 0) rfl) (@A0 _ _ _ _ _ (@As _ _ _ _ _ _ _ _ _ _ _ _ _ _ _ _ G_P (hr.mono (by omega)) (by rfl) T.m_P T.F_P.kp T.b_P .nil Ap (@A0 _ _ _ _ _ (@B0 _ _ _ _ _ (pv 0) rfl) A1 (by rfl)) (by decide) (by rfl) (by rfl)) (@A0 _ _ _ _ _ A2 A1 (by rfl)) (by rfl)) (by rfl)) (by decide) (by rfl) (by rfl)) A1 (by rfl)) (by rfl) (by rfl) (by rfl) (by rfl) (by rfl)) (by rfl)) (@Aa _ _ _ (@Aq _ _ _ _ (@B9 _ _ _ _ _ _ _ _ _ _ _ _ DN IX IY GW Ar (@A0 _ _ _ _ _ (pv 2) A1 (by rfl)) (by rfl) (by rfl) (by rfl) (by rfl) (by rfl))))))),?_⟩
 have nl:=FR (i:=n) (by omega) n1
 unfold nS at nl
 have e5:("size ":Str).length=5:=by decide +kernel
 have em:∀x:Str,Str.empty++x=x:=fun x=>CN (by rw[AS];rfl)
 refine⟨_,rfl,x,_,dx,_,_,rfl,hx,T.cl_Program,T.n_Program_size,rfl,?_⟩
 dsimp only[Am]
 refine⟨_,rfl,Ai (by rw[em];omega),?_⟩
 rw[em]
 refine⟨_,rfl,_,rfl,ES (by omega) n1,_,rfl,Ai (by rw[Ax];omega),AE rfl,fun rl hrl=>?_⟩
 have s1:=Ac hrl (.lst [V.str ("size "++Str.ofString (toString n))])
 have hrl1:(upd H rl (.lst [V.str ("size "++Str.ofString (toString n))])) rl=some (.lst [V.str ("size "++nS n)]):=A6
 dsimp only[Am]
 generalize upd H rl (.lst [V.str ("size "++Str.ofString (toString n))])=H1 at s1 hrl1
 have hx1:=s1 _ _ hx
 refine⟨_,rfl,.inl ⟨rfl,_,A3.of hrl1⟩,_,rfl,x,_,dx,_,_,rfl,hx1,T.cl_Program,T.n_Program_deeds,rfl,_,rfl,x,_,dx,_,_,rfl,hx1,T.cl_Program,T.n_Program_deeds,rfl,dl,Ds,rfl,hDo.over s1,ok,fun il H2 f xs e2 hil fs isf fd=>?_⟩
 obtain⟨R,hR⟩:=Pw.rows_ex isf
 have lin:=Pw.rows_lin isf NB ok.2.2 hR
 have rok:=O5 ok.1
 have Rl:=lin.len fun y hy=>(rok y hy).1
 rw[An]at Rl
 have dsl:=ok.2.1
 have rb:∀p∈R,(Bg p).length<=1300:=fun p hp=>NI (lin.ok rok p hp)
 refine⟨dl,il,0,Ds,f,xs,R,rfl,(hDo.over s1).over e2,ok.1,hil,fs,by omega,by decide,hR,by omega,fun r H3 e3 hr3=>?_⟩
 refine⟨rl,r,_,_,rfl,rfl,e3 _ _ (e2 _ _ hrl1),hr3,Ai (by rw[An,An,Bs];omega),?_⟩
 have hC:(upd H3 rl (.lst ([V.str ("size "++nS n)]++(R.map Bg).map V.str))) rl=some (.lst ((("size "++nS n)::R.map Bg).map V.str)):=A6
 have eC:A7 H (upd H3 rl (.lst ([V.str ("size "++nS n)]++(R.map Bg).map V.str))):=fun b o hb=>by rw[A8 (AC hb hrl)];exact e3 _ _ (e2 _ _ (s1 _ _ hb))
 generalize upd H3 rl (.lst ([V.str ("size "++nS n)]++(R.map Bg).map V.str))=HC at eC hC
 exact⟨rfl,_,rfl,_,rl,_,rfl,rfl,.inl (A3.of hC),BI (OY ⟨n0,n1⟩ (by omega) rb) (by decide),q _ R eC lin⟩
theorem Wl (T:Tx w K mg a):AI P w K mg base AO 1 a.f_i a.d_i ["_law_script","_law_k"] (Re K):=by
 refine T.F_i.ok XG (fun vs H Q E h=>?_) (fun cdv A outer s H vs Q E hr h=>?_)
 .obtain⟨_,_,_,rfl,_⟩:=h;rfl
 obtain⟨p,ns,k,rfl,hS,h0,q⟩:=h
 refine⟨_,(@A4 _ _ _ _ _ (@AK _ _ _ _ _ _ _ _ (@Au _ _ _ _ _ _ _ _ Ey (pv 1) (@Bb _ _ _ _ _ _ _ _ _ C6 (by rfl) T.z_len BJ (@A0 _ _ _ _ _ (pv 0) A1 (by rfl)) (by decide) (by decide) (by rfl) (by rfl)) (@Av _ _ (by decide) (by decide))) (@Aa _ _ _ (@Aq _ _ _ _ (@Ag _ _ _ _ _ _ _ AX (pv 0) (pv 1) (fun _ _=>rfl)))) AU) (@Aa _ _ _ (@Aq _ _ _ _ A2))),?_⟩
 have hl:(ns.map V.int).length=ns.length:=An _
 refine⟨_,rfl,_,rfl,p,_,rfl,.inl hS,_,_,rfl,rfl,_,rfl,?_⟩
 refine AF (fun c=>?_) (fun c=>?_)
 .have c':=dT c
  rw[hl]at c'
  exact⟨_,rfl,_,rfl,p,_,_,_,rfl,rfl,hS,EY h0 c',q⟩
 .have c':=dF c
  rw[hl]at c'
  rw[VX c']at q
  exact q
theorem GT (T:Tx w K mg a):AI P w K mg base AO 1 a.f_b a.d_b ["_law_cell_here","_law_many"] U0:=by
 refine T.F_b.ok Ik (fun vs H Q E h=>?_) (fun cdv A outer s H vs Q E hr h=>?_)
 .obtain⟨_,_,rfl,_⟩:=h;rfl
 obtain⟨c,n,rfl,h0,h1,q⟩:=h
 refine⟨_,(@A4 _ _ _ _ _ (@Al _ _ (2) _ _ _ _ Ik.nd rfl (.inl rfl) (@Bj _ _ _ _ A1) (by rfl) (by first|exact .inl rfl|exact .inr rfl|assumption)) (@A4 _ _ _ _ _ (@Al _ _ (3) _ _ _ _ Ik.nd rfl (.inl rfl) (@A9 _ _ _ _ _ _ _ _ C4 (@A9 _ _ _ _ _ _ _ _ Bq (pv 0) A2) A2) (by rfl) (by first|exact .inl rfl|exact .inr rfl|assumption)) (@A4 _ _ _ _ _ (@Ed _ _ _ _ _ _ _ _ PassesOwn.never rfl (@Kh _ _ _ _ _ _ (by rfl) T.z_range (@A0 _ _ _ _ _ (@A9 _ _ _ _ _ _ _ _ C4 (pv 1) A2) A1 (by rfl)) (by rfl)) (Bz (i:=4) Ik.nd rfl (.inl rfl)) (@A4 _ _ _ _ _ (@Al _ _ (3) _ _ _ _ Ik.nd rfl (.inl rfl) (@A9 _ _ _ _ _ _ _ _ Bq (@A9 _ _ _ _ _ _ _ _ C4 (@A9 _ _ _ _ _ _ _ _ C4 (@A9 _ _ _ _ _ _ _ _ FE (pv 3) (pv 3)) (@A9 _ _ _ _ _ _ _ _ FE A2 (pv 3))) (pv 4)) A2) (by rfl) (by first|exact .inl rfl|exact .inr rfl|assumption)) (@Aa _ _ _ (@Bp _ _ _ _ (@B9 _ _ _ _ _ _ _ _ _ _ _ _ Bh BS BU BM (pv 2) (@A0 _ _ _ _ _ (pv 3) A1 (by rfl)) (by rfl) (by rfl) (by rfl) (by rfl) (by rfl)) (by rfl)))) (by intro _;rfl)) (@Aa _ _ _ (@Aq _ _ _ _ (@Di _ _ _ _ _ _ _ _ _ _ Fv (pv 2) (@Cz _ _ _ A2) E7)))))),?_⟩
 refine⟨AE rfl,fun l hl=>?_⟩
 refine⟨_,rfl,_,_,rfl,rfl,(by show(0:Int)<2147483647;decide),_,_,rfl,rfl,?_⟩
 refine⟨_,rfl,_,_,rfl,rfl,n+1,rfl,by omega,by omega,?_⟩
 refine Mu (lo:=0) (n:=(n+1).toNat) (fun i σ' H'=>(∃o1,σ'=[some (.int c),some (.int n),some (.ref l),some (.int (CI (CT c) 0 i)),o1])/\A7 H H'/\H' l=some (.lst ((Ea (CT c) 0 i).map V.int))) ?_ (fun i σ' H' hi p=>?_) (fun σ' H' p=>?_)
 .exact⟨⟨_,rfl⟩,Ac hl _,A6⟩
 .obtain⟨⟨o1,rfl⟩,hs,hH⟩:=p
  obtain⟨b0,b1⟩:=Uk c i
  have bb:=Vq b0 b1
  have e1:(CI (CT c) 0 i*CI (CT c) 0 i+48271*CI (CT c) 0 i+(0+(i:Int)))%2147483647=CI (CT c) 0 (i+1):=by rw[OK];rfl
  have hz:((Ea (CT c) 0 i).map V.int).length<sizeLine:=by rw[An,NP];exact BK (by omega)
  refine⟨_,rfl,_,rfl,_,_,rfl,rfl,.inl bb,_,rfl,_,_,rfl,rfl,.inl ⟨by decide,by decide⟩,_,_,rfl,rfl,_,rfl,_,_,rfl,rfl,_,_,rfl,rfl,(by show(0:Int)<2147483647;decide),?_⟩
  refine⟨_,rfl,.inl ⟨rfl,_,A3.of hH⟩,_,rfl,l,_,_,rfl,rfl,hH,hz,⟨_,congrArg (fun v=>[some (V.int c),some (V.int n),some (V.ref l),some (V.int v),some (V.int (0+(i:Int)))]) e1⟩,?_,?_⟩
  .exact fun b o e=>by rw[A8 (AC e hl)];exact hs b o e
  .rw[A6,V4,AZ]
   show some (HO.lst (_++[V.int _]))=_
   rw[e1];rfl
 .obtain⟨⟨o1,rfl⟩,hs,hH⟩:=p
  refine⟨_,rfl,_,rfl,l,_,rfl,A3.of hH,fun r hr'=>?_⟩
  rw[Tz]
  refine q r _ (hs.trans (Ac hr' _)) ?_
  rw[A6]
  unfold Ez
  rw[show(n+1).toNat=n.toNat+1 by omega]
theorem SL (T:Tx w K mg a):AI P w K mg base AO 2 a.f_V a.d_V ["_law_cell_here","_law_many"] Rd.spNames23:=by
 have G_b :=@GT P w K mg base a T
 refine T.F_V.ok DY (fun vs H Q E h=>?_) (fun cdv A outer s H vs Q E hr h=>?_)
 .obtain⟨_,rfl,_⟩:=h;rfl
 obtain⟨c,rfl,q⟩:=h
 refine⟨_,(@A4 _ _ _ _ _ (@Al _ _ (2) _ _ _ _ DY.nd rfl (.inr rfl) Ar (by rfl) (by first|exact .inl rfl|exact .inr rfl|assumption)) (@A4 _ _ _ _ _ (@Al _ _ (3) _ _ _ _ DY.nd rfl (.inl rfl) (@As _ _ _ _ _ _ _ _ _ _ _ _ _ _ _ _ G_b (hr.mono (by omega)) (by rfl) T.m_b T.F_b.kp T.b_b .nil Ap (@A0 _ _ _ _ _ (pv 0) (@A0 _ _ _ _ _ A2 A1 (by rfl)) (by rfl)) (by decide) (by rfl) (by rfl)) (by rfl) (by first|exact .inl rfl|exact .inr rfl|assumption)) (@A4 _ _ _ _ _ (@Al _ _ (4) _ _ _ _ DY.nd rfl (.inl rfl) (@B9 _ _ _ _ _ _ _ _ _ _ _ _ DN IX IY GW Ar (@A0 _ _ _ _ _ (@DZ _ _ _ _ _ _ _ ["_law_x","_law_letters"] [none,some 2] _ _ _ _ (by rfl) (@Dv _ _ _ _ (@Di _ _ _ _ _ _ _ _ _ _ Fv (pv 3) (@Cz _ _ _ A2) E7)) VU (fun _ _ _ _ _ _=>⟨(Bz (i:=0) Th rfl (.inl rfl)),@Eh _,(@Ag _ _ _ _ _ _ _ EB (pv 1) (@A9 _ _ _ _ _ _ _ _ Bq (pv 0) A2) (fun _ _=>rfl))⟩) (by intro _;rfl)) A1 (by rfl)) (by rfl) (by rfl) (by rfl) (by rfl) (by rfl)) (by rfl) (by first|exact .inl rfl|exact .inr rfl|assumption)) (@A4 _ _ _ _ _ (@AK _ _ _ _ _ _ _ _ (@Au _ _ _ _ _ _ _ _ Bv (@A9 _ _ _ _ _ _ _ _ Bq (@A9 _ _ _ _ _ _ _ _ CA (@Ag _ _ _ _ _ _ _ AX (pv 3) A2 (fun _ _=>rfl)) A2) A2) A2 (@Av _ _ (by decide) (by decide))) (@Aa _ _ _ (@Al _ _ (4) _ _ _ _ DY.nd rfl (.inl rfl) (@Di _ _ _ _ _ _ _ _ _ _ FC (@A9 _ _ _ _ _ _ _ _ Bk (@Ag _ _ _ _ _ _ _ AX (@NR _ _ _ _ (@Bf _ _ _ _ _ Ar (@Bf _ _ _ _ _ Ar (@Bf _ _ _ _ _ Ar E6 DI) DI) DI)) (@A9 _ _ _ _ _ _ _ _ Bq (@A9 _ _ _ _ _ _ _ _ CA (@Ag _ _ _ _ _ _ _ AX (pv 3) A2 (fun _ _=>rfl)) A2) A2) (fun _ _=>rfl)) (pv 4)) E7 (@Cz _ _ _ A2)) (by rfl) (by first|exact .inl rfl|exact .inr rfl|assumption))) AU) (@A4 _ _ _ _ _ (@Al _ _ (5) _ _ _ _ DY.nd rfl (.inl rfl) (@A9 _ _ _ _ _ _ _ _ C4 A2 (@A9 _ _ _ _ _ _ _ _ Bq (@Ag _ _ _ _ _ _ _ AX (pv 3) A2 (fun _ _=>rfl)) A2)) (by rfl) (by first|exact .inl rfl|exact .inr rfl|assumption)) (@A4 _ _ _ _ _ (@Al _ _ (6) _ _ _ _ DY.nd rfl (.inl rfl) (@A9 _ _ _ _ _ _ _ _ Bq (@A9 _ _ _ _ _ _ _ _ CA (@Ag _ _ _ _ _ _ _ AX (pv 3) A2 (fun _ _=>rfl)) A2) (pv 5)) (by rfl) (by first|exact .inl rfl|exact .inr rfl|assumption)) (@A4 _ _ _ _ _ (@Al _ _ (7) _ _ _ _ DY.nd rfl (.inl rfl) (@Bj _ _ _ _ A1) (by rfl) (by first|exact .inl rfl|exact .inr rfl|assumption)) (@A4 _ _ _ _ _ (@Ed _ _ _ _ _ _ _ _ PassesOwn.never rfl (@Kh _ _ _ _ _ _ (by rfl) T.z_range (@A0 _ _ _ _ _ (pv 1) A1 (by rfl)) (by rfl)) (Bz (i:=8) DY.nd rfl (.inl rfl)) (@A4 _ _ _ _ _ (@Al _ _ (9) _ _ _ _ DY.nd rfl (.inl rfl) (@Ag _ _ _ _ _ _ _ EB (pv 2) (@A9 _ _ _ _ _ _ _ _ Bq (@A9 _ _ _ _ _ _ _ _ C4 (@Ag _ _ _ _ _ _ _ AX (pv 3) (@A9 _ _ _ _ _ _ _ _ C4 A2 (pv 6)) (fun _ _=>rfl)) (pv 8)) A2) (fun _ _=>rfl)) (by rfl) (by first|exact .inl rfl|exact .inr rfl|assumption)) (@A4 _ _ _ _ _ (@Al _ _ (10) _ _ _ _ DY.nd rfl (.inl rfl) (@A9 _ _ _ _ _ _ _ _ Bk (@A9 _ _ _ _ _ _ _ _ Bk (@Di _ _ _ _ _ _ _ _ _ _ FC (pv 4) E7 (@Cz _ _ _ (pv 6))) (pv 9)) (@Di _ _ _ _ _ _ _ _ _ _ FC (pv 4) (@Cz _ _ _ (@A9 _ _ _ _ _ _ _ _ C4 (pv 6) A2)) (@Cz _ _ _ (pv 5)))) (by rfl) (by first|exact .inl rfl|exact .inr rfl|assumption)) (@A4 _ _ _ _ _ (@AK _ _ _ _ _ _ _ _ (@Au _ _ _ _ _ _ _ _ Bv (@A9 _ _ _ _ _ _ _ _ Bq (@Ag _ _ _ _ _ _ _ AX (pv 3) A2 (fun _ _=>rfl)) A2) A2 (@Av _ _ (by decide) (by decide))) (@Aa _ _ _ (@Al _ _ (10) _ _ _ _ DY.nd rfl (.inl rfl) (@Di _ _ _ _ _ _ _ _ _ _ FC (pv 4) E7 (@Cz _ _ _ (@A9 _ _ _ _ _ _ _ _ C4 A2 (@A9 _ _ _ _ _ _ _ _ Bq (@A9 _ _ _ _ _ _ _ _ C4 (pv 5) (@A9 _ _ _ _ _ _ _ _ FE A2 (pv 8))) A2)))) (by rfl) (by first|exact .inl rfl|exact .inr rfl|assumption))) AU) (@A4 _ _ _ _ _ (@AK _ _ _ _ _ _ _ _ (@Au _ _ _ _ _ _ _ _ Hb (pv 10) (@Er _ _ _ _ _ (@Bf _ _ _ _ _ Ar (@Bf _ _ _ _ _ Ar (@Bf _ _ _ _ _ Ar E6 DI) DI) DI)) (by with_unfolding_all rfl)) (@Aa _ _ _ (@Al _ _ (10) _ _ _ _ DY.nd rfl (.inl rfl) (@A9 _ _ _ _ _ _ _ _ Bk Ar (pv 10)) (by rfl) (by first|exact .inl rfl|exact .inr rfl|assumption))) AU) (@Aa _ _ _ (@Bp _ _ _ _ (@B9 _ _ _ _ _ _ _ _ _ _ _ _ Bh BS BU BM (pv 7) (@A0 _ _ _ _ _ (pv 10) A1 (by rfl)) (by rfl) (by rfl) (by rfl) (by rfl) (by rfl)) (by rfl))))))) (by intro _;rfl)) (@Aa _ _ _ (@Aq _ _ _ _ (pv 7))))))))))),?_⟩
 refine⟨_,rfl,c,10,rfl,by decide,by decide,fun rx H1 s1 hx=>?_⟩
 rw[show(10:Int).toNat=10 from rfl]at hx
 generalize hxs:Ez c 10=xs at hx
 have xl:xs.length=10:=by rw[←hxs,GU]
 have xl':(xs.map V.int).length=10:=by rw[An,xl]
 have xm:∀y∈xs,0<=y/\y<2147483647:=fun y hy=>Ip (hxs▸hy)
 have atx:∀k:Nat,k<10->Bu (xs.map V.int) ((k:Nat):Int)=some (.int (xs.getD k 0)):=fun k hk=>by
  have:=EY (ns:=xs) (k:=((k:Nat):Int)) (by omega) (by omega)
  exact this
 refine⟨rfl,_,rfl,_,rfl,rx,_,rfl,A3.of hx,fun p2 hp2=>?_⟩
 have hx2:(upd H1 p2 (.lst (De (xs.map V.int) (some 2) none))) rx=some (.lst (xs.map V.int)):=by rw[A8 (AC hx hp2)];exact hx
 have cut2:De (xs.map V.int) (some 2) none=(xs.drop 2).map V.int:=by
  have:=O9 (xs.map V.int) (i:=2) (by decide)
  rw[List.map_drop]
  exact this
 rw[cut2]at hx2 ⊢
 refine⟨p2,rfl,⟨_,A3.of A6⟩,?_⟩
 refine Hc (xs:=(xs.drop 2).map V.int) (fun i ys H'=>H'=upd H1 p2 (.lst ((xs.drop 2).map V.int))/\ys=((xs.drop 2).take i).map fun x=>V.str ⟨#[DB x]⟩) ⟨rfl,by simp⟩ (Ai (by rw[An,C5];omega)) (fun i ys H' hi p=>?_) (fun i x ys H' hc p=>?_) (fun ys H' p r hr'=>?_)
 .obtain⟨rfl,rfl⟩:=p
  exact⟨A3.of A6,by rw[An,Bt];omega⟩
 .obtain⟨rfl,rfl⟩:=p
  rw[Dm]at hc
  cases hy:(xs.drop 2)[i]? with
  |none=>rw[hy]at hc;cases hc
  |
   some y=>
   rw[hy]at hc
   cases hc
   refine⟨_,rfl,_,rfl,_,_,rfl,rfl,(by show(0:Int)<26;decide),_,_,_,rfl,rfl,Pb,PQ y,rfl,?_⟩
   rw[Du hy,AZ]
   rfl
 obtain⟨rfl,rfl⟩:=p
 have full:((xs.drop 2).take ((xs.drop 2).map V.int).length)=xs.drop 2:=by rw[An,Eo]
 rw[full]
 have e3:A7 H1 (upd (upd H1 p2 (.lst ((xs.drop 2).map V.int))) r (.lst ((xs.drop 2).map fun x=>V.str ⟨#[DB x]⟩))):=(Ac hp2 _).trans (Ac hr' _)
 generalize hH3:upd (upd H1 p2 (.lst ((xs.drop 2).map V.int))) r (.lst ((xs.drop 2).map fun x=>V.str ⟨#[DB x]⟩))=H3 at e3
 have hr3:H3 r=some (.lst (((xs.drop 2).map fun x=>(⟨#[DB x]⟩:Str)).map V.str)):=by rw[←hH3,A6,IV];rfl
 have ew:Txt.join "" ((xs.drop 2).map fun x=>(⟨#[DB x]⟩:Str))=AB (Fd xs):=CN (by
  rw[L8,B6]
  unfold Fd
  generalize xs.drop 2=l
  induction l with
  |nil=>rfl
  |
   cons y l ih=>
   rw[BN,BN,N0,ih]
   rfl)
 refine⟨_,r,_,rfl,rfl,.inl (A3.of hr3),?_,?_⟩
 .have:∀l:List Int,((l.map fun x=>(⟨#[DB x]⟩:Str)).map (·.length)).sum=l.length:=fun l=>by
   induction l with
   |nil=>rfl
   |cons y l ih=>rw[BN,BN,KS,ih];show 1+l.length=l.length+1;omega
  rw[this,An,C5,xl]
  show 10-2+(10-2)*(Str.ofString "").length<=16777216
  decide +kernel
 rw[ew]
 have hx3:=e3 _ _ hx
 have wl:(Fd xs).length=8:=WQ xl
 have wb:∀c∈Fd xs,97<=c/\c<=122:=Rd.nameW_abc xs
 generalize Fd xs=wd at wl wb
 obtain⟨lb0,lb1⟩:=IE xs
 obtain⟨ab0,ab1⟩:=Kf xs
 dsimp only[Am]
 refine DU (fun σ' H'=>A7 H1 H'/\∃wd:List Nat,wd.length=8/\(∀c∈wd,97<=c/\c<=122)/\σ'=[some (.int c),some (.int 8),some (.str Eu),some (.ref rx),some (.str (AB wd)),none,none,none,none,none,none]) (fun σ' H4 pp=>?_) (fun nx=>?_)
 rotate_left
 .refine⟨_,rfl,rx,_,_,_,rfl,rfl,A3.of hx3,atx 0 (by decide),_,_,rfl,rfl,⟨by decide,by decide⟩,_,_,rfl,rfl,(by show(0:Int)<8;decide),rfl,_,rfl,?_⟩
  refine AF (fun _=>?_) (fun _=>nx _ _ ⟨e3,wd,wl,wb,rfl⟩)
  refine⟨AE rfl,fun l3 hl3=>?_⟩
  have s4:=Ac hl3 (.lst [V.str "for",V.str "end",V.str "size"])
  have m0:=BY (xs.getD 0 0/16) (show(3:Int)≠0 by decide)
  have m1:=C9 (xs.getD 0 0/16) (show(0:Int)<3 by decide)
  obtain⟨rz,hrz,rl,rb⟩:∃rz:Str,Bu [V.str "for",V.str "end",V.str "size"] (xs.getD 0 0/16%3)=some (.str rz)/\rz.length<=4/\∀c∈cds rz,97<=c/\c<=122:=by
   generalize xs.getD 0 0/16%3=j at m0 m1
   have:j=0\/j=1\/j=2:=by omega
   rcases this with rfl|rfl|rfl
   .exact⟨"for",rfl,by decide +kernel,by decide +kernel⟩
   .exact⟨"end",rfl,by decide +kernel,by decide +kernel⟩
   .exact⟨"size",rfl,by decide +kernel,by decide +kernel⟩
  refine⟨_,rfl,rx,_,_,_,rfl,rfl,A3.of (s4 _ _ hx3),atx 0 (by decide),_,_,rfl,rfl,⟨by decide,by decide⟩,_,_,rfl,rfl,(by show(0:Int)<3;decide),l3,_,_,_,rfl,rfl,A3.of A6,hrz,_,rfl,_,_,rfl,rfl,Ai (by rw[D3];omega),_,rfl,_,rfl,Ai (by rw[P9,D3];omega),?_⟩
  refine nx _ _ ⟨e3.trans s4,_,?_,?_,rfl⟩
  .rw[Gp _ (by decide),Bt,AS,Ah,B6,wl]
   show min 8 _=8
   omega
  .rw[Gp _ (by decide)]
   intro c hc
   have hc:=G3 hc
   rw[AS,B6]at hc
   exact(Bl.mp hc).elim (rb c) (wb c)
 obtain⟨e4,wd,wl,wb,rfl⟩:=pp
 have hx4:=e4 _ _ hx
 refine⟨_,rfl,rx,_,_,_,rfl,rfl,A3.of hx4,atx 1 (by decide),_,_,rfl,rfl,(by show(0:Int)<8;decide),_,_,rfl,rfl,?_⟩
 refine⟨_,rfl,rx,_,_,_,rfl,rfl,A3.of hx4,atx 1 (by decide),_,_,rfl,rfl,⟨by decide,by decide⟩,_,rfl,_,_,rfl,rfl,(by show(0:Int)<1+xs.getD 1 0%8;exact lb0),?_⟩
 refine⟨AE rfl,fun l hl=>?_⟩
 have hl1:H1 l=none:=e4.free hl
 dsimp only[Am]
 refine⟨_,rfl,8,rfl,by decide,by decide,?_⟩
 have wz:(AB wd).length=8:=by rw[D3,wl]
 refine Mu (lo:=0) (n:=8) (fun i σ' H'=>∃(o1 o2 o3:Option V),σ'=[some (.int c),some (.int 8),some (.str Eu),some (.ref rx),some (.str (AB wd)),some (.int (Cj xs)),some (.int (CB xs)),some (.ref l),o1,o2,o3]/\A7 H1 H'/\H' l=some (.lst (((List.range i).map fun k:Nat=>AB (DD xs wd (k:Int))).map V.str))) ?_ (fun i σ' H' hi p=>?_) (fun σ' H' p=>?_)
 .exact⟨_,_,_,rfl,e4.trans (Ac hl _),A6⟩
 .obtain⟨o1,o2,o3,rfl,hs,hH⟩:=p
  have hxx:=hs _ _ hx
  refine⟨_,rfl,_,rfl,_,rfl,_,_,rfl,rfl,rx,_,_,(.int (xs.getD (2+CB xs).toNat 0)),rfl,rfl,A3.of hxx,EY (by omega) (by omega),_,rfl,_,_,rfl,rfl,_,_,rfl,rfl,(by show(0:Int)<26;decide),_,_,_,rfl,rfl,Pb,PQ _,?_⟩
  refine⟨_,rfl,_,rfl,_,rfl,_,rfl,Ai (by omega),_,rfl,_,_,rfl,rfl,?_,?_⟩
  .rw[D3,B6,Gp _ ab0]
   exact Ai (by rw[Bt];show _+1<=1000000;omega)
  refine⟨_,rfl,_,rfl,_,_,rfl,rfl,_,rfl,_,rfl,_,rfl,_,rfl,Ai (by omega),?_⟩
  have e0:(0:Int)+(i:Int)=(i:Int):=by omega
  rw[B6,Gp _ ab0,Lc _ (by omega) (by omega) (by omega) (by omega),e0]
  have eA:AB (wd.take (CB xs).toNat)++(⟨#[DB (xs.getD (2+CB xs).toNat 0+(i:Int))]⟩:Str)++AB ((wd.drop (CB xs+1).toNat).take ((Cj xs).toNat-(CB xs+1).toNat))=AB (Gw xs wd (i:Int)):=
   CN (by rw[AS,AS,B6,B6,B6];rfl)
  refine⟨_,_,rfl,rfl,?_,?_⟩
  .rw[P9,D3,D3,Bt,Bt,C5]
   exact Ai (by show _+1+_<=1000000;omega)
  rw[eA]
  dsimp only[Am]
  refine DU (fun σ2 H2=>H2=H'/\∃(o1 o2:Option V),σ2=[some (.int c),some (.int 8),some (.str Eu),some (.ref rx),some (.str (AB wd)),some (.int (Cj xs)),some (.int (CB xs)),some (.ref l),o1,o2,some (.str (AB (BD xs wd (i:Int))))]) (fun σ2 H2 m=>?_) (fun rest=>?_)
  .obtain⟨rfl,o4,o5,rfl⟩:=m
   refine DU (fun σ3 H3'=>A7 H2 H3'/\∃(o1 o2:Option V),σ3=[some (.int c),some (.int 8),some (.str Eu),some (.ref rx),some (.str (AB wd)),some (.int (Cj xs)),some (.int (CB xs)),some (.ref l),o1,o2,some (.str (AB (DD xs wd (i:Int))))]) (fun σ3 H3' m=>?_) (fun rest=>?_)
   .obtain⟨hs3,o6,o7,rfl⟩:=m
    have hl3:=hs3 _ _ hH
    refine⟨_,rfl,.inl ⟨rfl,_,A3.of hl3⟩,_,rfl,l,_,_,rfl,rfl,hl3,BK (by rw[An,An,Nb];omega),_,_,_,rfl,?_,?_⟩
    .exact fun b o e=>by rw[A8 (AC e hl1)];exact hs3 _ _ (hs b o e)
    .rw[A6,List.range_succ,AZ,AZ]
     rfl
   .refine⟨_,rfl,AE rfl,fun tp htp=>?_⟩
    refine⟨tp,[.str "for",.str "end",.str "size"],rfl,.inr (Aw.of A6),rfl,rfl,_,rfl,?_⟩
    show if Do (V.str (AB (BD xs wd (i:Int)))) [.str "for",.str "end",.str "size"]=true then _ else _
    rw[Q8]
    have hlr:(BD xs wd (i:Int)).length<=10:=by
     have:=Xg wl (xs:=xs) (i:Int)
     unfold DD at this
     split at this
     .rw[Ah]at this;omega
     .exact this
    have hz2:(Str.ofString "zz").length=2:=by decide +kernel
    refine AF (fun cc=>?_) (fun cc=>?_)
    .have e:(Str.ofString "zz"++AB (BD xs wd (i:Int)))=AB (DD xs wd (i:Int)):=CN (by
      rw[AS,B6,B6]
      unfold DD
      rw[Af (dT cc)]
      congr 1)
     refine⟨_,rfl,_,_,rfl,rfl,Ai (by rw[D3,hz2];omega),?_⟩
     rw[e]
     exact rest _ _ ⟨Ac htp _,_,_,rfl⟩
    .have e:AB (BD xs wd (i:Int))=AB (DD xs wd (i:Int)):=by
      unfold DD
      rw[Ab (dF cc)]
     rw[e]
     exact rest _ _ ⟨Ac htp _,_,_,rfl⟩
  .refine⟨_,rfl,rx,_,_,_,rfl,rfl,A3.of hxx,atx 0 (by decide),_,_,rfl,rfl,(by show(0:Int)<2;decide),rfl,_,rfl,?_⟩
   have key:(V.int (xs.getD 0 0%2)=V.int 0)↔xs.getD 0 0%2=0:=⟨fun e=>V.int.inj e,fun e=>by rw[e]⟩
   refine AF (fun cc=>?_) (fun cc=>?_)
   .have c2:=key.mp (dT cc)
    refine⟨_,rfl,_,rfl,_,rfl,_,_,rfl,rfl,.inl ⟨by decide,by decide⟩,_,_,rfl,rfl,_,_,rfl,rfl,(by show(0:Int)<8;decide),_,_,rfl,rfl,_,rfl,_,rfl,Ai (by omega),?_⟩
    have b0:=BY (Cj xs+3*(i:Int)) (show(8:Int)≠0 by decide)
    have e:AB (Ck (cds (AB wd)) none (some (1+(Cj xs+3*(i:Int))%8)))=AB (BD xs wd (i:Int)):=by
     rw[B6,Gp _ (by omega)]
     unfold BD
     rw[Af c2]
     unfold Hq
     rfl
    exact rest _ _ ⟨rfl,_,_,congrArg (fun z=>[some (V.int c),some (V.int 8),some (V.str Eu),some (V.ref rx),some (V.str (AB wd)),some (V.int (Cj xs)),some (V.int (CB xs)),some (V.ref l),_,_,some (V.str z)]) e⟩
   .have c2:=fun z=>dF cc (key.mpr z)
    have e:AB (Gw xs wd (i:Int))=AB (BD xs wd (i:Int)):=by
     unfold BD
     rw[Ab c2]
    exact rest _ _ ⟨rfl,_,_,congrArg (fun z=>[some (V.int c),some (V.int 8),some (V.str Eu),some (V.ref rx),some (V.str (AB wd)),some (V.int (Cj xs)),some (V.int (CB xs)),some (V.ref l),_,_,some (V.str z)]) e⟩
 .obtain⟨o1,o2,o3,rfl,hs,hH⟩:=p
  refine⟨_,rfl,q l H' _ (s1.trans hs) ⟨hH,by rw[An,Nb],VS wl,fun z hz=>?_⟩⟩
  obtain⟨k,_,rfl⟩:=CK.mp hz
  rw[B6]
  exact Rd.nameC_ok wl wb (k:Int)
theorem PV (T:Tx w K mg a):AI P w K mg base AO 1 a.f_s a.d_s ["_law_cell_here","_law_far"] RT:=by
 refine T.F_s.ok WL (fun vs H Q E h=>?_) (fun cdv A outer s H vs Q E hr h=>?_)
 .obtain⟨_,_,rfl,_⟩:=h;rfl
 obtain⟨c,far,rfl,h0,h1,q⟩:=h
 refine⟨_,(@A4 _ _ _ _ _ (@AK _ _ _ _ _ _ _ _ (@Au _ _ _ _ _ _ _ _ Bv (@A9 _ _ _ _ _ _ _ _ Bq (pv 0) A2) A2 (@Av _ _ (by decide) (by decide))) (@Aa _ _ _ (@Aq _ _ _ _ (@A9 _ _ _ _ _ _ _ _ FF (@A9 _ _ _ _ _ _ _ _ Bq (@A9 _ _ _ _ _ _ _ _ CA (pv 0) A2) A2) A2))) AU) (@Aa _ _ _ (@Aq _ _ _ _ (@A9 _ _ _ _ _ _ _ _ FF (@A9 _ _ _ _ _ _ _ _ Bq (@A9 _ _ _ _ _ _ _ _ CA (pv 0) A2) (@A9 _ _ _ _ _ _ _ _ C4 (@A9 _ _ _ _ _ _ _ _ FE A2 (pv 1)) A2)) (pv 1))))),?_⟩
 have key:(V.int (c%3)=V.int 0)↔c%3=0:=⟨fun e=>V.int.inj e,fun e=>by rw[e]⟩
 refine⟨_,rfl,_,_,rfl,rfl,(by show(0:Int)<3;decide),rfl,_,rfl,?_⟩
 refine AF (fun cc=>?_) (fun cc=>?_)
 .refine⟨_,rfl,_,_,rfl,rfl,⟨by decide,by decide⟩,_,_,rfl,rfl,(by show(0:Int)<7;decide),_,_,rfl,rfl,?_⟩
  unfold FQ at q
  rw[Af (key.mp (dT cc))]at q
  exact q
 .refine⟨_,rfl,_,_,rfl,rfl,⟨by decide,by decide⟩,_,rfl,_,_,rfl,rfl,.inl ⟨by decide,by decide⟩,_,_,rfl,rfl,_,_,rfl,rfl,(by show(0:Int)<2*far+1;omega),_,rfl,_,_,rfl,rfl,?_⟩
  unfold FQ at q
  rw[Ab (fun z=>dF cc (key.mpr z))]at q
  exact q
theorem OE (T:Tx w K mg a):AI P w K mg base AO 1 a.f_f a.d_f ["_law_spot_here"] NZ:=by
 refine T.F_f.ok TF (fun vs H Q E h=>?_) (fun cdv A outer s H vs Q E hr h=>?_)
 .obtain⟨_,_,rfl,_⟩:=h;rfl
 obtain⟨x,s,rfl,⟨t,rfl,ht⟩,⟨b0,b1,b2⟩,q⟩:=h
 refine⟨_,(@A4 _ _ _ _ _ (@AK _ _ _ _ _ _ _ _ (@Au _ _ _ _ _ _ _ _ Bv (@Ag _ _ _ _ _ _ _ B4 (pv 0) A2 (fun _ _=>rfl)) Ar (@Av _ _ (by decide) (by decide))) (@Aa _ _ _ (@Aq _ _ _ _ (@D7 _ _ _ _ _ _ _ _ _ Gk (by rfl) T.z_str Gn (@A0 _ _ _ _ _ (@Ag _ _ _ _ _ _ _ B4 (pv 0) A2 (fun _ _=>rfl)) A1 (by rfl)) (by decide) (by decide) (by rfl) (by rfl)))) AU) (@A4 _ _ _ _ _ (@AK _ _ _ _ _ _ _ _ (@Au _ _ _ _ _ _ _ _ Bv (@Ag _ _ _ _ _ _ _ B4 (pv 0) A2 (fun _ _=>rfl)) A2 (@Av _ _ (by decide) (by decide))) (@Aa _ _ _ (@Aq _ _ _ _ (@Ag _ _ _ _ _ _ _ B4 (pv 0) A2 (fun _ _=>rfl)))) AU) (@Aa _ _ _ (@Aq _ _ _ _ (@A9 _ _ _ _ _ _ _ _ Bk (@A9 _ _ _ _ _ _ _ _ Bk (@Ag _ _ _ _ _ _ _ B4 (pv 0) A2 (fun _ _=>rfl)) (@Ag _ _ _ _ _ _ _ EB Ar (@D7 _ _ _ _ _ _ _ _ _ NN (by rfl) T.z_int LP (@A0 _ _ _ _ _ (@DS _ _ _ _ _ _ _ _ Ey (@Ag _ _ _ _ _ _ _ B4 (pv 0) A2 (fun _ _=>rfl)) A2 (@Av _ _ (by decide) (by decide))) A1 (by rfl)) (by decide) (by decide) (by rfl) (by rfl)) (fun _ _=>rfl))) (@D7 _ _ _ _ _ _ _ _ _ Gk (by rfl) T.z_str Gn (@A0 _ _ _ _ _ (@Bb _ _ _ _ _ _ _ _ _ NQ (by rfl) T.z_abs OJ (@A0 _ _ _ _ _ (@Ag _ _ _ _ _ _ _ B4 (pv 0) A2 (fun _ _=>rfl)) A1 (by rfl)) (by decide) (by decide) (by rfl) (by rfl)) A1 (by rfl)) (by decide) (by decide) (by rfl) (by rfl))))))),?_⟩
 refine⟨_,rfl,t,_,0,_,rfl,rfl,Aw.of ht,rfl,rfl,_,rfl,?_⟩
 by_cases c1:s.1=""
 .unfold B5 at q
  rw[Af c1]at q
  refine CM (v:=true) (B1 (congrArg V.str c1)) (Bm ?_)
  exact⟨_,rfl,t,_,1,_,rfl,rfl,Aw.of ht,rfl,_,rfl,ES b1 b2,q⟩
 refine CM (v:=false) (dS c1) (Ay ?_)
 refine⟨_,rfl,t,_,1,_,rfl,rfl,Aw.of ht,rfl,rfl,_,rfl,?_⟩
 by_cases c2:s.2=0
 .unfold B5 at q
  rw[Ab c1,Af c2]at q
  refine CM (v:=true) (B1 (congrArg V.int c2)) (Bm ?_)
  exact⟨_,rfl,t,_,0,_,rfl,rfl,Aw.of ht,rfl,q⟩
 refine CM (v:=false) (Bo fun z=>c2 (V.int.inj z)) (Ay ?_)
 rw[RP c1 c2]at q
 have nl:=FR (i:=if s.2<0 then -s.2 else s.2) (by split<;>omega) (by split<;>omega)
 unfold nS at nl q
 have lg:=ES (i:=if s.2<0 then -s.2 else s.2) (by split<;>omega) (by split<;>omega)
 have a1:Bu (cds (Str.ofString "+-")) (if decide (s.2<0)=true then 1 else 0)=some (if s.2<0 then 45 else 43):=by
  by_cases c:s.2<0
  .rw[Af c,Af (B1 c)];decide +kernel
  .rw[Ab c,Ab (fun z=>c (L5 z))];decide +kernel
 have a2:(⟨#[if s.2<0 then 45 else 43]⟩:Str)=if s.2<0 then("-":Str) else"+":=by
  by_cases c:s.2<0
  .rw[Af c,Af c];decide +kernel
  .rw[Ab c,Ab c];decide +kernel
 have a3:(⟨#[if s.2<0 then 45 else 43]⟩:Str).length=1:=rfl
 rw[←a2]at q
 refine⟨_,rfl,t,_,0,_,rfl,rfl,Aw.of ht,rfl,_,rfl,t,_,1,_,rfl,rfl,Aw.of ht,rfl,_,_,rfl,rfl,.inr ⟨_,rfl,_,_,_,rfl,rfl,(by decide +kernel),a1,_,_,rfl,rfl,Ai (by omega),?_⟩⟩
 exact⟨_,rfl,t,_,1,_,rfl,rfl,Aw.of ht,rfl,_,rfl,_,rfl,lg,_,_,rfl,rfl,Ai (by rw[Ax];omega),q⟩
theorem Q4 (T:Tx w K mg a):AI P w K mg base AO 2 a.f_g a.d_g ["_law_one","_law_other","_law_known"] Rd.spSpot23:=by
 have G_s :=@PV P w K mg base a T
 refine T.F_g.ok LI (fun vs H Q E h=>?_) (fun cdv A outer s H vs Q E hr h=>?_)
 .obtain⟨_,_,_,_,rfl,_⟩:=h;rfl
 obtain⟨x,y,kl,nms,rfl,x0,x1,y0,y1,hk,q⟩:=h
 refine⟨_,(@A4 _ _ _ _ _ (@Al _ _ (3) _ _ _ _ LI.nd rfl (.inl rfl) (@As _ _ _ _ _ _ _ _ _ _ _ _ _ _ _ _ G_s (hr.mono (by omega)) (by rfl) T.m_s T.F_s.kp T.b_s .nil Ap (@A0 _ _ _ _ _ (@A9 _ _ _ _ _ _ _ _ FE (@A9 _ _ _ _ _ _ _ _ FE (pv 0) (pv 1)) A2) (@A0 _ _ _ _ _ (@A9 _ _ _ _ _ _ _ _ FF (@A9 _ _ _ _ _ _ _ _ Mi A2 A2) A2) A1 (by rfl)) (by rfl)) (by decide) (by rfl) (by rfl)) (by rfl) (by first|exact .inl rfl|exact .inr rfl|assumption)) (@A4 _ _ _ _ _ (@AK _ _ _ _ _ _ _ _ (@Au _ _ _ _ _ _ _ _ Bv (@A9 _ _ _ _ _ _ _ _ Bq (pv 1) A2) A2 (@Av _ _ (by decide) (by decide))) (@Aa _ _ _ (@Al _ _ (3) _ _ _ _ LI.nd rfl (.inl rfl) A2 (by rfl) (by first|exact .inl rfl|exact .inr rfl|assumption))) AU) (@Aa _ _ _ (@Aq _ _ _ _ (@CQ _ _ _ _ _ (@A0 _ _ _ _ _ (@Ag _ _ _ _ _ _ _ AX (pv 2) (@A9 _ _ _ _ _ _ _ _ Bq (pv 0) (@Bb _ _ _ _ _ _ _ _ _ C6 (by rfl) T.z_len BJ (@A0 _ _ _ _ _ (pv 2) A1 (by rfl)) (by decide) (by decide) (by rfl) (by rfl))) (fun _ _=>rfl)) (@A0 _ _ _ _ _ (pv 3) A1 (by rfl)) (by rfl))))))),?_⟩
 have bx : -(2 ^ 64:Int)<x/\x<2 ^ 64:=⟨by omega,by omega⟩
 have bxy : -(2 ^ 64:Int)<x*y/\x*y<2 ^ 64:=by
  have h1:x*y<=2147483647*2147483647:=Int.mul_le_mul (by omega) (by omega) y0 (by decide)
  have h2:=Int.mul_nonneg x0 y0
  exact⟨by omega,by omega⟩
 refine⟨_,rfl,_,rfl,_,_,rfl,rfl,.inl bx,_,_,rfl,rfl,.inl bxy,_,_,rfl,rfl,⟨by decide,by decide,by decide⟩,_,_,rfl,rfl,_,_,rfl,(by decide),(by decide),?_⟩
 have nb:=Po (x*y*7) (far:=10 ^ (18:Int).toNat-1) (by decide)
 dsimp only[Am]
 generalize FQ _ _=nn at nb ⊢
 refine DU (fun σ' H'=>H'=H/\∃n:Int,-999999999999999999<=n/\n<=999999999999999999/\σ'=[some (.int x),some (.int y),some (.ref kl),some (.int n)]) (fun σ' H' pp=>?_) (fun nx=>?_)
 .obtain⟨rfl,n,n0,n1,rfl⟩:=pp
  have lm:(((((("":Str)::nms).map V.str).length:Nat):Int))=((("":Str)::nms).length:Int):=by rw[An]
  have lp:(0:Int)<((("":Str)::nms).length:Int):=by rw[AQ];omega
  have f0:=BY x (show(((("":Str)::nms).map V.str).length:Int)≠0 by omega)
  have f1:=C9 x (show(0:Int)<(((("":Str)::nms).map V.str).length:Int) by omega)
  obtain⟨z,hz,hzi⟩:=Rd.strs_at (zs:=("":Str)::nms) f0 (by omega)
  have hzm:=C8 hzi
  refine⟨_,rfl,_,rfl,_,rfl,kl,_,rfl,.inl (A3.of hk.1),_,_,rfl,rfl,(by show(0:Int)<(((("":Str)::nms).map V.str).length:Int);omega),kl,_,_,_,rfl,rfl,A3.of hk.1,hz,_,rfl,AE rfl,fun r hr'=>?_⟩
  exact q _ _ (z,n) (Ac hr' _) ⟨r,rfl,A6⟩ (Rd.spn_of hk.2.2 hzm n0 n1).1 (Rd.spn_of hk.2.2 hzm n0 n1).2
 .refine⟨_,rfl,_,_,rfl,rfl,(by show(0:Int)<4;decide),rfl,_,rfl,?_⟩
  refine AF (fun _=>nx _ _ ⟨rfl,0,by decide,by decide,rfl⟩) (fun _=>nx _ _ ⟨rfl,nn,nb.1,nb.2,rfl⟩)
theorem Oh (T:Tx w K mg a):AI P w K mg base AO 3 a.f_t a.d_t ["_law_xs","_law_known","_law_names_here"] Rd.spCell23:=by
 have G_g :=@Q4 P w K mg base a T
 have G_f :=@OE P w K mg base a T
 refine T.F_t.ok JD (fun vs H Q E h=>?_) (fun cdv A outer s H vs Q E hr h=>?_)
 .obtain⟨_,_,_,_,_,_,rfl,_⟩:=h;rfl
 obtain⟨rx,kl,nl,xs,nms,ns,rfl,hx,xl,xm,hk,hn,q⟩:=h
 refine⟨_,(@A4 _ _ _ _ _ (@Al _ _ (3) _ _ _ _ JD.nd rfl (.inl rfl) (@A9 _ _ _ _ _ _ _ _ C4 A2 (@A9 _ _ _ _ _ _ _ _ Bq (@Ag _ _ _ _ _ _ _ AX (pv 0) A2 (fun _ _=>rfl)) A2)) (by rfl) (by first|exact .inl rfl|exact .inr rfl|assumption)) (@A4 _ _ _ _ _ (@Al _ _ (4) _ _ _ _ JD.nd rfl (.inl rfl) (@Ag _ _ _ _ _ _ _ AX (pv 2) (@A9 _ _ _ _ _ _ _ _ C4 (@A9 _ _ _ _ _ _ _ _ FF (@A9 _ _ _ _ _ _ _ _ FE A2 (pv 3)) A2) (@A9 _ _ _ _ _ _ _ _ Bq (@A9 _ _ _ _ _ _ _ _ CA (@Ag _ _ _ _ _ _ _ AX (pv 0) A2 (fun _ _=>rfl)) A2) A2)) (fun _ _=>rfl)) (by rfl) (by first|exact .inl rfl|exact .inr rfl|assumption)) (@A4 _ _ _ _ _ (@Al _ _ (5) _ _ _ _ JD.nd rfl (.inl rfl) (@D7 _ _ _ _ _ _ _ _ _ Gu (by rfl) T.z_tuple Gf (@A0 _ _ _ _ _ (@DZ _ _ _ _ _ _ _ ["_law_k","_law_known","_law_xs"] [none,some 1,some 0] _ _ _ _ (by rfl) (@Kh _ _ _ _ _ _ (by rfl) T.z_range (@A0 _ _ _ _ _ (pv 3) A1 (by rfl)) (by rfl)) RD (fun _ _ _ _ _ _=>⟨(Bz (i:=0) WN rfl (.inl rfl)),@Eh _,(@As _ _ _ _ _ _ _ _ _ _ _ _ _ _ _ _ G_g (hr.mono (by omega)) (by rfl) T.m_g T.F_g.kp T.b_g .nil Ap (@A0 _ _ _ _ _ (@Ag _ _ _ _ _ _ _ (show EM _ (Lz K) from AX) (pv 2) (@A9 _ _ _ _ _ _ _ _ C4 A2 (pv 0)) (fun _ _=>rfl)) (@A0 _ _ _ _ _ (@Ag _ _ _ _ _ _ _ (show EM _ (Lz K) from AX) (pv 2) (@A9 _ _ _ _ _ _ _ _ C4 A2 (pv 0)) (fun _ _=>rfl)) (@A0 _ _ _ _ _ (pv 1) A1 (by rfl)) (by rfl)) (by rfl)) (by decide) (by rfl) (by rfl))⟩) (by intro _;rfl)) A1 (by rfl)) (by decide) (by decide) (by rfl) (by rfl)) (by rfl) (by first|exact .inl rfl|exact .inr rfl|assumption)) (@Aa _ _ _ (@Aq _ _ _ _ (@Er _ _ _ _ _ (@Bf _ _ _ _ _ (pv 4) (@Bf _ _ _ _ _ (pv 5) (@Bf _ _ _ _ _ (@A9 _ _ _ _ _ _ _ _ Bk (pv 4) (@B9 _ _ _ _ _ _ _ _ _ _ _ _ DN IX IY GW Ar (@A0 _ _ _ _ _ (@DZ _ _ _ _ _ _ _ ["_law_spot_here"] [none] _ _ _ _ (by rfl) (@Kg _ _ _ _ (pv 5)) SR (fun _ _ _ _ _ _=>⟨(Bz (i:=0) RH rfl (.inl rfl)),@Eh _,(@A9 _ _ _ _ _ _ _ _ Bk (@A9 _ _ _ _ _ _ _ _ Bk Ar (@As _ _ _ _ _ _ _ _ _ _ _ _ _ _ _ _ G_f (hr.mono (by omega)) (by rfl) T.m_f T.F_f.kp T.b_f .nil Ap (@A0 _ _ _ _ _ (pv 0) A1 (by rfl)) (by decide) (by rfl) (by rfl))) Ar)⟩) (by intro _;rfl)) A1 (by rfl)) (by rfl) (by rfl) (by rfl) (by rfl) (by rfl))) E6 Mx) Fc) Fc))))))),?_⟩
 have atx:∀k:Nat,k<5->Bu (xs.map V.int) ((k:Nat):Int)=some (.int (xs.getD k 0)):=fun k hk=>EY (ns:=xs) (k:=((k:Nat):Int)) (by omega) (by omega)
 have xb:∀k:Nat,k<5->0<=xs.getD k 0/\xs.getD k 0<2147483647:=fun k hk=>by
  have hm:xs.getD k 0∈xs:=by rw[CZ,BB (by omega)];exact F6 _
  exact xm _ hm
 refine⟨_,rfl,rx,_,_,_,rfl,rfl,A3.of hx,atx 0 (by decide),_,_,rfl,rfl,(by show(0:Int)<3;decide),_,_,rfl,rfl,?_⟩
 dsimp only[Am]
 have m0:=BY (xs.getD 0 0) (show(3:Int)≠0 by decide)
 have m1:=C9 (xs.getD 0 0) (show(0:Int)<3 by decide)
 obtain⟨m,em⟩:∃m:Nat,1+xs.getD 0 0%3=(m:Int):=⟨(1+xs.getD 0 0%3).toNat,by omega⟩
 rw[em]
 have mb:1<=m/\m<=3:=by omega
 have f0:=BY (xs.getD 0 0/3) (show(2:Int)≠0 by decide)
 have f1:=C9 (xs.getD 0 0/3) (show(0:Int)<2 by decide)
 obtain⟨tz,htz,tzi⟩:=Rd.strs_at (zs:=ns) (i:=2*(m:Int)-1+xs.getD 0 0/3%2) (by omega) (by have:=hn.2.1;omega)
 have tok:=hn.2.2.2 tz (C8 tzi)
 have tl:tz.length<=20:=by have:=tok.2.1;rw[cds_len]at this;omega
 have tfz:Rd.tf ns tz=m:=by unfold Rd.tf;rw[Rd.idx_nodup hn.2.2.1 tzi];omega
 refine⟨_,rfl,_,rfl,_,_,rfl,rfl,.inl ⟨by decide,by decide⟩,_,_,rfl,rfl,_,rfl,rx,_,_,_,rfl,rfl,A3.of hx,atx 0 (by decide),_,_,rfl,rfl,⟨by decide,by decide⟩,_,_,rfl,rfl,(by show(0:Int)<2;decide),_,_,rfl,rfl,nl,_,_,_,rfl,rfl,A3.of hn.1,htz,?_⟩
 dsimp only[Am]
 refine⟨_,rfl,_,rfl,by omega,by omega,?_⟩
 rw[FW]
 refine WO (lo:=0) (n:=m) (fun i ys H'=>A7 H H'/\∃sp:List (Str×Int),AH (Cm H') ys sp/\sp.length=i/\∀s∈sp,Rd.SpN s/\Rd.knw nms s=true) ⟨A7.refl _,[],.nil,rfl,fun s hs=>by cases hs⟩ (Ai (by omega)) (fun i ys H' hi pp=>by obtain⟨_,sp,h,h2,_⟩:=pp;rw[h.1];omega) (fun i ys H' hi pp=>?_) (fun ys H1 pp r1 hr1=>?_)
 .obtain⟨e,sp,ay,sl,sb⟩:=pp
  have e0:1+(0+(i:Int))=((1+i:Nat):Int):=by omega
  have e1:2+(0+(i:Int))=((2+i:Nat):Int):=by omega
  refine⟨_,rfl,_,rfl,_,_,rfl,rfl,rx,_,_,_,rfl,rfl,A3.of (e _ _ hx),(by rw[e0];exact atx (1+i) (by omega)),_,rfl,_,rfl,_,_,rfl,rfl,rx,_,_,_,rfl,rfl,A3.of (e _ _ hx),(by rw[e1];exact atx (2+i) (by omega)),_,rfl,_,_,kl,nms,rfl,(xb _ (by omega)).1,(xb _ (by omega)).2,(xb _ (by omega)).1,(xb _ (by omega)).2,hk.over e,fun r H2 s e2 hs hb hkn=>?_⟩
  refine⟨e.trans e2,sp++[s],(ay.mono fun _ _ z=>z.tk (A7.tk e2)).snoc hs,by rw[Ah,sl];rfl,fun s' hs'=>?_⟩
  rcases Bl.mp hs' with c|c
  .exact sb s' c
  .rw[D8.mp c];exact⟨hb,hkn⟩
 obtain⟨e,sp,ay,sl,sb⟩:=pp
 refine⟨r1,_,rfl,.inl ⟨A3.of A6,fun p hp=>?_⟩⟩
 have s2:=(Ac hr1 (.lst ys)).trans (Ac hp (.tup ys))
 have hp2:(upd (upd H1 r1 (.lst ys)) p (.tup ys)) p=some (.tup ys):=A6
 dsimp only[Am]
 have eH:=e.trans s2
 have ay2:=ay.mono fun _ _ z=>z.tk (A7.tk s2)
 generalize upd (upd H1 r1 (.lst ys)) p (.tup ys)=H2 at s2 hp2 eH ay2
 have yl:=ay2.1
 refine⟨_,rfl,_,rfl,_,rfl,rfl,_,rfl,p,rfl,⟨_,Aw.of hp2⟩,?_⟩
 refine K9 (xs:=ys) (fun i zs H'=>H'=H2/\zs=((sp.take i).map D9).map V.str) ⟨rfl,rfl⟩ (Ai (by omega)) (fun i zs H' hi pp=>⟨by rw[pp.1];exact Aw.of hp2,by rw[pp.2,An,An,Bt];omega⟩) (fun i x zs H' hx pp=>?_) (fun zs H' pp r hr'=>?_)
 .obtain⟨rfl,rfl⟩:=pp
  obtain⟨s1,hs,hsp⟩:=ay2.get' hx
  have hb:=(sb s1 (C8 hs)).1.2
  have l1:=Eg hb
  have l2:("[":Str).length=1:=by decide +kernel
  have l3:("]":Str).length=1:=by decide +kernel
  refine⟨_,rfl,x,s1,rfl,hsp,hb,_,_,rfl,rfl,Ai (by omega),_,_,rfl,rfl,Ai (by rw[Ax];omega),rfl,?_⟩
  rw[Du hs,AZ,AZ]
  rfl
 obtain⟨rfl,rfl⟩:=pp
 rw[Fy (by omega)]
 have sb2:∀s∈sp,EA s:=fun s hs=>(sb s hs).1.2
 have hs:=LL (sp:=sp) (by omega) sb2
 have cl:=Fg (sp:=sp) tl (by omega) sb2
 unfold Ba at cl
 rw[Ax]at cl
 refine⟨_,r,_,rfl,rfl,.inl (A3.of A6),BI hs (by decide),_,_,rfl,rfl,Ai (by omega),AE rfl,fun t ht=>?_⟩
 have s3:=(Ac hr' (.lst ((sp.map D9).map V.str))).trans (Ac ht (.tup [V.str tz,V.ref p,V.str (tz++Txt.join "" (sp.map D9))]))
 exact q t p _ tz sp (eH.trans s3) A6 ⟨ys,s3 _ _ hp2,ay2.mono fun _ _ z=>z.tk (A7.tk s3)⟩ ⟨⟨tok,(fun z=>by rw[z]at sl;have:0=m:=sl;omega),by omega,fun s hs=>(sb s hs).1⟩,FY.mpr fun s hs=>(sb s hs).2,by show Rd.tf ns tz=sp.length;rw[tfz,sl]⟩
theorem XJ (T:Tx w K mg a):AI P w K mg base AO 4 a.f_x a.d_x ["_law_cell_here","_law_known","_law_names_here"] Rd.spLeaf23:=by
 have G_b :=@GT P w K mg base a T
 have G_s :=@PV P w K mg base a T
 have G_t :=@Oh P w K mg base a T
 refine T.F_x.ok Ij (fun vs H Q E h=>?_) (fun cdv A outer s H vs Q E hr h=>?_)
 .obtain⟨_,_,_,_,_,rfl,_⟩:=h;rfl
 obtain⟨c,kl,nl,nms,ns,rfl,hk,hn,q⟩:=h
 refine⟨_,(@A4 _ _ _ _ _ (@Al _ _ (3) _ _ _ _ Ij.nd rfl (.inl rfl) (@As _ _ _ _ _ _ _ _ _ _ _ _ _ _ _ _ G_b (hr.mono (by omega)) (by rfl) T.m_b T.F_b.kp T.b_b .nil Ap (@A0 _ _ _ _ _ (@A9 _ _ _ _ _ _ _ _ CA (pv 0) A2) (@A0 _ _ _ _ _ A2 A1 (by rfl)) (by rfl)) (by decide) (by rfl) (by rfl)) (by rfl) (by first|exact .inl rfl|exact .inr rfl|assumption)) (@A4 _ _ _ _ _ (@AK _ _ _ _ _ _ _ _ (@Au _ _ _ _ _ _ _ _ Bv (@A9 _ _ _ _ _ _ _ _ Bq (pv 0) A2) A2 (@Av _ _ (by decide) (by decide))) (@A4 _ _ _ _ _ (@Al _ _ (4) _ _ _ _ Ij.nd rfl (.inl rfl) (@Bb _ _ _ _ _ _ _ _ _ NQ (by rfl) T.z_abs OJ (@A0 _ _ _ _ _ (@As _ _ _ _ _ _ _ _ _ _ _ _ _ _ _ _ G_s (hr.mono (by omega)) (by rfl) T.m_s T.F_s.kp T.b_s .nil Ap (@A0 _ _ _ _ _ (@A9 _ _ _ _ _ _ _ _ FE (@Ag _ _ _ _ _ _ _ AX (pv 3) A2 (fun _ _=>rfl)) (@Ag _ _ _ _ _ _ _ AX (pv 3) A2 (fun _ _=>rfl))) (@A0 _ _ _ _ _ (@A9 _ _ _ _ _ _ _ _ FF (@A9 _ _ _ _ _ _ _ _ Mi A2 A2) A2) A1 (by rfl)) (by rfl)) (by decide) (by rfl) (by rfl)) A1 (by rfl)) (by decide) (by decide) (by rfl) (by rfl)) (by rfl) (by first|exact .inl rfl|exact .inr rfl|assumption)) (@Aa _ _ _ (@Aq _ _ _ _ (@Er _ _ _ _ _ (@Bf _ _ _ _ _ (@D7 _ _ _ _ _ _ _ _ _ Gk (by rfl) T.z_str Gn (@A0 _ _ _ _ _ (pv 4) A1 (by rfl)) (by decide) (by decide) (by rfl) (by rfl)) (@Bf _ _ _ _ _ A2 (@Bf _ _ _ _ _ (@CQ _ _ _ _ _ (@A0 _ _ _ _ _ Ar (@A0 _ _ _ _ _ (pv 4) A1 (by rfl)) (by rfl))) E6 GV) DI) Lu))))) AU) (@A4 _ _ _ _ _ (@AK _ _ _ _ _ _ _ _ ((@Dg _ _ _ _ _ _ _ (@Au _ _ _ _ _ _ _ _ Bv (@A9 _ _ _ _ _ _ _ _ Bq (pv 0) A2) A2 (@Av _ _ (by decide) (by decide))) (@DT _ _ _ _ (@Au _ _ _ _ _ _ _ _ Fm (@Bb _ _ _ _ _ _ _ _ _ C6 (by rfl) T.z_len BJ (@A0 _ _ _ _ _ (pv 1) A1 (by rfl)) (by decide) (by decide) (by rfl) (by rfl)) A2 (@Av _ _ (by decide) (by decide)))))).pt (@A4 _ _ _ _ _ (@Al _ _ (5) _ _ _ _ Ij.nd rfl (.inl rfl) (@Ag _ _ _ _ _ _ _ AX (pv 1) (@A9 _ _ _ _ _ _ _ _ C4 A2 (@A9 _ _ _ _ _ _ _ _ Bq (@Ag _ _ _ _ _ _ _ AX (pv 3) A2 (fun _ _=>rfl)) (@A9 _ _ _ _ _ _ _ _ FF (@Bb _ _ _ _ _ _ _ _ _ C6 (by rfl) T.z_len BJ (@A0 _ _ _ _ _ (pv 1) A1 (by rfl)) (by decide) (by decide) (by rfl) (by rfl)) A2))) (fun _ _=>rfl)) (by rfl) (by first|exact .inl rfl|exact .inr rfl|assumption)) (@Aa _ _ _ (@Aq _ _ _ _ (@Er _ _ _ _ _ (@Bf _ _ _ _ _ (pv 5) (@Bf _ _ _ _ _ A2 (@Bf _ _ _ _ _ (@CQ _ _ _ _ _ (@A0 _ _ _ _ _ Ar (@A0 _ _ _ _ _ (pv 5) A1 (by rfl)) (by rfl))) E6 GV) DI) Fc))))) AU) (@A4 _ _ _ _ _ (@Al _ _ (6) _ _ _ _ Ij.nd rfl (.inl rfl) (@As _ _ _ _ _ _ _ _ _ _ _ _ _ _ _ _ G_t (hr.mono (by omega)) (by rfl) T.m_t T.F_t.kp T.b_t .nil Ap (@A0 _ _ _ _ _ (pv 3) (@A0 _ _ _ _ _ (pv 1) (@A0 _ _ _ _ _ (pv 2) A1 (by rfl)) (by rfl)) (by rfl)) (by decide) (by rfl) (by rfl)) (by rfl) (by first|exact .inl rfl|exact .inr rfl|assumption)) (@Aa _ _ _ (@Aq _ _ _ _ (@Er _ _ _ _ _ (@Bf _ _ _ _ _ (@Ag _ _ _ _ _ _ _ B4 (pv 6) A2 (fun _ _=>rfl)) (@Bf _ _ _ _ _ A2 (@Bf _ _ _ _ _ (@Er _ _ _ _ _ (@Bf _ _ _ _ _ Ar (@Bf _ _ _ _ _ (@Ag _ _ _ _ _ _ _ B4 (pv 6) A2 (fun _ _=>rfl)) (@Bf _ _ _ _ _ (@Ag _ _ _ _ _ _ _ B4 (pv 6) A2 (fun _ _=>rfl)) E6 Gy) Gy) DI)) E6 GV) DI) Gy)))))))),?_⟩
 refine⟨_,rfl,_,_,rfl,rfl,⟨by decide,by decide⟩,_,5,rfl,by decide,by decide,fun rx H1 s1 hx=>?_⟩
 rw[show(5:Int).toNat=5 from rfl]at hx
 generalize hxs:Ez (c/3) 5=xs at hx
 have xl:xs.length=5:=by rw[←hxs,GU]
 have xm:∀y∈xs,0<=y/\y<2147483647:=fun y hy=>Ip (hxs▸hy)
 have atx:∀k:Nat,k<5->Bu (xs.map V.int) ((k:Nat):Int)=some (.int (xs.getD k 0)):=fun k hk=>EY (ns:=xs) (k:=((k:Nat):Int)) (by omega) (by omega)
 have xb:∀k:Nat,k<5->-(2 ^ 64:Int)<xs.getD k 0/\xs.getD k 0<2 ^ 64:=fun k hk=>by
  have hm:xs.getD k 0∈xs:=by rw[CZ,BB (by omega)];exact F6 _
  obtain⟨h0,h1⟩:=xm _ hm
  exact⟨by omega,by omega⟩
 have hk1:=hk.over s1
 have hn1:=hn.over s1
 dsimp only[Am]
 refine⟨_,rfl,_,_,rfl,rfl,(by show(0:Int)<3;decide),rfl,_,rfl,?_⟩
 refine AF (fun _=>?_) (fun _=>?_)
 .refine⟨_,rfl,rx,_,_,_,rfl,rfl,A3.of hx,atx 0 (by decide),_,rfl,rx,_,_,_,rfl,rfl,A3.of hx,atx 1 (by decide),_,_,rfl,rfl,.inl (xb 0 (by decide)),_,_,rfl,rfl,⟨by decide,by decide,by decide⟩,_,_,rfl,rfl,_,_,rfl,(by decide),(by decide),?_⟩
  have nb:=Po (xs.getD 0 0*xs.getD 1 0) (far:=10 ^ (18:Int).toNat-1) (by decide)
  generalize FQ _ _=nn at nb ⊢
  refine⟨_,rfl,?_⟩
  obtain⟨n,en,n0,n1⟩:∃n:Int,(if nn<0 then -nn else nn)=n/\0<=n/\n<=999999999999999999:=⟨_,rfl,by have:=nb.1;have:=nb.2;split<;>omega,by have:=nb.1;have:=nb.2;split<;>omega⟩
  rw[en]
  dsimp only[Am]
  refine⟨_,rfl,_,rfl,ES (by omega) n1,_,rfl,AE rfl,fun t1 ht1=>⟨AE rfl,fun t2 ht2=>?_⟩⟩
  have s2:=(Ac ht1 (.tup [V.str "n",V.int n])).trans (Ac ht2 (.tup [V.str (Str.ofString (toString n)),V.int 3,V.ref t1]))
  exact q _ _ (.n n) (s1.trans s2) ⟨t2,.ref t1,rfl,A6,t1,rfl,(Ac ht2 _) _ _ A6⟩ ⟨⟨n0,n1⟩,True.intro,True.intro⟩
 .dsimp only[Ia]
  refine DU (fun σ' H2=>H2=H1/\σ'=[some (.int c),some (.ref kl),some (.ref nl),some (.ref rx),none,none,none]) (fun σ' H2 pp=>?_) (fun nx=>?_)
  .obtain⟨rfl,rfl⟩:=pp
   refine⟨_,rfl,_,rfl,_,rfl,rx,kl,nl,xs,nms,ns,rfl,hx,xl,xm,hk1,hn1,fun r p H3 z sp s3 hr3 hp3 ok=>?_⟩
   dsimp only[Am]
   refine⟨_,rfl,r,_,2,_,rfl,rfl,Aw.of hr3,rfl,_,rfl,r,_,0,_,rfl,rfl,Aw.of hr3,rfl,_,rfl,r,_,1,_,rfl,rfl,Aw.of hr3,rfl,AE rfl,fun t1 ht1=>⟨AE rfl,fun t2 ht2=>?_⟩⟩
   have s4:=(Ac ht1 (.tup [V.str "c",V.str z,V.ref p])).trans (Ac ht2 (.tup [V.str (Ba z sp),V.int 3,V.ref t1]))
   exact q _ _ (.c z sp) (s1.trans (s3.trans s4)) ⟨t2,.ref t1,rfl,A6,t1,p,rfl,(Ac ht2 _) _ _ A6,hp3.tk (A7.tk s4)⟩ ok
  .refine⟨_,rfl,_,_,rfl,rfl,(by show(0:Int)<3;decide),rfl,_,rfl,?_⟩
   refine AF (fun _=>?_) (fun _=>Ay (nx _ _ ⟨rfl,rfl⟩))
   refine⟨_,rfl,kl,_,rfl,.inl (A3.of hk1.1),_,_,rfl,rfl,_,rfl,?_⟩
   have l4:((((("":Str)::nms).map V.str).length:Nat):Int)=(((("":Str)::nms).length:Nat):Int):=by rw[An]
   refine AF (fun cm=>?_) (fun _=>nx _ _ ⟨rfl,rfl⟩)
   have cm:(1:Int)<((((("":Str)::nms).map V.str).length:Nat):Int):=dT cm
   have m0:=BY (xs.getD 0 0) (show((((("":Str)::nms).map V.str).length:Nat):Int)-1≠0 by omega)
   have m1:=C9 (xs.getD 0 0) (show(0:Int)<((((("":Str)::nms).map V.str).length:Nat):Int)-1 by omega)
   obtain⟨z,hz,zi⟩:=Rd.strs_at (zs:=("":Str)::nms) (i:=1+xs.getD 0 0%(((((("":Str)::nms).map V.str).length:Nat):Int)-1)) (by omega) (by omega)
   have zm:z∈nms:=Rd.mem_behind (by omega) zi
   refine⟨_,rfl,_,rfl,rx,_,_,_,rfl,rfl,A3.of hx,atx 0 (by decide),_,rfl,kl,_,rfl,.inl (A3.of hk1.1),_,_,rfl,rfl,_,_,rfl,rfl,(by show(0:Int)<((((("":Str)::nms).map V.str).length:Nat):Int)-1;omega),_,_,rfl,rfl,kl,_,_,_,rfl,rfl,A3.of hk1.1,hz,?_⟩
   dsimp only[Am]
   refine⟨_,rfl,_,rfl,AE rfl,fun t1 ht1=>⟨AE rfl,fun t2 ht2=>?_⟩⟩
   have s2:=(Ac ht1 (.tup [V.str "v",V.str z])).trans (Ac ht2 (.tup [V.str z,V.int 3,V.ref t1]))
   exact q _ _ (.v z) (s1.trans s2) ⟨t2,.ref t1,rfl,A6,t1,rfl,(Ac ht2 _) _ _ A6⟩ ⟨hk.2.2 z zm,zm,True.intro⟩
theorem Vd (T:Tx w K mg a):AI P w K mg base AO 1 a.f_y a.d_y ["_law_sign_here","_law_left","_law_right"] Vp:=by
 refine T.F_y.ok GO (fun vs H Q E h=>?_) (fun cdv A outer s H vs Q E hr h=>?_)
 .obtain⟨_,_,_,_,_,rfl,_⟩:=h;rfl
 obtain⟨z,x,y,l,r,rfl,hz3,⟨p,sx,rfl,hp,hsx⟩,⟨p2,sy,rfl,hp2,hsy⟩,okl,okr,szs,q⟩:=h
 refine⟨_,(@A4 _ _ _ _ _ (@Al _ _ (3) _ _ _ _ GO.nd rfl (.inl rfl) (@A9 _ _ _ _ _ _ _ _ C4 A2 (@D7 _ _ _ _ _ _ _ _ _ NN (by rfl) T.z_int LP (@A0 _ _ _ _ _ (@DS _ _ _ _ _ _ _ _ Bv (pv 0) Ar (@Av _ _ (by decide) (by decide))) A1 (by rfl)) (by decide) (by decide) (by rfl) (by rfl))) (by rfl) (by first|exact .inl rfl|exact .inr rfl|assumption)) (@A4 _ _ _ _ _ (@Al _ _ (4) _ _ _ _ GO.nd rfl (.inl rfl) (@Ag _ _ _ _ _ _ _ B4 (pv 1) A2 (fun _ _=>rfl)) (by rfl) (by first|exact .inl rfl|exact .inr rfl|assumption)) (@A4 _ _ _ _ _ (@Al _ _ (5) _ _ _ _ GO.nd rfl (.inl rfl) (@Ag _ _ _ _ _ _ _ B4 (pv 2) A2 (fun _ _=>rfl)) (by rfl) (by first|exact .inl rfl|exact .inr rfl|assumption)) (@A4 _ _ _ _ _ (@AK _ _ _ _ _ _ _ _ (@Au _ _ _ _ _ _ _ _ Ey (@Ag _ _ _ _ _ _ _ B4 (pv 1) A2 (fun _ _=>rfl)) (pv 3) (@Av _ _ (by decide) (by decide))) (@Aa _ _ _ (@Al _ _ (4) _ _ _ _ GO.nd rfl (.inl rfl) (@A9 _ _ _ _ _ _ _ _ Bk (@A9 _ _ _ _ _ _ _ _ Bk Ar (pv 4)) Ar) (by rfl) (by first|exact .inl rfl|exact .inr rfl|assumption))) AU) (@A4 _ _ _ _ _ (@AK _ _ _ _ _ _ _ _ (@Au _ _ _ _ _ _ _ _ WT (@Ag _ _ _ _ _ _ _ B4 (pv 2) A2 (fun _ _=>rfl)) (pv 3) (@Av _ _ (by decide) (by decide))) (@Aa _ _ _ (@Al _ _ (5) _ _ _ _ GO.nd rfl (.inl rfl) (@A9 _ _ _ _ _ _ _ _ Bk (@A9 _ _ _ _ _ _ _ _ Bk Ar (pv 5)) Ar) (by rfl) (by first|exact .inl rfl|exact .inr rfl|assumption))) AU) (@Aa _ _ _ (@Aq _ _ _ _ (@Er _ _ _ _ _ (@Bf _ _ _ _ _ (@A9 _ _ _ _ _ _ _ _ Bk (@A9 _ _ _ _ _ _ _ _ Bk (pv 4) (pv 0)) (pv 5)) (@Bf _ _ _ _ _ (pv 3) (@Bf _ _ _ _ _ (@Er _ _ _ _ _ (@Bf _ _ _ _ _ (pv 0) (@Bf _ _ _ _ _ (@Ag _ _ _ _ _ _ _ B4 (pv 1) A2 (fun _ _=>rfl)) (@Bf _ _ _ _ _ (@Ag _ _ _ _ _ _ _ B4 (pv 2) A2 (fun _ _=>rfl)) E6 Gy) Gy) Fc)) E6 GV) Fc) Mx))))))))),?_⟩
 have wl:=Tw.wr_len okl
 have wR:=Tw.wr_len okr
 have zl:=Lh hz3
 have l2:("(":Str).length=1:=by decide +kernel
 have l3:(")":Str).length=1:=by decide +kernel
 have eh:(1+if decide (V.str z=V.str (Str.ofString "*"))=true then(1:Int) else 0)=((hz z:Nat):Int):=by
  unfold hz
  by_cases c:z="*"
  .rw[Af c,Af (B1 (congrArg V.str c))];rfl
  .rw[Ab c,Ab (fun e=>c (V.str.inj (L5 e)))];rfl
 refine⟨_,rfl,rfl,.inr ⟨_,rfl,_,_,rfl,rfl,?_⟩⟩
 dsimp only[Am]
 rw[eh]
 refine⟨_,rfl,p,_,0,_,rfl,rfl,Aw.of hp,rfl,?_⟩
 dsimp only[Am]
 refine⟨_,rfl,p2,_,0,_,rfl,rfl,Aw.of hp2,rfl,?_⟩
 dsimp only[Am]
 refine DU (fun σ' H'=>H'=H/\σ'=[some (.str z),some (.ref p),some (.ref p2),some (.int ((hz z:Nat):Int)),some (.str (Et (decide (l.hld<hz z)) l.wr)),some (.str r.wr)]) (fun σ' H' pp=>?_) (fun nx=>?_)
 .obtain⟨rfl,rfl⟩:=pp
  have bl:=GY (decide (l.hld<hz z)) l.wr
  refine DU (fun σ' H2=>H2=H'/\σ'=[some (.str z),some (.ref p),some (.ref p2),some (.int ((hz z:Nat):Int)),some (.str (Et (decide (l.hld<hz z)) l.wr)),some (.str (Et (decide (r.hld<=hz z)) r.wr))]) (fun σ' H2 pp=>?_) (fun nx=>?_)
  .obtain⟨rfl,rfl⟩:=pp
   have br:=GY (decide (r.hld<=hz z)) r.wr
   refine⟨_,rfl,_,rfl,_,_,rfl,rfl,Ai (by omega),_,rfl,_,_,rfl,rfl,Ai (by rw[Ax];omega),_,rfl,_,rfl,_,rfl,p,_,2,_,rfl,rfl,Aw.of hp,rfl,_,rfl,p2,_,2,_,rfl,rfl,Aw.of hp2,rfl,AE rfl,fun t1 ht1=>⟨AE rfl,fun t2 ht2=>?_⟩⟩
   have s1:=Ac ht1 (.tup [V.str z,sx,sy])
   have s2:=s1.trans (Ac ht2 (.tup [V.str (Tw.wr (.j z l r)),V.int ((hz z:Nat):Int),V.ref t1]))
   exact q _ _ s2 ⟨t2,.ref t1,rfl,A6,t1,sx,sy,rfl,(Ac ht2 _) _ _ A6,hsx.tk (A7.tk s2),hsy.tk (A7.tk s2)⟩
  .refine⟨_,rfl,p2,_,1,_,rfl,rfl,Aw.of hp2,rfl,_,rfl,_,_,rfl,rfl,_,rfl,?_⟩
   refine AF (fun c=>?_) (fun c=>?_)
   .have c:r.hld<=hz z:=Int.ofNat_le.mp (dT c)
    refine⟨_,rfl,_,_,rfl,rfl,Ai (by omega),_,_,rfl,rfl,Ai (by rw[Ax];omega),nx _ _ ⟨rfl,?_⟩⟩
    rw[B1 c]
    rfl
   .have c:¬r.hld<=hz z:=fun e=>dF c (Int.ofNat_le.mpr e)
    refine nx _ _ ⟨rfl,?_⟩
    rw[Bo c]
    rfl
 .refine⟨_,rfl,p,_,1,_,rfl,rfl,Aw.of hp,rfl,_,rfl,_,_,rfl,rfl,_,rfl,?_⟩
  refine AF (fun c=>?_) (fun c=>?_)
  .have c:l.hld<hz z:=Int.ofNat_lt.mp (dT c)
   refine⟨_,rfl,_,_,rfl,rfl,Ai (by omega),_,_,rfl,rfl,Ai (by rw[Ax];omega),nx _ _ ⟨rfl,?_⟩⟩
   rw[B1 c]
   rfl
  .have c:¬l.hld<hz z:=fun e=>dF c (Int.ofNat_lt.mpr e)
   refine nx _ _ ⟨rfl,?_⟩
   rw[Bo c]
   rfl
theorem Uc (T:Tx w K mg a):AI P w K mg base AO 5 a.f_W a.d_W ["_law_cell_here","_law_known","_law_names_here"] Rd.spTerm28:=by
 have G_b :=@GT P w K mg base a T
 have G_x :=@XJ P w K mg base a T
 have G_y :=@Vd P w K mg base a T
 refine T.F_W.ok FN (fun vs H Q E h=>?_) (fun cdv A outer s H vs Q E hr h=>?_)
 .obtain⟨_,_,_,_,_,rfl,_⟩:=h;rfl
 obtain⟨seed,kl,nl,nms,ns,rfl,hk,hn,q⟩:=h
 refine⟨_,(@A4 _ _ _ _ _ (@Al _ _ (3) _ _ _ _ FN.nd rfl (.inl rfl) (@As _ _ _ _ _ _ _ _ _ _ _ _ _ _ _ _ G_b (hr.mono (by omega)) (by rfl) T.m_b T.F_b.kp T.b_b .nil Ap (@A0 _ _ _ _ _ (pv 0) (@A0 _ _ _ _ _ A2 A1 (by rfl)) (by rfl)) (by decide) (by rfl) (by rfl)) (by rfl) (by first|exact .inl rfl|exact .inr rfl|assumption)) (@A4 _ _ _ _ _ (@Al _ _ (4) _ _ _ _ FN.nd rfl (.inl rfl) (@Bj _ _ _ _ (@A0 _ _ _ _ _ (@As _ _ _ _ _ _ _ _ _ _ _ _ _ _ _ _ G_x (hr.mono (by omega)) (by rfl) T.m_x T.F_x.kp T.b_x .nil Ap (@A0 _ _ _ _ _ (@Ag _ _ _ _ _ _ _ AX (pv 3) A2 (fun _ _=>rfl)) (@A0 _ _ _ _ _ (pv 1) (@A0 _ _ _ _ _ (pv 2) A1 (by rfl)) (by rfl)) (by rfl)) (by decide) (by rfl) (by rfl)) A1 (by rfl))) (by rfl) (by first|exact .inl rfl|exact .inr rfl|assumption)) (@A4 _ _ _ _ _ (@Ed _ _ _ _ _ _ _ _ PassesOwn.never rfl (@Dv _ _ _ _ (@Di _ _ _ _ _ _ _ _ _ _ Fv (pv 3) (@Cz _ _ _ A2) (@Cz _ _ _ (@A9 _ _ _ _ _ _ _ _ C4 A2 (@A9 _ _ _ _ _ _ _ _ Bq (pv 0) A2))))) (Bz (i:=5) FN.nd rfl (.inl rfl)) (@Aa _ _ _ (@AK _ _ _ _ _ _ _ _ ((@Dg _ _ _ _ _ _ _ (@Au _ _ _ _ _ _ _ _ Ey (@A9 _ _ _ _ _ _ _ _ Bq (pv 5) A2) A2 (@Av _ _ (by decide) (by decide))) (@DT _ _ _ _ (@Au _ _ _ _ _ _ _ _ Fm (@Bb _ _ _ _ _ _ _ _ _ C6 (by rfl) T.z_len BJ (@A0 _ _ _ _ _ (pv 4) A1 (by rfl)) (by decide) (by decide) (by rfl) (by rfl)) A2 (@Av _ _ (by decide) (by decide)))))).pt (@A4 _ _ _ _ _ (@Al _ _ (6) _ _ _ _ FN.nd rfl (.inl rfl) (@Ec _ _ _ _ _ _ _ _ _ Bh EK EL Em (pv 4) (by rfl) (by rfl)) (by rfl) (by first|exact .inl rfl|exact .inr rfl|assumption)) (@A4 _ _ _ _ _ (@Al _ _ (7) _ _ _ _ FN.nd rfl (.inl rfl) (@Ec _ _ _ _ _ _ _ _ _ Bh EK EL Em (pv 4) (by rfl) (by rfl)) (by rfl) (by first|exact .inl rfl|exact .inr rfl|assumption)) (@Aa _ _ _ (@Bp _ _ _ _ (@B9 _ _ _ _ _ _ _ _ _ _ _ _ Bh BS BU BM (pv 4) (@A0 _ _ _ _ _ (@As _ _ _ _ _ _ _ _ _ _ _ _ _ _ _ _ G_y (hr.mono (by omega)) (by rfl) T.m_y T.F_y.kp T.b_y .nil Ap (@A0 _ _ _ _ _ (@Ag _ _ _ _ _ _ _ EB Ar (@A9 _ _ _ _ _ _ _ _ Bq (@A9 _ _ _ _ _ _ _ _ CA (pv 5) A2) A2) (fun _ _=>rfl)) (@A0 _ _ _ _ _ (pv 7) (@A0 _ _ _ _ _ (pv 6) A1 (by rfl)) (by rfl)) (by rfl)) (by decide) (by rfl) (by rfl)) A1 (by rfl)) (by rfl) (by rfl) (by rfl) (by rfl) (by rfl)) (by rfl))))) (@Aa _ _ _ (@Bp _ _ _ _ (@B9 _ _ _ _ _ _ _ _ _ _ _ _ Bh BS BU BM (pv 4) (@A0 _ _ _ _ _ (@As _ _ _ _ _ _ _ _ _ _ _ _ _ _ _ _ G_x (hr.mono (by omega)) (by rfl) T.m_x T.F_x.kp T.b_x .nil Ap (@A0 _ _ _ _ _ (@A9 _ _ _ _ _ _ _ _ CA (pv 5) A2) (@A0 _ _ _ _ _ (pv 1) (@A0 _ _ _ _ _ (pv 2) A1 (by rfl)) (by rfl)) (by rfl)) (by decide) (by rfl) (by rfl)) A1 (by rfl)) (by rfl) (by rfl) (by rfl) (by rfl) (by rfl)) (by rfl))))) (by intro _;rfl)) (@A4 _ _ _ _ _ (@HQ _ _ _ _ _ _ PassesOwn.never (@Au _ _ _ _ _ _ _ _ Fm (@Bb _ _ _ _ _ _ _ _ _ C6 (by rfl) T.z_len BJ (@A0 _ _ _ _ _ (pv 4) A1 (by rfl)) (by decide) (by decide) (by rfl) (by rfl)) A2 (@Av _ _ (by decide) (by decide))) (@A4 _ _ _ _ _ (@Al _ _ (6) _ _ _ _ FN.nd rfl (.inl rfl) (@Ec _ _ _ _ _ _ _ _ _ Bh EK EL Em (pv 4) (by rfl) (by rfl)) (by rfl) (by first|exact .inl rfl|exact .inr rfl|assumption)) (@A4 _ _ _ _ _ (@Al _ _ (7) _ _ _ _ FN.nd rfl (.inl rfl) (@Ec _ _ _ _ _ _ _ _ _ Bh EK EL Em (pv 4) (by rfl) (by rfl)) (by rfl) (by first|exact .inl rfl|exact .inr rfl|assumption)) (@Aa _ _ _ (@Bp _ _ _ _ (@B9 _ _ _ _ _ _ _ _ _ _ _ _ Bh BS BU BM (pv 4) (@A0 _ _ _ _ _ (@As _ _ _ _ _ _ _ _ _ _ _ _ _ _ _ _ G_y (hr.mono (by omega)) (by rfl) T.m_y T.F_y.kp T.b_y .nil Ap (@A0 _ _ _ _ _ (@Ag _ _ _ _ _ _ _ EB Ar (@A9 _ _ _ _ _ _ _ _ Bq (@A9 _ _ _ _ _ _ _ _ CA (pv 0) A2) A2) (fun _ _=>rfl)) (@A0 _ _ _ _ _ (pv 7) (@A0 _ _ _ _ _ (pv 6) A1 (by rfl)) (by rfl)) (by rfl)) (by decide) (by rfl) (by rfl)) A1 (by rfl)) (by rfl) (by rfl) (by rfl) (by rfl) (by rfl)) (by rfl)))))) (@Aa _ _ _ (@Aq _ _ _ _ (@Ag _ _ _ _ _ _ _ AX (pv 4) A2 (fun _ _=>rfl)))))))),?_⟩
 refine⟨_,rfl,seed,5,rfl,by decide,by decide,fun rx H3 e3 hx=>?_⟩
 rw[show(5:Int).toNat=5 from rfl]at hx
 generalize hxs:Ez seed 5=xs0 at hx
 have xl:xs0.length=5:=by rw[←hxs,GU]
 have at0:Bu (xs0.map V.int) (0:Int)=some (.int (xs0.getD 0 0)):=EY (ns:=xs0) (k:=0) (by decide) (by rw[xl];decide)
 have hk3:=hk.over e3
 have hn3:=hn.over e3
 dsimp only[Am]
 refine⟨_,rfl,rx,_,_,_,rfl,rfl,A3.of hx,at0,_,rfl,_,rfl,_,kl,nl,nms,ns,rfl,hk3,hn3,fun v H4 t e4 tp ok=>⟨AE rfl,fun l hl=>?_⟩⟩
 obtain⟨tp,st⟩:=Rd.leaf_tp ok tp
 have ok:=ok.twk
 have e04:=e3.trans e4
 have hl0:H l=none:=e04.free hl
 have kl0:H3 l=none:=e4.free hl
 have s5:=Ac hl (.lst [v])
 have hl5:(upd H4 l (.lst [v])) l=some (.lst [v]):=A6
 have S5:Rd.StK (upd H4 l (.lst [v])) nms ns [v] [t] 1:=Rd.StK.push (xs:=[]) (ts:=[]) (N:=0) ⟨.nil,fun t ht=>(by cases ht),Aj _⟩ (tp.tk (A7.tk s5)) ok (by omega)
 have e05:=e04.trans s5
 dsimp only[Am]
 generalize upd H4 l (.lst [v])=H5 at s5 hl5 S5 e05
 have f50:=BY seed (show(5:Int)≠0 by decide)
 have f51:=C9 seed (show(0:Int)<5 by decide)
 refine⟨_,rfl,_,rfl,_,rfl,_,_,rfl,rfl,(by show(0:Int)<5;decide),_,_,rfl,rfl,_,rfl,rx,_,rfl,A3.of ((e4.trans s5) _ _ hx),fun cl hcl=>?_⟩
 rw[NT]
 obtain⟨cs,ecs,hcs4⟩:∃cs:List Int,Ck xs0 (some 1) (some (1+seed%5))=cs/\cs.length<=4:=⟨_,rfl,by
  rw[Lc xs0 (by decide) (by omega) (by omega) (by omega),Bt,C5]
  omega⟩
 rw[ecs]
 have s6:=Ac hcl (.lst (cs.map V.int))
 have hC:(upd H5 cl (.lst (cs.map V.int))) cl=some (.lst (cs.map V.int)):=A6
 have hl6:=s6 _ _ hl5
 have S6:=S5.tk (A7.tk s6)
 have ncl:cl≠l:=(AC hl5 hcl).symm
 have e06:=e05.trans s6
 have e36:=(e4.trans s5).trans s6
 generalize upd H5 cl (.lst (cs.map V.int))=H6 at s6 hC hl6 S6 e06 e36
 refine⟨cl,rfl,⟨_,A3.of hC⟩,?_⟩
 refine FG (xs:=cs.map V.int) (fun i σ' H'=>A7 H H'/\A7 H3 H'/\(H' cl=some (.lst (cs.map V.int))/\∃o5 o6 o7,σ'=[some (.int seed),some (.ref kl),some (.ref nl),some (.ref rx),some (.ref l),o5,o6,o7])/\∃xs ts N,H' l=some (.lst xs)/\Rd.StK H' nms ns xs ts N/\N<=i+1/\0<xs.length) ⟨e06,e36,⟨hC,_,_,_,rfl⟩,[v],[t],1,hl6,S6,Aj _,GD _⟩ (fun i σ' H' _ p=>A3.of p.2.2.1.1) (fun i x σ' H' hx p=>?_) (fun σ' H' p=>?_)
 .obtain⟨eH,e3H,⟨hcl',o5,o6,o7,rfl⟩,xs,ts,N,hxs,hS,hNi,hpos⟩:=p
  obtain⟨c,rfl⟩:∃c,x=V.int c:=by
   rw[Dm]at hx
   cases e:cs[i]? with
   |none=>rw[e]at hx;cases hx
   |some z=>rw[e]at hx;exact⟨z,(BX hx).symm⟩
  have hi:i<cs.length:=by have:=(BE.mp hx).1;rwa [An]at this
  have sl:=hS.len
  dsimp only[Am]
  refine KJ (fun H2=>H2=H') (fun H2 e=>?_) (fun els=>?_)
  .subst e
   refine⟨_,rfl,.inl ⟨rfl,_,A3.of hxs⟩,_,rfl,_,_,rfl,rfl,⟨by decide,by decide⟩,_,rfl,_,rfl,_,kl,nl,nms,ns,rfl,hk.over eH,hn.over eH,fun v2 H6 t2 e6 p6 ok2=>?_⟩
   obtain⟨p6,sz2⟩:=Rd.leaf_tp ok2 p6
   have ok2:=ok2.twk
   have hxs6:=e6 _ _ hxs
   refine⟨l,_,_,rfl,rfl,hxs6,BK (by omega),?_⟩
   have tk:TK H6 (upd H6 l (.lst (xs++[v2]))):=TK.upd hxs6
   refine⟨fun b ob eb=>by rw[A8 (AC eb hl0)];exact e6 _ _ (eH _ _ eb),fun b ob eb=>by rw[A8 (AC eb kl0)];exact e6 _ _ (e3H _ _ eb),⟨by rw[A8 ncl];exact e6 _ _ hcl',_,_,_,rfl⟩,xs++[v2],ts++[t2],N+1,A6,((hS.tk (A7.tk e6)).tk tk).push (p6.tk tk) ok2 (by omega),by omega,by rw[Ah];omega⟩
  .refine⟨_,rfl,_,_,rfl,rfl,(by show(0:Int)<5;decide),_,_,rfl,rfl,_,rfl,?_⟩
   refine AF (fun _=>?_) (fun _=>Ay (els _ rfl))
   refine⟨_,rfl,l,_,rfl,.inl (A3.of hxs),_,_,rfl,rfl,_,rfl,?_⟩
   refine AF (fun c2=>?_) (fun _=>els _ rfl)
   have c2:=dT c2
   obtain⟨ys,x1,us,t1,M1,rfl,rfl,hS1,px,okx,m1⟩:=hS.pop hpos
   rw[Ah,Bs]at c2
   obtain⟨zs',x2,us2,t2,M2,rfl,rfl,hS2,py,oky,m2⟩:=hS1.pop (by omega)
   refine⟨_,rfl,.inl ⟨rfl,_,A3.of hxs⟩,l,_,x1,rfl,rfl,hxs,Ce.1,?_⟩
   rw[Ce.2]
   dsimp only[Am]
   refine⟨_,rfl,.inl ⟨rfl,_,A3.of A6⟩,l,_,x2,rfl,rfl,A6,Ce.1,?_⟩
   rw[Ce.2]
   dsimp only[Am]
   have tk0:TK H' (upd (upd H' l (.lst (zs'++[x2]))) l (.lst zs')):=(TK.upd hxs).trans (TK.upd A6)
   have hz:(upd (upd H' l (.lst (zs'++[x2]))) l (.lst zs')) l=some (.lst zs'):=A6
   have u2:∀b,b≠l->(upd (upd H' l (.lst (zs'++[x2]))) l (.lst zs')) b=H' b:=fun b hb=>by rw[A8 hb,A8 hb]
   generalize upd (upd H' l (.lst (zs'++[x2]))) l (.lst zs')=H2 at tk0 hz u2
   have eH2:A7 H H2:=fun b ob eb=>by rw[u2 _ (AC eb hl0)];exact eH _ _ eb
   have e3H2:A7 H3 H2:=fun b ob eb=>by rw[u2 _ (AC eb kl0)];exact e3H _ _ eb
   have f0:=BY (c/5) (show(3:Int)≠0 by decide)
   have f1:=C9 (c/5) (show(0:Int)<3 by decide)
   obtain⟨ch,hch,h3⟩:=Q2 f0 f1
   have sl2:=hS2.len
   refine⟨_,rfl,.inl ⟨rfl,_,A3.of hz⟩,_,rfl,_,_,rfl,rfl,⟨by decide,by decide⟩,_,_,rfl,rfl,(by show(0:Int)<3;decide),_,_,ch,rfl,rfl,(by decide +kernel),hch,_,rfl,_,rfl,_,x2,x1,t2,t1,rfl,h3,py.tk tk0,px.tk tk0,oky.ok,okx.ok,by omega,fun v3 H6 e6 p6=>?_⟩
   have hz6:=e6 _ _ hz
   refine⟨l,_,_,rfl,rfl,hz6,BK (by omega),?_⟩
   have tk:TK H6 (upd H6 l (.lst (zs'++[v3]))):=TK.upd hz6
   refine⟨fun b ob eb=>by rw[A8 (AC eb hl0)];exact e6 _ _ (eH2 _ _ eb),fun b ob eb=>by rw[A8 (AC eb kl0)];exact e6 _ _ (e3H2 _ _ eb),⟨by rw[A8 ncl];exact e6 _ _ (by rw[u2 _ ncl];exact hcl'),_,_,_,rfl⟩,zs'++[v3],us2++[.j ⟨#[ch]⟩ t2 t1],N,A6,(((hS2.tk tk0).tk (A7.tk e6)).tk tk).push (p6.tk tk) ⟨h3,oky,okx⟩ (by show M2+(t2.sz+t1.sz)<=N;omega),by omega,by rw[Ah];exact GD _⟩
 .obtain⟨eH,e3H,⟨_,o5,o6,o7,rfl⟩,xs,ts,N,hxs,hS,hNi,hpos⟩:=p
  rw[An]at hNi
  have sl:=hS.len
  show DO (JG _ _) (Gm _) _ _ _
  refine DU (fun σ' H2=>A7 H H2/\(∃o5 o6 o7,σ'=[some (.int seed),some (.ref kl),some (.ref nl),some (.ref rx),some (.ref l),o5,o6,o7])/\∃x t,H2 l=some (.lst [x])/\DH H2 x t/\Rd.Twk nms ns t/\t.sz<=5) (fun σ' H2 pp=>?_) (fun nx=>?_)
  .obtain⟨e2,⟨o5,o6,o7,rfl⟩,x,t,hx,tx,okt,st⟩:=pp
   exact⟨_,rfl,l,_,_,_,rfl,rfl,A3.of hx,rfl,q x _ t e2 tx okt st⟩
  refine PM 5 (fun j σ' H2=>A7 H H2/\(∃o5 o6 o7,σ'=[some (.int seed),some (.ref kl),some (.ref nl),some (.ref rx),some (.ref l),o5,o6,o7])/\∃xs ts,H2 l=some (.lst xs)/\Rd.StK H2 nms ns xs ts 5/\xs.length+j<=5/\0<xs.length) ⟨eH,⟨_,_,_,rfl⟩,xs,ts,hxs,⟨hS.at',hS.ok,by have:=hS.sum;omega⟩,by omega,hpos⟩ (fun j σ' H' hj pp=>?_) (MT.test (ME.op (MR.i0 _) (ME.cb MB.len (MA.cons (ME.var _) MA.nil)) (ME.c _)))
  obtain⟨eH,⟨o5,o6,o7,rfl⟩,xs,ts,hxs,hS,hNi,hpos⟩:=pp
  refine⟨_,rfl,l,_,rfl,.inl (A3.of hxs),_,_,rfl,rfl,_,rfl,?_⟩
  refine AF (fun c2=>?_) (fun c2=>?_)
  .have c2:=dT c2
   refine⟨by omega,?_⟩
   obtain⟨ys,x1,us,t1,M1,rfl,rfl,hS1,px,okx,m1⟩:=hS.pop hpos
   rw[Ah,Bs]at c2 hNi
   obtain⟨zs',x2,us2,t2,M2,rfl,rfl,hS2,py,oky,m2⟩:=hS1.pop (by omega)
   rw[Ah,Bs]at hNi
   refine⟨_,rfl,.inl ⟨rfl,_,A3.of hxs⟩,l,_,x1,rfl,rfl,hxs,Ce.1,?_⟩
   rw[Ce.2]
   dsimp only[Am]
   refine⟨_,rfl,.inl ⟨rfl,_,A3.of A6⟩,l,_,x2,rfl,rfl,A6,Ce.1,?_⟩
   rw[Ce.2]
   dsimp only[Am]
   have tk0:TK H' (upd (upd H' l (.lst (zs'++[x2]))) l (.lst zs')):=(TK.upd hxs).trans (TK.upd A6)
   have hz:(upd (upd H' l (.lst (zs'++[x2]))) l (.lst zs')) l=some (.lst zs'):=A6
   have u2:∀b,b≠l->(upd (upd H' l (.lst (zs'++[x2]))) l (.lst zs')) b=H' b:=fun b hb=>by rw[A8 hb,A8 hb]
   generalize upd (upd H' l (.lst (zs'++[x2]))) l (.lst zs')=H2 at tk0 hz u2
   have eH2:A7 H H2:=fun b ob eb=>by rw[u2 _ (AC eb hl0)];exact eH _ _ eb
   have sl2:=hS2.len
   have f0:=BY (seed/5) (show(3:Int)≠0 by decide)
   have f1:=C9 (seed/5) (show(0:Int)<3 by decide)
   obtain⟨ch,hch,h3⟩:=Q2 f0 f1
   refine⟨_,rfl,.inl ⟨rfl,_,A3.of hz⟩,_,rfl,_,_,rfl,rfl,⟨by decide,by decide⟩,_,_,rfl,rfl,(by show(0:Int)<3;decide),_,_,ch,rfl,rfl,(by decide +kernel),hch,_,rfl,_,rfl,_,x2,x1,t2,t1,rfl,h3,py.tk tk0,px.tk tk0,oky.ok,okx.ok,by omega,fun v3 H6 e6 p6=>?_⟩
   have hz6:=e6 _ _ hz
   refine⟨l,_,_,rfl,rfl,hz6,BK (by omega),?_⟩
   have tk:TK H6 (upd H6 l (.lst (zs'++[v3]))):=TK.upd hz6
   exact⟨fun b ob eb=>by rw[A8 (AC eb hl0)];exact e6 _ _ (eH2 _ _ eb),⟨_,_,_,rfl⟩,zs'++[v3],us2++[.j ⟨#[ch]⟩ t2 t1],A6,(((hS2.tk tk0).tk (A7.tk e6)).tk tk).push (p6.tk tk) ⟨h3,oky,okx⟩ (by show M2+(t2.sz+t1.sz)<=5;omega),by rw[Ah,Bs];omega,by rw[Ah];exact GD _⟩
  .have c2:=dF c2
   obtain⟨ys,x1,us,t1,M1,rfl,rfl,hS1,px,okx,m1⟩:=hS.pop hpos
   have y0:ys=[]:=by
    rw[Ah,Bs]at c2
    exact L0 (by omega)
   subst y0
   exact nx _ _ ⟨eH,⟨_,_,_,rfl⟩,x1,t1,hxs,px,okx,by omega⟩
theorem WU (T:Tx w K mg a):AI P w K mg base AO 3 a.f_X a.d_X ["_law_cell_here","_law_names_here","_law_opened","_law_last"] Rd.spLoop28:=by
 have G_b :=@GT P w K mg base a T
 have G_g :=@Q4 P w K mg base a T
 refine T.F_X.ok Io (fun vs H Q E h=>?_) (fun cdv A outer s H vs Q E hr h=>?_)
 .obtain⟨_,_,_,_,_,_,_,rfl,_⟩:=h;rfl
 obtain⟨c,nl,o,la,ns,ts,tl,rfl,hn,⟨vs,hO0,aO⟩,hol,⟨_,hok⟩,hla,okl,okh,q⟩:=h
 have hnd:=hn.2.2.1
 refine⟨_,(@A4 _ _ _ _ _ (@Al _ _ (4) _ _ _ _ Io.nd rfl (.inl rfl) (@As _ _ _ _ _ _ _ _ _ _ _ _ _ _ _ _ G_b (hr.mono (by omega)) (by rfl) T.m_b T.F_b.kp T.b_b .nil Ap (@A0 _ _ _ _ _ (pv 0) (@A0 _ _ _ _ _ A2 A1 (by rfl)) (by rfl)) (by decide) (by rfl) (by rfl)) (by rfl) (by first|exact .inl rfl|exact .inr rfl|assumption)) (@A4 _ _ _ _ _ (@Al _ _ (5) _ _ _ _ Io.nd rfl (.inr rfl) (@A9 _ _ _ _ _ _ _ _ EZ (@Bj _ _ _ _ (@A0 _ _ _ _ _ Ar A1 (by rfl))) (@DZ _ _ _ _ _ _ _ ["_law_one"] [none] _ _ _ _ (by rfl) (@Dv _ _ _ _ (pv 2)) W3 (fun _ _ _ _ _ _=>⟨(Bz (i:=0) RF rfl (.inl rfl)),@Eh _,(@Ag _ _ _ _ _ _ _ (show EM _ (HK K) from B4) (pv 0) A2 (fun _ _=>rfl))⟩) (by intro _;rfl))) (by rfl) (by first|exact .inl rfl|exact .inr rfl|assumption)) (@A4 _ _ _ _ _ (@Uq _ _ _ _ _ _ _ _ _ (6) _ ["_law_name","_law_known"] [none,some 5] _ _ _ _ Io.nd rfl (.inl rfl) (by rfl) (@Dv _ _ _ _ (@Di _ _ _ _ _ _ _ _ _ _ Fv (pv 1) E7 (@Cz _ _ _ A2))) XY (fun _ _ _ _ _ _=>⟨(Bz (i:=0) UR rfl (.inl rfl)),(@OM _ _ _ (@Au _ _ _ _ _ _ _ _ (show BG _ _ (Kz K true) from MC) (pv 0) (pv 1) (by with_unfolding_all rfl))),(pv 0)⟩) (by rfl) (by intro _;rfl) (by first|exact .inl rfl|exact .inr rfl|assumption)) (@A4 _ _ _ _ _ (@AK _ _ _ _ _ _ _ _ ((@Dg _ _ _ _ _ _ _ (@Au _ _ _ _ _ _ _ _ Bv (@A9 _ _ _ _ _ _ _ _ Bq (@Ag _ _ _ _ _ _ _ AX (pv 4) A2 (fun _ _=>rfl)) A2) A2 (@Av _ _ (by decide) (by decide))) (@Dg _ _ _ _ _ _ _ (@Au _ _ _ _ _ _ _ _ Hb (@Ag _ _ _ _ _ _ _ B4 (pv 3) A2 (fun _ _=>rfl)) (pv 6) (by with_unfolding_all rfl)) (@Dg _ _ _ _ _ _ _ (@Au _ _ _ _ _ _ _ _ Hb (@Ag _ _ _ _ _ _ _ B4 (@Ag _ _ _ _ _ _ _ B4 (pv 3) A2 (fun _ _=>rfl)) A2 (fun _ _=>rfl)) (pv 5) (by with_unfolding_all rfl)) (@DT _ _ _ _ (@Au _ _ _ _ _ _ _ _ Hb (@Ag _ _ _ _ _ _ _ B4 (@Ag _ _ _ _ _ _ _ B4 (pv 3) A2 (fun _ _=>rfl)) A2 (fun _ _=>rfl)) (pv 5) (by with_unfolding_all rfl))))))).pt (@Aa _ _ _ (@Aq _ _ _ _ (pv 3))) AU) (@A4 _ _ _ _ _ (@Al _ _ (7) _ _ _ _ Io.nd rfl (.inl rfl) (@As _ _ _ _ _ _ _ _ _ _ _ _ _ _ _ _ G_g (hr.mono (by omega)) (by rfl) T.m_g T.F_g.kp T.b_g .nil Ap (@A0 _ _ _ _ _ (@Ag _ _ _ _ _ _ _ AX (pv 4) A2 (fun _ _=>rfl)) (@A0 _ _ _ _ _ (@Ag _ _ _ _ _ _ _ AX (pv 4) A2 (fun _ _=>rfl)) (@A0 _ _ _ _ _ (pv 5) A1 (by rfl)) (by rfl)) (by rfl)) (by decide) (by rfl) (by rfl)) (by rfl) (by first|exact .inl rfl|exact .inr rfl|assumption)) (@Aa _ _ _ (@Aq _ _ _ _ (@Er _ _ _ _ _ (@Bf _ _ _ _ _ (@Ag _ _ _ _ _ _ _ AX (pv 6) (@A9 _ _ _ _ _ _ _ _ Bq (@Ag _ _ _ _ _ _ _ AX (pv 4) A2 (fun _ _=>rfl)) (@Bb _ _ _ _ _ _ _ _ _ C6 (by rfl) T.z_len BJ (@A0 _ _ _ _ _ (pv 6) A1 (by rfl)) (by decide) (by decide) (by rfl) (by rfl))) (fun _ _=>rfl)) (@Bf _ _ _ _ _ (pv 7) (@Bf _ _ _ _ _ (@As _ _ _ _ _ _ _ _ _ _ _ _ _ _ _ _ G_g (hr.mono (by omega)) (by rfl) T.m_g T.F_g.kp T.b_g .nil Ap (@A0 _ _ _ _ _ (@Ag _ _ _ _ _ _ _ AX (pv 4) A2 (fun _ _=>rfl)) (@A0 _ _ _ _ _ (@Ag _ _ _ _ _ _ _ AX (pv 4) A2 (fun _ _=>rfl)) (@A0 _ _ _ _ _ (pv 5) A1 (by rfl)) (by rfl)) (by rfl)) (by decide) (by rfl) (by rfl)) E6 Lu) Fc) Gy))))))))),?_⟩
 refine⟨_,rfl,c,6,rfl,by decide,by decide,fun rx H1 s1 hx=>?_⟩
 rw[show(6:Int).toNat=6 from rfl]at hx
 generalize hxs:Ez c 6=xs at hx
 have xl:xs.length=6:=by rw[←hxs,GU]
 have xm:∀y∈xs,0<=y/\y<2147483647:=fun y hy=>Ip (hxs▸hy)
 have atx:∀k:Nat,k<6->Bu (xs.map V.int) ((k:Nat):Int)=some (.int (xs.getD k 0)):=fun k hk=>EY (ns:=xs) (k:=((k:Nat):Int)) (by omega) (by omega)
 have xb:∀k:Nat,k<6->0<=xs.getD k 0/\xs.getD k 0<2147483647:=fun k hk=>by
  have hm:xs.getD k 0∈xs:=by rw[CZ,BB (by omega)];exact F6 _
  exact xm _ hm
 dsimp only[Am]
 have vl:=aO.1
 refine⟨AE rfl,fun r1 hr1=>?_⟩
 have s2:=Ac hr1 (.lst [V.str ""])
 have e2:=s1.trans s2
 have hO2:=e2 _ _ hO0
 refine⟨_,rfl,o,rfl,⟨_,A3.of hO2⟩,?_⟩
 refine Hc (xs:=vs) (fun i ys H'=>H'=upd H1 r1 (.lst [V.str ""])/\ys=((ts.take i).map Ak.nm).map V.str) ⟨rfl,rfl⟩ (Ai (by omega)) (fun i ys H' hi pp=>⟨by rw[pp.1];exact A3.of hO2,by rw[pp.2,An,An,Bt];omega⟩) (fun i x ys H' hc pp=>?_) (fun ys H' pp r2 hr2=>?_)
 .obtain⟨rfl,rfl⟩:=pp
  obtain⟨t,ht,p,xa,xb',rfl,hp,_,_⟩:=aO.get' hc
  refine⟨_,rfl,p,_,0,_,rfl,rfl,Aw.of (e2 _ _ hp),rfl,rfl,?_⟩
  rw[Du ht,AZ,AZ]
  rfl
 obtain⟨rfl,rfl⟩:=pp
 rw[vl,Eo]
 have s3:=Ac hr2 (.lst ((ts.map Ak.nm).map V.str))
 refine⟨r1,r2,_,_,rfl,rfl,s3 _ _ A6,A6,Ai (by rw[An,An,Bs];omega),fun kl hkl=>?_⟩
 have s4:=Ac hkl (.lst ([V.str ""]++(ts.map Ak.nm).map V.str))
 have hk:Rd.KnAt (upd (upd (upd H1 r1 (.lst [V.str ""])) r2 (.lst ((ts.map Ak.nm).map V.str))) kl (.lst ([V.str ""]++(ts.map Ak.nm).map V.str))) kl (Rd.lnm ts):=⟨A6,by unfold Rd.lnm;rw[An];omega,fun z hz=>by
  obtain⟨t,ht,rfl⟩:=CK.mp hz
  exact(hok t ht).1⟩
 have e4:=(e2.trans s3).trans s4
 have hx4:=(s2.trans (s3.trans s4)) _ _ hx
 dsimp only[Am]
 generalize upd (upd (upd H1 r1 (.lst [V.str ""])) r2 (.lst ((ts.map Ak.nm).map V.str))) kl (.lst ([V.str ""]++(ts.map Ak.nm).map V.str))=H4 at s4 hk e4 hx4
 obtain⟨kn,hkn⟩:∃kn,("":Str)::Rd.lnm ts=kn:=⟨_,rfl⟩
 have hkv:H4 kl=some (.lst (kn.map V.str)):=by rw[←hkn];exact hk.1
 have knl:kn.length<=3:=by rw[←hkn,AQ];unfold Rd.lnm;rw[An];omega
 have hn4:=hn.over e4
 have ct:De (ns.map V.str) none (some 4)=(ns.take 4).map V.str:=by
  have:=Gp (ns.map V.str) (k:=4) (by decide)
  rw[List.map_take]
  exact this
 refine⟨_,rfl,_,rfl,nl,_,rfl,A3.of hn4.1,fun p1 hp1=>?_⟩
 rw[ct]
 have s5:=Ac hp1 (.lst ((ns.take 4).map V.str))
 have hp15:(upd H4 p1 (.lst ((ns.take 4).map V.str))) p1=some (.lst ((ns.take 4).map V.str)):=A6
 have hk5:=hk.over s5
 have hkv5:=s5 _ _ hkv
 generalize upd H4 p1 (.lst ((ns.take 4).map V.str))=H5 at s5 hp15 hk5 hkv5
 have n4:(ns.take 4).length=4:=by rw[Bt,hn.2.1];rfl
 have nd4:(ns.take 4).Nodup:=List.Nodup.sublist (List.take_sublist _ _) hnd
 have n20:∀z∈ns.take 4,Bx (cds z):=fun z hz=>hn.2.2.2 z (G3 hz)
 generalize ns.take 4=n4s at hp15 n4 nd4 n20
 have fl:((kn.map V.str).all ED)=true:=by rw[Nj];exact FY.mpr fun _ _=>rfl
 refine⟨p1,rfl,⟨_,A3.of hp15⟩,?_⟩
 refine Hc (xs:=n4s.map V.str) (fun i ys H3=>H3=H5/\ys=((n4s.take i).filter fun z=>!decide (z∈kn)).map V.str) ⟨rfl,rfl⟩ (Ai (by rw[An];omega)) (fun i ys H3 hi p=>?_) (fun i x ys H3 hc p=>?_) (fun ys H3 p r3 hr3=>?_)
 .obtain⟨rfl,rfl⟩:=p
  refine⟨A3.of hp15,?_⟩
  rw[An]
  exact BI (Nk _ _) (by rw[Bt];omega)
 .obtain⟨rfl,rfl⟩:=p
  rw[Dm]at hc
  cases hz:n4s[i]? with
  |none=>rw[hz]at hc;cases hc
  |
   some z=>
   rw[hz]at hc
   cases hc
   refine⟨_,rfl,_,rfl,kl,_,rfl,.inl (A3.of hkv5),rfl,fl,_,rfl,?_⟩
   show if(!Do (V.str z) (kn.map V.str))=true then _ else _
   rw[RX,Du hz,G0,AZ]
   refine AF (fun c2=>?_) (fun c2=>?_)
   .refine⟨_,rfl,rfl,?_⟩
    rw[show List.filter (fun z=>!decide (z∈kn)) [z]=[z] from List.filter_cons_of_pos (p:=fun z=>!decide (z∈kn)) c2]
    rfl
   .refine⟨rfl,?_⟩
    rw[show List.filter (fun z=>!decide (z∈kn)) [z]=[] from List.filter_cons_of_neg (p:=fun z=>!decide (z∈kn)) c2]
    show _=_++[]
    rw[Cq]
 obtain⟨rfl,rfl⟩:=p
 rw[An,Eo]
 have rsub:∀z∈(n4s.filter fun z=>!decide (z∈kn)),Bx (cds z)/\z∉kn:=fun z hz=>⟨n20 z (MO.mp hz).1,by have:=(MO.mp hz).2;simpa using this⟩
 generalize hrest:(n4s.filter fun z=>!decide (z∈kn))=rest at rsub
 have rne:0<rest.length:=by
  refine Nat.pos_of_ne_zero fun h0=>?_
  have hnil:=List.length_eq_zero_iff.mp h0
  rw[←hrest]at hnil
  have:=Pk nd4 (k:=kn) fun x hx=>by simpa using List.filter_eq_nil_iff.mp hnil x hx
  omega
 have rle:rest.length<=4:=by rw[←hrest,←n4];exact Nk _ _
 have s6:=Ac hr3 (.lst (rest.map V.str))
 have h6r:(upd H3 r3 (.lst (rest.map V.str))) r3=some (.lst (rest.map V.str)):=A6
 have e6:=e4.trans (s5.trans s6)
 have hx6:=(s5.trans s6) _ _ hx4
 have hk6:=hk5.over s6
 dsimp only[Am]
 have hkv6:=s6 _ _ hkv5
 generalize upd H3 r3 (.lst (rest.map V.str))=H6 at s6 h6r e6 hx6 hk6 hkv6
 have flr:((rest.map V.str).all ED)=true:=by rw[Nj];exact FY.mpr fun _ _=>rfl
 obtain⟨q0,xa,xb2,rfl,g0,⟨q1,rfl,g1⟩,⟨q2,rfl,g2⟩⟩:=hla.tk (A7.tk e6)
 have hla6:E2 H6 (.ref q0) tl:=⟨q0,.ref q1,.ref q2,rfl,g0,⟨q1,rfl,g1⟩,⟨q2,rfl,g2⟩⟩
 refine DU (fun σ' H'=>H'=H6/\σ'=[some (.int c),some (.ref nl),some (.ref o),some (.ref q0),some (.ref rx),some (.ref kl),some (.ref r3),none]) (fun σ' H' m=>?_) (fun go=>?_)
 .obtain⟨rfl,rfl⟩:=m
  refine⟨_,rfl,rx,_,_,_,rfl,rfl,A3.of hx6,atx 0 (by decide),_,rfl,rx,_,_,_,rfl,rfl,A3.of hx6,atx 1 (by decide),_,rfl,_,_,kl,_,rfl,(xb 0 (by decide)).1,(xb 0 (by decide)).2,(xb 1 (by decide)).1,(xb 1 (by decide)).2,hk6,fun rl H7 sl e7 hsl bl kl1=>?_⟩
  dsimp only[Am]
  have h7r:=e7 _ _ h6r
  have hx7:=e7 _ _ hx6
  have lr:(((rest.map V.str).length:Nat):Int)=(rest.length:Int):=by rw[An]
  have m0:=BY (xs.getD 4 0) (show(((rest.map V.str).length:Nat):Int)≠0 by omega)
  have m1:=C9 (xs.getD 4 0) (show(0:Int)<(((rest.map V.str).length:Nat):Int) by omega)
  obtain⟨nz,hnz,nzi⟩:=Rd.strs_at (zs:=rest) m0 (by omega)
  obtain⟨nz1,nz2⟩:=rsub nz (C8 nzi)
  refine⟨_,rfl,_,rfl,rx,_,_,_,rfl,rfl,A3.of hx7,atx 4 (by decide),_,rfl,r3,_,rfl,.inl (A3.of h7r),_,_,rfl,rfl,(by show(0:Int)<(((rest.map V.str).length:Nat):Int);omega),r3,_,_,_,rfl,rfl,A3.of h7r,hnz,_,rfl,?_⟩
  refine⟨_,rfl,rx,_,_,_,rfl,rfl,A3.of hx7,atx 2 (by decide),_,rfl,rx,_,_,_,rfl,rfl,A3.of hx7,atx 3 (by decide),_,rfl,_,_,kl,_,rfl,(xb 2 (by decide)).1,(xb 2 (by decide)).2,(xb 3 (by decide)).1,(xb 3 (by decide)).2,hk6.over e7,fun rh H8 sh e8 hsh bh kh1=>⟨AE rfl,fun t ht=>?_⟩⟩
  have s9:=Ac ht (.tup [V.str nz,rl,rh])
  exact q _ _ ⟨nz,sl,sh⟩ (((e6.trans e7).trans e8).trans s9) ⟨t,rl,rh,rfl,A6,(hsl.tk (A7.tk e8)).tk (A7.tk s9),hsh.tk (A7.tk s9)⟩ ⟨nz1,fun z=>nz2 (by rw[←hkn];exact B8 _ z),bl,bh,kl1,kh1⟩
 .refine⟨_,rfl,rx,_,_,_,rfl,rfl,A3.of hx6,atx 5 (by decide),_,_,rfl,rfl,(by show(0:Int)<3;decide),rfl,_,rfl,?_⟩
  refine AF (fun _=>?_) (fun _=>Ay (go _ _ ⟨rfl,rfl⟩))
  refine⟨_,rfl,q0,_,0,_,rfl,rfl,Aw.of g0,rfl,_,rfl,r3,_,rfl,.inl (A3.of h6r),rfl,flr,_,rfl,?_⟩
  refine AF (fun y1=>?_) (fun _=>Ay (go _ _ ⟨rfl,rfl⟩))
  refine⟨_,rfl,q0,_,1,_,rfl,rfl,Aw.of g0,rfl,q1,_,0,_,rfl,rfl,Aw.of g1,rfl,_,rfl,kl,_,rfl,.inl (A3.of hkv6),rfl,fl,_,rfl,?_⟩
  refine AF (fun y2=>?_) (fun _=>Ay (go _ _ ⟨rfl,rfl⟩))
  refine⟨_,rfl,q0,_,2,_,rfl,rfl,Aw.of g0,rfl,q2,_,0,_,rfl,rfl,Aw.of g2,rfl,_,rfl,kl,_,rfl,.inl (A3.of hkv6),rfl,fl,_,rfl,?_⟩
  refine AF (fun y3=>?_) (fun _=>go _ _ ⟨rfl,rfl⟩)
  have inr:∀{z:Str} {l:List Str},Do (V.str z) (l.map V.str)=true->z∈l:=fun{z l} h=>by rw[Rd.in_strs]at h;exact L5 h
  have kw:∀{s:Str×Int},s.1∈kn->Rd.knw (Rd.lnm ts) s=true:=fun{s} h=>by
   rw[←hkn]at h
   unfold Rd.knw
   rcases AG.mp h with h|h
   .rw[B1 h];rfl
   .rw[B1 h,Bool.or_true]
  obtain⟨b1,b2⟩:=rsub _ (inr y1)
  exact⟨_,rfl,q _ _ tl e6 hla6 ⟨b1,fun z=>b2 (by rw[←hkn];exact B8 _ z),okl,okh,kw (inr y2),kw (inr y3)⟩⟩
theorem Tj (T:Tx w K mg a):AI P w K mg base AO 6 a.f_z a.d_z ["_law_cell_here","_law_opened","_law_path","_law_names_here"] Rd.spDeed28:=by
 have G_b :=@GT P w K mg base a T
 have G_t :=@Oh P w K mg base a T
 have G_W :=@Uc P w K mg base a T
 refine T.F_z.ok GM (fun vs H Q E h=>?_) (fun cdv A outer s H vs Q E hr h=>?_)
 .obtain⟨_,_,_,_,_,_,_,rfl,_⟩:=h;rfl
 obtain⟨c,o,pt,nl,ns,ts,path,rfl,hn,hO,⟨hol,hok⟩,hpt,hpl,q⟩:=h
 refine⟨_,(@A4 _ _ _ _ _ (@Al _ _ (4) _ _ _ _ GM.nd rfl (.inl rfl) (@A9 _ _ _ _ _ _ _ _ EZ (@Bj _ _ _ _ (@A0 _ _ _ _ _ Ar A1 (by rfl))) (@DZ _ _ _ _ _ _ _ ["_law_one"] [none] _ _ _ _ (by rfl) (@Dv _ _ _ _ (pv 1)) Wj (fun _ _ _ _ _ _=>⟨(Bz (i:=0) Rx rfl (.inl rfl)),@Eh _,(@Ag _ _ _ _ _ _ _ (show EM _ (HK K) from B4) (pv 0) A2 (fun _ _=>rfl))⟩) (by intro _;rfl))) (by rfl) (by first|exact .inl rfl|exact .inr rfl|assumption)) (@A4 _ _ _ _ _ (@OL _ _ _ _ _ _ (@As _ _ _ _ _ _ _ _ _ _ _ _ _ _ _ _ G_t (hr.mono (by omega)) (by rfl) T.m_t T.F_t.kp T.b_t .nil Ap (@A0 _ _ _ _ _ (@As _ _ _ _ _ _ _ _ _ _ _ _ _ _ _ _ G_b (hr.mono (by omega)) (by rfl) T.m_b T.F_b.kp T.b_b .nil Ap (@A0 _ _ _ _ _ (pv 0) (@A0 _ _ _ _ _ A2 A1 (by rfl)) (by rfl)) (by decide) (by rfl) (by rfl)) (@A0 _ _ _ _ _ (pv 4) (@A0 _ _ _ _ _ (pv 3) A1 (by rfl)) (by rfl)) (by rfl)) (by decide) (by rfl) (by rfl)) (Hj rfl (E5 (Bz (i:=5) GM.nd rfl (.inl rfl)) (E5 (Bz (i:=6) GM.nd rfl (.inl rfl)) (E5 (Bz (i:=7) GM.nd rfl (.inl rfl)) Hm)))) (by rfl) (by rfl) (by rfl)) (@A4 _ _ _ _ _ (@Al _ _ (8) _ _ _ _ GM.nd rfl (.inl rfl) (@As _ _ _ _ _ _ _ _ _ _ _ _ _ _ _ _ G_W (hr.mono (by omega)) (by rfl) T.m_W T.F_W.kp T.b_W .nil Ap (@A0 _ _ _ _ _ (@A9 _ _ _ _ _ _ _ _ CA (pv 0) A2) (@A0 _ _ _ _ _ (pv 4) (@A0 _ _ _ _ _ (pv 3) A1 (by rfl)) (by rfl)) (by rfl)) (by decide) (by rfl) (by rfl)) (by rfl) (by first|exact .inl rfl|exact .inr rfl|assumption)) (@Aa _ _ _ (@Aq _ _ _ _ (@Er _ _ _ _ _ (@Bf _ _ _ _ _ (pv 1) (@Bf _ _ _ _ _ (pv 5) (@Bf _ _ _ _ _ (pv 6) (@Bf _ _ _ _ _ (@Ag _ _ _ _ _ _ _ B4 (pv 8) A2 (fun _ _=>rfl)) (@Bf _ _ _ _ _ (@D7 _ _ _ _ _ _ _ _ _ Gu (by rfl) T.z_tuple Gf (@A0 _ _ _ _ _ (pv 2) A1 (by rfl)) (by decide) (by decide) (by rfl) (by rfl)) (@Bf _ _ _ _ _ (@A9 _ _ _ _ _ _ _ _ Bk (@A9 _ _ _ _ _ _ _ _ Bk (pv 7) Ar) (@Ag _ _ _ _ _ _ _ B4 (pv 8) A2 (fun _ _=>rfl))) E6 Mx) Lu) Gy) Fc) Fc) Fc))))))),?_⟩
 obtain⟨vs,hO0,aO⟩:=id hO
 have vl:=aO.1
 refine⟨AE rfl,fun r1 hr1=>?_⟩
 have s2:=Ac hr1 (.lst [V.str ""])
 have hO2:=s2 _ _ hO0
 refine⟨_,rfl,o,rfl,⟨_,A3.of hO2⟩,?_⟩
 refine Hc (xs:=vs) (fun i ys H'=>H'=upd H r1 (.lst [V.str ""])/\ys=((ts.take i).map Ak.nm).map V.str) ⟨rfl,rfl⟩ (Ai (by omega)) (fun i ys H' hi pp=>⟨by rw[pp.1];exact A3.of hO2,by rw[pp.2,An,An,Bt];omega⟩) (fun i x ys H' hc pp=>?_) (fun ys H' pp r2 hr2=>?_)
 .obtain⟨rfl,rfl⟩:=pp
  obtain⟨t,ht,p,xa,xb',rfl,hp,_,_⟩:=aO.get' hc
  refine⟨_,rfl,p,_,0,_,rfl,rfl,Aw.of (s2 _ _ hp),rfl,rfl,?_⟩
  rw[Du ht,AZ,AZ]
  rfl
 obtain⟨rfl,rfl⟩:=pp
 rw[vl,Eo]
 have s3:=Ac hr2 (.lst ((ts.map Ak.nm).map V.str))
 refine⟨r1,r2,_,_,rfl,rfl,s3 _ _ A6,A6,Ai (by rw[An,An,Bs];omega),fun kl hkl=>?_⟩
 have s4:=Ac hkl (.lst ([V.str ""]++(ts.map Ak.nm).map V.str))
 have hk:Rd.KnAt (upd (upd (upd H r1 (.lst [V.str ""])) r2 (.lst ((ts.map Ak.nm).map V.str))) kl (.lst ([V.str ""]++(ts.map Ak.nm).map V.str))) kl (Rd.lnm ts):=⟨A6,by unfold Rd.lnm;rw[An];exact hol,fun z hz=>by
  obtain⟨t,ht,rfl⟩:=CK.mp hz
  exact(hok t ht).1⟩
 have e4:=(s2.trans s3).trans s4
 dsimp only[Am]
 generalize upd (upd (upd H r1 (.lst [V.str ""])) r2 (.lst ((ts.map Ak.nm).map V.str))) kl (.lst ([V.str ""]++(ts.map Ak.nm).map V.str))=H4 at s4 hk e4
 refine⟨_,rfl,c,5,rfl,by decide,by decide,fun rx H5 e5 hx=>?_⟩
 rw[show(5:Int).toNat=5 from rfl]at hx
 have e05:=e4.trans e5
 refine⟨_,rfl,_,rfl,rx,kl,nl,Ez c 5,_,ns,rfl,hx,GU c 5,fun y hy=>Ip hy,hk.over e5,hn.over e05,fun r p H6 z sp e6 hr6 hp6 lk=>?_⟩
 have ok:=lk.tok
 refine⟨r,_,rfl,Aw.of hr6,rfl,_,_,rfl,_,_,rfl,_,_,rfl,rfl,?_⟩
 have e06:=e05.trans e6
 refine⟨_,rfl,_,_,rfl,rfl,⟨by decide,by decide⟩,_,rfl,_,rfl,_,kl,nl,_,ns,rfl,hk.over (e5.trans e6),hn.over e06,fun x H7 t e7 tp okt st=>?_⟩
 dsimp only[Am]
 obtain⟨tt,y,rfl,htt,hy⟩:=tp
 have e07:=e06.trans e7
 have cl:=Fg ok.1 ok.2.1 ok.2.2
 have wl:=Tw.wr_len okt.ok
 have e3:(" = ":Str).length=3:=by decide +kernel
 refine⟨_,rfl,_,rfl,_,rfl,_,rfl,tt,_,2,_,rfl,rfl,Aw.of htt,rfl,_,rfl,pt,_,rfl,.inl ⟨A3.of (e07 _ _ hpt),fun tp htp=>?_⟩⟩
 have s8:=Ac htp (.tup (path.map V.int))
 refine⟨_,rfl,_,_,rfl,rfl,Ai (by omega),_,rfl,tt,_,0,_,rfl,rfl,Aw.of (s8 _ _ htt),rfl,_,_,rfl,rfl,Ai (by rw[Ax];omega),AE rfl,fun u hu=>?_⟩
 have s9:=Ac hu (.tup [V.ref o,V.str z,V.ref p,y,V.ref tp,V.str (Ba z sp++" = "++t.wr)])
 have e89:=s8.trans s9
 exact q _ _ ⟨ts,z,sp,t,path⟩ (e07.trans e89) ⟨u,p,tp,y,rfl,A6,hO.over (e07.trans e89),(hp6.tk (A7.tk e7)).tk (A7.tk e89),hy.tk (A7.tk e89),s9 _ _ A6⟩ ⟨lk,okt,st⟩ rfl rfl
theorem VM (T:Tx w K mg a):AI P w K mg base AO 7 a.f_Y a.d_Y ["_law_cells","_law_names_here"] (Rd.spProg29 K):=by
 have G_X :=@WU P w K mg base a T
 have G_f :=@OE P w K mg base a T
 have G_z :=@Tj P w K mg base a T
 refine T.F_Y.ok Dp (fun vs H Q E h=>?_) (fun cdv A outer s H vs Q E hr h=>?_)
 .obtain⟨_,_,_,_,rfl,_⟩:=h;rfl
 obtain⟨cl,nl,cs,ns,rfl,hC,hcl,hn,q⟩:=h
 refine⟨_,(@A4 _ _ _ _ _ (@Al _ _ (2) _ _ _ _ Dp.nd rfl (.inl rfl) (@Bj _ _ _ _ A1) (by rfl) (by first|exact .inl rfl|exact .inr rfl|assumption)) (@A4 _ _ _ _ _ (@Al _ _ (3) _ _ _ _ Dp.nd rfl (.inl rfl) (@Bj _ _ _ _ (@A0 _ _ _ _ _ A2 A1 (by rfl))) (by rfl) (by first|exact .inl rfl|exact .inr rfl|assumption)) (@A4 _ _ _ _ _ (@Al _ _ (4) _ _ _ _ Dp.nd rfl (.inl rfl) (@Bj _ _ _ _ A1) (by rfl) (by first|exact .inl rfl|exact .inr rfl|assumption)) (@A4 _ _ _ _ _ (@Al _ _ (5) _ _ _ _ Dp.nd rfl (.inl rfl) (@Bj _ _ _ _ A1) (by rfl) (by first|exact .inl rfl|exact .inr rfl|assumption)) (@A4 _ _ _ _ _ (@Al _ _ (6) _ _ _ _ Dp.nd rfl (.inl rfl) (@Er _ _ _ _ _ (@Bf _ _ _ _ _ Ar (@Bf _ _ _ _ _ (@CQ _ _ _ _ _ (@A0 _ _ _ _ _ Ar (@A0 _ _ _ _ _ A2 A1 (by rfl)) (by rfl))) (@Bf _ _ _ _ _ (@CQ _ _ _ _ _ (@A0 _ _ _ _ _ Ar (@A0 _ _ _ _ _ A2 A1 (by rfl)) (by rfl))) E6 GV) GV) DI)) (by rfl) (by first|exact .inl rfl|exact .inr rfl|assumption)) (@A4 _ _ _ _ _ (@Ed _ _ _ _ _ _ _ _ PassesOwn.never rfl (@Dv _ _ _ _ (pv 0)) (Bz (i:=7) Dp.nd rfl (.inl rfl)) (@A4 _ _ _ _ _ (@AK _ _ _ _ _ _ _ _ (@Au _ _ _ _ _ _ _ _ Bv (@Bb _ _ _ _ _ _ _ _ _ C6 (by rfl) T.z_len BJ (@A0 _ _ _ _ _ (pv 5) A1 (by rfl)) (by decide) (by decide) (by rfl) (by rfl)) A2 (@Av _ _ (by decide) (by decide))) (@Aa _ _ _ W6) AU) (@Aa _ _ _ (@AK _ _ _ _ _ _ _ _ ((@Dg _ _ _ _ _ _ _ (@Au _ _ _ _ _ _ _ _ Ey (@A9 _ _ _ _ _ _ _ _ Bq (pv 7) A2) A2 (@Av _ _ (by decide) (by decide))) (@DT _ _ _ _ (@Au _ _ _ _ _ _ _ _ Ey (@Bb _ _ _ _ _ _ _ _ _ C6 (by rfl) T.z_len BJ (@A0 _ _ _ _ _ (pv 2) A1 (by rfl)) (by decide) (by decide) (by rfl) (by rfl)) A2 (@Av _ _ (by decide) (by decide)))))).pt (@A4 _ _ _ _ _ (@Al _ _ (8) _ _ _ _ Dp.nd rfl (.inl rfl) (@As _ _ _ _ _ _ _ _ _ _ _ _ _ _ _ _ G_X (hr.mono (by omega)) (by rfl) T.m_X T.F_X.kp T.b_X .nil Ap (@A0 _ _ _ _ _ (@A9 _ _ _ _ _ _ _ _ CA (pv 7) A2) (@A0 _ _ _ _ _ (pv 1) (@A0 _ _ _ _ _ (pv 2) (@A0 _ _ _ _ _ (pv 6) A1 (by rfl)) (by rfl)) (by rfl)) (by rfl)) (by decide) (by rfl) (by rfl)) (by rfl) (by first|exact .inl rfl|exact .inr rfl|assumption)) (@A4 _ _ _ _ _ (@Al _ _ (9) _ _ _ _ Dp.nd rfl (.inl rfl) (@A9 _ _ _ _ _ _ _ _ Bk (@A9 _ _ _ _ _ _ _ _ Bk (@A9 _ _ _ _ _ _ _ _ Bk Ar (@Ag _ _ _ _ _ _ _ B4 (pv 8) A2 (fun _ _=>rfl))) Ar) (@As _ _ _ _ _ _ _ _ _ _ _ _ _ _ _ _ G_f (hr.mono (by omega)) (by rfl) T.m_f T.F_f.kp T.b_f .nil Ap (@A0 _ _ _ _ _ (@Ag _ _ _ _ _ _ _ B4 (pv 8) A2 (fun _ _=>rfl)) A1 (by rfl)) (by decide) (by rfl) (by rfl))) (by rfl) (by first|exact .inl rfl|exact .inr rfl|assumption)) (@A4 _ _ _ _ _ (@Bp _ _ _ _ (@B9 _ _ _ _ _ _ _ _ _ _ _ _ Bh BS BU BM (pv 4) (@A0 _ _ _ _ _ (@CQ _ _ _ _ _ (@A0 _ _ _ _ _ (@Bb _ _ _ _ _ _ _ _ _ C6 (by rfl) T.z_len BJ (@A0 _ _ _ _ _ (pv 2) A1 (by rfl)) (by decide) (by decide) (by rfl) (by rfl)) (@A0 _ _ _ _ _ (@A9 _ _ _ _ _ _ _ _ Bk (@A9 _ _ _ _ _ _ _ _ Bk (pv 9) Ar) (@As _ _ _ _ _ _ _ _ _ _ _ _ _ _ _ _ G_f (hr.mono (by omega)) (by rfl) T.m_f T.F_f.kp T.b_f .nil Ap (@A0 _ _ _ _ _ (@Ag _ _ _ _ _ _ _ B4 (pv 8) A2 (fun _ _=>rfl)) A1 (by rfl)) (by decide) (by rfl) (by rfl))) A1 (by rfl)) (by rfl))) A1 (by rfl)) (by rfl) (by rfl) (by rfl) (by rfl) (by rfl)) (by rfl)) (@A4 _ _ _ _ _ (@Al _ _ (2) _ _ _ _ Dp.nd rfl (.inl rfl) (@A9 _ _ _ _ _ _ _ _ EZ (pv 2) (@Bj _ _ _ _ (@A0 _ _ _ _ _ (pv 8) A1 (by rfl)))) (by rfl) (by first|exact .inl rfl|exact .inr rfl|assumption)) (@Aa _ _ _ (@Al _ _ (3) _ _ _ _ Dp.nd rfl (.inl rfl) (@A9 _ _ _ _ _ _ _ _ EZ (pv 3) (@Bj _ _ _ _ (@A0 _ _ _ _ _ A2 A1 (by rfl)))) (by rfl) (by first|exact .inl rfl|exact .inr rfl|assumption))))))) (@Aa _ _ _ (@AK _ _ _ _ _ _ _ _ ((@Dg _ _ _ _ _ _ _ (@Au _ _ _ _ _ _ _ _ Bv (@A9 _ _ _ _ _ _ _ _ Bq (pv 7) A2) A2 (@Av _ _ (by decide) (by decide))) (@Dg _ _ _ _ _ _ _ (@Au _ _ _ _ _ _ _ _ (@IB _ (@FH _ _ hr)) (pv 2) (@Bj _ _ _ _ A1) (@Av _ _ (by decide) (by decide))) (@DT _ _ _ _ (@Au _ _ _ _ _ _ _ _ Fm (@Ag _ _ _ _ _ _ _ AX (pv 3) (@CW _ _ _ _ _ _ CV A2) (fun _ _=>rfl)) A2 (@Av _ _ (by decide) (by decide))))))).pt (@A4 _ _ _ _ _ (@Al _ _ (6) _ _ _ _ Dp.nd rfl (.inl rfl) (@Ag _ _ _ _ _ _ _ AX (pv 2) (@CW _ _ _ _ _ _ CV A2) (fun _ _=>rfl)) (by rfl) (by first|exact .inl rfl|exact .inr rfl|assumption)) (@A4 _ _ _ _ _ (@Al _ _ (2) _ _ _ _ Dp.nd rfl (.inl rfl) (@Di _ _ _ _ _ _ _ _ _ _ Fv (pv 2) E7 (@Cz _ _ _ (@CW _ _ _ _ _ _ CV A2))) (by rfl) (by first|exact .inl rfl|exact .inr rfl|assumption)) (@A4 _ _ _ _ _ (@Al _ _ (3) _ _ _ _ Dp.nd rfl (.inl rfl) (@A9 _ _ _ _ _ _ _ _ EZ (@Di _ _ _ _ _ _ _ _ _ _ Fv (pv 3) E7 (@Cz _ _ _ (@CW _ _ _ _ _ _ CV A2))) (@Bj _ _ _ _ (@A0 _ _ _ _ _ (@A9 _ _ _ _ _ _ _ _ C4 (@Ag _ _ _ _ _ _ _ AX (pv 3) (@CW _ _ _ _ _ _ CV A2) (fun _ _=>rfl)) A2) A1 (by rfl)))) (by rfl) (by first|exact .inl rfl|exact .inr rfl|assumption)) (@Aa _ _ _ (@Bp _ _ _ _ (@B9 _ _ _ _ _ _ _ _ _ _ _ _ Bh BS BU BM (pv 4) (@A0 _ _ _ _ _ (@CQ _ _ _ _ _ (@A0 _ _ _ _ _ (@Bb _ _ _ _ _ _ _ _ _ C6 (by rfl) T.z_len BJ (@A0 _ _ _ _ _ (pv 2) A1 (by rfl)) (by decide) (by decide) (by rfl) (by rfl)) (@A0 _ _ _ _ _ Ar A1 (by rfl)) (by rfl))) A1 (by rfl)) (by rfl) (by rfl) (by rfl) (by rfl) (by rfl)) (by rfl)))))) (@A4 _ _ _ _ _ (@Bp _ _ _ _ (@B9 _ _ _ _ _ _ _ _ _ _ _ _ Bh BS BU BM (pv 5) (@A0 _ _ _ _ _ (@As _ _ _ _ _ _ _ _ _ _ _ _ _ _ _ _ G_z (hr.mono (by omega)) (by rfl) T.m_z T.F_z.kp T.b_z .nil Ap (@A0 _ _ _ _ _ (@A9 _ _ _ _ _ _ _ _ CA (pv 7) A2) (@A0 _ _ _ _ _ (pv 2) (@A0 _ _ _ _ _ (pv 3) (@A0 _ _ _ _ _ (pv 1) A1 (by rfl)) (by rfl)) (by rfl)) (by rfl)) (by decide) (by rfl) (by rfl)) A1 (by rfl)) (by rfl) (by rfl) (by rfl) (by rfl) (by rfl)) (by rfl)) (@A4 _ _ _ _ _ (@Bp _ _ _ _ (@B9 _ _ _ _ _ _ _ _ _ _ _ _ Bh BS BU BM (pv 4) (@A0 _ _ _ _ _ (@CQ _ _ _ _ _ (@A0 _ _ _ _ _ (@Bb _ _ _ _ _ _ _ _ _ C6 (by rfl) T.z_len BJ (@A0 _ _ _ _ _ (pv 2) A1 (by rfl)) (by decide) (by decide) (by rfl) (by rfl)) (@A0 _ _ _ _ _ (@Ag _ _ _ _ _ _ _ B4 (@Ag _ _ _ _ _ _ _ AX (pv 5) (@CW _ _ _ _ _ _ CV A2) (fun _ _=>rfl)) A2 (fun _ _=>rfl)) A1 (by rfl)) (by rfl))) A1 (by rfl)) (by rfl) (by rfl) (by rfl) (by rfl) (by rfl)) (by rfl)) (@Aa _ _ _ (@Al _ _ (3) _ _ _ _ Dp.nd rfl (.inl rfl) (@A9 _ _ _ _ _ _ _ _ EZ (@Di _ _ _ _ _ _ _ _ _ _ Fv (pv 3) E7 (@Cz _ _ _ (@CW _ _ _ _ _ _ CV A2))) (@Bj _ _ _ _ (@A0 _ _ _ _ _ (@A9 _ _ _ _ _ _ _ _ C4 (@Ag _ _ _ _ _ _ _ AX (pv 3) (@CW _ _ _ _ _ _ CV A2) (fun _ _=>rfl)) A2) A1 (by rfl)))) (by rfl) (by first|exact .inl rfl|exact .inr rfl|assumption)))))))))) (by intro _;rfl)) (@A4 _ _ _ _ _ (@AK _ _ _ _ _ _ _ _ (@Au _ _ _ _ _ _ _ _ Bv (@Ag _ _ _ _ _ _ _ AX (pv 3) (@CW _ _ _ _ _ _ CV A2) (fun _ _=>rfl)) A2 (@Av _ _ (by decide) (by decide))) (@A4 _ _ _ _ _ (@Bp _ _ _ _ (@B9 _ _ _ _ _ _ _ _ _ _ _ _ Bh BS BU BM (pv 5) (@A0 _ _ _ _ _ (@As _ _ _ _ _ _ _ _ _ _ _ _ _ _ _ _ G_z (hr.mono (by omega)) (by rfl) T.m_z T.F_z.kp T.b_z .nil Ap (@A0 _ _ _ _ _ (@Bb _ _ _ _ _ _ _ _ _ C6 (by rfl) T.z_len BJ (@A0 _ _ _ _ _ (pv 0) A1 (by rfl)) (by decide) (by decide) (by rfl) (by rfl)) (@A0 _ _ _ _ _ (pv 2) (@A0 _ _ _ _ _ (pv 3) (@A0 _ _ _ _ _ (pv 1) A1 (by rfl)) (by rfl)) (by rfl)) (by rfl)) (by decide) (by rfl) (by rfl)) A1 (by rfl)) (by rfl) (by rfl) (by rfl) (by rfl) (by rfl)) (by rfl)) (@Aa _ _ _ (@Bp _ _ _ _ (@B9 _ _ _ _ _ _ _ _ _ _ _ _ Bh BS BU BM (pv 4) (@A0 _ _ _ _ _ (@CQ _ _ _ _ _ (@A0 _ _ _ _ _ (@Bb _ _ _ _ _ _ _ _ _ C6 (by rfl) T.z_len BJ (@A0 _ _ _ _ _ (pv 2) A1 (by rfl)) (by decide) (by decide) (by rfl) (by rfl)) (@A0 _ _ _ _ _ (@Ag _ _ _ _ _ _ _ B4 (@Ag _ _ _ _ _ _ _ AX (pv 5) (@CW _ _ _ _ _ _ CV A2) (fun _ _=>rfl)) A2 (fun _ _=>rfl)) A1 (by rfl)) (by rfl))) A1 (by rfl)) (by rfl) (by rfl) (by rfl) (by rfl) (by rfl)) (by rfl)))) AU) (@A4 _ _ _ _ _ (@HQ _ _ _ _ _ _ PassesOwn.never (@Au _ _ _ _ _ _ _ _ (@IB _ (@FH _ _ hr)) (pv 2) (@Bj _ _ _ _ A1) (@Av _ _ (by decide) (by decide))) (@A4 _ _ _ _ _ (@Al _ _ (2) _ _ _ _ Dp.nd rfl (.inl rfl) (@Di _ _ _ _ _ _ _ _ _ _ Fv (pv 2) E7 (@Cz _ _ _ (@CW _ _ _ _ _ _ CV A2))) (by rfl) (by first|exact .inl rfl|exact .inr rfl|assumption)) (@Aa _ _ _ (@Bp _ _ _ _ (@B9 _ _ _ _ _ _ _ _ _ _ _ _ Bh BS BU BM (pv 4) (@A0 _ _ _ _ _ (@CQ _ _ _ _ _ (@A0 _ _ _ _ _ (@Bb _ _ _ _ _ _ _ _ _ C6 (by rfl) T.z_len BJ (@A0 _ _ _ _ _ (pv 2) A1 (by rfl)) (by decide) (by decide) (by rfl) (by rfl)) (@A0 _ _ _ _ _ Ar A1 (by rfl)) (by rfl))) A1 (by rfl)) (by rfl) (by rfl) (by rfl) (by rfl) (by rfl)) (by rfl))))) (@Aa _ _ _ (@Aq _ _ _ _ (@CQ _ _ _ _ _ (@A0 _ _ _ _ _ (pv 4) (@A0 _ _ _ _ _ (pv 5) A1 (by rfl)) (by rfl))))))))))))),?_⟩
 have f4:("for ":Str).length=4:=by decide +kernel
 have f1:(" ":Str).length=1:=by decide +kernel
 have fe:("end":Str).length=3:=by decide +kernel
 refine⟨AE rfl,fun o0 ho0=>?_⟩
 refine⟨AE rfl,fun pt0 hpt0=>?_⟩
 refine⟨AE rfl,fun rl hrl=>?_⟩
 refine⟨AE rfl,fun dl hdl=>?_⟩
 refine⟨AE rfl,fun q1 hq1=>?_⟩
 refine⟨AE rfl,fun q2 hq2=>?_⟩
 refine⟨AE rfl,fun la0 hla0=>?_⟩
 have start:C3 H _ rl dl o0 pt0 (.ref la0) [] [0] [] [] ⟨"",("",0),("",0)⟩:=C3.start ho0 hpt0 hrl hdl hq1 hq2 hla0
 dsimp only[Am]
 generalize upd (upd (upd (upd (upd (upd (upd H o0 (HO.lst [])) pt0 (HO.lst [V.int 0])) rl (HO.lst [])) dl (HO.lst [])) q1 (HO.tup [V.str (Str.ofString ""),V.int 0])) q2 (HO.tup [V.str (Str.ofString ""),V.int 0])) la0 (HO.tup [V.str (Str.ofString ""),V.ref q1,V.ref q2])=HS at start
 have ok0:Rd.SpN ("",0):=Rd.spn9.1
 refine DU (fun σ' H'=>∃(o pt:Addr) (la:V) (ts:List Ak) (path:List Int) (R:Pw.Rw Ak Str) (Ds:List Dw) (tl:Ak) (o7 o8 o9:Option V),σ'=[some (.ref cl),some (.ref nl),some (.ref o),some (.ref pt),some (.ref rl),some (.ref dl),some la,o7,o8,o9]/\C3 H H' rl dl o pt la ts path R Ds tl/\(∃ks pa y,Rd.Rn ns R ts path Ds ks pa y)/\(Pw.Dft ts path R (Ds.map Dw.dd)/\∀D∈Ds,D.Ok)/\Ds.length<=6/\R.length<=63) (fun σ' H' m=>?_) (fun rest=>?_)
 .obtain⟨o,pt,la,ts,path,R,Ds,tl,o7,o8,o9,rfl,N,⟨ks,p,y,C⟩,⟨F,dok⟩,d6,r60⟩:=m
  obtain rfl:=C.pe
  have t3:=C.nm.1
  have hpt:=C0 _ _ N.pa
  rw[AZ]at hpt
  refine DU (fun σ' H'=>∃(o pt:Addr) (la:V) (ts:List Ak) (path:List Int) (R:Pw.Rw Ak Str) (Ds:List Dw) (tl:Ak) (o7 o8 o9:Option V),σ'=[some (.ref cl),some (.ref nl),some (.ref o),some (.ref pt),some (.ref rl),some (.ref dl),some la,o7,o8,o9]/\C3 H H' rl dl o pt la ts path R Ds tl/\(∃ks pa y,Rd.Rn ns R ts (pa++[y]) Ds ks pa y/\0<y)/\(Pw.LinA 0 (Ds.map Dw.dd) (R++Pw.ends 0 ts.length)/\Pw.CC 0 (Ds.map Dw.dd)/\∀D∈Ds,D.Ok)/\Ds≠[]/\R.length<=64) (fun σ' H' m=>?_) (fun rest=>?_)
  .obtain⟨o,pt,la,ts,path,R,Ds,tl,o7,o8,o9,rfl,N,⟨ks,pa,y,C,y0⟩,⟨lin,cc,dok⟩,dne,r61⟩:=m
   have t3:=C.nm.1
   show DO (JG _ _) (Gm _) _ _ _
   refine DU (fun σ' H'=>∃(o pt:Addr) (la:V) (path:List Int) (R':Pw.Rw Ak Str) (tl:Ak) (o7 o8 o9:Option V),σ'=[some (.ref cl),some (.ref nl),some (.ref o),some (.ref pt),some (.ref rl),some (.ref dl),some la,o7,o8,o9]/\C3 H H' rl dl o pt la [] path R' Ds tl/\(∃ks y,Rd.Rn ns R' [] [y] Ds ks [] y)/\R'.length<=70/\R'=R++Pw.ends 0 ts.length) (fun σ' H' m=>?_) (fun nx=>?_)
   .obtain⟨o,pt,la,path,R',tl,o7,o8,o9,rfl,N,⟨ks,y,C⟩,r70,rfl⟩:=m
    refine⟨_,rfl,_,rfl,AE rfl,fun t ht=>?_⟩
    have N2:=N.over (Ac ht (.tup [V.ref rl,V.ref dl]))
    obtain⟨xs,hxs,ax⟩:=N2.rows
    obtain⟨ys,hys,ay⟩:=N2.deeds
    exact q t rl dl _ xs ys _ Ds ks y N2.same A6 hxs ax hys (ay.mono fun _ _ z=>z.over C0) C dne r70 lin cc dok
   refine PM 4 (fun j σ' H'=>∃(o pt:Addr) (la:V) (us:List Ak) (path:List Int) (R':Pw.Rw Ak Str) (tl:Ak) (o7 o8 o9:Option V),σ'=[some (.ref cl),some (.ref nl),some (.ref o),some (.ref pt),some (.ref rl),some (.ref dl),some la,o7,o8,o9]/\C3 H H' rl dl o pt la us path R' Ds tl/\us.length+j<=3/\R'.length<=64+j/\(∃ks pa y,Rd.Rn ns R' us (pa++[y]) Ds ks pa y/\0<y)/\R'++Pw.ends 0 us.length=R++Pw.ends 0 ts.length) ⟨o,pt,la,ts,path,R,tl,o7,o8,o9,rfl,N,by omega,by omega,⟨ks,pa,y,C,y0⟩,rfl⟩ (fun j σ' H' hj pp=>?_) (MT.test (ME.op (Rd.mr_eqE _ _) (ME.var _) (ME.lst MA.nil)))
   obtain⟨o,pt,la,us,path,R',tl,o7,o8,o9,rfl,N,uj,rj,⟨ks,pa,y,C,y0⟩,eR⟩:=pp
   refine⟨_,rfl,AE rfl,fun p0 hp0=>?_⟩
   have sp:=Ac hp0 (.lst [])
   have N2:=N.over sp
   obtain⟨tr,htr0,htra⟩:=N2.op.over C0
   have htl:=htra.1
   refine⟨o,p0,tr,rfl,rfl,A3.of htr0,A3.of A6,_,rfl,?_⟩
   change if(!tr.isEmpty)=true then _ else _
   refine AF (fun c3=>?_) (fun c3=>?_)
   .have hne:0<us.length:=by
     have:¬tr=[]:=by simpa using c3
     have:=List.length_pos_iff.mpr this
     omega
    obtain⟨us',x,rfl,hu⟩:=Fu (l:=us) (n:=us.length-1) (by omega)
    refine⟨by omega,?_⟩
    obtain⟨vs,h0,a0⟩:=N2.op
    have vl:=a0.1
    rw[Ah,Bs]at vl
    obtain⟨vs',v,rfl,hv'⟩:=Fu vl
    refine⟨_,rfl,_,rfl,_,rfl,o,_,rfl,A3.of (C0 _ _ h0),fun p1 hp1=>?_⟩
    have cv:De (vs'++[v]) none (some (-1))=vs':=Jf vs' [v] (GD _) rfl
    rw[cv]
    have a1:AH (E2 _) vs' us':=⟨hv',fun i y t a b=>(a0.2 i y t (by rw[DM (BE.mp a).1];exact a) (by rw[DM (BE.mp b).1];exact b)).tk (A7.tk C0)⟩
    have N3:=N2.newO hp1 a1
    obtain⟨vs2,h2,_⟩:=N3.op
    have hp1':(upd (upd H' p0 (.lst [])) p1 (.lst vs')) p1=some (.lst vs'):=A6
    dsimp only[Am]
    generalize upd (upd H' p0 (.lst [])) p1 (.lst vs')=H3 at N3 hp1' h2
    obtain⟨xs,hxs,ax⟩:=N3.rows
    have xl:=ax.1
    refine⟨_,rfl,.inl ⟨rfl,_,A3.of hxs⟩,_,rfl,p1,_,rfl,.inl (A3.of hp1'),AE rfl,fun t ht=>?_⟩
    have s4:=Ac ht (.tup [V.int ((vs'.length:Nat):Int),V.str "end"])
    refine⟨rl,_,_,rfl,rfl,s4 _ _ hxs,BK (by omega),?_⟩
    have N4:=(N3.over s4).row (p:=(us'.length,.fin)) (s4 _ _ hxs) (by rw[A6,hv'];rfl)
    rw[Ah,Bs]at uj
    refine⟨p1,pt,la,us',path,R'++[(us'.length,.fin)],tl,_,_,_,rfl,N4,by omega,by rw[Ah,Bs];omega,?_⟩
    have pl:=C.pl
    rw[Ah,Bs]at pl
    obtain⟨pa',m,rfl,_⟩:=Fu pl
    have m0:0<=m:=C.p0.1 m (by simp)
    refine⟨⟨_,pa',m+1,C.fin (by omega) us'.length,by omega⟩,?_⟩
    rw[←eR,Ah,BC]
    show R'++((us'.length,Pw.Rr.fin)::Pw.ends 0 us'.length)=R'++((0+us'.length,Pw.Rr.fin)::Pw.ends 0 us'.length)
    rw[Nc]
   .have u0:us=[]:=by
     have:tr=[]:=by simpa using c3
     rw[this]at htl
     exact L0 htl.symm
    subst u0
    obtain rfl:pa=[]:=L0 C.pl
    exact nx _ _ ⟨o,pt,la,path,R',tl,_,_,_,rfl,N2,⟨ks,y,C⟩,by omega,by rw[←eR];show R'=R'++[];rw[Cq]⟩
  .refine⟨_,rfl,_,rfl,pt,_,_,_,rfl,rfl,A3.of hpt,Fn _ _ [] rfl,rfl,_,rfl,?_⟩
   refine AF (fun cy=>?_) (fun cz=>?_)
   .have hlen:=(N.op).over C0
    refine⟨_,rfl,.inl ⟨rfl,_,A3.of (N.deeds.choose_spec.1)⟩,_,rfl,cl,_,rfl,.inl (N.same.seq hC),_,rfl,_,rfl,_,rfl,_,o,pt,nl,ns,ts,p++[y],rfl,hn.over N.same,hlen,C.nm,C0 _ _ N.pa,C.len,fun r H2 D e2 hD okD eL eP=>?_⟩
    have N2:=N.over e2
    obtain⟨ys,hys,ay⟩:=N2.deeds
    obtain⟨xs,hxs,ax⟩:=N2.rows
    have yl:=ay.1
    have xl:=ax.1
    refine⟨dl,_,_,rfl,rfl,hys,BK (by omega),?_⟩
    have hDw:Fq (wo2 H2 rl dl) r D:=hD.wo2' hxs hys N2.op eL
    have N3:=N2.deed hys hDw
    obtain⟨oD,pD,psD,ptD,shD,rfl,hpD,_⟩:=id hDw
    have hpD3:(upd H2 dl (.lst (ys++[.ref pD]))) pD=some (.tup [.ref oD,.str D.tbl,.ref psD,shD,.ref ptD,.str D.txt]):=(TK.upd hys) _ _ (C0 _ _ hpD)
    have hdl3:(upd H2 dl (.lst (ys++[.ref pD]))) dl=some (.lst (ys++[.ref pD])):=A6
    generalize upd H2 dl (.lst (ys++[.ref pD]))=H3 at N3 hpD3 hdl3
    obtain⟨xs,hxs,ax⟩:=N3.rows
    obtain⟨vs,hvs,av⟩:=N3.op
    have vl:=av.1
    have xl:=ax.1
    refine⟨_,rfl,.inl ⟨rfl,_,A3.of hxs⟩,_,rfl,o,_,rfl,.inl (A3.of (C0 _ _ hvs)),_,rfl,_,rfl,dl,_,_,_,rfl,rfl,A3.of hdl3,Fn _ _ [] rfl,pD,_,5,_,rfl,rfl,Aw.of hpD3,rfl,AE rfl,fun t ht=>?_⟩
    have s4:=Ac ht (.tup [V.int ((vs.length:Nat):Int),V.str D.txt])
    refine⟨rl,_,_,rfl,rfl,s4 _ _ hxs,BK (by omega),?_⟩
    have N4:=(N3.over s4).row (p:=(ts.length,.row D.txt)) (s4 _ _ hxs) (by rw[A6,vl];rfl)
    have y0:y=0:=V.int.inj (dT cy)
    have eD:(⟨ts,p++[y],D.txt⟩:Pw.Dd Ak Str)=D.dd:=by rw[←eL,←eP];rfl
    have F2:Pw.Dft ts (p++[y+1]) (R++[(ts.length,Pw.Rr.row D.txt)]) ((Ds++[D]).map Dw.dd):=by
     have:=F.deed D.txt
     rw[eD]at this
     rw[AZ]
     exact this
    obtain⟨lin,cc,_⟩:=F2.all (by omega)
    have d5:Ds.length<=5:=C.l6.resolve_right (by omega)
    exact rest _ _ ⟨o,pt,la,ts,p++[y],R++[(ts.length,.row D.txt)],Ds++[D],tl,_,_,_,rfl,N4,⟨_,p,y+1,C.ded okD eL eP d5 ts.length,by omega⟩,⟨lin,cc,Rd.mem_snoc dok (okD.old C.nm C.len eL eP)⟩,by simp,by rw[Ah,Bs];omega⟩
   .have y0:y≠0:=fun e=>dF cz (congrArg V.int e)
    have y1:0<y:=by have:=C.p0.2;omega
    exact rest _ _ ⟨o,pt,la,ts,p++[y],R,Ds,tl,_,_,_,rfl,N,⟨ks,p,y,C,y1⟩,⟨(F.all y0).1,(F.all y0).2.1,dok⟩,C.dn y1,by omega⟩
 .refine⟨_,rfl,cl,rfl,⟨_,start.same.seq hC⟩,?_⟩
  refine FG (xs:=cs.map V.int) (fun i σ' H'=>∃(o pt:Addr) (la:V) (ts:List Ak) (path:List Int) (R:Pw.Rw Ak Str) (Ds:List Dw) (tl:Ak) (o7 o8 o9:Option V),σ'=[some (.ref cl),some (.ref nl),some (.ref o),some (.ref pt),some (.ref rl),some (.ref dl),some la,o7,o8,o9]/\C3 H H' rl dl o pt la ts path R Ds tl/\(∃ks pa y,Rd.Rn ns R ts path Ds ks pa y)/\(Pw.Dft ts path R (Ds.map Dw.dd)/\∀D∈Ds,D.Ok)/\Ds.length<=6/\R.length<=i/\Rd.SpN tl.lo/\Rd.SpN tl.hi) ⟨o0,pt0,.ref la0,[],[0],[],[],_,_,_,_,rfl,start,⟨_,_,_,Rd.Rn.start ns⟩,⟨Pw.Dft.start,fun D hD=>(by cases hD)⟩,Bw _,Aj _,ok0,ok0⟩ (fun i σ' H' _ p=>by obtain⟨_,_,_,_,_,_,_,_,_,_,_,_,N,_⟩:=p;exact N.same.seq hC) (fun i x σ' H' hx p=>?_) (fun σ' H' p=>?_)
  rotate_left
  .obtain⟨o,pt,la,ts,path,R,Ds,tl,o7,o8,o9,rfl,N,⟨ks,pa,la1,C⟩,⟨F,dok⟩,d6,ri,lok,hok⟩:=p
   rw[An]at ri
   exact rest _ _ ⟨o,pt,la,ts,path,R,Ds,tl,_,_,_,rfl,N,⟨_,_,_,C⟩,⟨F,dok⟩,d6,by omega⟩
  obtain⟨o,pt,la,ts,path,R,Ds,tl,o7,o8,o9,rfl,N,⟨ks,pa,la1,C⟩,⟨F,dok⟩,d6,ri,lok,hok⟩:=p
  have t3:=C.nm.1
  have hi:i<cs.length:=by have:=(BE.mp hx).1;rwa [An]at this
  obtain⟨c,rfl⟩:∃c,x=V.int c:=by
   rw[Dm]at hx
   cases e:cs[i]? with
   |none=>rw[e]at hx;cases hx
   |some z=>rw[e]at hx;exact⟨z,(BX hx).symm⟩
  obtain⟨ys0,hys0,ay0⟩:=N.deeds
  have yl0:=ay0.1
  dsimp only[Am]
  refine⟨_,rfl,dl,_,rfl,.inl (A3.of hys0),rfl,_,rfl,?_⟩
  refine AF (fun _=>rest _ _ ⟨o,pt,la,ts,path,R,Ds,tl,_,_,_,rfl,N,⟨_,_,_,C⟩,⟨F,dok⟩,d6,by omega⟩) (fun c6=>?_)
  have D5:Ds.length<=5:=by
   have:=dF c6
   have h2:¬((ys0.length:Nat):Int)=6:=fun z=>this (congrArg V.int z)
   omega
  dsimp only[Ia]
  refine KJ (fun H2=>H2=H') (fun H2 e=>?_) (fun els=>?_)
  .subst e
   refine KJ (fun H3=>A7 H2 H3) (fun H3 e2=>?_) (fun els2=>?_)
   ·
    have N2:=N.over e2
    obtain rfl:=C.pe
    have hp:=C.pl
    obtain⟨ys1,hys1,_⟩:=N2.deeds
    refine⟨_,rfl,.inl ⟨rfl,_,A3.of hys1⟩,_,rfl,_,_,rfl,rfl,⟨by decide,by decide⟩,_,rfl,_,rfl,_,rfl,_,o,pt,nl,ns,ts,pa++[la1],rfl,hn.over N2.same,N2.op.over C0,C.nm,C0 _ _ N2.pa,C.len,fun r H4 D e4 hD okD eL eP=>?_⟩
    have N4:=N2.over e4
    obtain⟨ys,hys,ay⟩:=N4.deeds
    obtain⟨xs,hxs,ax⟩:=N4.rows
    have yl:=ay.1
    refine⟨dl,_,_,rfl,rfl,hys,BK (by omega),?_⟩
    have hDw:Fq (wo2 H4 rl dl) r D:=hD.wo2' hxs hys N4.op eL
    have N5:=N4.deed hys hDw
    obtain⟨oD,pD,psD,ptD,shD,rfl,hpD,_⟩:=id hDw
    have hpD3:(upd H4 dl (.lst (ys++[.ref pD]))) pD=some (.tup [.ref oD,.str D.tbl,.ref psD,shD,.ref ptD,.str D.txt]):=(TK.upd hys) _ _ (C0 _ _ hpD)
    have hdl3:(upd H4 dl (.lst (ys++[.ref pD]))) dl=some (.lst (ys++[.ref pD])):=A6
    generalize upd H4 dl (.lst (ys++[.ref pD]))=H5 at N5 hpD3 hdl3
    obtain⟨xs,hxs,ax⟩:=N5.rows
    obtain⟨vs,hvs,av⟩:=N5.op
    have vl:=av.1
    have xl:=ax.1
    refine⟨_,rfl,.inl ⟨rfl,_,A3.of hxs⟩,_,rfl,o,_,rfl,.inl (A3.of (C0 _ _ hvs)),_,rfl,_,rfl,dl,_,_,_,rfl,rfl,A3.of hdl3,Fn _ _ [] rfl,pD,_,5,_,rfl,rfl,Aw.of hpD3,rfl,AE rfl,fun t ht=>?_⟩
    have s6:=Ac ht (.tup [V.int ((vs.length:Nat):Int),V.str D.txt])
    refine⟨rl,_,_,rfl,rfl,s6 _ _ hxs,BK (by omega),?_⟩
    have N6:=(N5.over s6).row (p:=(ts.length,.row D.txt)) (s6 _ _ hxs) (by rw[A6,vl];rfl)
    have C2:=C.ded okD eL eP D5 ts.length
    have eD:(⟨ts,pa++[la1],D.txt⟩:Pw.Dd Ak Str)=D.dd:=by rw[←eL,←eP];rfl
    have F2:Pw.Dft ts (pa++[la1+1]) (R++[(ts.length,Pw.Rr.row D.txt)]) ((Ds++[D]).map Dw.dd):=by
     have:=F.deed D.txt
     rw[eD]at this
     rw[AZ]
     exact this
    have dok2:=Rd.mem_snoc dok (okD.old C.nm C.len eL eP)
    generalize upd (upd H5 t (.tup [V.int ((vs.length:Nat):Int),V.str D.txt])) rl (.lst (xs++[.ref t]))=H6 at N6
    have hpt:=C0 _ _ N6.pa
    rw[AZ]at hpt
    refine⟨_,rfl,_,rfl,_,rfl,pt,_,rfl,A3.of hpt,fun p1 hp1=>?_⟩
    have cc:De (List.map V.int pa++List.map V.int [la1]) none (some (-1))=pa.map V.int:=Jf (pa.map V.int) [V.int la1] (GD _) rfl
    rw[cc]
    have s7:=Ac hp1 (.lst (pa.map V.int))
    refine⟨_,rfl,_,rfl,pt,_,_,_,rfl,rfl,A3.of (s7 _ _ hpt),Fn _ _ [] rfl,_,_,rfl,rfl,AE rfl,fun p2 hp2=>?_⟩
    have s8:=Ac hp2 (.lst [V.int (la1+1)])
    refine⟨p1,p2,_,_,rfl,rfl,s8 _ _ A6,A6,Ai (by rw[An,hp];show ts.length+1<=1000000;omega),fun p3 hp3=>?_⟩
    have N9:=((N6.over s7).over s8).newP (path':=pa++[la1+1]) hp3
    rw[AZ]at N9
    exact⟨o,p3,la,ts,pa++[la1+1],_,_,tl,_,_,_,rfl,N9,⟨_,_,_,C2⟩,⟨F2,dok2⟩,by rw[Ah,Bs];omega,by rw[Ah,Bs];omega,lok,hok⟩
   .refine⟨_,rfl,_,_,rfl,rfl,(by show(0:Int)<5;decide),rfl,_,rfl,?_⟩
    refine AF (fun _=>?_) (fun _=>Ay (els2 _ (A7.refl _)))
    refine⟨_,rfl,AE rfl,fun p0 hp0=>?_⟩
    have sp:=Ac hp0 (.lst [])
    have N2:=N.over sp
    obtain⟨tr,htr0,htra⟩:=N2.op.over C0
    have htl:=htra.1
    refine⟨o,p0,tr,rfl,rfl,A3.of htr0,A3.of A6,_,rfl,?_⟩
    change if(!tr.isEmpty)=true then _ else _
    refine AF (fun c3=>?_) (fun _=>Ay (els2 _ sp))
    have hne:0<ts.length:=by
     have:¬tr=[]:=by simpa using c3
     have:=List.length_pos_iff.mpr this
     omega
    obtain⟨ts',x,rfl,hu⟩:=Fu (l:=ts) (n:=ts.length-1) (by omega)
    have pl:=C.pl
    rw[Ah,Bs]at pl
    obtain⟨p,y,rfl,hp⟩:=Fu pl
    obtain rfl:=C.pe
    have z0':=C.p0.2
    have F':=F
    rw[BC]at F'
    have C':=C
    rw[BC]at N N2
    obtain⟨z,rfl⟩:∃z,z=la1:=⟨_,rfl⟩
    have N2:C3 H _ rl dl o pt la (ts'++[x]) (p++[y,z]) R Ds tl:=N2
    have hpt:=C0 _ _ N2.pa
    rw[AZ]at hpt
    have hat1:Bu (p.map V.int++List.map V.int [y,z]) (-1)=some (V.int z):=by
     have:=Fn (p.map V.int++[V.int y]) (V.int z) [] (n := -1) rfl
     rw[BC]at this
     exact this
    have hat2:Bu (p.map V.int++List.map V.int [y,z]) (-2)=some (V.int y):=Fn (p.map V.int) (V.int y) [V.int z] rfl
    have hcut:De (p.map V.int++List.map V.int [y,z]) none (some (-2))=p.map V.int:=Jf (p.map V.int) [V.int y,V.int z] (GD _) rfl
    refine⟨_,rfl,_,rfl,pt,_,_,_,rfl,rfl,A3.of hpt,hat1,_,_,rfl,rfl,_,rfl,?_⟩
    refine AF (fun cz=>?_) (fun _=>els2 _ sp)
    have z0:z≠0:=by have:=dT cz;omega
    obtain⟨vs,h0,a0⟩:=N2.op
    have vl:=a0.1
    rw[Ah,Bs]at vl
    obtain⟨vs',v,rfl,hv'⟩:=Fu vl
    have hLv:E2 _ v x:=(a0.2 ts'.length v x (by rw[←hv',CJ (Aj _),CO];rfl) (by rw[CJ (Aj _),CO];rfl)).tk (A7.tk C0)
    have okx:=C'.nm.2 x (by simp)
    rw[Ah,Bs]at t3
    refine⟨_,rfl,_,rfl,o,_,_,_,rfl,rfl,A3.of (C0 _ _ h0),Fn _ _ [] rfl,?_⟩
    dsimp only[Am]
    refine⟨_,rfl,_,rfl,_,rfl,o,_,rfl,A3.of (C0 _ _ h0),fun p1 hp1=>?_⟩
    have cv:De (vs'++[v]) none (some (-1))=vs':=Jf vs' [v] (GD _) rfl
    rw[cv]
    have a1:AH (E2 _) vs' ts':=⟨hv',fun i y t a b=>(a0.2 i y t (by rw[DM (BE.mp a).1];exact a) (by rw[DM (BE.mp b).1];exact b)).tk (A7.tk C0)⟩
    have N2':C3 H _ rl dl o pt v (ts'++[x]) (p++[y,z]) R Ds x:=⟨N2.same,N2.op,N2.pa,hLv,N2.rows,N2.deeds,N2.rne,N2.h0r,N2.h0d⟩
    have s7:=Ac hp1 (.lst vs')
    have N3:=N2'.newO hp1 a1
    have hpt3:=s7 _ _ hpt
    have hp1':(upd (upd H2 p0 (.lst [])) p1 (.lst vs')) p1=some (.lst vs'):=A6
    dsimp only[Am]
    generalize upd (upd H2 p0 (.lst [])) p1 (.lst vs')=H3 at N3 hp1' hpt3
    refine⟨_,rfl,_,rfl,_,rfl,pt,_,rfl,A3.of hpt3,fun p2 hp2=>?_⟩
    rw[hcut]
    have s8:=Ac hp2 (.lst (p.map V.int))
    refine⟨_,rfl,_,rfl,pt,_,_,_,rfl,rfl,A3.of (s8 _ _ hpt3),hat2,_,_,rfl,rfl,AE rfl,fun p3 hp3=>?_⟩
    have s9:=Ac hp3 (.lst [V.int (y+1)])
    refine⟨p2,p3,_,_,rfl,rfl,s9 _ _ A6,A6,Ai (by rw[An];show p.length+1<=1000000;omega),fun p4 hp4=>?_⟩
    have N4:C3 H (upd (upd (upd H3 p2 (.lst (p.map V.int))) p3 (.lst [V.int (y+1)])) p4 (.lst (List.map V.int p++[V.int (y+1)]))) rl dl p1 p4 v ts' (p++[y+1]) R Ds x:=by
     have:=((N3.over s8).over s9).newP (path':=p++[y+1]) hp4
     rw[AZ]at this
     exact this
    have hp14:=((s8.trans s9).trans (Ac hp4 (.lst (List.map V.int p++[V.int (y+1)])))) _ _ hp1'
    dsimp only[Am]
    generalize upd (upd (upd H3 p2 (.lst (p.map V.int))) p3 (.lst [V.int (y+1)])) p4 (.lst (List.map V.int p++[V.int (y+1)]))=H5 at N4 hp14
    obtain⟨xs,hxs,ax⟩:=N4.rows
    have xl:=ax.1
    refine⟨_,rfl,.inl ⟨rfl,_,A3.of hxs⟩,_,rfl,p1,_,rfl,.inl (A3.of hp14),AE rfl,fun t ht=>?_⟩
    have s10:=Ac ht (.tup [V.int ((vs'.length:Nat):Int),V.str "end"])
    refine⟨rl,_,_,rfl,rfl,s10 _ _ hxs,BK (by omega),?_⟩
    have N6:=(N4.over s10).row (p:=(ts'.length,.fin)) (s10 _ _ hxs) (by rw[A6,hv'];rfl)
    exact⟨p1,p4,v,ts',p++[y+1],_,Ds,x,_,_,_,rfl,N6,⟨_,_,_,C'.fin z0 ts'.length⟩,⟨Pw.Dft.fin F' z0,dok⟩,by omega,by rw[Ah,Bs];omega,okx.2.1,okx.2.2⟩
  .refine⟨_,rfl,_,_,rfl,rfl,(by show(0:Int)<5;decide),_,_,rfl,rfl,_,rfl,?_⟩
   refine AF (fun _=>?_) (fun _=>Ay (els _ rfl))
   obtain⟨vs,h0,a0⟩:=N.op
   have vl:=a0.1
   refine⟨_,rfl,o,_,rfl,.inl (A3.of (C0 _ _ h0)),_,_,rfl,rfl,_,rfl,?_⟩
   refine AF (fun c3=>?_) (fun _=>els _ rfl)
   have hi3:ts.length<3:=by have:=dT c3;omega
   refine⟨_,rfl,_,_,rfl,rfl,⟨by decide,by decide⟩,_,rfl,_,rfl,_,rfl,_,nl,o,la,ns,ts,tl,rfl,hn.over N.same,N.op.over C0,by omega,C.nm,N.la,lok,hok,fun r H2 t e2 hL lpk=>?_⟩
   have okt:=lpk.ok
   dsimp only[Am]
   obtain⟨pr,xa,xb,rfl,hpr,⟨qa,rfl,hqa⟩,⟨qb,rfl,hqb⟩⟩:=id hL
   obtain⟨o1,o2,o3⟩:=id okt
   have l2:=Eg o2
   have l3:=Eg o3
   refine⟨_,rfl,pr,_,0,_,rfl,rfl,Aw.of hpr,rfl,_,_,rfl,rfl,Ai (by omega),_,_,rfl,rfl,Ai (by rw[Ax];omega),_,rfl,pr,_,1,_,rfl,rfl,Aw.of hpr,rfl,.ref qa,t.lo,rfl,⟨qa,rfl,hqa⟩,o2,_,_,rfl,rfl,Ai (by rw[Ax,Ax];omega),?_⟩
   dsimp only[Am]
   have N2:=N.over e2
   obtain⟨xs,hxs,ax⟩:=N2.rows
   obtain⟨vs2,hvs2,a2⟩:=N2.op
   have vl2:=a2.1
   have xl:=ax.1
   refine⟨_,rfl,.inl ⟨rfl,_,A3.of hxs⟩,_,rfl,o,_,rfl,.inl (A3.of (C0 _ _ hvs2)),_,rfl,_,_,rfl,rfl,Ai (by rw[Ax,Ax,Ax];omega),_,rfl,pr,_,2,_,rfl,rfl,Aw.of hpr,rfl,.ref qb,t.hi,rfl,⟨qb,rfl,hqb⟩,o3,_,_,rfl,rfl,Ai (by rw[Ax,Ax,Ax,Ax];omega),AE rfl,fun u hu=>?_⟩
   have s3:=Ac hu (.tup [V.int ((vs2.length:Nat):Int),V.str (("for ":Str)++t.nm++" "++B5 t.lo++" "++B5 t.hi)])
   refine⟨rl,_,_,rfl,rfl,s3 _ _ hxs,BK (by omega),?_⟩
   have N3:=(N2.over s3).row (p:=(ts.length,.opn t)) (s3 _ _ hxs) (by rw[A6,vl2];rfl)
   have hL3:E2 (upd (upd H2 u (.tup [V.int ((vs2.length:Nat):Int),V.str (("for ":Str)++t.nm++" "++B5 t.lo++" "++B5 t.hi)])) rl (.lst (xs++[.ref u]))) (.ref pr) t:=hL.tk ((A7.tk s3).trans (TK.upd (s3 _ _ hxs)))
   generalize upd (upd H2 u (.tup [V.int ((vs2.length:Nat):Int),V.str (("for ":Str)++t.nm++" "++B5 t.lo++" "++B5 t.hi)])) rl (.lst (xs++[.ref u]))=H3 at N3 hL3
   refine⟨_,rfl,_,rfl,AE rfl,fun p1 hp1=>?_⟩
   have s4:=Ac hp1 (.lst [V.ref pr])
   have N4:=N3.over s4
   obtain⟨vs4,hvs4,a4⟩:=N4.op
   have vl4:=a4.1
   refine⟨o,p1,vs4,[.ref pr],rfl,rfl,C0 _ _ hvs4,A6,Ai (by show vs4.length+1<=1000000;omega),fun p2 hp2=>?_⟩
   have N5:=N4.newO (ts':=ts++[t]) hp2 ((a4.mono fun _ _ z=>z.tk (A7.tk C0)).snoc (hL3.tk (A7.tk s4)))
   dsimp only[Am]
   generalize upd (upd H3 p1 (.lst [V.ref pr])) p2 (.lst (vs4++[.ref pr]))=H5 at N5
   refine⟨_,rfl,AE rfl,fun p3 hp3=>?_⟩
   have N6:=N5.over (Ac hp3 (.lst [V.int 0]))
   have hpt:=C0 _ _ N6.pa
   have pb:=C.len
   refine⟨pt,p3,_,_,rfl,rfl,hpt,A6,Ai (by rw[An];show path.length+1<=1000000;omega),fun p4 hp4=>?_⟩
   have N7:=N6.newP (path':=path++[0]) hp4
   rw[AZ]at N7
   exact⟨p2,p4,la,_,_,_,Ds,tl,_,_,_,rfl,N7,⟨_,_,_,C.opn hi3 lpk D5 ts.length⟩,⟨F.opn t,dok⟩,d6,by rw[Ah,Bs];omega,lok,hok⟩
theorem X4 (T:Tx w K mg a):AI P w K mg base AO 1 a.f_j a.d_j ["_law_cell_here"] Rd.spSign:=by
 refine T.F_j.ok LA (fun vs H Q E h=>?_) (fun cdv A outer s H vs Q E hr h=>?_)
 .obtain⟨_,rfl,_⟩:=h;rfl
 obtain⟨c,rfl,q⟩:=h
 refine⟨_,(@A4 _ _ _ _ _ (@Al _ _ (1) _ _ _ _ LA.nd rfl (.inl rfl) Ar (by rfl) (by first|exact .inl rfl|exact .inr rfl|assumption)) (@A4 _ _ _ _ _ (@Al _ _ (1) _ _ _ _ LA.nd rfl (.inl rfl) (@A9 _ _ _ _ _ _ _ _ Bk (pv 1) Ar) (by rfl) (by first|exact .inl rfl|exact .inr rfl|assumption)) (@Aa _ _ _ (@Aq _ _ _ _ (@Ag _ _ _ _ _ _ _ EB (pv 1) (@A9 _ _ _ _ _ _ _ _ Bq (pv 0) A2) (fun _ _=>rfl)))))),?_⟩
 refine Rj ?_
 refine⟨_,rfl,_,_,rfl,rfl,Ai (by decide +kernel),?_⟩
 dsimp only[Am]
 refine⟨_,rfl,_,rfl,_,_,rfl,rfl,(by show(0:Int)<94;decide),_,_,(Rd.sign_at ?e c).choose,rfl,rfl,Ai ?l,(Rd.sign_at ?e c).choose_spec.1,q _ (Rd.sign_at ?e c).choose_spec.2⟩
 case e=>decide +kernel
 case l=>decide +kernel
theorem VW (T:Tx w K mg a):AI P w K mg base AO 1 a.f_Z a.d_Z ["_law_text","_law_x"] Rd.spSpread:=by
 refine T.F_Z.ok LD (fun vs H Q E h=>?_) (fun cdv A outer s H vs Q E hr h=>?_)
 .obtain⟨_,_,_,rfl,_⟩:=h;rfl
 obtain⟨ns,k,x,rfl,hk,q⟩:=h
 refine⟨_,(SW (X9 (i:=2) LD.nd rfl (.inl rfl) (TR (pv 0))) (VJ (@Au _ _ _ _ _ _ _ _ Ey (pv 2) A2 (@Av _ _ (by decide) (by decide))) (Sw (c:=32) T.nb (by rfl) (by rfl) (by decide) (pv 0) (@A9 _ _ _ _ _ _ _ _ C4 A2 (@A9 _ _ _ _ _ _ _ _ Bq (pv 1) A2)))) (@A4 _ _ _ _ _ (@Al _ _ (2) _ _ _ _ LD.nd rfl (.inl rfl) (@A9 _ _ _ _ _ _ _ _ C4 (pv 2) (@A9 _ _ _ _ _ _ _ _ Bq (pv 1) (@A9 _ _ _ _ _ _ _ _ C4 (@A9 _ _ _ _ _ _ _ _ FF (@Bb _ _ _ _ _ _ _ _ _ Ih (by rfl) T.z_len BJ (@A0 _ _ _ _ _ (pv 0) A1 (by rfl)) (by decide) (by decide) (by rfl) (by rfl)) (pv 2)) A2))) (by rfl) (by first|exact .inl rfl|exact .inr rfl|assumption)) (@Aa _ _ _ (@Aq _ _ _ _ (@A9 _ _ _ _ _ _ _ _ Bk (@A9 _ _ _ _ _ _ _ _ Bk (@Di _ _ _ _ _ _ _ _ _ _ FC (pv 0) E7 (@Cz _ _ _ (pv 2))) Ar) (@Di _ _ _ _ _ _ _ _ _ _ FC (pv 0) (@Cz _ _ _ (pv 2)) E7)))))),?_⟩
 have hlen:=cds_len (Rd.rkS k)
 have hsh:=(Rd.rk_short hk).1
 refine⟨_,rfl,rfl,_,_,rfl,rfl,?_⟩
 have ef:Txt.find (Rd.rkS k) (Str.ofString "[")=Hf 91 (cds (Rd.rkS k)):=Wu _ 91
 rw[ef]
 dsimp only[Am]
 refine⟨_,rfl,_,_,rfl,rfl,_,rfl,?_⟩
 cases hd:Rd.isD k with
 |
  false=>
  have e1:Hf 91 (cds (Rd.rkS k)) = -1:=Ab (Rd.no_bracket hk hd)
  rw[e1]
  refine Bm ?_
  have m0:=BY x (show(3:Int)≠0 by decide)
  have m1:=C9 x (show(0:Int)<3 by decide)
  refine⟨_,rfl,rfl,_,rfl,_,_,rfl,rfl,(by show(0:Int)<3;decide),_,_,rfl,rfl,_,_,rfl,rfl,?_,?_,by omega,?_⟩
  .omega
  .omega
  obtain⟨m,em⟩:∃m:Nat,x%3=(m:Int):=⟨(x%3).toNat,by omega⟩
  have et:(1+x%3).toNat=m+1:=by omega
  rw[et]
  refine q _ _ (A7.refl _) ?_
  rw[B6]
  exact Rd.sprd_words hk hd m (by omega)
 |
  true=>
  cases k with
  |sz n=>cases hd
  |opn t=>cases hd
  |fin=>cases hd
  |
   ded tb sp es t=>
   have e1:=Rd.at_bracket hk
   rw[e1]
   have tl:(cds tb).length<=(cds (Rd.rkS (.ded tb sp es t))).length:=by
    show _<=(cds (Ba tb sp++" = "++t.wr)).length
    unfold Ba
    rw[AS,AS,AS,Ah,Ah,Ah]
    omega
   refine AF (fun y=>absurd (dT y) (by omega)) (fun _=>?_)
   dsimp only[Ia]
   generalize hz:Rd.rkS (.ded tb sp es t)=z at hlen hsh tl q ⊢
   generalize hn:(cds tb).length=n0 at tl ⊢
   have hp:(0:Int)<((z.length:Nat):Int)-(n0:Int)+1:=by omega
   have f0:=BY x (show((z.length:Nat):Int)-(n0:Int)+1≠0 by omega)
   have f1:=C9 x hp
   refine⟨_,rfl,_,rfl,_,rfl,z,rfl,Ai (by omega),_,rfl,_,_,rfl,rfl,_,_,rfl,rfl,_,_,rfl,rfl,hp,_,_,rfl,rfl,?_⟩
   obtain⟨k,ek⟩:∃k:Nat,(n0:Int)+x%(((z.length:Nat):Int)-(n0:Int)+1)=(k:Int):=⟨((n0:Int)+x%(((z.length:Nat):Int)-(n0:Int)+1)).toNat,by omega⟩
   dsimp only[Am]
   rw[ek]
   have kb:n0<=k/\k<=z.length:=by omega
   have l1:(" ":Str).length=1:=by decide +kernel
   have c1:Ck (cds z) none (some (k:Int))=(cds z).take k:=by rw[Gp _ (by omega),FW]
   have c2:Ck (cds z) (some (k:Int)) none=(cds z).drop k:=by rw[O9 _ (by omega),FW]
   refine⟨_,rfl,_,rfl,_,rfl,_,rfl,Ai (by omega),_,_,rfl,rfl,?_,_,rfl,_,rfl,_,rfl,_,rfl,Ai (by omega),_,_,rfl,rfl,?_,?_⟩
   .rw[c1,D3,Bt]
    exact Ai (by omega)
   .rw[c1,c2,Ax,D3,D3,Bt,C5]
    exact Ai (by omega)
   .refine q _ _ (A7.refl _) (Rd.sprd_ded hk (.inr ⟨k,by omega,?_,?_⟩))
    .rw[hz];omega
    .rw[hz,c1,c2,AS,AS,B6,B6,BC]
     rfl
theorem RQ (T:Tx w K mg a):AI P w K mg base AO 3 a.f_0 a.d_0 ["_law_rows","_law_size","_law_cell_here"] Rd.spNoisy:=by
 have G_b :=@GT P w K mg base a T
 have G_j :=@X4 P w K mg base a T
 have G_Z :=@VW P w K mg base a T
 refine T.F_0.ok F0 (fun vs H Q E h=>?_) (fun cdv A outer s H vs Q E hr h=>?_)
 .obtain⟨_,_,_,_,_,_,_,rfl,_⟩:=h;rfl
 obtain⟨ns,rl,xs,R,ks,n,c,rfl,hrl,ax,etx,hok,n0,n1,kl,q⟩:=h
 refine⟨_,(@A4 _ _ _ _ _ (@Al _ _ (3) _ _ _ _ F0.nd rfl (.inl rfl) (@A9 _ _ _ _ _ _ _ _ EZ (@Bj _ _ _ _ (@A0 _ _ _ _ _ (@A9 _ _ _ _ _ _ _ _ Bk Ar (@D7 _ _ _ _ _ _ _ _ _ Gk (by rfl) T.z_str Gn (@A0 _ _ _ _ _ (pv 1) A1 (by rfl)) (by decide) (by decide) (by rfl) (by rfl))) A1 (by rfl))) (@DZ _ _ _ _ _ _ _ ["_law_deep","_law_text"] [none,none] _ _ _ _ (by rfl) (@Dv _ _ _ _ (pv 0)) So (fun _ _ _ _ _ _=>⟨(show PG _ _ (LV K 2 _) from(Hj rfl (E5 (Bz (i:=0) Ow rfl (.inl rfl)) (E5 (Bz (i:=1) Ow rfl (.inl rfl)) Hm)))),@Eh _,(pv 1)⟩) (by intro _;rfl))) (by rfl) (by first|exact .inl rfl|exact .inr rfl|assumption)) (@A4 _ _ _ _ _ (@Al _ _ (4) _ _ _ _ F0.nd rfl (.inl rfl) (@As _ _ _ _ _ _ _ _ _ _ _ _ _ _ _ _ G_b (hr.mono (by omega)) (by rfl) T.m_b T.F_b.kp T.b_b .nil Ap (@A0 _ _ _ _ _ (pv 2) (@A0 _ _ _ _ _ (@Bb _ _ _ _ _ _ _ _ _ C6 (by rfl) T.z_len BJ (@A0 _ _ _ _ _ (pv 3) A1 (by rfl)) (by decide) (by decide) (by rfl) (by rfl)) A1 (by rfl)) (by rfl)) (by decide) (by rfl) (by rfl)) (by rfl) (by first|exact .inl rfl|exact .inr rfl|assumption)) (@A4 _ _ _ _ _ (@Al _ _ (5) _ _ _ _ F0.nd rfl (.inl rfl) (@Bj _ _ _ _ A1) (by rfl) (by first|exact .inl rfl|exact .inr rfl|assumption)) (@A4 _ _ _ _ _ (@AK _ _ _ _ _ _ _ _ (@Au _ _ _ _ _ _ _ _ Ey (@A9 _ _ _ _ _ _ _ _ Bq (@Ag _ _ _ _ _ _ _ AX (pv 4) A2 (fun _ _=>rfl)) A2) A2 (@Av _ _ (by decide) (by decide))) (@Aa _ _ _ (@Al _ _ (5) _ _ _ _ F0.nd rfl (.inl rfl) (@Bj _ _ _ _ (@A0 _ _ _ _ _ (@A9 _ _ _ _ _ _ _ _ Bk Ar (@As _ _ _ _ _ _ _ _ _ _ _ _ _ _ _ _ G_j (hr.mono (by omega)) (by rfl) T.m_j T.F_j.kp T.b_j .nil Ap (@A0 _ _ _ _ _ (@A9 _ _ _ _ _ _ _ _ CA (@Ag _ _ _ _ _ _ _ AX (pv 4) A2 (fun _ _=>rfl)) A2) A1 (by rfl)) (by decide) (by rfl) (by rfl))) (@A0 _ _ _ _ _ Ar A1 (by rfl)) (by rfl))) (by rfl) (by first|exact .inl rfl|exact .inr rfl|assumption))) AU) (@A4 _ _ _ _ _ (@Ed _ _ _ _ _ _ _ _ PassesOwn.never rfl (@Kh _ _ _ _ _ _ (by rfl) T.z_range (@A0 _ _ _ _ _ (@Bb _ _ _ _ _ _ _ _ _ C6 (by rfl) T.z_len BJ (@A0 _ _ _ _ _ (pv 3) A1 (by rfl)) (by decide) (by decide) (by rfl) (by rfl)) A1 (by rfl)) (by rfl)) (Bz (i:=6) F0.nd rfl (.inl rfl)) (@A4 _ _ _ _ _ (@Al _ _ (7) _ _ _ _ F0.nd rfl (.inl rfl) (@Ag _ _ _ _ _ _ _ AX (pv 4) (pv 6) (fun _ _=>rfl)) (by rfl) (by first|exact .inl rfl|exact .inr rfl|assumption)) (@A4 _ _ _ _ _ (@Al _ _ (8) _ _ _ _ F0.nd rfl (.inl rfl) (@A9 _ _ _ _ _ _ _ _ Bk (@A9 _ _ _ _ _ _ _ _ LY Ar (@A9 _ _ _ _ _ _ _ _ Bq (pv 7) A2)) (@As _ _ _ _ _ _ _ _ _ _ _ _ _ _ _ _ G_Z (hr.mono (by omega)) (by rfl) T.m_Z T.F_Z.kp T.b_Z .nil Ap (@A0 _ _ _ _ _ (@Ag _ _ _ _ _ _ _ AX (pv 3) (pv 6) (fun _ _=>rfl)) (@A0 _ _ _ _ _ (@A9 _ _ _ _ _ _ _ _ CA (pv 7) A2) A1 (by rfl)) (by rfl)) (by decide) (by rfl) (by rfl))) (by rfl) (by first|exact .inl rfl|exact .inr rfl|assumption)) (@A4 _ _ _ _ _ (@AK _ _ _ _ _ _ _ _ (@Au _ _ _ _ _ _ _ _ Bv (@A9 _ _ _ _ _ _ _ _ Bq (@A9 _ _ _ _ _ _ _ _ CA (pv 7) A2) A2) A2 (@Av _ _ (by decide) (by decide))) (@A4 _ _ _ _ _ (@Al _ _ (8) _ _ _ _ F0.nd rfl (.inl rfl) (@A9 _ _ _ _ _ _ _ _ Bk (@A9 _ _ _ _ _ _ _ _ Bk (pv 8) (@Ag _ _ _ _ _ _ _ AX (@Bj _ _ _ _ (@A0 _ _ _ _ _ Ar (@A0 _ _ _ _ _ Ar A1 (by rfl)) (by rfl))) (@A9 _ _ _ _ _ _ _ _ Bq (@A9 _ _ _ _ _ _ _ _ CA (pv 7) A2) A2) (fun _ _=>rfl))) (@As _ _ _ _ _ _ _ _ _ _ _ _ _ _ _ _ G_j (hr.mono (by omega)) (by rfl) T.m_j T.F_j.kp T.b_j .nil Ap (@A0 _ _ _ _ _ (@A9 _ _ _ _ _ _ _ _ CA (pv 7) A2) A1 (by rfl)) (by decide) (by rfl) (by rfl))) (by rfl) (by first|exact .inl rfl|exact .inr rfl|assumption)) (@Aa _ _ _ (@Al _ _ (8) _ _ _ _ F0.nd rfl (.inl rfl) (@A9 _ _ _ _ _ _ _ _ Bk (@A9 _ _ _ _ _ _ _ _ Bk (pv 8) Ar) (@As _ _ _ _ _ _ _ _ _ _ _ _ _ _ _ _ G_j (hr.mono (by omega)) (by rfl) T.m_j T.F_j.kp T.b_j .nil Ap (@A0 _ _ _ _ _ (@A9 _ _ _ _ _ _ _ _ CA (pv 7) A2) A1 (by rfl)) (by decide) (by rfl) (by rfl))) (by rfl) (by first|exact .inl rfl|exact .inr rfl|assumption)))) AU) (@A4 _ _ _ _ _ (@Bp _ _ _ _ (@B9 _ _ _ _ _ _ _ _ _ _ _ _ Bh BS BU BM (pv 5) (@A0 _ _ _ _ _ (pv 8) A1 (by rfl)) (by rfl) (by rfl) (by rfl) (by rfl) (by rfl)) (by rfl)) (@Aa _ _ _ (@AK _ _ _ _ _ _ _ _ ((@Dg _ _ _ _ _ _ _ (@Au _ _ _ _ _ _ _ _ Bv (@A9 _ _ _ _ _ _ _ _ Bq (@A9 _ _ _ _ _ _ _ _ CA (pv 7) A2) A2) A2 (@Av _ _ (by decide) (by decide))) (@DT _ _ _ _ (@Au _ _ _ _ _ _ _ _ Bv (@A9 _ _ _ _ _ _ _ _ Bq (pv 6) A2) A2 (@Av _ _ (by decide) (by decide)))))).pt (@Aa _ _ _ (@Bp _ _ _ _ (@B9 _ _ _ _ _ _ _ _ _ _ _ _ Bh BS BU BM (pv 5) (@A0 _ _ _ _ _ (@Ag _ _ _ _ _ _ _ AX (@NR _ _ _ _ (@Bf _ _ _ _ _ Ar (@Bf _ _ _ _ _ Ar (@Bf _ _ _ _ _ Ar (@Bf _ _ _ _ _ Ar E6 DI) DI) DI) DI)) (@A9 _ _ _ _ _ _ _ _ Bq (@A9 _ _ _ _ _ _ _ _ CA (pv 7) A2) A2) (fun _ _=>rfl)) A1 (by rfl)) (by rfl) (by rfl) (by rfl) (by rfl) (by rfl)) (by rfl))) AU)))))) (by intro _;rfl)) (@Aa _ _ _ (@Aq _ _ _ _ (@B9 _ _ _ _ _ _ _ _ _ _ _ _ DN IX IY GW Ar (@A0 _ _ _ _ _ (pv 5) A1 (by rfl)) (by rfl) (by rfl) (by rfl) (by rfl) (by rfl))))))))),?_⟩
 have l5:("size ":Str).length=5:=by decide +kernel
 have nl9:=FR (i:=n) (by omega) n1
 have xl:=ax.1
 have klen:ks.length=R.length:=by have:=congrArg List.length etx;rw[An,An]at this;exact this.symm
 refine⟨_,rfl,_,rfl,ES (by omega) n1,_,_,rfl,rfl,Ai (by unfold nS at nl9;omega),AE rfl,fun a1 ha1=>?_⟩
 have s1:=Ac ha1 (.lst [V.str (Rd.rkS (.sz n))])
 have ha4:(upd H a1 (.lst [V.str (Rd.rkS (.sz n))])) a1=some (.lst [V.str (Rd.rkS (.sz n))]):=A6
 change GS _ _ _ _ _ _ (upd H a1 (.lst [V.str (Rd.rkS (.sz n))])) _
 generalize upd H a1 (.lst [V.str (Rd.rkS (.sz n))])=H1 at s1 ha4
 have hrl1:=s1 _ _ hrl
 refine⟨_,rfl,rl,rfl,⟨_,A3.of hrl1⟩,?_⟩
 refine Om (xs:=xs) (fun i ys H'=>H'=H1/\ys=((R.take i).map fun p=>FL p.2).map V.str) ⟨rfl,rfl⟩ (Ai (by omega)) (fun i ys H' hi pp=>⟨by rw[pp.1];exact A3.of hrl1,by rw[pp.2,An,An,Bt];omega⟩) (fun i x ys H' hx pp=>?_) (fun ys H' pp r2 hr2=>?_)
 .obtain⟨rfl,rfl⟩:=pp
  obtain⟨pr,hpr,t0,rfl,ht0⟩:=ax.get' hx
  refine⟨t0,_,rfl,Aw.of (s1 _ _ ht0),rfl,_,_,rfl,_,_,rfl,rfl,Pa (ρ:=[]) _ _,?_⟩
  refine⟨_,rfl,rfl,?_⟩
  rw[Du hpr,AZ,AZ]
  rfl
 obtain⟨rfl,rfl⟩:=pp
 rw[Fy (by omega),etx]
 have s2:=Ac hr2 (.lst ((ks.map Rd.rkS).map V.str))
 refine⟨a1,r2,_,_,rfl,rfl,s2 _ _ ha4,A6,Ai (by rw[An,An,Bs];omega),fun l hl=>?_⟩
 obtain⟨kk,ekk⟩:∃kk,Rd.Rk.sz n::ks=kk:=⟨_,rfl⟩
 have okk:∀k∈kk,Rd.Rok ns k:=fun k hk=>by
  rw[←ekk]at hk
  rcases AG.mp hk with rfl|hk
  .exact⟨n0,n1⟩
  .exact hok k hk
 have kkl:kk.length<=71:=by rw[←ekk,AQ];omega
 have kk1:1<=kk.length:=by rw[←ekk,AQ];omega
 have eL:[V.str (Rd.rkS (.sz n))]++(ks.map Rd.rkS).map V.str=(kk.map Rd.rkS).map V.str:=by rw[←ekk];rfl
 rw[eL]
 rw[ekk]at q
 have s3:=s1.trans (s2.trans (Ac hl (.lst ((kk.map Rd.rkS).map V.str))))
 have hl3:(upd (upd H' r2 (.lst ((ks.map Rd.rkS).map V.str))) l (.lst ((kk.map Rd.rkS).map V.str))) l=some (.lst ((kk.map Rd.rkS).map V.str)):=A6
 dsimp only[Am]
 generalize upd (upd H' r2 (.lst ((ks.map Rd.rkS).map V.str))) l (.lst ((kk.map Rd.rkS).map V.str))=H3 at s3 hl3
 refine⟨_,rfl,_,rfl,l,_,rfl,.inl (A3.of hl3),c,_,rfl,by rw[An,An];omega,by rw[An,An];omega,fun rx H4 s4 hx=>?_⟩
 rw[FW,An,An]at hx
 generalize hxs:Ez c kk.length=ns4 at hx
 have xsl:ns4.length=kk.length:=by rw[←hxs,GU]
 have xm:∀y∈ns4,0<=y/\y<2147483647:=fun y hy=>Ip (hxs▸hy)
 have atx:∀k:Nat,k<kk.length->Bu (ns4.map V.int) ((k:Nat):Int)=some (.int (ns4.getD k 0)):=fun k hk=>EY (ns:=ns4) (k:=((k:Nat):Int)) (by omega) (by omega)
 have hl4:=s4 _ _ hl3
 have e4:=s3.trans s4
 dsimp only[Am]
 have l2:("; ":Str).length=2:=by decide +kernel
 have one:∀d:Nat,(⟨#[d]⟩:Str).length=1:=fun _=>rfl
 refine⟨AE rfl,fun f0 hf0=>?_⟩
 have s5:=Ac hf0 (.lst [])
 have hf5:(upd H4 f0 (.lst [])) f0=some (.lst []):=A6
 dsimp only[Am]
 generalize upd H4 f0 (.lst [])=H5 at s5 hf5
 refine DU (fun σ' H'=>∃(fo:Addr) (rows:List Str),σ'=[some (.ref rl),some (.int n),some (.int c),some (.ref l),some (.ref rx),some (.ref fo),none,none,none]/\A7 H4 H'/\H4 fo=none/\H' fo=some (.lst (rows.map V.str))/\Rd.Nz [] rows/\rows.length<=2) (fun σ' H6 pp=>?_) (fun nx=>?_)
 rotate_left
 .have hx5:=s5 _ _ hx
  refine⟨_,rfl,rx,_,_,_,rfl,rfl,A3.of hx5,atx 0 (by omega),_,_,rfl,rfl,(by show(0:Int)<5;decide),_,_,rfl,rfl,_,rfl,?_⟩
  refine AF (fun _=>?_) (fun _=>nx _ _ ⟨f0,[],rfl,s5,hf0,hf5,Rd.Nz.nil,Bw _⟩)
  refine⟨_,rfl,rx,_,_,_,rfl,rfl,A3.of hx5,atx 0 (by omega),_,_,rfl,rfl,⟨by decide,by decide⟩,_,rfl,fun d d10=>⟨_,_,rfl,rfl,Ai (by rw[one];omega),AE rfl,fun f2 hf2=>?_⟩⟩
  have hr1:cds (("; ":Str)++⟨#[d]⟩)=59::[32,d]:=by rw[AS];rfl
  have n1:Rd.Nz [] [("; ":Str)++⟨#[d]⟩]:=Rd.Nz.nil.no (by decide) (by rw[hr1];exact Rd.rem_bare _) ⟨by rw[Ax,one];omega,by
   rw[hr1]
   intro z
   simp only[AG,CL,or_false]at z
   omega⟩
  have n2:Rd.Nz [] ([("; ":Str)++⟨#[d]⟩]++[("":Str)]):=n1.no (by show 1+1<=2;decide) (by decide +kernel) ⟨by decide +kernel,by decide +kernel⟩
  exact nx _ _ ⟨f2,[("; ":Str)++(⟨#[d]⟩:Str),""],rfl,s5.trans (Ac hf2 _),s5.free hf2,A6,n2,Aj _⟩
 obtain⟨fo,rows0,rfl,e6,hfo,hf6,nz0,r2⟩:=pp
 have fo0:H fo=none:=e4.free hfo
 refine⟨_,rfl,l,_,rfl,.inl (A3.of (e6 _ _ hl4)),_,rfl,by rw[An,An];omega,by rw[An,An];omega,?_⟩
 rw[FW,An,An]
 refine Mu (lo:=0) (n:=kk.length) (fun i σ' H'=>∃(rows:List Str) (o6 o7 o8:Option V),σ'=[some (.ref rl),some (.int n),some (.int c),some (.ref l),some (.ref rx),some (.ref fo),o6,o7,o8]/\A7 H4 H'/\H' fo=some (.lst (rows.map V.str))/\Rd.Nz (kk.take i) rows/\rows.length<=2*i+2/\i<=rows.length) ?_ (fun i σ' H' hi pp=>?_) (fun σ' H' pp=>?_)
 .exact⟨rows0,_,_,_,rfl,e6,hf6,nz0,r2,Bw _⟩
 .obtain⟨rows,o6,o7,o8,rfl,eH,hfr,nz,rb,_⟩:=pp
  have ei:0+(i:Int)=(i:Int):=Int.zero_add _
  dsimp only[Am]
  rw[ei]
  have hxH:=eH _ _ hx
  have hlH:=eH _ _ hl4
  refine⟨_,rfl,_,rfl,rx,_,_,_,rfl,rfl,A3.of hxH,atx i hi,?_⟩
  dsimp only[Am]
  have xb:=xm (ns4.getD i 0) (by rw[CZ,BB (by omega)];exact F6 _)
  generalize ns4.getD i 0=x at xb
  have m0:=BY x (show(4:Int)≠0 by decide)
  have m1:=C9 x (show(0:Int)<4 by decide)
  have hki:kk[i]?=some kk[i]:=BB hi
  have okI:=okk kk[i] (F6 hi)
  have hat:Bu ((kk.map Rd.rkS).map V.str) ((i:Nat):Int)=some (.str (Rd.rkS kk[i])):=D6 (by rw[Dm,Dm,hki];rfl)
  obtain⟨m,em⟩:∃m:Nat,x%4=(m:Int):=⟨(x%4).toNat,by omega⟩
  have b1:(" ":Str).length=1:=by decide +kernel
  have hm:cds (Txt.mul " " (x%4))=List.replicate m 32:=by
   have:=MK 32 (x%4)
   rw[em,FW]at this
   rw[em]
   exact this
  have ml:(Txt.mul " " (x%4)).length=m:=by rw[←cds_len,hm,KP]
  refine⟨_,rfl,_,_,rfl,rfl,(by show(0:Int)<4;decide),_,_,rfl,rfl,by omega,by omega,by rw[b1];decide,?_⟩
  refine⟨_,rfl,_,rfl,l,_,_,_,rfl,rfl,A3.of hlH,hat,_,rfl,_,_,rfl,rfl,⟨by decide,by decide⟩,ns,kk[i],_,rfl,okI,fun z' H7 e7 sp=>?_⟩
  have sln:=sp.ln
  rw[cds_len]at sln
  refine⟨_,_,rfl,rfl,Ai (by rw[ml];omega),?_⟩
  dsimp only[Am]
  have hfr7:=e7 _ _ hfr
  have eH7:=eH.trans e7
  have hx7:=e7 _ _ hxH
  refine DU (fun σ' H8=>A7 H7 H8/\∃(zz:Str) (tail:List Nat),σ'=[some (.ref rl),some (.int n),some (.int c),some (.ref l),some (.ref rx),some (.ref fo),some (.int (i:Int)),some (.int x),some (.str zz)]/\cds zz=List.replicate m 32++cds z'++tail/\(tail=[]\/∃j y,tail=List.replicate j 32++59::y)/\10∉tail/\zz.length<=1900) (fun σ' H8 pp=>?_) (fun nx=>?_)
  rotate_left
  .refine⟨_,rfl,_,_,rfl,rfl,⟨by decide,by decide⟩,_,_,rfl,rfl,(by show(0:Int)<3;decide),rfl,_,rfl,?_⟩
   refine AF (fun _=>?_) (fun _=>nx _ _ ⟨A7.refl _,_,[],rfl,by rw[AS,hm,Cq],.inl rfl,(fun z=>nomatch z),by rw[Ax,ml];omega⟩)
   refine⟨_,rfl,AE rfl,fun q2 hq2=>?_⟩
   have sq:=Ac hq2 (.lst [V.str " ;",V.str ";"])
   have h0:=BY (x/21) (show(2:Int)≠0 by decide)
   have h1:=C9 (x/21) (show(0:Int)<2 by decide)
   obtain⟨u,j,hu,ju,ul⟩:=Rd.pickA h0 h1
   refine⟨_,rfl,_,_,rfl,rfl,⟨by decide,by decide⟩,_,_,rfl,rfl,(by show(0:Int)<2;decide),q2,_,_,_,rfl,rfl,A3.of A6,hu,_,_,rfl,rfl,Ai (by rw[Ax,ml];omega),_,rfl,_,_,rfl,rfl,⟨by decide,by decide⟩,_,rfl,fun d1 d10=>⟨_,_,rfl,rfl,Ai (by rw[Ax,Ax,ml,one];omega),?_⟩⟩
   dsimp only[Am]
   have l6:("; for ":Str).length=6:=by decide +kernel
   refine⟨_,rfl,_,_,rfl,rfl,Ai (by rw[Ax,Ax,Ax,ml,one];omega),_,rfl,_,_,rfl,rfl,⟨by decide,by decide⟩,_,rfl,fun d2 d20=>⟨_,_,rfl,rfl,Ai (by rw[Ax,Ax,Ax,Ax,ml,one,one];omega),?_⟩⟩
   have ef:cds ("; for ":Str)=[59,32,102,111,114,32]:=by decide +kernel
   refine nx _ _ ⟨sq,_,List.replicate j 32++59::([d1]++[59,32,102,111,114,32]++[d2]),rfl,?_,.inr ⟨j,_,rfl⟩,?_,by rw[Ax,Ax,Ax,Ax,Ax,ml,one,one];omega⟩
   .rw[AS,AS,AS,AS,AS,hm,ju,ef]
    simp only[BC,Dz,KU]
    rfl
   .intro z
    rcases Bl.mp z with z|z
    .exact absurd (IW z) (by decide)
    .simp only[AG,Dz,KU,CL,or_false]at z
     omega
  obtain⟨e8,zz,tail,rfl,hzz,htl,t10,zl⟩:=pp
  have hfr8:=e8 _ _ hfr7
  have z10:10∉cds zz:=by
   rw[hzz]
   intro z
   rcases Bl.mp z with z|z
   .rcases Bl.mp z with z|z
    .exact absurd (IW z) (by decide)
    .exact sp.n10 z
   .exact t10 z
  have nz1:=nz.row (z:=zz) sp hzz htl ⟨by omega,z10⟩
  rw[←Du hki]at nz1
  refine⟨_,rfl,.inl ⟨rfl,_,A3.of hfr8⟩,_,rfl,fo,_,_,rfl,rfl,hfr8,BK (by rw[An];omega),?_⟩
  have put:∀{G:Hp} {u:HO},A7 H4 G->A7 H4 (upd G fo u):=fun{G u} e b o eb=>by rw[A8 (AC eb hfo)];exact e b o eb
  have e9:=put (u:=.lst (rows.map V.str++[.str zz])) (eH7.trans e8)
  have hf9:(upd H8 fo (.lst (rows.map V.str++[.str zz]))) fo=some (.lst ((rows++[zz]).map V.str)):=by rw[A6,AZ];rfl
  generalize upd H8 fo (.lst (rows.map V.str++[.str zz]))=H9 at e9 hf9
  have rl1:(rows++[zz]).length=rows.length+1:=by rw[Ah];rfl
  have fin:=fun(G:Hp) (e:A7 H4 G) (hG:G fo=some (.lst ((rows++[zz]).map V.str)))=>(⟨rows++[zz],_,_,_,rfl,e,hG,nz1,by omega,by omega⟩:∃(rows':List Str) (o6 o7 o8:Option V),[some (V.ref rl),some (V.int n),some (V.int c),some (V.ref l),some (V.ref rx),some (V.ref fo),some (V.int (i:Int)),some (V.int x),some (V.str zz)]=[some (V.ref rl),some (V.int n),some (V.int c),some (V.ref l),some (V.ref rx),some (V.ref fo),o6,o7,o8]/\A7 H4 G/\G fo=some (.lst (rows'.map V.str))/\Rd.Nz (kk.take (i+1)) rows'/\rows'.length<=2*(i+1)+2/\i+1<=rows'.length)
  refine⟨_,rfl,_,_,rfl,rfl,⟨by decide,by decide⟩,_,_,rfl,rfl,(by show(0:Int)<3;decide),rfl,_,rfl,?_⟩
  refine AF (fun _=>?_) (fun _=>Ay (fin _ e9 hf9))
  refine⟨_,rfl,_,_,rfl,rfl,(by show(0:Int)<4;decide),rfl,_,rfl,?_⟩
  refine AF (fun _=>?_) (fun _=>fin _ e9 hf9)
  refine⟨_,rfl,.inl ⟨rfl,_,A3.of hf9⟩,AE rfl,fun q4 hq4=>?_⟩
  have sq:=Ac hq4 (.lst [V.str "",V.str "  ",V.str ";",V.str " ; end"])
  have h0:=BY (x/15) (show(4:Int)≠0 by decide)
  have h1:=C9 (x/15) (show(0:Int)<4 by decide)
  obtain⟨u,hu,u1,u2,u3⟩:=Rd.pickB h0 h1
  refine⟨_,rfl,_,_,rfl,rfl,⟨by decide,by decide⟩,_,_,rfl,rfl,(by show(0:Int)<4;decide),q4,_,_,_,rfl,rfl,A3.of A6,hu,fo,_,_,rfl,rfl,sq _ _ hf9,BK (by rw[An];omega),?_⟩
  have nz2:=nz1.no (z:=u) (by rw[rl1,Bt];omega) u1 ⟨by omega,u2⟩
  refine⟨rows++[zz]++[u],_,_,_,rfl,put (e9.trans sq),?_,nz2,by rw[Ah,rl1];show _+1<=_;omega,by rw[Ah,rl1];omega⟩
  rw[A6,AZ (l₂:=[u])]
  rfl
 obtain⟨rows,o6,o7,o8,rfl,eH,hfr,nz,rb,ri⟩:=pp
 rw[Eo]at nz
 have nl1:("\n":Str).length=1:=by decide +kernel
 have sl1:=Rd.sum_le (n:=2000) (fun y hy=>(nz.1 y hy).1) (l:=rows)
 refine⟨rfl,_,rfl,_,fo,_,rfl,rfl,.inl (A3.of hfr),?_,?_⟩
 .rw[nl1]
  exact BI (Nat.add_le_add_right sl1 _) (by omega)
 .exact q _ rows (e4.trans eH) (fun z=>by rw[z]at ri;exact absurd ri (by show ¬kk.length<=0;omega)) nz
theorem Vl (T:Tx w K mg a):AI P w K mg base AO 1 a.f_1 a.d_1 ["_law_rows","_law_size"] Vv:=by
 refine T.F_1.ok Vm (fun vs H Q E h=>?_) (fun cdv A outer s H vs Q E hr h=>?_)
 .obtain⟨_,_,_,_,rfl,_⟩:=h;rfl
 obtain⟨rl,n,xs,R,rfl,hrl,ax,Rl,rok,n0,n1,q⟩:=h
 refine⟨_,(@Aa _ _ _ (@Aq _ _ _ _ (@B9 _ _ _ _ _ _ _ _ _ _ _ _ DN IX IY GW Ar (@A0 _ _ _ _ _ (@A9 _ _ _ _ _ _ _ _ EZ (@Bj _ _ _ _ (@A0 _ _ _ _ _ (@A9 _ _ _ _ _ _ _ _ Bk Ar (@D7 _ _ _ _ _ _ _ _ _ Gk (by rfl) T.z_str Gn (@A0 _ _ _ _ _ (pv 1) A1 (by rfl)) (by decide) (by decide) (by rfl) (by rfl))) A1 (by rfl))) (@DZ _ _ _ _ _ _ _ ["_law_deep","_law_text"] [none,none] _ _ _ _ (by rfl) (@Dv _ _ _ _ (pv 0)) UW (fun _ _ _ _ _ _=>⟨(show PG _ _ (LV K 2 _) from(Hj rfl (E5 (Bz (i:=0) NJ rfl (.inl rfl)) (E5 (Bz (i:=1) NJ rfl (.inl rfl)) Hm)))),@Eh _,(@A9 _ _ _ _ _ _ _ _ Bk (@A9 _ _ _ _ _ _ _ _ LY Ar (pv 0)) (pv 1))⟩) (by intro _;rfl))) A1 (by rfl)) (by rfl) (by rfl) (by rfl) (by rfl) (by rfl)))),?_⟩
 have nl:=FR (i:=n) (by omega) n1
 unfold nS at nl
 have e5:("size ":Str).length=5:=by decide +kernel
 have e1:(" ":Str).length=1:=by decide +kernel
 have xl:=ax.1
 have rb:∀p∈R,(Bg p).length<=1300:=fun p hp=>NI (rok p hp)
 refine⟨rfl,_,rfl,_,rfl,ES (by omega) n1,_,_,rfl,rfl,Ai (by omega),AE rfl,fun r1 hr1=>?_⟩
 have s1:=Ac hr1 (.lst [V.str ("size "++Str.ofString (toString n))])
 have hr11:(upd H r1 (.lst [V.str ("size "++Str.ofString (toString n))])) r1=some (.lst [V.str ("size "++nS n)]):=A6
 generalize upd H r1 (.lst [V.str ("size "++Str.ofString (toString n))])=H1 at s1 hr11
 refine⟨_,rfl,rl,rfl,⟨_,A3.of (s1 _ _ hrl)⟩,?_⟩
 refine Om (xs:=xs) (fun i ys H'=>H'=H1/\ys=((R.take i).map Bg).map V.str) ⟨rfl,rfl⟩ (Ai (by omega)) (fun i ys H' hi pp=>⟨by rw[pp.1];exact A3.of (s1 _ _ hrl),by rw[pp.2,An,An,Bt];omega⟩) (fun i x ys H' hx pp=>?_) (fun ys H' pp r2 hr2=>?_)
 .obtain⟨rfl,rfl⟩:=pp
  obtain⟨p,hp,t,rfl,ht⟩:=ax.get' hx
  have hb:=rb p (C8 hp)
  unfold Bg at hb
  rw[Ax]at hb
  have h3:=(rok p (C8 hp)).1
  refine⟨t,_,rfl,Aw.of (s1 _ _ ht),rfl,_,_,rfl,_,_,rfl,rfl,Pa (ρ:=[]) _ _,?_⟩
  refine⟨_,rfl,_,_,rfl,rfl,by omega,by omega,by rw[e1];decide,?_⟩
  rw[Pj]
  refine⟨_,rfl,_,_,rfl,rfl,Ai (by omega),rfl,?_⟩
  rw[Du hp,AZ,AZ]
  rfl
 obtain⟨rfl,rfl⟩:=pp
 rw[Fy (by omega)]
 have s2:=Ac hr2 (.lst ((R.map Bg).map V.str))
 refine⟨r1,r2,_,_,rfl,rfl,s2 _ _ hr11,A6,Ai (by rw[An,An,Bs];omega),fun p hp=>?_⟩
 have hC:(upd (upd H' r2 (.lst ((R.map Bg).map V.str))) p (.lst ([V.str ("size "++nS n)]++(R.map Bg).map V.str))) p=some (.lst ((("size "++nS n)::R.map Bg).map V.str)):=A6
 have eC:=s2.trans (Ac hp (.lst ([V.str ("size "++nS n)]++(R.map Bg).map V.str)))
 generalize upd (upd H' r2 (.lst ((R.map Bg).map V.str))) p (.lst ([V.str ("size "++nS n)]++(R.map Bg).map V.str))=HC at eC hC
 exact⟨_,p,_,rfl,rfl,.inl (A3.of hC),BI (OY ⟨n0,n1⟩ (by omega) rb) (by decide),q _ (s1.trans eC)⟩
theorem ok_law (T:Tx w K mg a):AI P w K mg base AO 90 a.f_2 a.d_2 ["_law_script"] (L7 K):=by
 have G_i :=@Wl P w K mg base a T
 have G_V :=@SL P w K mg base a T
 have G_Y :=@VM P w K mg base a T
 have G_u :=@RG P w K mg base a T
 have G_0 :=@RQ P w K mg base a T
 have G_1 :=@Vl P w K mg base a T
 have G_v :=@SZ P w K mg base a T
 refine T.F_2.ok GK (fun vs H Q E h=>?_) (fun cdv A outer s H vs Q E hr h=>?_)
 .obtain⟨_,_,rfl,_⟩:=h;rfl
 obtain⟨p,ns,rfl,hp,h63,_,q⟩:=h
 refine⟨_,(@A4 _ _ _ _ _ (@Al _ _ (1) _ _ _ _ GK.nd rfl (.inl rfl) (@As _ _ _ _ _ _ _ _ _ _ _ _ _ _ _ _ G_V (hr.mono (by omega)) (by rfl) T.m_V T.F_V.kp T.b_V .nil Ap (@A0 _ _ _ _ _ (@As _ _ _ _ _ _ _ _ _ _ _ _ _ _ _ _ G_i (hr.mono (by omega)) (by rfl) T.m_i T.F_i.kp T.b_i .nil Ap (@A0 _ _ _ _ _ (pv 0) (@A0 _ _ _ _ _ A2 A1 (by rfl)) (by rfl)) (by decide) (by rfl) (by rfl)) (@A0 _ _ _ _ _ A2 A1 (by rfl)) (by rfl)) (by decide) (by rfl) (by rfl)) (by rfl) (by first|exact .inl rfl|exact .inr rfl|assumption)) (@A4 _ _ _ _ _ (@Al _ _ (2) _ _ _ _ GK.nd rfl (.inl rfl) (@A9 _ _ _ _ _ _ _ _ C4 A2 (@A9 _ _ _ _ _ _ _ _ Bq (@As _ _ _ _ _ _ _ _ _ _ _ _ _ _ _ _ G_i (hr.mono (by omega)) (by rfl) T.m_i T.F_i.kp T.b_i .nil Ap (@A0 _ _ _ _ _ (pv 0) (@A0 _ _ _ _ _ A2 A1 (by rfl)) (by rfl)) (by decide) (by rfl) (by rfl)) (@A9 _ _ _ _ _ _ _ _ FF (@A9 _ _ _ _ _ _ _ _ Mi A2 A2) A2))) (by rfl) (by first|exact .inl rfl|exact .inr rfl|assumption)) (@A4 _ _ _ _ _ (@OL _ _ _ _ _ _ (@As _ _ _ _ _ _ _ _ _ _ _ _ _ _ _ _ G_Y (hr.mono (by omega)) (by rfl) T.m_Y T.F_Y.kp T.b_Y .nil Ap (@A0 _ _ _ _ _ (@Di _ _ _ _ _ _ _ _ _ _ Fv (pv 0) (@Cz _ _ _ A2) (@Cz _ _ _ A2)) (@A0 _ _ _ _ _ (pv 1) A1 (by rfl)) (by rfl)) (by decide) (by rfl) (by rfl)) (Hj rfl (E5 (Bz (i:=3) GK.nd rfl (.inl rfl)) (E5 (Bz (i:=4) GK.nd rfl (.inl rfl)) Hm))) (by rfl) (by rfl) (by rfl)) (@A4 _ _ _ _ _ (@Al _ _ (5) _ _ _ _ GK.nd rfl (.inl rfl) (@As _ _ _ _ _ _ _ _ _ _ _ _ _ _ _ _ G_1 (hr.mono (by omega)) (by rfl) T.m_1 T.F_1.kp T.b_1 .nil Ap (@A0 _ _ _ _ _ (pv 3) (@A0 _ _ _ _ _ (pv 2) A1 (by rfl)) (by rfl)) (by decide) (by rfl) (by rfl)) (by rfl) (by first|exact .inl rfl|exact .inr rfl|assumption)) (@Aa _ _ _ (@Aq _ _ _ _ (@ID _ _ _ _ _ _ _ (@DS _ _ _ _ _ _ _ _ Bv (@As _ _ _ _ _ _ _ _ _ _ _ _ _ _ _ _ G_v (hr.mono (by omega)) (by rfl) T.m_v T.F_v.kp T.b_v .nil Ap (@A0 _ _ _ _ _ (@As _ _ _ _ _ _ _ _ _ _ _ _ _ _ _ _ G_u (hr.mono (by omega)) (by rfl) T.m_u T.F_u.kp T.b_u .nil Ap (@A0 _ _ _ _ _ (@As _ _ _ _ _ _ _ _ _ _ _ _ _ _ _ _ G_0 (hr.mono (by omega)) (by rfl) T.m_0 T.F_0.kp T.b_0 .nil Ap (@A0 _ _ _ _ _ (pv 3) (@A0 _ _ _ _ _ (pv 2) (@A0 _ _ _ _ _ (@As _ _ _ _ _ _ _ _ _ _ _ _ _ _ _ _ G_i (hr.mono (by omega)) (by rfl) T.m_i T.F_i.kp T.b_i .nil Ap (@A0 _ _ _ _ _ (pv 0) (@A0 _ _ _ _ _ A2 A1 (by rfl)) (by rfl)) (by decide) (by rfl) (by rfl)) A1 (by rfl)) (by rfl)) (by rfl)) (by decide) (by rfl) (by rfl)) A1 (by rfl)) (by decide) (by rfl) (by rfl)) A1 (by rfl)) (by decide) (by rfl) (by rfl)) (pv 5) (@Av _ _ (by decide) (by decide))) (@FD _ _ _ _ _ (@DS _ _ _ _ _ _ _ _ Bv (@As _ _ _ _ _ _ _ _ _ _ _ _ _ _ _ _ G_v (hr.mono (by omega)) (by rfl) T.m_v T.F_v.kp T.b_v .nil Ap (@A0 _ _ _ _ _ (@As _ _ _ _ _ _ _ _ _ _ _ _ _ _ _ _ G_u (hr.mono (by omega)) (by rfl) T.m_u T.F_u.kp T.b_u .nil Ap (@A0 _ _ _ _ _ (pv 5) A1 (by rfl)) (by decide) (by rfl) (by rfl)) A1 (by rfl)) (by decide) (by rfl) (by rfl)) (pv 5) (@Av _ _ (by decide) (by decide))))))))))),?_⟩
 refine⟨_,rfl,p,ns,0,rfl,hp,by decide,_,rfl,fun nl H1 zs e1 hn=>?_⟩
 dsimp only[Am]
 refine⟨_,rfl,p,ns,1,rfl,e1.seq hp,by decide,?_⟩
 generalize ns.getD (Int.toNat 1) 0=c1
 have k18:(10 ^ (18:Int).toNat-2:Int)=999999999999999998:=by decide
 have m0:=BY c1 (show(10 ^ (18:Int).toNat-2:Int)≠0 by decide)
 have m1:=C9 c1 (show(0:Int)<(10 ^ (18:Int).toNat-2:Int) by decide)
 refine⟨_,_,rfl,rfl,⟨by decide,by decide,by decide⟩,_,_,rfl,rfl,_,_,rfl,rfl,(by show(0:Int)<(10 ^ (18:Int).toNat-2:Int);decide),_,_,rfl,rfl,?_⟩
 dsimp only[Am]
 obtain⟨n,en⟩:∃n:Int,2+c1%(10 ^ (18:Int).toNat-2:Int)=n:=⟨_,rfl⟩
 rw[en]
 have n0:2<=n:=by omega
 have n1:n<=999999999999999999:=by omega
 refine⟨_,rfl,_,rfl,_,rfl,p,_,rfl,e1.seq hp,fun p1 hp1=>?_⟩
 rw[NT]
 have s2:=Ac hp1 (.lst ((Ck ns (some 4) (some 59)).map V.int))
 have cl:(Ck ns (some 4) (some 59)).length<=63:=BI (Rd.cut_le ns) h63
 refine⟨_,rfl,p1,nl,Ck ns (some 4) (some 59),zs,rfl,A3.of A6,cl,hn.over s2,fun t rl dl H3 xs ys R Ds ks la e3 ht hrl ax hdl ay C dne r70 lin cc dok=>?_⟩
 refine⟨t,_,rfl,Aw.of ht,rfl,_,_,rfl,_,_,rfl,rfl,?_⟩
 have e13:=e1.trans (s2.trans e3)
 have klen:ks.length=R.length:=by have:=congrArg List.length C.tx;rw[An,An]at this;exact this.symm
 have rok:=O5 dok
 have rows_ok:=lin.ok (Pt:=Ak.Ok) (Ps:=fun s:Str=>s.length<=1200) rok
 have hSt:Rd.Stps (Rd.tf zs) Rd.D0 (.sz n::ks) ⟨some n,Ds,[],[],la⟩:=Rd.stps_sz n0 n1 (C.st n)
 refine⟨_,rfl,_,rfl,rl,n,xs,R,rfl,hrl,ax,by omega,rows_ok,by omega,n1,fun H4 e4=>?_⟩
 dsimp only[Am]
 have d6:Ds.length<=6:=by
  have:=Rd.stps_rds hSt (ns:=zs) fun k hk=>by
   rcases AG.mp hk with rfl|hk
   .exact⟨n0,n1⟩
   .exact C.ok k hk
  exact this.six (Bw _)
 have okD:Mn Ds:=⟨dok,by omega,cc⟩
 have e14:=e13.trans e4
 have nl1:("\n":Str).length=1:=by decide +kernel
 have use:∀{rows:List Str},rows≠[]->Rd.Nz (.sz n::ks) rows->(Txt.join "\n" rows).length<=900000/\Rd.IsSplit [10] (cds (Txt.join "\n" rows)) (rows.map cds)/\rows.length<=1000/\(∀y∈rows,y.length<=100000)/\Rd.Rds (Rd.tf zs) rows Rd.D0 ⟨some n,Ds,[],[],la⟩:=fun{rows} rne nz=>by
  have rl9:rows.length<=300:=by have:=nz.2.1;rw[AQ]at this;omega
  have sl1:=Rd.sum_le (n:=2000) (fun y hy=>(nz.1 y hy).1) (l:=rows)
  have jl:=NS "\n" rows
  rw[nl1]at jl
  exact⟨by omega,Rd.join_split rne fun y hy=>(nz.1 y hy).2,by omega,fun y hy=>BI (nz.1 y hy).1 (by decide),nz.2.2 _ _ _ hSt⟩
 refine⟨_,rfl,_,rfl,_,rfl,p,ns,2,rfl,e14.seq hp,by decide,zs,rl,xs,R,ks,n,_,rfl,e4 _ _ hrl,ax.mono fun _ _ z=>z.tk (A7.tk e4),C.tx,C.ok,n0,n1,by omega,fun H5 rows e5 rne nz=>?_⟩
 obtain⟨u1,u2,u3,u4,u5⟩:=use rne nz
 refine⟨Rd.tf zs,_,rows,_,n,rfl,u1,u2,u3,u4,u5,rfl,dne,rfl,fun x dx fl ds H6 e6 hx hfl pds _=>?_⟩
 refine⟨.ref x,n,Ds,rfl,⟨x,dx,fl,rfl,hx,ds,hfl,pds⟩,okD,by omega,n1,fun H7 R7 e7 lin7=>?_⟩
 rw[lin7.one lin]
 refine⟨_,rfl,rfl,_,rfl,CM (v:=true) (B1 rfl) (Bm ?_)⟩
 have nzs:Rd.Nz [.sz n] [Rd.rkS (.sz n)]:=Rd.nz_one ⟨n0,n1⟩
 have nz2:=Rd.nz_plain C.tx C.ok (fun p hp=>(rows_ok p hp).1) nzs
 have e2:HH n R=Txt.join "\n" ([Rd.rkS (.sz n)]++R.map Bg):=rfl
 obtain⟨v1,v2,v3,v4,v5⟩:=use (rows:=[Rd.rkS (.sz n)]++R.map Bg) (Cy _ _) nz2
 rw[←e2]at v1 v2
 refine⟨_,rfl,Rd.tf zs,_,[Rd.rkS (.sz n)]++R.map Bg,_,n,rfl,v1,v2,v3,v4,v5,rfl,dne,rfl,fun x dx fl ds H8 e8 hx hfl pds _=>?_⟩
 refine⟨.ref x,n,Ds,rfl,⟨x,dx,fl,rfl,hx,ds,hfl,pds⟩,okD,by omega,n1,fun H9 R9 e9 lin9=>?_⟩
 rw[lin9.one lin]
 refine⟨_,rfl,rfl,?_⟩
 rw[show decide (V.str (HH n R)=V.str (HH n R))=true from B1 rfl]
 exact q _
end
theorem Cg {us:List Value}(h:us.length=1):∃x0,us=[x0]:=by
 rcases us with _|⟨x0,us⟩
 .cases h
 rcases us with _|⟨y,us⟩
 .exact⟨x0,rfl⟩
 .simp only[AQ]at h;omega
theorem Cw {us:List Value}(h:us.length=2):∃x0 x1,us=[x0,x1]:=by
 rcases us with _|⟨x0,us⟩
 .cases h
 rcases us with _|⟨x1,us⟩
 .cases h
 rcases us with _|⟨y,us⟩
 .exact⟨x0,x1,rfl⟩
 .simp only[AQ]at h;omega
theorem Ef {us:List Value}(h:us.length=3):∃x0 x1 x2,us=[x0,x1,x2]:=by
 rcases us with _|⟨x0,us⟩
 .cases h
 rcases us with _|⟨x1,us⟩
 .cases h
 rcases us with _|⟨x2,us⟩
 .cases h
 rcases us with _|⟨y,us⟩
 .exact⟨x0,x1,x2,rfl⟩
 .simp only[AQ]at h;omega
theorem LF {us:List Value}(h:us.length=4):∃x0 x1 x2 x3,us=[x0,x1,x2,x3]:=by
 rcases us with _|⟨x0,us⟩
 .cases h
 rcases us with _|⟨x1,us⟩
 .cases h
 rcases us with _|⟨x2,us⟩
 .cases h
 rcases us with _|⟨x3,us⟩
 .cases h
 rcases us with _|⟨y,us⟩
 .exact⟨x0,x1,x2,x3,rfl⟩
 .simp only[AQ]at h;omega
theorem Xa {us:List Value}(h:us.length=8):∃x0 x1 x2 x3 x4 x5 x6 x7,us=[x0,x1,x2,x3,x4,x5,x6,x7]:=by
 rcases us with _|⟨x0,us⟩
 .cases h
 rcases us with _|⟨x1,us⟩
 .cases h
 rcases us with _|⟨x2,us⟩
 .cases h
 rcases us with _|⟨x3,us⟩
 .cases h
 rcases us with _|⟨x4,us⟩
 .cases h
 rcases us with _|⟨x5,us⟩
 .cases h
 rcases us with _|⟨x6,us⟩
 .cases h
 rcases us with _|⟨x7,us⟩
 .cases h
 rcases us with _|⟨y,us⟩
 .exact⟨x0,x1,x2,x3,x4,x5,x6,x7,rfl⟩
 .simp only[AQ]at h;omega
theorem Ud:AW "__init__" "Number.__init__" JW ["self","n"]:=fun _ _ _ _ _ _ _ h=>by obtain⟨_,_,rfl⟩:=Cw h;rfl
theorem R5:AW "__init__" "Value.__init__" Jy ["self","name"]:=fun _ _ _ _ _ _ _ h=>by obtain⟨_,_,rfl⟩:=Cw h;rfl
theorem W2:AW "__init__" "Cell.__init__" KG ["self","table","spots"]:=fun _ _ _ _ _ _ _ h=>by obtain⟨_,_,_,rfl⟩:=Ef h;rfl
theorem TM:AW "__init__" "Joined.__init__" Je ["self","sign","left","right"]:=fun _ _ _ _ _ _ _ h=>by obtain⟨_,_,_,_,rfl⟩:=LF h;rfl
theorem XF:AW "__init__" "Deed.__init__" K0 ["self","names","lows","highs","table","spots","term","path"]:=fun _ _ _ _ _ _ _ h=>by obtain⟨_,_,_,_,_,_,_,_,rfl⟩:=Xa h;rfl
theorem X7:AW "__init__" "Program.__init__" Ka ["self","size","deeds"]:=fun _ _ _ _ _ _ _ h=>by obtain⟨_,_,_,rfl⟩:=Ef h;rfl
theorem Xj:AW "made_of" "made_of" Iu ["text","signs"]:=fun _ _ _ _ _ _ _ h=>by obtain⟨_,_,rfl⟩:=Cw h;rfl
theorem V0:AW "number_of" "number_of" Jg ["text"]:=fun _ _ _ _ _ _ _ h=>by obtain⟨_,rfl⟩:=Cg h;rfl
theorem WD:AW "is_name" "is_name" Ki ["text"]:=fun _ _ _ _ _ _ _ h=>by obtain⟨_,rfl⟩:=Cg h;rfl
theorem Xd:AW "risen" "risen" JH ["parts"]:=fun _ _ _ _ _ _ _ h=>by obtain⟨_,rfl⟩:=Cg h;rfl
theorem W0:AW "fallen" "fallen" Jp ["parts"]:=fun _ _ _ _ _ _ _ h=>by obtain⟨_,rfl⟩:=Cg h;rfl
theorem QQ:AW "spot_of" "spot_of" JI ["text"]:=fun _ _ _ _ _ _ _ h=>by obtain⟨_,rfl⟩:=Cg h;rfl
theorem Uw:AW "bare_row" "bare_row" K8 ["row"]:=fun _ _ _ _ _ _ _ h=>by obtain⟨_,rfl⟩:=Cg h;rfl
theorem RN:AW "words_of" "words_of" Ig ["row"]:=fun _ _ _ _ _ _ _ h=>by obtain⟨_,rfl⟩:=Cg h;rfl
theorem QG:AW "part_end" "part_end" K7 ["text","at"]:=fun _ _ _ _ _ _ _ h=>by obtain⟨_,_,rfl⟩:=Cw h;rfl
theorem Vh:AW "cell_of" "cell_of" Ho ["text"]:=fun _ _ _ _ _ _ _ h=>by obtain⟨_,rfl⟩:=Cg h;rfl
theorem XH:AW "part_of" "part_of" Jq ["text"]:=fun _ _ _ _ _ _ _ h=>by obtain⟨_,rfl⟩:=Cg h;rfl
theorem UK:AW "parts_of" "parts_of" KL ["text"]:=fun _ _ _ _ _ _ _ h=>by obtain⟨_,rfl⟩:=Cg h;rfl
theorem R0:AW "join_waiting" "join_waiting" JU ["terms","signs","least"]:=fun _ _ _ _ _ _ _ h=>by obtain⟨_,_,_,rfl⟩:=Ef h;rfl
theorem Uz:AW "term_of" "term_of" Ks ["parts"]:=fun _ _ _ _ _ _ _ h=>by obtain⟨_,rfl⟩:=Cg h;rfl
theorem UH:AW "__init__" "Draft.__init__" JK ["self"]:=fun _ _ _ _ _ _ _ h=>by obtain⟨_,rfl⟩:=Cg h;rfl
theorem QK:AW "spots_known" "spots_known" HR ["draft","spots"]:=fun _ _ _ _ _ _ _ h=>by obtain⟨_,_,rfl⟩:=Cw h;rfl
theorem Rf:AW "names_known" "names_known" JP ["draft","parts"]:=fun _ _ _ _ _ _ _ h=>by obtain⟨_,_,rfl⟩:=Cw h;rfl
theorem Up:AW "tables_kept" "tables_kept" KF ["draft","parts"]:=fun _ _ _ _ _ _ _ h=>by obtain⟨_,_,rfl⟩:=Cw h;rfl
theorem Wg:AW "deed_taken" "deed_taken" Km ["draft","row"]:=fun _ _ _ _ _ _ _ h=>by obtain⟨_,_,rfl⟩:=Cw h;rfl
theorem Vi:AW "size_taken" "size_taken" JC ["draft","words"]:=fun _ _ _ _ _ _ _ h=>by obtain⟨_,_,rfl⟩:=Cw h;rfl
theorem Sb:AW "loop_taken" "loop_taken" Kt ["draft","words"]:=fun _ _ _ _ _ _ _ h=>by obtain⟨_,_,rfl⟩:=Cw h;rfl
theorem QU:AW "end_taken" "end_taken" JA ["draft","words"]:=fun _ _ _ _ _ _ _ h=>by obtain⟨_,_,rfl⟩:=Cw h;rfl
theorem U8:AW "taken" "taken" Kk ["draft","row"]:=fun _ _ _ _ _ _ _ h=>by obtain⟨_,_,rfl⟩:=Cw h;rfl
theorem UF:AW "read" "read" K5 ["text"]:=fun _ _ _ _ _ _ _ h=>by obtain⟨_,rfl⟩:=Cg h;rfl
theorem RU:AW "nested" "nested" JO ["deeds"]:=fun _ _ _ _ _ _ _ h=>by obtain⟨_,rfl⟩:=Cg h;rfl
theorem Wq:AW "items_within" "items_within" JS ["deeds","numbers","depth"]:=fun _ _ _ _ _ _ _ h=>by obtain⟨_,_,_,rfl⟩:=Ef h;rfl
theorem QW:AW "neighbours" "neighbours" Js ["deeds","numbers","depth"]:=fun _ _ _ _ _ _ _ h=>by obtain⟨_,_,_,rfl⟩:=Ef h;rfl
theorem T6:AW "written" "written" J4 ["program"]:=fun _ _ _ _ _ _ _ h=>by obtain⟨_,rfl⟩:=Cg h;rfl
theorem To:AW "written_items" "written_items" J7 ["deeds","items","depth"]:=fun _ _ _ _ _ _ _ h=>by obtain⟨_,_,_,rfl⟩:=Ef h;rfl
theorem S0:AW "written_loop" "written_loop" Jz ["deed","e"]:=fun _ _ _ _ _ _ _ h=>by obtain⟨_,_,rfl⟩:=Cw h;rfl
theorem WX:AW "written_deed" "written_deed" Jl ["deed"]:=fun _ _ _ _ _ _ _ h=>by obtain⟨_,rfl⟩:=Cg h;rfl
theorem Xm:AW "written_cell" "written_cell" Ic ["table","spots"]:=fun _ _ _ _ _ _ _ h=>by obtain⟨_,_,rfl⟩:=Cw h;rfl
theorem Ry:AW "written_spot" "written_spot" JZ ["spot"]:=fun _ _ _ _ _ _ _ h=>by obtain⟨_,rfl⟩:=Cg h;rfl
theorem Wo:AW "written_term" "written_term" KD ["term"]:=fun _ _ _ _ _ _ _ h=>by obtain⟨_,rfl⟩:=Cg h;rfl
theorem SV:AW "bracketed" "bracketed" Kn ["term","needed"]:=fun _ _ _ _ _ _ _ h=>by obtain⟨_,_,rfl⟩:=Cw h;rfl
theorem S4:AW "left_needs" "left_needs" Kr ["term"]:=fun _ _ _ _ _ _ _ h=>by obtain⟨_,rfl⟩:=Cg h;rfl
theorem Xo:AW "right_needs" "right_needs" JX ["term"]:=fun _ _ _ _ _ _ _ h=>by obtain⟨_,rfl⟩:=Cg h;rfl
theorem XI:AW "is_sum" "is_sum" JY ["term"]:=fun _ _ _ _ _ _ _ h=>by obtain⟨_,rfl⟩:=Cg h;rfl
theorem TJ:AW "_law_cell_at" "_law_cell_at" JQ ["_law_script","_law_k"]:=fun _ _ _ _ _ _ _ h=>by obtain⟨_,_,rfl⟩:=Cw h;rfl
theorem TC:AW "_law_stream" "_law_stream" JT ["_law_cell_here","_law_many"]:=fun _ _ _ _ _ _ _ h=>by obtain⟨_,_,rfl⟩:=Cw h;rfl
theorem VA:AW "_law_names" "_law_names" HN ["_law_cell_here","_law_many"]:=fun _ _ _ _ _ _ _ h=>by obtain⟨_,_,rfl⟩:=Cw h;rfl
theorem XT:AW "_law_number" "_law_number" Jc ["_law_cell_here","_law_far"]:=fun _ _ _ _ _ _ _ h=>by obtain⟨_,_,rfl⟩:=Cw h;rfl
theorem Uv:AW "_law_spot_text" "_law_spot_text" Jw ["_law_spot_here"]:=fun _ _ _ _ _ _ _ h=>by obtain⟨_,rfl⟩:=Cg h;rfl
theorem V8:AW "_law_spot" "_law_spot" J5 ["_law_one","_law_other","_law_known"]:=fun _ _ _ _ _ _ _ h=>by obtain⟨_,_,_,rfl⟩:=Ef h;rfl
theorem Ux:AW "_law_cell" "_law_cell" GN ["_law_xs","_law_known","_law_names_here"]:=fun _ _ _ _ _ _ _ h=>by obtain⟨_,_,_,rfl⟩:=Ef h;rfl
theorem XC:AW "_law_leaf" "_law_leaf" Jv ["_law_cell_here","_law_known","_law_names_here"]:=fun _ _ _ _ _ _ _ h=>by obtain⟨_,_,_,rfl⟩:=Ef h;rfl
theorem Wy:AW "_law_both" "_law_both" K6 ["_law_sign_here","_law_left","_law_right"]:=fun _ _ _ _ _ _ _ h=>by obtain⟨_,_,_,rfl⟩:=Ef h;rfl
theorem Rt:AW "_law_term" "_law_term" K3 ["_law_cell_here","_law_known","_law_names_here"]:=fun _ _ _ _ _ _ _ h=>by obtain⟨_,_,_,rfl⟩:=Ef h;rfl
theorem Ue:AW "_law_loop" "_law_loop" GR ["_law_cell_here","_law_names_here","_law_opened","_law_last"]:=fun _ _ _ _ _ _ _ h=>by obtain⟨_,_,_,_,rfl⟩:=LF h;rfl
theorem Xv:AW "_law_deed" "_law_deed" Ie ["_law_cell_here","_law_opened","_law_path","_law_names_here"]:=fun _ _ _ _ _ _ _ h=>by obtain⟨_,_,_,_,rfl⟩:=LF h;rfl
theorem Wn:AW "_law_program" "_law_program" Ji ["_law_cells","_law_names_here"]:=fun _ _ _ _ _ _ _ h=>by obtain⟨_,_,rfl⟩:=Cw h;rfl
theorem V9:AW "_law_sign" "_law_sign" Ku ["_law_cell_here"]:=fun _ _ _ _ _ _ _ h=>by obtain⟨_,rfl⟩:=Cg h;rfl
theorem SI:AW "_law_spread" "_law_spread" Jn ["_law_text","_law_x"]:=fun _ _ _ _ _ _ _ h=>by obtain⟨_,_,rfl⟩:=Cw h;rfl
theorem WK:AW "_law_noisy" "_law_noisy" HX ["_law_rows","_law_size","_law_cell_here"]:=fun _ _ _ _ _ _ _ h=>by obtain⟨_,_,_,rfl⟩:=Ef h;rfl
theorem Ur:AW "_law_plain" "_law_plain" HZ ["_law_rows","_law_size"]:=fun _ _ _ _ _ _ _ h=>by obtain⟨_,_,rfl⟩:=Cw h;rfl
theorem Uu:AW "law" "law" Ko ["_law_script"]:=fun _ _ _ _ _ _ _ h=>by obtain⟨_,rfl⟩:=Cg h;rfl
theorem txt_mk {w:World}{K:Ya}{h:Heap}{mg:Str->Option Value}{fa:Addr}(X:K.In h)(G:h.Ns mainGlobals mg)(hfa:mg "law"=some (.ref fa))
  {C_Term:Addr} {C_Number:Addr} {C_Value:Addr} {C_Cell:Addr} {C_Joined:Addr} {C_Deed:Addr} {C_Program:Addr} {C_Draft:Addr} {f1 f2 f3 f4 f5 f6 f7 f8 f9 f10 f11 f12 f13 f14 f15 f16 f17 f18 f19 f20 f21 f22 f23 f24 f25 f26 f27 f28 f29 f30 f31 f32 f33 f34 f35 f36 f37 f38 f39 f40 f41 f42 f43 f44 f45 f46 f47 f48 f49 f50 f51 f52 f53 f54 f55 f56 f57 f58 f59 f60 f61 f62:Addr} {d1 d2 d3 d4 d5 d6 d7 d8 d9 d10 d11 d12 d13 d14 d15 d16 d17 d18 d19 d20 d21 d22 d23 d24 d25 d26 d27 d28 d29 d30 d31 d32 d33 d34 d35 d36 d37 d38 d39 d40 d41 d42 d43 d44 d45 d46 d47 d48 d49 d50 d51 d52 d53 d54 d55 d56 d57 d58 d59 d60 d61 d62:FuncData} {t_FIGURES:Tok} {t_LEAST_SIZE:Tok} {t_LETTERS:Tok} {t_MOST_DEEDS:Tok} {t_MOST_FIGURES:Tok} {t_MOST_LETTERS:Tok} {t_MOST_LOOPS:Tok} {t_MOST_SPOTS:Tok} {u_ROW_WORDS:Addr} {e_ROW_WORDS:Option Addr} {n_ROW_WORDS:Nat} {b_ROW_WORDS:Array (Option Value)} {t_ROW_WORDS0:Tok} {t_ROW_WORDS1:Tok} {t_ROW_WORDS2:Tok} {t_SIGNS:Tok} {u_STRENGTHS:Addr} {n_STRENGTHS:Nat} {h_STRENGTHS0:Int} {k_STRENGTHS0 s_STRENGTHS0:Tok} {h_STRENGTHS1:Int} {k_STRENGTHS1 s_STRENGTHS1:Tok} {h_STRENGTHS2:Int} {k_STRENGTHS2 s_STRENGTHS2:Tok} {h_STRENGTHS3:Int} {k_STRENGTHS3 s_STRENGTHS3:Tok}
  (a_Term:ClA K C_Term "Term")
  (a_Number:ClA K C_Number "Number")
  (a_Value:ClA K C_Value "Value")
  (a_Cell:ClA K C_Cell "Cell")
  (a_Joined:ClA K C_Joined "Joined")
  (a_Deed:ClA K C_Deed "Deed")
  (a_Program:ClA K C_Program "Program")
  (a_Draft:ClA K C_Draft "Draft")
  (h1:Gi K C_Number "__init__" "Number.__init__" JW f1 d1)
  (h2:Gi K C_Value "__init__" "Value.__init__" Jy f2 d2)
  (h3:Gi K C_Cell "__init__" "Cell.__init__" KG f3 d3)
  (h4:Gi K C_Joined "__init__" "Joined.__init__" Je f4 d4)
  (h5:Gi K C_Deed "__init__" "Deed.__init__" K0 f5 d5)
  (h6:Gi K C_Program "__init__" "Program.__init__" Ka f6 d6)
  (h7:B3 K "made_of" Iu f7 d7)
  (h8:B3 K "number_of" Jg f8 d8)
  (h9:B3 K "is_name" Ki f9 d9)
  (h10:B3 K "risen" JH f10 d10)
  (h11:B3 K "fallen" Jp f11 d11)
  (h12:B3 K "spot_of" JI f12 d12)
  (h13:B3 K "bare_row" K8 f13 d13)
  (h14:B3 K "words_of" Ig f14 d14)
  (h15:B3 K "part_end" K7 f15 d15)
  (h16:B3 K "cell_of" Ho f16 d16)
  (h17:B3 K "part_of" Jq f17 d17)
  (h18:B3 K "parts_of" KL f18 d18)
  (h19:B3 K "join_waiting" JU f19 d19)
  (h20:B3 K "term_of" Ks f20 d20)
  (h21:Gi K C_Draft "__init__" "Draft.__init__" JK f21 d21)
  (h22:B3 K "spots_known" HR f22 d22)
  (h23:B3 K "names_known" JP f23 d23)
  (h24:B3 K "tables_kept" KF f24 d24)
  (h25:B3 K "deed_taken" Km f25 d25)
  (h26:B3 K "size_taken" JC f26 d26)
  (h27:B3 K "loop_taken" Kt f27 d27)
  (h28:B3 K "end_taken" JA f28 d28)
  (h29:B3 K "taken" Kk f29 d29)
  (h30:B3 K "read" K5 f30 d30)
  (h31:B3 K "nested" JO f31 d31)
  (h32:B3 K "items_within" JS f32 d32)
  (h33:B3 K "neighbours" Js f33 d33)
  (h34:B3 K "written" J4 f34 d34)
  (h35:B3 K "written_items" J7 f35 d35)
  (h36:B3 K "written_loop" Jz f36 d36)
  (h37:B3 K "written_deed" Jl f37 d37)
  (h38:B3 K "written_cell" Ic f38 d38)
  (h39:B3 K "written_spot" JZ f39 d39)
  (h40:B3 K "written_term" KD f40 d40)
  (h41:B3 K "bracketed" Kn f41 d41)
  (h42:B3 K "left_needs" Kr f42 d42)
  (h43:B3 K "right_needs" JX f43 d43)
  (h44:B3 K "is_sum" JY f44 d44)
  (h45:B3 K "_law_cell_at" JQ f45 d45)
  (h46:B3 K "_law_stream" JT f46 d46)
  (h47:B3 K "_law_names" HN f47 d47)
  (h48:B3 K "_law_number" Jc f48 d48)
  (h49:B3 K "_law_spot_text" Jw f49 d49)
  (h50:B3 K "_law_spot" J5 f50 d50)
  (h51:B3 K "_law_cell" GN f51 d51)
  (h52:B3 K "_law_leaf" Jv f52 d52)
  (h53:B3 K "_law_both" K6 f53 d53)
  (h54:B3 K "_law_term" K3 f54 d54)
  (h55:B3 K "_law_loop" GR f55 d55)
  (h56:B3 K "_law_deed" Ie f56 d56)
  (h57:B3 K "_law_program" Ji f57 d57)
  (h58:B3 K "_law_sign" Ku f58 d58)
  (h59:B3 K "_law_spread" Jn f59 d59)
  (h60:B3 K "_law_noisy" HX f60 d60)
  (h61:B3 K "_law_plain" HZ f61 d61)
  (h62:B3 K "law" Ko f62 d62)
  (n_Number_n:PySem.W.findIn K (.ref C_Number) "n"=some none)
  (n_Value_name:PySem.W.findIn K (.ref C_Value) "name"=some none)
  (n_Cell_table:PySem.W.findIn K (.ref C_Cell) "table"=some none)
  (n_Cell_spots:PySem.W.findIn K (.ref C_Cell) "spots"=some none)
  (n_Joined_sign:PySem.W.findIn K (.ref C_Joined) "sign"=some none)
  (n_Joined_left:PySem.W.findIn K (.ref C_Joined) "left"=some none)
  (n_Joined_right:PySem.W.findIn K (.ref C_Joined) "right"=some none)
  (n_Deed_names:PySem.W.findIn K (.ref C_Deed) "names"=some none)
  (n_Deed_lows:PySem.W.findIn K (.ref C_Deed) "lows"=some none)
  (n_Deed_highs:PySem.W.findIn K (.ref C_Deed) "highs"=some none)
  (n_Deed_table:PySem.W.findIn K (.ref C_Deed) "table"=some none)
  (n_Deed_spots:PySem.W.findIn K (.ref C_Deed) "spots"=some none)
  (n_Deed_term:PySem.W.findIn K (.ref C_Deed) "term"=some none)
  (n_Deed_path:PySem.W.findIn K (.ref C_Deed) "path"=some none)
  (n_Program_size:PySem.W.findIn K (.ref C_Program) "size"=some none)
  (n_Program_deeds:PySem.W.findIn K (.ref C_Program) "deeds"=some none)
  (n_Draft_size:PySem.W.findIn K (.ref C_Draft) "size"=some none)
  (n_Draft_deeds:PySem.W.findIn K (.ref C_Draft) "deeds"=some none)
  (n_Draft_tables:PySem.W.findIn K (.ref C_Draft) "tables"=some none)
  (n_Draft_names:PySem.W.findIn K (.ref C_Draft) "names"=some none)
  (n_Draft_lows:PySem.W.findIn K (.ref C_Draft) "lows"=some none)
  (n_Draft_highs:PySem.W.findIn K (.ref C_Draft) "highs"=some none)
  (n_Draft_path:PySem.W.findIn K (.ref C_Draft) "path"=some none)
  (hn0:PySem.W.specialIn K (.builtin "object.__class__") "__get__"=some (some (.builtin "getset_descriptor.__get__"))) (ht0:PySem.W.takesIn K (.builtin "object.__class__")=some true)
  (ha_Number:PySem.W.findIn K (.ref C_Number) "__class__"=some (some (.builtin "object.__class__"))) (hm_Number:PySem.W.mroIn K C_Number (.type "object")=some true)
  (is_Number_Term:PySem.W.kitOne K (.ref C_Number) (.ref C_Term)=some true)
  (is_Number_Number:PySem.W.kitOne K (.ref C_Number) (.ref C_Number)=some true)
  (is_Number_Value:PySem.W.kitOne K (.ref C_Number) (.ref C_Value)=some false)
  (is_Number_Cell:PySem.W.kitOne K (.ref C_Number) (.ref C_Cell)=some false)
  (is_Number_Joined:PySem.W.kitOne K (.ref C_Number) (.ref C_Joined)=some false)
  (is_Number_Deed:PySem.W.kitOne K (.ref C_Number) (.ref C_Deed)=some false)
  (is_Number_Program:PySem.W.kitOne K (.ref C_Number) (.ref C_Program)=some false)
  (is_Number_Draft:PySem.W.kitOne K (.ref C_Number) (.ref C_Draft)=some false)
  (ha_Value:PySem.W.findIn K (.ref C_Value) "__class__"=some (some (.builtin "object.__class__"))) (hm_Value:PySem.W.mroIn K C_Value (.type "object")=some true)
  (is_Value_Term:PySem.W.kitOne K (.ref C_Value) (.ref C_Term)=some true)
  (is_Value_Number:PySem.W.kitOne K (.ref C_Value) (.ref C_Number)=some false)
  (is_Value_Value:PySem.W.kitOne K (.ref C_Value) (.ref C_Value)=some true)
  (is_Value_Cell:PySem.W.kitOne K (.ref C_Value) (.ref C_Cell)=some false)
  (is_Value_Joined:PySem.W.kitOne K (.ref C_Value) (.ref C_Joined)=some false)
  (is_Value_Deed:PySem.W.kitOne K (.ref C_Value) (.ref C_Deed)=some false)
  (is_Value_Program:PySem.W.kitOne K (.ref C_Value) (.ref C_Program)=some false)
  (is_Value_Draft:PySem.W.kitOne K (.ref C_Value) (.ref C_Draft)=some false)
  (ha_Cell:PySem.W.findIn K (.ref C_Cell) "__class__"=some (some (.builtin "object.__class__"))) (hm_Cell:PySem.W.mroIn K C_Cell (.type "object")=some true)
  (is_Cell_Term:PySem.W.kitOne K (.ref C_Cell) (.ref C_Term)=some true)
  (is_Cell_Number:PySem.W.kitOne K (.ref C_Cell) (.ref C_Number)=some false)
  (is_Cell_Value:PySem.W.kitOne K (.ref C_Cell) (.ref C_Value)=some false)
  (is_Cell_Cell:PySem.W.kitOne K (.ref C_Cell) (.ref C_Cell)=some true)
  (is_Cell_Joined:PySem.W.kitOne K (.ref C_Cell) (.ref C_Joined)=some false)
  (is_Cell_Deed:PySem.W.kitOne K (.ref C_Cell) (.ref C_Deed)=some false)
  (is_Cell_Program:PySem.W.kitOne K (.ref C_Cell) (.ref C_Program)=some false)
  (is_Cell_Draft:PySem.W.kitOne K (.ref C_Cell) (.ref C_Draft)=some false)
  (ha_Joined:PySem.W.findIn K (.ref C_Joined) "__class__"=some (some (.builtin "object.__class__"))) (hm_Joined:PySem.W.mroIn K C_Joined (.type "object")=some true)
  (is_Joined_Term:PySem.W.kitOne K (.ref C_Joined) (.ref C_Term)=some true)
  (is_Joined_Number:PySem.W.kitOne K (.ref C_Joined) (.ref C_Number)=some false)
  (is_Joined_Value:PySem.W.kitOne K (.ref C_Joined) (.ref C_Value)=some false)
  (is_Joined_Cell:PySem.W.kitOne K (.ref C_Joined) (.ref C_Cell)=some false)
  (is_Joined_Joined:PySem.W.kitOne K (.ref C_Joined) (.ref C_Joined)=some true)
  (is_Joined_Deed:PySem.W.kitOne K (.ref C_Joined) (.ref C_Deed)=some false)
  (is_Joined_Program:PySem.W.kitOne K (.ref C_Joined) (.ref C_Program)=some false)
  (is_Joined_Draft:PySem.W.kitOne K (.ref C_Joined) (.ref C_Draft)=some false)
  (is_str_Term:PySem.W.kitOne K (.type "str") (.ref C_Term)=some false)
  (is_str_Number:PySem.W.kitOne K (.type "str") (.ref C_Number)=some false)
  (is_str_Value:PySem.W.kitOne K (.type "str") (.ref C_Value)=some false)
  (is_str_Cell:PySem.W.kitOne K (.type "str") (.ref C_Cell)=some false)
  (is_str_Joined:PySem.W.kitOne K (.type "str") (.ref C_Joined)=some false)
  (is_str_Deed:PySem.W.kitOne K (.type "str") (.ref C_Deed)=some false)
  (is_str_Program:PySem.W.kitOne K (.type "str") (.ref C_Program)=some false)
  (is_str_Draft:PySem.W.kitOne K (.type "str") (.ref C_Draft)=some false)
  (ha_Deed:PySem.W.findIn K (.ref C_Deed) "__class__"=some (some (.builtin "object.__class__"))) (hm_Deed:PySem.W.mroIn K C_Deed (.type "object")=some true)
  (is_Deed_Term:PySem.W.kitOne K (.ref C_Deed) (.ref C_Term)=some false)
  (is_Deed_Number:PySem.W.kitOne K (.ref C_Deed) (.ref C_Number)=some false)
  (is_Deed_Value:PySem.W.kitOne K (.ref C_Deed) (.ref C_Value)=some false)
  (is_Deed_Cell:PySem.W.kitOne K (.ref C_Deed) (.ref C_Cell)=some false)
  (is_Deed_Joined:PySem.W.kitOne K (.ref C_Deed) (.ref C_Joined)=some false)
  (is_Deed_Deed:PySem.W.kitOne K (.ref C_Deed) (.ref C_Deed)=some true)
  (is_Deed_Program:PySem.W.kitOne K (.ref C_Deed) (.ref C_Program)=some false)
  (is_Deed_Draft:PySem.W.kitOne K (.ref C_Deed) (.ref C_Draft)=some false)
  (ha_Program:PySem.W.findIn K (.ref C_Program) "__class__"=some (some (.builtin "object.__class__"))) (hm_Program:PySem.W.mroIn K C_Program (.type "object")=some true)
  (is_Program_Term:PySem.W.kitOne K (.ref C_Program) (.ref C_Term)=some false)
  (is_Program_Number:PySem.W.kitOne K (.ref C_Program) (.ref C_Number)=some false)
  (is_Program_Value:PySem.W.kitOne K (.ref C_Program) (.ref C_Value)=some false)
  (is_Program_Cell:PySem.W.kitOne K (.ref C_Program) (.ref C_Cell)=some false)
  (is_Program_Joined:PySem.W.kitOne K (.ref C_Program) (.ref C_Joined)=some false)
  (is_Program_Deed:PySem.W.kitOne K (.ref C_Program) (.ref C_Deed)=some false)
  (is_Program_Program:PySem.W.kitOne K (.ref C_Program) (.ref C_Program)=some true)
  (is_Program_Draft:PySem.W.kitOne K (.ref C_Program) (.ref C_Draft)=some false)
  (ha_Draft:PySem.W.findIn K (.ref C_Draft) "__class__"=some (some (.builtin "object.__class__"))) (hm_Draft:PySem.W.mroIn K C_Draft (.type "object")=some true)
  (is_Draft_Term:PySem.W.kitOne K (.ref C_Draft) (.ref C_Term)=some false)
  (is_Draft_Number:PySem.W.kitOne K (.ref C_Draft) (.ref C_Number)=some false)
  (is_Draft_Value:PySem.W.kitOne K (.ref C_Draft) (.ref C_Value)=some false)
  (is_Draft_Cell:PySem.W.kitOne K (.ref C_Draft) (.ref C_Cell)=some false)
  (is_Draft_Joined:PySem.W.kitOne K (.ref C_Draft) (.ref C_Joined)=some false)
  (is_Draft_Deed:PySem.W.kitOne K (.ref C_Draft) (.ref C_Deed)=some false)
  (is_Draft_Program:PySem.W.kitOne K (.ref C_Draft) (.ref C_Program)=some false)
  (is_Draft_Draft:PySem.W.kitOne K (.ref C_Draft) (.ref C_Draft)=some true)
  (z_abs:PySem.W.nsIn K mainGlobals "abs"=some none)
  (z_all:PySem.W.nsIn K mainGlobals "all"=some none)
  (z_enumerate:PySem.W.nsIn K mainGlobals "enumerate"=some none)
  (z_int:PySem.W.nsIn K mainGlobals "int"=some none)
  (z_isinstance:PySem.W.nsIn K mainGlobals "isinstance"=some none)
  (z_len:PySem.W.nsIn K mainGlobals "len"=some none)
  (z_list:PySem.W.nsIn K mainGlobals "list"=some none)
  (z_range:PySem.W.nsIn K mainGlobals "range"=some none)
  (z_str:PySem.W.nsIn K mainGlobals "str"=some none)
  (z_tuple:PySem.W.nsIn K mainGlobals "tuple"=some none)
  (g_FIGURES:PySem.W.nsIn K mainGlobals "FIGURES"=some (some (.str "0123456789" t_FIGURES)))
  (g_LEAST_SIZE:PySem.W.nsIn K mainGlobals "LEAST_SIZE"=some (some (.int 2 t_LEAST_SIZE)))
  (g_LETTERS:PySem.W.nsIn K mainGlobals "LETTERS"=some (some (.str "abcdefghijklmnopqrstuvwxyz" t_LETTERS)))
  (g_MOST_DEEDS:PySem.W.nsIn K mainGlobals "MOST_DEEDS"=some (some (.int 6 t_MOST_DEEDS)))
  (g_MOST_FIGURES:PySem.W.nsIn K mainGlobals "MOST_FIGURES"=some (some (.int 18 t_MOST_FIGURES)))
  (g_MOST_LETTERS:PySem.W.nsIn K mainGlobals "MOST_LETTERS"=some (some (.int 8 t_MOST_LETTERS)))
  (g_MOST_LOOPS:PySem.W.nsIn K mainGlobals "MOST_LOOPS"=some (some (.int 3 t_MOST_LOOPS)))
  (g_MOST_SPOTS:PySem.W.nsIn K mainGlobals "MOST_SPOTS"=some (some (.int 3 t_MOST_SPOTS)))
  (g_ROW_WORDS:PySem.W.nsIn K mainGlobals "ROW_WORDS"=some (some (.ref u_ROW_WORDS)))
  (q_ROW_WORDS:K.lookup u_ROW_WORDS=some ⟨.type "tuple",e_ROW_WORDS,.seq #[.str "for" t_ROW_WORDS0,.str "end" t_ROW_WORDS1,.str "size" t_ROW_WORDS2] n_ROW_WORDS,b_ROW_WORDS⟩)
  (g_SIGNS:PySem.W.nsIn K mainGlobals "SIGNS"=some (some (.str "+-*()" t_SIGNS)))
  (g_STRENGTHS:PySem.W.nsIn K mainGlobals "STRENGTHS"=some (some (.ref u_STRENGTHS)))
  (q_STRENGTHS:K.lookup u_STRENGTHS=some ⟨.type "dict",none,.dict #[⟨h_STRENGTHS0,.str "(" k_STRENGTHS0,.int 0 s_STRENGTHS0⟩,⟨h_STRENGTHS1,.str "+" k_STRENGTHS1,.int 1 s_STRENGTHS1⟩,⟨h_STRENGTHS2,.str "-" k_STRENGTHS2,.int 1 s_STRENGTHS2⟩,⟨h_STRENGTHS3,.str "*" k_STRENGTHS3,.int 2 s_STRENGTHS3⟩] n_STRENGTHS,#[]⟩)
  (hh_STRENGTHS0:h_STRENGTHS0=hashStr w "(")
  (hh_STRENGTHS1:h_STRENGTHS1=hashStr w "+")
  (hh_STRENGTHS2:h_STRENGTHS2=hashStr w "-")
  (hh_STRENGTHS3:h_STRENGTHS3=hashStr w "*")
  (qsm_STRENGTHS:(u_STRENGTHS==sysModules)=false)
  (qnb:IF K=true) :
  ∃a:Ad,Tx w K mg a/\fa=a.f_2/\(∀(s:Shared) (v:Value),BindsTo s a.d_2 ⟨[v],[]⟩ [("_law_script",v)]):=by
 have e:=hfa.symm.trans (AJ X G h62.a)
 cases e
 obtain⟨_,_,_,_,_,_,_,_,_,rfl,_⟩:=h62.F.ex
 exact⟨⟨f1,d1,f2,d2,f3,d3,f4,d4,f5,d5,f6,d6,f7,d7,f8,d8,f9,d9,f10,d10,f11,d11,f12,d12,f13,d13,f14,d14,f15,d15,f16,d16,f17,d17,f18,d18,f19,d19,f20,d20,f21,d21,f22,d22,f23,d23,f24,d24,f25,d25,f26,d26,f27,d27,f28,d28,f29,d29,f30,d30,f31,d31,f32,d32,f33,d33,f34,d34,f35,d35,f36,d36,f37,d37,f38,d38,f39,d39,f40,d40,f41,d41,f42,d42,f43,d43,f44,d44,f45,d45,f46,d46,f47,d47,f48,d48,f49,d49,f50,d50,f51,d51,f52,d52,f53,d53,f54,d54,f55,d55,f56,d56,f57,d57,f58,d58,f59,d59,f60,d60,f61,d61,fa,_,C_Term,C_Number,C_Value,C_Cell,C_Joined,C_Deed,C_Program,C_Draft,.str "0123456789" t_FIGURES,.int 2 t_LEAST_SIZE,.str "abcdefghijklmnopqrstuvwxyz" t_LETTERS,.int 6 t_MOST_DEEDS,.int 18 t_MOST_FIGURES,.int 8 t_MOST_LETTERS,.int 3 t_MOST_LOOPS,.int 3 t_MOST_SPOTS,u_ROW_WORDS,.str "+-*()" t_SIGNS,u_STRENGTHS⟩,⟨h1.F,
  h1.F.binds Ud,
  h2.F,
  h2.F.binds R5,
  h3.F,
  h3.F.binds W2,
  h4.F,
  h4.F.binds TM,
  h5.F,
  h5.F.binds XF,
  h6.F,
  h6.F.binds X7,
  h7.F,
  h7.F.binds Xj,
  AJ X G h7.a,
  h8.F,
  h8.F.binds V0,
  AJ X G h8.a,
  h9.F,
  h9.F.binds WD,
  AJ X G h9.a,
  h10.F,
  h10.F.binds Xd,
  AJ X G h10.a,
  h11.F,
  h11.F.binds W0,
  AJ X G h11.a,
  h12.F,
  h12.F.binds QQ,
  AJ X G h12.a,
  h13.F,
  h13.F.binds Uw,
  AJ X G h13.a,
  h14.F,
  h14.F.binds RN,
  AJ X G h14.a,
  h15.F,
  h15.F.binds QG,
  AJ X G h15.a,
  h16.F,
  h16.F.binds Vh,
  AJ X G h16.a,
  h17.F,
  h17.F.binds XH,
  AJ X G h17.a,
  h18.F,
  h18.F.binds UK,
  AJ X G h18.a,
  h19.F,
  h19.F.binds R0,
  AJ X G h19.a,
  h20.F,
  h20.F.binds Uz,
  AJ X G h20.a,
  h21.F,
  h21.F.binds UH,
  h22.F,
  h22.F.binds QK,
  AJ X G h22.a,
  h23.F,
  h23.F.binds Rf,
  AJ X G h23.a,
  h24.F,
  h24.F.binds Up,
  AJ X G h24.a,
  h25.F,
  h25.F.binds Wg,
  AJ X G h25.a,
  h26.F,
  h26.F.binds Vi,
  AJ X G h26.a,
  h27.F,
  h27.F.binds Sb,
  AJ X G h27.a,
  h28.F,
  h28.F.binds QU,
  AJ X G h28.a,
  h29.F,
  h29.F.binds U8,
  AJ X G h29.a,
  h30.F,
  h30.F.binds UF,
  AJ X G h30.a,
  h31.F,
  h31.F.binds RU,
  AJ X G h31.a,
  h32.F,
  h32.F.binds Wq,
  AJ X G h32.a,
  h33.F,
  h33.F.binds QW,
  AJ X G h33.a,
  h34.F,
  h34.F.binds T6,
  AJ X G h34.a,
  h35.F,
  h35.F.binds To,
  AJ X G h35.a,
  h36.F,
  h36.F.binds S0,
  AJ X G h36.a,
  h37.F,
  h37.F.binds WX,
  AJ X G h37.a,
  h38.F,
  h38.F.binds Xm,
  AJ X G h38.a,
  h39.F,
  h39.F.binds Ry,
  AJ X G h39.a,
  h40.F,
  h40.F.binds Wo,
  AJ X G h40.a,
  h41.F,
  h41.F.binds SV,
  AJ X G h41.a,
  h42.F,
  h42.F.binds S4,
  AJ X G h42.a,
  h43.F,
  h43.F.binds Xo,
  AJ X G h43.a,
  h44.F,
  h44.F.binds XI,
  AJ X G h44.a,
  h45.F,
  h45.F.binds TJ,
  AJ X G h45.a,
  h46.F,
  h46.F.binds TC,
  AJ X G h46.a,
  h47.F,
  h47.F.binds VA,
  AJ X G h47.a,
  h48.F,
  h48.F.binds XT,
  AJ X G h48.a,
  h49.F,
  h49.F.binds Uv,
  AJ X G h49.a,
  h50.F,
  h50.F.binds V8,
  AJ X G h50.a,
  h51.F,
  h51.F.binds Ux,
  AJ X G h51.a,
  h52.F,
  h52.F.binds XC,
  AJ X G h52.a,
  h53.F,
  h53.F.binds Wy,
  AJ X G h53.a,
  h54.F,
  h54.F.binds Rt,
  AJ X G h54.a,
  h55.F,
  h55.F.binds Ue,
  AJ X G h55.a,
  h56.F,
  h56.F.binds Xv,
  AJ X G h56.a,
  h57.F,
  h57.F.binds Wn,
  AJ X G h57.a,
  h58.F,
  h58.F.binds V9,
  AJ X G h58.a,
  h59.F,
  h59.F.binds SI,
  AJ X G h59.a,
  h60.F,
  h60.F.binds WK,
  AJ X G h60.a,
  h61.F,
  h61.F.binds Ur,
  AJ X G h61.a,
  h62.F,
  h62.F.binds Uu,
  AJ X G h62.a,
  ⟨a_Term.pg,a_Term.hd,a_Term.po,a_Term.sa⟩,
  AJ X G a_Term.a,
  ⟨a_Number.pg,a_Number.hd,a_Number.po,a_Number.sa⟩,
  AJ X G a_Number.a,
  ⟨a_Number.mi,h1.a,h1.i,a_Number.kc⟩,
  n_Number_n,
  ⟨a_Value.pg,a_Value.hd,a_Value.po,a_Value.sa⟩,
  AJ X G a_Value.a,
  ⟨a_Value.mi,h2.a,h2.i,a_Value.kc⟩,
  n_Value_name,
  ⟨a_Cell.pg,a_Cell.hd,a_Cell.po,a_Cell.sa⟩,
  AJ X G a_Cell.a,
  ⟨a_Cell.mi,h3.a,h3.i,a_Cell.kc⟩,
  n_Cell_table,
  n_Cell_spots,
  ⟨a_Joined.pg,a_Joined.hd,a_Joined.po,a_Joined.sa⟩,
  AJ X G a_Joined.a,
  ⟨a_Joined.mi,h4.a,h4.i,a_Joined.kc⟩,
  n_Joined_sign,
  n_Joined_left,
  n_Joined_right,
  ⟨a_Deed.pg,a_Deed.hd,a_Deed.po,a_Deed.sa⟩,
  AJ X G a_Deed.a,
  ⟨a_Deed.mi,h5.a,h5.i,a_Deed.kc⟩,
  n_Deed_names,
  n_Deed_lows,
  n_Deed_highs,
  n_Deed_table,
  n_Deed_spots,
  n_Deed_term,
  n_Deed_path,
  ⟨a_Program.pg,a_Program.hd,a_Program.po,a_Program.sa⟩,
  AJ X G a_Program.a,
  ⟨a_Program.mi,h6.a,h6.i,a_Program.kc⟩,
  n_Program_size,
  n_Program_deeds,
  ⟨a_Draft.pg,a_Draft.hd,a_Draft.po,a_Draft.sa⟩,
  AJ X G a_Draft.a,
  ⟨a_Draft.mi,h21.a,h21.i,a_Draft.kc⟩,
  n_Draft_size,
  n_Draft_deeds,
  n_Draft_tables,
  n_Draft_names,
  n_Draft_lows,
  n_Draft_highs,
  n_Draft_path,
  fun H x dx fs e=>.ins e ⟨a_Number.pg,a_Number.hd,a_Number.po,a_Number.sa⟩ ha_Number hn0 ht0 hm_Number,
  is_Number_Term,
  is_Number_Number,
  is_Number_Value,
  is_Number_Cell,
  is_Number_Joined,
  is_Number_Deed,
  is_Number_Program,
  is_Number_Draft,
  fun H x dx fs e=>.ins e ⟨a_Value.pg,a_Value.hd,a_Value.po,a_Value.sa⟩ ha_Value hn0 ht0 hm_Value,
  is_Value_Term,
  is_Value_Number,
  is_Value_Value,
  is_Value_Cell,
  is_Value_Joined,
  is_Value_Deed,
  is_Value_Program,
  is_Value_Draft,
  fun H x dx fs e=>.ins e ⟨a_Cell.pg,a_Cell.hd,a_Cell.po,a_Cell.sa⟩ ha_Cell hn0 ht0 hm_Cell,
  is_Cell_Term,
  is_Cell_Number,
  is_Cell_Value,
  is_Cell_Cell,
  is_Cell_Joined,
  is_Cell_Deed,
  is_Cell_Program,
  is_Cell_Draft,
  fun H x dx fs e=>.ins e ⟨a_Joined.pg,a_Joined.hd,a_Joined.po,a_Joined.sa⟩ ha_Joined hn0 ht0 hm_Joined,
  is_Joined_Term,
  is_Joined_Number,
  is_Joined_Value,
  is_Joined_Cell,
  is_Joined_Joined,
  is_Joined_Deed,
  is_Joined_Program,
  is_Joined_Draft,
  is_str_Term,
  is_str_Number,
  is_str_Value,
  is_str_Cell,
  is_str_Joined,
  is_str_Deed,
  is_str_Program,
  is_str_Draft,
  fun H x dx fs e=>.ins e ⟨a_Deed.pg,a_Deed.hd,a_Deed.po,a_Deed.sa⟩ ha_Deed hn0 ht0 hm_Deed,
  is_Deed_Term,
  is_Deed_Number,
  is_Deed_Value,
  is_Deed_Cell,
  is_Deed_Joined,
  is_Deed_Deed,
  is_Deed_Program,
  is_Deed_Draft,
  fun H x dx fs e=>.ins e ⟨a_Program.pg,a_Program.hd,a_Program.po,a_Program.sa⟩ ha_Program hn0 ht0 hm_Program,
  is_Program_Term,
  is_Program_Number,
  is_Program_Value,
  is_Program_Cell,
  is_Program_Joined,
  is_Program_Deed,
  is_Program_Program,
  is_Program_Draft,
  fun H x dx fs e=>.ins e ⟨a_Draft.pg,a_Draft.hd,a_Draft.po,a_Draft.sa⟩ ha_Draft hn0 ht0 hm_Draft,
  is_Draft_Term,
  is_Draft_Number,
  is_Draft_Value,
  is_Draft_Cell,
  is_Draft_Joined,
  is_Draft_Deed,
  is_Draft_Program,
  is_Draft_Draft,
  qnb,
  FA X G z_abs,
  FA X G z_all,
  FA X G z_enumerate,
  FA X G z_int,
  FA X G z_isinstance,
  FA X G z_len,
  FA X G z_list,
  FA X G z_range,
  FA X G z_str,
  FA X G z_tuple,
  AJ X G g_FIGURES,
  ⟨_,rfl⟩,
  AJ X G g_LEAST_SIZE,
  ⟨_,rfl⟩,
  AJ X G g_LETTERS,
  ⟨_,rfl⟩,
  AJ X G g_MOST_DEEDS,
  ⟨_,rfl⟩,
  AJ X G g_MOST_FIGURES,
  ⟨_,rfl⟩,
  AJ X G g_MOST_LETTERS,
  ⟨_,rfl⟩,
  AJ X G g_MOST_LOOPS,
  ⟨_,rfl⟩,
  AJ X G g_MOST_SPOTS,
  ⟨_,rfl⟩,
  AJ X G g_ROW_WORDS,
  rfl,
  fun H=>.inr ⟨_,_,_,q_ROW_WORDS,rfl,rfl,AE rfl,(.cons ⟨_,rfl⟩ (.cons ⟨_,rfl⟩ (.cons ⟨_,rfl⟩ .nil)))⟩,
  AJ X G g_SIGNS,
  ⟨_,rfl⟩,
  AJ X G g_STRENGTHS,
  rfl,
  fun P=>Xh q_STRENGTHS hh_STRENGTHS0 hh_STRENGTHS1 hh_STRENGTHS2 hh_STRENGTHS3 qsm_STRENGTHS (by decide +kernel)⟩,rfl,fun s v=>.of_eq rfl⟩
end Fw
open PySem PySem.W PyProof.Rows
namespace PySem.W.Fast
def tw10006283327359216916:=True
def tw10049716754294729249:=True
def tw10117793545996148981:=True
def tw1012204022050778520:=True
def tw10139049003372999120:=True
def tw10198147829445866014:=True
def tw10243310028056892420:=True
def tw10245897770868838985:=True
def tw10249264369576365672:=True
def tw10372790372372937162:=True
def tw10379395040234487025:=True
def tw10427694046788990896:=True
def tw10453649801043969684:=True
def tw10470576637643216981:=True
def tw10507040363988051721:=True
def tw10508169473762636584:=True
def tw10533831578132238492:=True
def tw1053554531769886339:=True
def tw10537555674894783554:=True
def tw10560765326258624100:=True
def tw10619967116906900244:=True
def tw1063094271037658848:=True
def tw10644297547451714615:=True
def tw10713420099041173580:=True
def tw10743421912841569596:=True
def tw10789587818296976910:=True
def tw10792091524929094382:=True
def tw10950099558028131153:=True
def tw10991549807946639400:=True
def tw10992113836084886695:=True
def tw1103581773787290994:=True
def tw11040562132152549686:=True
def tw11041406301471147038:=True
def tw11104941453480814252:=True
def tw11113927879454948247:=True
def tw11126426973198514687:=True
def tw11141611502161793534:=True
def tw11160645235907046269:=True
def tw11217331077615022021:=True
def tw11234943129896604715:=True
def tw11248739676730348935:=True
def tw11266490849645676154:=True
def tw11274428656092099459:=True
def tw11326325447604214516:=True
def tw11387417383577463136:=True
def tw11398881475514310250:=True
def tw1144367774306665401:=True
def tw11535147357489009885:=True
def tw11538956509171554754:=True
def tw11548415061623884252:=True
def tw1155069282673731749:=True
def tw11579461448391058457:=True
def tw11623150073180355473:=True
def tw11642122453226102273:=True
def tw11657564377132665043:=True
def tw11676428061614574911:=True
def tw11711592868113512843:=True
def tw11712581364268899289:=True
def tw1177981034702281692:=True
def tw11811386056964284582:=True
def tw11876426432207691373:=True
def tw11890300725028222303:=True
def tw11915299256696410113:=True
def tw11920387870857798416:=True
def tw11940667842341992908:=True
def tw11954541843592754366:=True
def tw12043365088261517528:=True
def tw12047920236295654115:=True
def tw12070376256151882093:=True
def tw12126906731662957469:=True
def tw12143421737030235726:=True
def tw12255370054876323607:=True
def tw12272470831227881048:=True
def tw12294407701767736623:=True
def tw12353356275226522573:=True
def tw12401605818330720711:=True
def tw12413220463888776181:=True
def tw12443644709585650918:=True
def tw12458012772629703863:=True
def tw12493034478613201898:=True
def tw12508770019083525437:=True
def tw12512358225560861713:=True
def tw12602732239912091519:=True
def tw12626040974535940356:=True
def tw12658324216793616192:=True
def tw1266179354713900653:=True
def tw12663895415735733622:=True
def tw12707971422547127564:=True
def tw1276422984551560747:=True
def tw12776237900204982184:=True
def tw12813061193861751166:=True
def tw12824347533999287540:=True
def tw12924241238273427511:=True
def tw12924751981559099920:=True
def tw12962332252017886108:=True
def tw12981929087678008962:=True
def tw12983538464459151024:=True
def tw12994208322798889916:=True
def tw1299805059839514459:=True
def tw13064101881322171862:=True
def tw13091674583557140236:=True
def tw13134546182464899762:=True
def tw13154568691319263521:=True
def tw13159010380355632291:=True
def tw13175857336102066757:=True
def tw13176156567734374537:=True
def tw13176770858493785425:=True
def tw13210166943043615197:=True
def tw13215776883380276060:=True
def tw13235825613660793746:=True
def tw13253288350395739810:=True
def tw13302586821231237359:=True
def tw13327556311608879362:=True
def tw13353874549371715629:=True
def tw13355559989696619078:=True
def tw13358271162711149461:=True
def tw13365830128148164006:=True
def tw13367636519418117594:=True
def tw13492207052055454294:=True
def tw13509461236645017465:=True
def tw13539142001212045975:=True
def tw13545104689137529107:=True
def tw13602715525905402364:=True
def tw1360997147974344735:=True
def tw13615202286518719666:=True
def tw13640452272876151012:=True
def tw13707784515657569707:=True
def tw13754994774734915235:=True
def tw13771174181214216831:=True
def tw13783884795075326963:=True
def tw13798413939894225906:=True
def tw1380574537393303353:=True
def tw13813757581909903041:=True
def tw13860570083267891061:=True
def tw13901282827829668793:=True
def tw13912365591581343754:=True
def tw13936859264010682255:=True
def tw13940155176825326955:=True
def tw13941662200448051120:=True
def tw1397649193707937059:=True
def tw14024455590319095578:=True
def tw14041433549681086196:=True
def tw1405419240403492802:=True
def tw14123867019379653920:=True
def tw14159196513644572356:=True
def tw14160796485900120096:=True
def tw14163183208337218432:=True
def tw14185634365499983900:=True
def tw1419968114212991557:=True
def tw14206276946928924419:=True
def tw14252919384810851260:=True
def tw14274818735505097533:=True
def tw1431766014210947421:=True
def tw1436977236533800279:=True
def tw14370111801474129253:=True
def tw1437427643284049500:=True
def tw14374473744857698595:=True
def tw14374486879538040795:=True
def tw14406877358130501999:=True
def tw14420285797403851985:=True
def tw14435912900630701361:=True
def tw14442221126901502182:=True
def tw14443926357565620165:=True
def tw14459986061135158459:=True
def tw14467983755912390069:=True
def tw14550298401343581375:=True
def tw14567276811304173957:=True
def tw146546102243407999:=True
def tw14681290847979156080:=True
def tw1469727178494960428:=True
def tw14715803599135264918:=True
def tw14794640280998094201:=True
def tw14795254206890155376:=True
def tw14836324353123791383:=True
def tw14853923253636218205:=True
def tw14962856461486638213:=True
def tw14996115744972187792:=True
def tw15012880964906321103:=True
def tw15055552402617235208:=True
def tw15078121676542258080:=True
def tw15084882239150129615:=True
def tw1509811857759406504:=True
def tw15120043901593092462:=True
def tw15133268003065153239:=True
def tw15142887652653662880:=True
def tw15168530467210280846:=True
def tw15181874356722268055:=True
def tw15241761530043769508:=True
def tw15256669775746551464:=True
def tw1528896627630140280:=True
def tw15295748357081775049:=True
def tw15296831478823971080:=True
def tw15345939830946444355:=True
def tw15348556920528551335:=True
def tw15366197460326696012:=True
def tw15428377783304089726:=True
def tw1550289405733224262:=True
def tw1550471364520590930:=True
def tw15504896315601303412:=True
def tw15507136288357455609:=True
def tw15510880862164859425:=True
def tw15535202802129677228:=True
def tw1554420270629637102:=True
def tw15563097221916464956:=True
def tw15581281687435816532:=True
def tw15610770581209796516:=True
def tw15638520249127019226:=True
def tw15642805663351518906:=True
def tw15655393578505043582:=True
def tw15694621032373844246:=True
def tw15704704204913584273:=True
def tw15708529441759993186:=True
def tw15720074793206360887:=True
def tw15735197016532804149:=True
def tw15772200714351110520:=True
def tw15882605345361840785:=True
def tw15888003538682291825:=True
def tw15891598854360881604:=True
def tw15928819568591854801:=True
def tw15983524982965075969:=True
def tw15984114746552378137:=True
def tw1600075270918700882:=True
def tw16053082893649706070:=True
def tw16121600199373846881:=True
def tw16133610546490467051:=True
def tw1615744540907065083:=True
def tw16325627953556525612:=True
def tw16331319661101235391:=True
def tw16337233020124908677:=True
def tw16355197629026432977:=True
def tw16443575330681386124:=True
def tw16452140476041027646:=True
def tw16488307312853171546:=True
def tw165316011923354648:=True
def tw16537052671570173883:=True
def tw16564850950082428958:=True
def tw16582928437037145203:=True
def tw16584594470003936366:=True
def tw16591114101034897123:=True
def tw1661237699834847424:=True
def tw1661452863559318405:=True
def tw16640039301233435712:=True
def tw16708575337852528171:=True
def tw16712579862290996439:=True
def tw16754216754468516738:=True
def tw16819227724130949717:=True
def tw16828512121686335779:=True
def tw16830083298734928182:=True
def tw1685256179998419505:=True
def tw16886524976864517596:=True
def tw16889503783757702913:=True
def tw16913878511197888248:=True
def tw16933191905437775130:=True
def tw17018202750003190808:=True
def tw17073919350100444697:=True
def tw17099598001123274483:=True
def tw17100038449621044855:=True
def tw17113663711788998428:=True
def tw17147481860379903028:=True
def tw17192173508477185687:=True
def tw17205158526615705423:=True
def tw17240824756616274604:=True
def tw17256120297854182589:=True
def tw17260675671400999670:=True
def tw17275120541156776914:=True
def tw17290581785320405079:=True
def tw173343264117366208:=True
def tw17346127314616749733:=True
def tw17368529802133132002:=True
def tw17371678294657531996:=True
def tw17441074895099513934:=True
def tw17447183050457796112:=True
def tw17472190245892119817:=True
def tw17478401956097860886:=True
def tw1754469957405775870:=True
def tw17592620925463548329:=True
def tw17612065360907854419:=True
def tw17621820540673354569:=True
def tw17633319691346003357:=True
def tw17672036038977249999:=True
def tw17823468634875875728:=True
def tw17823750871965798781:=True
def tw17961993860439098032:=True
def tw17964747135694338629:=True
def tw17997498725203893511:=True
def tw1799899025257611761:=True
def tw1800378728548429543:=True
def tw18103533399461133625:=True
def tw18117612786569487595:=True
def tw18137068564708204487:=True
def tw18177858048521030478:=True
def tw18200758925028213873:=True
def tw18217545848034307788:=True
def tw1822203376606123336:=True
def tw18243928805588425256:=True
def tw1826691975702920190:=True
def tw18281841769277218919:=True
def tw1828527000986062172:=True
def tw18286864859393053792:=True
def tw18294749141383999428:=True
def tw18300078687386613745:=True
def tw18389185209803418426:=True
def tw18395582495532801446:=True
def tw18444455801950114116:=True
def tw18446626372521961651:=True
def tw1869025705436384566:=True
def tw1890804441549332679:=True
def tw1912613036320868341:=True
def tw1943657481745020172:=True
def tw1977694754030585681:=True
def tw2027009235026045715:=True
def tw2045165252325707860:=True
def tw2048737480594539989:=True
def tw2077112281930758697:=True
def tw2080908276335536706:=True
def tw209186930549566395:=True
def tw21268220998414336:=True
def tw2217616424134993678:=True
def tw2240617156001511177:=True
def tw2253400775755701462:=True
def tw2256407002844789522:=True
def tw2269384155227651222:=True
def tw229902753500664457:=True
def tw2374385288929344507:=True
def tw2455105908096874021:=True
def tw2471521347627088828:=True
def tw2505729703706333566:=True
def tw2507562441028492265:=True
def tw2604109591190360597:=True
def tw2608050511797695504:=True
def tw2624583203786529517:=True
def tw2633646831316898410:=True
def tw2643633382173875785:=True
def tw2647590675187903984:=True
def tw268231710902206682:=True
def tw2765783579724103148:=True
def tw2773379376730111960:=True
def tw2815513972332544371:=True
def tw2826919154600804057:=True
def tw2846621741403512920:=True
def tw2858978721660774667:=True
def tw286080332400988302:=True
def tw2874891038488741896:=True
def tw2929287852179736547:=True
def tw2930610786733433116:=True
def tw2968247856997335471:=True
def tw2998056673163110299:=True
def tw3002937889543595125:=True
def tw3025617815027190561:=True
def tw3040586193838651028:=True
def tw3047414560346187050:=True
def tw3054105875978685284:=True
def tw3060734761541982230:=True
def tw3115895885904962793:=True
def tw3151811976918978747:=True
def tw3165071244999043269:=True
def tw319040051769077758:=True
def tw3222107980869726812:=True
def tw3250050932907841196:=True
def tw3259257335202579451:=True
def tw3269832014162174338:=True
def tw3285896974701247104:=True
def tw3305872081761396186:=True
def tw3353627541221264739:=True
def tw337955478473516196:=True
def tw337977695366648857:=True
def tw3397756356172680596:=True
def tw3398203654464893155:=True
def tw3398871666151896258:=True
def tw3401803616705451093:=True
def tw340240740801112648:=True
def tw3412622615134921590:=True
def tw3415599200116606245:=True
def tw3434429816779331220:=True
def tw3480780637382329224:=True
def tw3485448178983430253:=True
def tw3543239301432238921:=True
def tw3620435233890867983:=True
def tw3631420417077577768:=True
def tw3635431254817151233:=True
def tw3673829597212683014:=True
def tw3714202670436994333:=True
def tw374804053120659433:=True
def tw3752602699005832797:=True
def tw3774230941364846424:=True
def tw379435366824383439:=True
def tw3806892398066487766:=True
def tw3841301614205921137:=True
def tw3845718834373241565:=True
def tw3859122744191060418:=True
def tw3863670861401876676:=True
def tw3894692353110525398:=True
def tw3926525386567199326:=True
def tw3956158693361093487:=True
def tw4072761184689891544:=True
def tw4099431629411371536:=True
def tw4105894250402436497:=True
def tw4115711480284784890:=True
def tw4130039281470659987:=True
def tw4141660923608659147:=True
def tw4161598311199892807:=True
def tw4180089984542014603:=True
def tw4328580557081862482:=True
def tw434588867235442890:=True
def tw4356215473641845646:=True
def tw4385359488751057464:=True
def tw440103486964048526:=True
def tw4421394637834523095:=True
def tw4447647335937971523:=True
def tw4529719245811557756:=True
def tw4549920605443074790:=True
def tw455606989590345245:=True
def tw4594196960733650170:=True
def tw4605256191736779143:=True
def tw4649733786024710330:=True
def tw4667333877596207089:=True
def tw471933220030095508:=True
def tw4750154501927582346:=True
def tw4759993145851305511:=True
def tw4767928562956743409:=True
def tw4780612346963241486:=True
def tw4793564149413645673:=True
def tw4813802731136344410:=True
def tw4822005721841062626:=True
def tw4834782877143914079:=True
def tw4838326032505206932:=True
def tw4873711444727570891:=True
def tw4904321940937662486:=True
def tw4916414502989933370:=True
def tw4926649326539694279:=True
def tw4959829131752447499:=True
def tw5022033911167434772:=True
def tw5071176836626295856:=True
def tw5079601156443682488:=True
def tw5081254000586453662:=True
def tw5120352890468945133:=True
def tw5158977669331690938:=True
def tw5173927303734134133:=True
def tw5222443344455064236:=True
def tw5239691176520756590:=True
def tw5245849722799730766:=True
def tw5245889591914179198:=True
def tw5260551714085514844:=True
def tw529218454386184339:=True
def tw529567983284243874:=True
def tw5303569255703282179:=True
def tw5317216461116912559:=True
def tw5322133309922611633:=True
def tw5324081428137344471:=True
def tw5330221740399261554:=True
def tw5368620321022481837:=True
def tw5412225313055674726:=True
def tw5427213997999138694:=True
def tw5546132954200004586:=True
def tw561398078293898779:=True
def tw5774973234724576365:=True
def tw5780671004702966252:=True
def tw5860443684831541860:=True
def tw5886907868878159244:=True
def tw5983784836854634605:=True
def tw5997880232724893880:=True
def tw6045007361738043543:=True
def tw6061639251803305532:=True
def tw6098162969365700699:=True
def tw6103397470229152741:=True
def tw6110111784771011456:=True
def tw6143731180664285791:=True
def tw6167797072987730578:=True
def tw61829880383649550:=True
def tw6184115559858174616:=True
def tw6186908473047313314:=True
def tw6190148789713392677:=True
def tw6296195602784161310:=True
def tw6358957983279389703:=True
def tw6372504086551458104:=True
def tw6418231612658705768:=True
def tw6485831119137438728:=True
def tw653175976075788311:=True
def tw6532908634397764794:=True
def tw6553686833229827699:=True
def tw6560121657430191114:=True
def tw6575011250379730461:=True
def tw6577082076952945837:=True
def tw6627821523948811762:=True
def tw6659296379852672943:=True
def tw6672815529168966545:=True
def tw6679569246502441386:=True
def tw6685086270499258523:=True
def tw6702278372914566759:=True
def tw6703505716739424892:=True
def tw6705617881341409213:=True
def tw6707238146346423185:=True
def tw6725905854431033475:=True
def tw6739649324330620698:=True
def tw674387041067702978:=True
def tw6798420073524620841:=True
def tw6816811688295805809:=True
def tw6828009455810039223:=True
def tw6832661861840413843:=True
def tw6850579415191933450:=True
def tw686619651792810128:=True
def tw690872195645016443:=True
def tw6962636121360165989:=True
def tw6989760250699237908:=True
def tw699493096888955798:=True
def tw7009898438506561369:=True
def tw7057726927487613916:=True
def tw7090948893862197657:=True
def tw7135031727814796517:=True
def tw7153107246665015372:=True
def tw7224052281146615555:=True
def tw7251679991475225348:=True
def tw7277967022839195848:=True
def tw7286991589398686202:=True
def tw7293731729286760705:=True
def tw7303128689623902986:=True
def tw7383503497447638277:=True
def tw7391933954770867186:=True
def tw7425182747460810719:=True
def tw7445301432251860263:=True
def tw7494335335767024599:=True
def tw750257825408895731:=True
def tw7508584584206271417:=True
def tw7521317328104596465:=True
def tw7541387802036272995:=True
def tw7609049713637573170:=True
def tw7617444843020553769:=True
def tw7681428269220788972:=True
def tw7686146759921771367:=True
def tw7707297806652730884:=True
def tw7720429052450354708:=True
def tw7822111008180621637:=True
def tw7879419829427884643:=True
def tw7922932530969441827:=True
def tw7937617965717554970:=True
def tw7979735426516075254:=True
def tw8018791755790938216:=True
def tw8058192767620406041:=True
def tw8058819464964435542:=True
def tw8061388293755921525:=True
def tw8086190495928405884:=True
def tw8157925630352441833:=True
def tw8172093855301761534:=True
def tw8181277945444130812:=True
def tw8213180450068589256:=True
def tw8220471889450124721:=True
def tw8236131489660711862:=True
def tw8253456255281440574:=True
def tw8282953791007142042:=True
def tw8294697390473055092:=True
def tw8310266224718498823:=True
def tw8386446022099974688:=True
def tw8416288564168916448:=True
def tw8449447599955480673:=True
def tw8478691605996703756:=True
def tw8487773915882822854:=True
def tw8516738334278923492:=True
def tw8518455182633955688:=True
def tw8608372996154896990:=True
def tw8610591357633004320:=True
def tw8701483385902368808:=True
def tw87067598040137526:=True
def tw8736422227960504687:=True
def tw8757286868967222130:=True
def tw8768296105198571912:=True
def tw8819226758139290351:=True
def tw8846631192560567567:=True
def tw8894173040785763617:=True
def tw8942347552016508116:=True
def tw8944180498992185538:=True
def tw8973743487575028957:=True
def tw8987554798285312082:=True
def tw9062878962927079105:=True
def tw9113246925495665341:=True
def tw9125113024118127729:=True
def tw9248315433357028871:=True
def tw927724120324268911:=True
def tw9298258395615762368:=True
def tw9335504263016287673:=True
def tw9386829023035335203:=True
def tw9512409650475127866:=True
def tw9526645279997969252:=True
def tw9602911162985718568:=True
def tw9660300255741077384:=True
def tw9779943560385543373:=True
def tw9790347259474153065:=True
def tw980626431683766286:=True
def tw9880438120919552814:=True
def tw9885017743524630859:=True
def tw9929200607846265688:=True
def tw9934310074558724977:=True
def tw9957820034831000138:=True
end PySem.W.Fast
set_option maxRecDepth 100000 in
set_option maxHeartbeats 0 in
theorem PySem.Challenge.cw_furrow_k29_read_and_written_again_holds : PySem.Challenge.rw_furrow_k29_read_and_written_again.Holds := by
 w_on;o_law;k_head;(case hw=>w_witness2)
 k_fill
 refine L2.law_walk (l:=PySem.Challenge.rw_furrow_k29_read_and_written_again) (x:="_law_script") 90 (by decide) rfl rfl (fun w h Y=>PySem.W.kIn_of Y) ?F
 case F=>
  intro w mg fa h KX G hmg
  suffices hh:∃a:Fw.Ad,Fw.Tx w _ mg a/\fa=a.f_2/\(∀(s:Shared) (v:Value),BindsTo s a.d_2 ⟨[v],[]⟩ [("_law_script",v)]) by
   obtain⟨a,T,e,b⟩:=hh
   subst e
   exact⟨a.d_2,b,fun base _ _=>Fw.ok_law T⟩
  refine' Fw.txt_mk KX G hmg ?a_Term ?a_Number ?a_Value ?a_Cell ?a_Joined ?a_Deed ?a_Program ?a_Draft ?h1 ?h2 ?h3 ?h4 ?h5 ?h6 ?h7 ?h8 ?h9 ?h10 ?h11 ?h12 ?h13 ?h14 ?h15 ?h16 ?h17 ?h18 ?h19 ?h20 ?h21 ?h22 ?h23 ?h24 ?h25 ?h26 ?h27 ?h28 ?h29 ?h30 ?h31 ?h32 ?h33 ?h34 ?h35 ?h36 ?h37 ?h38 ?h39 ?h40 ?h41 ?h42 ?h43 ?h44 ?h45 ?h46 ?h47 ?h48 ?h49 ?h50 ?h51 ?h52 ?h53 ?h54 ?h55 ?h56 ?h57 ?h58 ?h59 ?h60 ?h61 ?h62 ?n_Number_n ?n_Value_name ?n_Cell_table ?n_Cell_spots ?n_Joined_sign ?n_Joined_left ?n_Joined_right ?n_Deed_names ?n_Deed_lows ?n_Deed_highs ?n_Deed_table ?n_Deed_spots ?n_Deed_term ?n_Deed_path ?n_Program_size ?n_Program_deeds ?n_Draft_size ?n_Draft_deeds ?n_Draft_tables ?n_Draft_names ?n_Draft_lows ?n_Draft_highs ?n_Draft_path ?hn0 ?ht0 ?ha_Number ?hm_Number ?is_Number_Term ?is_Number_Number ?is_Number_Value ?is_Number_Cell ?is_Number_Joined ?is_Number_Deed ?is_Number_Program ?is_Number_Draft ?ha_Value ?hm_Value ?is_Value_Term ?is_Value_Number ?is_Value_Value ?is_Value_Cell ?is_Value_Joined ?is_Value_Deed ?is_Value_Program ?is_Value_Draft ?ha_Cell ?hm_Cell ?is_Cell_Term ?is_Cell_Number ?is_Cell_Value ?is_Cell_Cell ?is_Cell_Joined ?is_Cell_Deed ?is_Cell_Program ?is_Cell_Draft ?ha_Joined ?hm_Joined ?is_Joined_Term ?is_Joined_Number ?is_Joined_Value ?is_Joined_Cell ?is_Joined_Joined ?is_Joined_Deed ?is_Joined_Program ?is_Joined_Draft ?is_str_Term ?is_str_Number ?is_str_Value ?is_str_Cell ?is_str_Joined ?is_str_Deed ?is_str_Program ?is_str_Draft ?ha_Deed ?hm_Deed ?is_Deed_Term ?is_Deed_Number ?is_Deed_Value ?is_Deed_Cell ?is_Deed_Joined ?is_Deed_Deed ?is_Deed_Program ?is_Deed_Draft ?ha_Program ?hm_Program ?is_Program_Term ?is_Program_Number ?is_Program_Value ?is_Program_Cell ?is_Program_Joined ?is_Program_Deed ?is_Program_Program ?is_Program_Draft ?ha_Draft ?hm_Draft ?is_Draft_Term ?is_Draft_Number ?is_Draft_Value ?is_Draft_Cell ?is_Draft_Joined ?is_Draft_Deed ?is_Draft_Program ?is_Draft_Draft ?z_abs ?z_all ?z_enumerate ?z_int ?z_isinstance ?z_len ?z_list ?z_range ?z_str ?z_tuple ?g_FIGURES ?g_LEAST_SIZE ?g_LETTERS ?g_MOST_DEEDS ?g_MOST_FIGURES ?g_MOST_LETTERS ?g_MOST_LOOPS ?g_MOST_SPOTS ?g_ROW_WORDS ?q_ROW_WORDS ?g_SIGNS ?g_STRENGTHS ?q_STRENGTHS ?hh_STRENGTHS0 ?hh_STRENGTHS1 ?hh_STRENGTHS2 ?hh_STRENGTHS3 ?qsm_STRENGTHS ?qnb
  any_goals first|refine'⟨?_,L2.fun_mk ?_ ?_ ?_⟩|refine'⟨?_,?_,L2.fun_mk ?_ ?_ ?_⟩|refine' Fw.ClA.mk ?_ ?_ ?_ ?_ ?_ ?_ ?_
  any_goals first|k_is|kit_is|exact rfl|kernel_rfl|decide
#print axioms PySem.Challenge.cw_furrow_k29_read_and_written_again_holds
