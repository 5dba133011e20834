import PyProof.Rows.All
import Wide.All
import OpenK.AllK
import Wide.FinOn
import Lean
import PyProof.EqAt
import PyProof.EqKinds
import PyProof.TupleCall
import PyProof.ListMulRoad
import PySem.Challenge.RW_furrow_k28_what_lacks_at_the_end
set_option genSizeOf false
set_option genInjectivity false
set_option compiler.extract_closed false
set_option Elab.async false
set_option linter.all false
set_option maxRecDepth 100000
set_option maxHeartbeats 4000000
noncomputable section
abbrev Xa:=PySem.W.Frag
def A9:=@if_neg
def Af:=@if_pos
def Ah:=@PySem.wpAny_bind
def Ai:=@Nat.le_refl
def Ap:=@List.length_append
def Aq:=@List.length_map
def AH:=@List.mem_cons
def AK:=@PySem.W.mg_of
def AO:=@List.length_cons
def AR:=@List.mem_cons_self
def AW:=@List.map_append
def B1:=@PySem.Heap.lt_size
def B7:=@decide_eq_true
def B9:=@PySem.wpAny_pure
def Bc:=@PySem.Heap.get?_push_of_some
def Bk:=@List.length_singleton
def Bm:=@List.mem_cons_of_mem
def Bo:=@PySem.F.plainAttrs_list
def Bv:=@decide_eq_false
def Bz:=@Nat.le_trans
def BA:=@List.length_take
def BD:=@List.size_toArray
def BI:=@List.mem_append
def BJ:=@List.getElem?_eq_some_iff
def BL:=@Nat.ne_of_lt
def BM:=@Bool.false_ne_true
def BQ:=@Option.some.inj
def BX:=@List.getElem?_eq_getElem
def BY:=@Int.emod_nonneg
def C0:=@Nat.zero_le
def C7:=@Nat.lt_of_lt_of_le
def C8:=@List.map_cons
def Cd:=@Int.emod_lt_of_pos
def Ce:=@List.mem_singleton
def Cf:=@PySem.F.slot_list_append
def Cg:=@PySem.F.type_list_append
def Cp:=@List.mem_append_right
def Cr:=@List.length_drop
def Ct:=@PySem.wpAny_mono
def CB:=@PySem.Heap.get?_push_size
def CC:=@List.mem_of_getElem?
def CF:=@List.mem_map
def CG:=@List.not_mem_nil
def CO:=@List.getElem?_map
def CQ:=@List.append_assoc
def D2:=@List.cons_ne_nil
def D3:=@beq_iff_eq
def DJ:=@Bool.eq_iff_iff
def DK:=@PySem.F.plainAttrs_str
def DU:=@List.append_nil
def DV:=@List.getElem?_append_right
def DW:=@List.getElem?_append_left
def DX:=@PySem.F.slot_list_pop
def DY:=@PySem.F.type_list_pop
def DZ:=@decide_eq_true_eq
def Ee:=@Nat.lt_irrefl
def Ef:=@List.take_length
def Eg:=@PySem.W.mg_none_of
def Ew:=@PySem.W.kia_one
def Ey:=@Nat.sub_self
def Ez:=@bne_iff_ne
def F1:=@List.cons_append
def F2:=@List.filter_cons
def F3:=@PySem.sizeLine_eq
def F4:=@if_true
def F5:=@PySem.wpAny_field
def Fl:=@PySem.Heap.get?_update_other
def Fm:=@List.lookup_cons
def Fn:=@List.mem_of_mem_take
def Fp:=@PySem.wpAny_call
def Fq:=@PySem.codeAny_mono
def Fs:=@PySem.wpAny_Call_Name_kw
def FV:=@Nat.le_of_lt
def FW:=@List.mem_append_left
def FX:=@Nat.ne_of_gt
def FY:=@List.nodup_cons
def FZ:=@Bool.and_eq_true
def G0:=@Nat.succ_pos
def G1:=@List.all_eq_true
def G2:=@List.take_of_length_le
def G3:=@List.drop_eq_getElem_cons
def G4:=@List.filter_append
def G5:=@beq_eq_false_iff_ne
def G6:=@if_false
def GK:=@Nat.le_succ
def GL:=@List.getD_eq_getElem?_getD
def GM:=@List.getElem_mem
def GN:=@List.mem_of_mem_drop
def GO:=@List.take_left
def GP:=@List.dropWhile_cons
def GQ:=@Classical.byContradiction
def GR:=@List.reverse_cons
def GS:=@List.eq_nil_of_length_eq_zero
def GT:=@PySem.wpAny_truthy_bool
def GU:=@PySem.wpAny_passesOwn
def GV:=@PySem.typeIs_str
def GW:=@PySem.call_meets
def GX:=@PySem.wpAny_loadPart_at
def HM:=@PySem.Heap.size_push
def HN:=@Int.toNat_natCast
def HP:=@List.any_cons
def HQ:=@List.drop_zero
def HR:=@List.drop_drop
def HV:=@List.takeWhile_cons
def HW:=@Bool.false_eq_true
def HX:=@PySem.wpAny_standAt
def HY:=@of_decide_eq_true
def HZ:=@PySem.wpAny_holding
def JP:=@List.mem_range
def JQ:=@Nat.lt_succ_self
def JR:=@PySem.W.callWith_K
def JS:=@PySem.mem_of_lookup
def JT:=@PySem.Heap.get?_update_self
def JU:=@List.length_nil
def JV:=@List.drop_left
def JW:=@Nat.le_succ_of_le
def JX:=@List.map_eq_nil_iff
def JY:=@List.map_map
def JZ:=@List.length_reverse
def K0:=@Array.getElem?_eq_some_iff
def K2:=@PySem.F.slot_str_partition
def K3:=@PySem.F.type_str_partition
def K4:=@PySem.wpAny_execs_nil
def K5:=@PySem.wpAny_pyIter_list
def K6:=@PySem.codeAny_call_builtin
def K7:=@PySem.wpAny_setField_rec
def LD:=@List.mem_filter
def LF:=@List.getElem?_set_self
def LG:=@Bool.or_false
def LH:=@List.all_cons
def LI:=@List.find?_cons
def LJ:=@Nat.min_eq_left
def LK:=@List.drop_eq_nil_of_le
def LL:=@List.take_append_drop
def LM:=@List.isEmpty_iff
def LN:=@List.reverse_reverse
def LO:=@List.map_take
def LP:=@List.sum_cons
def LQ:=@Bool.or_true
def LR:=@List.all_map
def LS:=@PySem.F.slot_str_split
def LU:=@PySem.F.type_str_split
def LV:=@List.length_filter_le
def LW:=@PySem.seqIndex_neg
def LX:=@PySem.wpAny_isSubtype_exc
def Oy:=@List.filterMap_cons
def Oz:=@List.getElem?_set_ne
def OA:=@List.of_mem_zip
def OB:=@Bool.or_eq_true
def OC:=@List.filter_eq_self
def OD:=@List.flatten_cons
def OE:=@PyProof.Rows.toString_length_le
def OF:=@Nat.le_add_right
def OG:=@List.reverse_append
def OH:=@List.filter_reverse
def OI:=@PySem.F.slot_str_join
def OJ:=@PySem.F.type_str_join
def OK:=@ne_true_of_eq_false
def OL:=@PySem.wpAny_Constant_str
def OM:=@not_false_eq_true
def VQ:=@PyProof.Rows.callWith_type1
def VR:=@PyProof.Rows.callWith_builtin1
def VS:=@List.dropLast_concat_getLast
def VT:=@PySem.F.slot_dict_setdefault
def VU:=@PySem.plainObj_wpAny_Assign_Attribute
namespace L2
open PySem PySem.Spec PyProof.Rows
abbrev B5:=Sum Int Str
def GG:B5->Value->Bool
 |.inl k,v=>Value.isInt k v
 |.inr x,v=>Value.isStrOf x v
def Ub (w:World):B5->Int
 |.inl k=>hashInt k
 |.inr x=>hashStr w x
theorem EI:∀{k:B5} {v:Value},GG k v=true->(∃i t,k=Sum.inl i/\v=Value.int i t)\/(∃x t,k=Sum.inr x/\v=Value.str x t)
 |
  .inl i,v,h=>by
  obtain⟨t,e⟩:=Value.isInt_shape (k:=i) (v:=v) h
  exact .inl ⟨i,t,rfl,e⟩
 |
  .inr x,v,h=>by
  obtain⟨t,e⟩:=Value.isStrOf_shape (x:=x) (v:=v) h
  exact .inr ⟨x,t,rfl,e⟩
theorem S8 (i:Int)(t:Tok):GG (.inl i) (.int i t)=true:=by simp[GG,Value.isInt]
theorem Vi (x:Str)(t:Tok):GG (.inr x) (.str x t)=true:=by simp[GG,Value.isStrOf]
theorem V1 (a b:Int):decide ((Sum.inl a:B5)=Sum.inl b)=(a==b):=by
 by_cases e:a=b
 .subst e;simp
 .have h:¬(Sum.inl a:B5)=Sum.inl b:=fun q=>e (Sum.inl.inj q)
  rw[Bv h]
  exact(G5.mpr e).symm
theorem Sg (a b:Str):decide ((Sum.inr a:B5)=Sum.inr b)=decide (a=b):=by
 by_cases e:a=b
 .subst e;simp
 .have h:¬(Sum.inr a:B5)=Sum.inr b:=fun q=>e (Sum.inr.inj q)
  rw[Bv h,Bv e]
theorem Su (a:Int)(b:Str):decide ((Sum.inl a:B5)=Sum.inr b)=false:=Bv (fun q=>nomatch q)
theorem SQ (a:Str)(b:Int):decide ((Sum.inr a:B5)=Sum.inl b)=false:=Bv (fun q=>nomatch q)
def Dq (prog:Program)(w:World):PySem.KeyKind prog w B5 where
 is:=GG
 hash:=Ub w
 inj:=fun v a b ha hb=>by
  rcases EI ha with⟨i,t,rfl,rfl⟩|⟨x,t,rfl,rfl⟩
  .rcases EI hb with⟨j,u,rfl,e⟩|⟨y,u,rfl,e⟩
   .injection e with e1 _;rw[e1]
   .exact nomatch e
  .rcases EI hb with⟨j,u,rfl,e⟩|⟨y,u,rfl,e⟩
   .exact nomatch e
   .injection e with e1 _;rw[e1]
 byValue:=fun k v h=>by
  rcases EI h with⟨i,t,rfl,rfl⟩|⟨x,t,rfl,rfl⟩<;>rfl
 pyHash:=fun hv h=>by
  rcases EI hv with⟨i,t,rfl,rfl⟩|⟨x,t,rfl,rfl⟩
  .exact wpAny_pyHash_int h
  .exact wpAny_pyHash_str h
 eqBool:=fun hu hv h=>by
  rcases EI hu with⟨i,t,rfl,rfl⟩|⟨x,t,rfl,rfl⟩
  .rcases EI hv with⟨j,u,rfl,rfl⟩|⟨y,u,rfl,rfl⟩
   .rw[V1]at h;exact wpAny_eqBool_int h
   .rw[Su]at h;exact SeqAt.EqAt.int_str i t y u _ _ _ _ h
  .rcases EI hv with⟨j,u,rfl,rfl⟩|⟨y,u,rfl,rfl⟩
   .rw[SQ]at h;exact SeqAt.EqAt.str_int x t j u _ _ _ _ h
   .rw[Sg]at h;exact wpAny_eqBool_str h
 «strs» := fun k x t v h=>by
  rcases EI h with⟨i,u,rfl,e⟩|⟨y,u,rfl,e⟩
  .exact nomatch e
  .injection e with e1 _
   subst e1
   cases v<;>rfl
theorem Qf (prog:Program)(w:World)(i:Int)(t:Tok):(Dq prog w).is (.inl i) (.int i t)=true:=S8 i t
theorem RV (prog:Program)(w:World)(x:Str)(t:Tok):(Dq prog w).is (.inr x) (.str x t)=true:=Vi x t
set_option genInjectivity true in
inductive V where
 |non|bl (b:Bool)|int (i:Int)|str (x:Str)|byt (b:Array UInt8)|flt (b:UInt64)|ref (a:Addr)|ty (n:String)
 deriving DecidableEq
def Ay:V->Value->Prop
 |.non,u=>u=Value.none
 |.bl b,u=>u=Value.bool b
 |.int i,u=>∃t,u=Value.int i t
 |.str x,u=>∃t,u=Value.str x t
 |.byt b,u=>∃t,u=Value.bytes b t
 |.flt b,u=>∃t,u=Value.float b t
 |.ref a,u=>u=Value.ref a
 |.ty n,u=>u=Value.type n
abbrev As:List V->List Value->Prop:=Paired Ay
theorem As.length {xs:List V}{us:List Value}(r:As xs us):xs.length=us.length:=Paired.length r
theorem As.get:∀{xs:List V} {us:List Value} {i:Nat} {x:V},As xs us->xs[i]?=some x->∃u,us[i]?=some u/\Ay x u
 |_,_,_,_,.nil,e=>by simp at e
 |_,_,0,_,.cons r _,e=>by simp at e;subst e;exact⟨_,rfl,r⟩
 |
  _,_,i+1,x,.cons _ t,e=>by
  obtain⟨u,h1,h2⟩:=As.get (i:=i) (x:=x) t (by simpa using e)
  exact⟨u,by simpa using h1,h2⟩
theorem As.set {x:V}{u:Value}(r:Ay x u):∀{xs:List V} {us:List Value} (i:Nat),As xs us->As (xs.set i x) (us.set i u)
 |_,_,_,.nil=>.nil
 |_,_,0,.cons _ t=>.cons r t
 |_,_,i+1,.cons q t=>.cons q (As.set r i t)
theorem As.append:∀{xs ys:List V} {us ws:List Value},As xs us->As ys ws->As (xs++ys) (us++ws)
 |_,_,_,_,.nil,s=>s
 |_,_,_,_,.cons r t,s=>.cons r (As.append t s)
theorem As.take:∀{xs:List V} {us:List Value} (n:Nat),As xs us->As (xs.take n) (us.take n)
 |_,_,0,_=>.nil
 |_,_,_+1,.nil=>.nil
 |_,_,n+1,.cons r t=>.cons r (As.take n t)
theorem As.drop:∀{xs:List V} {us:List Value} (n:Nat),As xs us->As (xs.drop n) (us.drop n)
 |_,_,0,r=>r
 |_,_,_+1,.nil=>.nil
 |_,_,n+1,.cons _ t=>As.drop n t
theorem As.none_of:∀{xs:List V} {us:List Value} {i:Nat},As xs us->xs[i]?=none->us[i]?=none:=fun{xs us i} r e=>by
 have h1:=r.length
 have h2:xs.length<=i:=List.getElem?_eq_none_iff.mp e
 exact List.getElem?_eq_none_iff.mpr (by omega)
def El:Option V->Option Value->Prop
 |some v,some u=>Ay v u
 |none,none=>True
 |_,_=>False
def KV {κ:Type}:List (κ×V)->List (κ×Value)->Prop:=Paired fun(p:κ×V) (q:κ×Value)=>p.1=q.1/\Ay p.2 q.2
def kV:B5->V
 |.inl i=>.int i
 |.inr x=>.str x
set_option genInjectivity true in
inductive HO where
 |lst (xs:List V)
 |tup (xs:List V)
 |dK (kvs:List (B5×V))|dT (kvs:List (List B5×V))
 |set (S:Int->Bool) (n:Nat)
 |ins (C dx:Addr) (fs:List (Str×V))
 |own (x:Addr)
 |xd (fs:List (Str×V))
 |met (f x:Addr)
 |rng (lo hi:Int)
 |frz (o:Obj) (u:HO)
 |tbl (ps:Array Value)
 |ext (φ:Heap->Prop)
abbrev Hp:=Addr->Option HO
def upd (H:Hp)(a:Addr)(o:HO):Hp:=fun b=>if b=a then some o else H b
theorem A5 {H:Hp}{a:Addr}{o:HO}:upd H a o a=some o:=by unfold upd;rw[Af rfl]
theorem A7 {H:Hp}{a b:Addr}{o:HO}(h:b≠a):upd H a o b=H b:=by unfold upd;rw[A9 h]
theorem KN {H:Hp}{a:Addr}{o u:HO}:upd (upd H a o) a u=upd H a u:=by
 funext b;unfold upd;split<;>rfl
theorem CL {H:Hp}{a b:Addr}{o u:HO}(h:H a=some o)(h':H b=some u)(d:o≠u):a≠b:=by
 intro e;subst e;rw[h]at h';exact d (BQ h')
theorem AG {H:Hp}{a b:Addr}{o:HO}(h:H a=some o)(h':H b=none):a≠b:=by
 intro e;subst e;rw[h]at h';cases h'
section
variable (P:Program)(w:World)
def Fg (h:Heap)(a:Addr)(its:Array Value):Prop := ∃o,h.get? a=some o/\o.cls = .type "tuple"/\(∃n,o.data = .seq its n)/\o.dict=none
theorem Fg.tup {h:Heap}{a:Addr}{its:Array Value}(x:Fg h a its):IsTup h a its:=by obtain⟨o,e,c,d,_⟩:=x;exact⟨o,e,c,d⟩
theorem Fg.new (h:Heap)(its:Array Value):Fg (h.push {cls:=.type "tuple",data:=.seq its}) h.objs.size its:=⟨_,CB _ rfl,rfl,⟨_,rfl⟩,rfl⟩
def Bp (H:Hp)(h:Heap)(a:Addr):HO->Prop
 |.lst xs=>xs.length<=sizeLine/\∃(its:List Value) (n:Nat),As xs its/\h.get? a=some {cls:=.type "list",data:=.seq its.toArray n}
 |.tup xs=>xs.length<=sizeLine/\∃its:List Value,As xs its/\Fg h a its.toArray
 |.dK kvs=>kvs.length<=sizeLine/\(a==sysModules)=false/\∃vs,KV kvs vs/\h.DictOf (Dq P w) a vs
 |.dT kvs=>kvs.length<=sizeLine/\(a==sysModules)=false/\∃xs:List (List B5×Addr×Value),
  Paired (fun(p:List B5×V) (q:List B5×Addr×Value)=>p.1=q.1/\H q.2.1=some (.tup (p.1.map kV))/\Ay p.2 q.2.2) kvs xs/\
  ∃o es ep,h.get? a=some o/\o.ExactDict/\o.data = .dict es ep/\es.toList=xs.map (entryOfKey (tupleKind (Dq P w)))/\(xs.map (·.1)).Nodup
 |.set S n=>h.SetOf (intKind P w) a S n
 |.ins C dx fs=>H dx=some (.own a)/\fs.length<=1000/\dx≠a/\h.get? a=some (PySem.W.instObj C dx)/\
  ∃mA,h.Ns1 dx mA/\(∀f,El (fs.lookup f) (mA f))/\PySem.Within mA (fs.map (·.1))
 |.own _=>∃o,h.get? a=some o
 |.xd fs=>∃mA,h.Ns1 a mA/\∀f,El (fs.lookup f) (mA f)
 |.rng lo hi=>∃t u v,h.get? a=some {cls:=.type "range",data:=.fields #[.int lo t,.int hi u,.int 1 v]}
 |.frz o u=>h.get? a=some o/\Bp H h a u
 |.tbl ps=>h.get? a=some {cls:=.none,data:=.fields ps}
 |.met f x=>h.get? a=some (PySem.W.methodObj (.ref f) (.ref x))
 |.ext φ=>φ h/\(∃o,h.get? a=some o)/\∀h1 h2:Heap,φ h1->(∀o,h1.get? a=some o->h2.get? a=some o)->φ h2
def Bf (H:Hp)(h:Heap):Prop := ∀a o,H a=some o->Bp P w H h a o
end
section
variable {P:Program}{w:World}{H H':Hp}{h h':Heap}{a:Addr}{o:HO}
theorem Bp.lt (x:Bp P w H h a o):a<h.objs.size:=by
 cases o with
 |lst xs=>obtain⟨_,_,_,_,e⟩:=x;exact B1 e
 |tup xs=>obtain⟨_,_,_,p⟩:=x;exact p.tup.lt
 |dK kvs=>obtain⟨_,_,_,_,o,_,_,e,_⟩:=x;exact B1 e
 |dT kvs=>obtain⟨_,_,_,_,o,_,_,e,_⟩:=x;exact B1 e
 |set S n=>obtain⟨o,_,_,_,e,_⟩:=x;exact B1 e
 |ins C dx fs=>obtain⟨_,_,_,e,_⟩:=x;exact B1 e
 |own y=>obtain⟨_,e⟩:=x;exact B1 e
 |xd fs=>obtain⟨_,⟨_,_,_,e,_⟩,_⟩:=x;exact B1 e
 |rng lo hi=>obtain⟨_,_,_,e⟩:=x;exact B1 e
 |frz ob u=>obtain⟨e,_⟩:=x;exact B1 e
 |tbl ps=>exact B1 (show h.get? a=some _ from x)
 |met f y=>exact B1 (show h.get? a=some _ from x)
 |ext φ=>obtain⟨_,⟨_,e⟩,_⟩:=x;exact B1 e
theorem Paired.mapP {α β:Type}{F G:α->β->Prop}:∀{l₁:List α} {l₂:List β},Paired F l₁ l₂->(∀a b,F a b->G a b)->Paired G l₁ l₂
 |_,_,.nil,_=>.nil
 |_,_,.cons r t,f=>.cons (f _ _ r) (Paired.mapP t f)
theorem Bp.stay (x:Bp P w H h a o)(k:∀b u,(b=a\/H b=some (.own a))->h.get? b=some u->h'.get? b=some u)
  (ho:∀b,H b=some (.own a)->H' b=some (.own a)) (ht:∀b xs,H b=some (.tup xs)->H' b=some (.tup xs)):Bp P w H' h' a o:=by
 induction o with
 |lst xs=>obtain⟨z,its,n,r,e⟩:=x;exact⟨z,its,n,r,k _ _ (.inl rfl) e⟩
 |tup xs=>obtain⟨z,its,r,ob,e,c⟩:=x;exact⟨z,its,r,ob,k _ _ (.inl rfl) e,c⟩
 |dK kvs=>obtain⟨z,y,vs,r,ob,es,ep,e,c⟩:=x;exact⟨z,y,vs,r,ob,es,ep,k _ _ (.inl rfl) e,c⟩
 |
  dT kvs=>
  obtain⟨z,y,xs,r,ob,es,ep,e,c⟩:=x
  exact⟨z,y,xs,Paired.mapP r fun p q z=>⟨z.1,ht _ _ z.2.1,z.2.2⟩,ob,es,ep,k _ _ (.inl rfl) e,c⟩
 |set S n=>obtain⟨ob,es,ep,t,e,c⟩:=x;exact⟨ob,es,ep,t,k _ _ (.inl rfl) e,c⟩
 |
  ins C dx fs=>
  obtain⟨d,z,ne,e,mA,⟨od,es,ep,e2,c⟩,r⟩:=x
  exact⟨ho _ d,z,ne,k _ _ (.inl rfl) e,mA,⟨od,es,ep,k _ _ (.inr d) e2,c⟩,r⟩
 |own y=>obtain⟨ob,e⟩:=x;exact⟨ob,k _ _ (.inl rfl) e⟩
 |xd fs=>obtain⟨mA,⟨od,es,ep,e,c⟩,r⟩:=x;exact⟨mA,⟨od,es,ep,k _ _ (.inl rfl) e,c⟩,r⟩
 |rng lo hi=>obtain⟨t,u,v,e⟩:=x;exact⟨t,u,v,k _ _ (.inl rfl) e⟩
 |frz ob u ih=>obtain⟨e,q⟩:=x;exact⟨k _ _ (.inl rfl) e,ih q⟩
 |
  tbl ps=>
  have e:h.get? a=some {cls:=.none,data:=.fields ps}:=x
  show h'.get? a=some {cls:=.none,data:=.fields ps}
  exact k a _ (.inl rfl) e
 |
  met f y=>
  have e:h.get? a=some (PySem.W.methodObj (.ref f) (.ref y)):=x
  show h'.get? a=some (PySem.W.methodObj (.ref f) (.ref y))
  exact k a _ (.inl rfl) e
 |ext φ=>obtain⟨p,⟨o,e⟩,st⟩:=x;exact⟨st _ _ p fun o q=>k _ _ (.inl rfl) q,⟨o,k _ _ (.inl rfl) e⟩,st⟩
theorem Bf.lt (x:Bf P w H h)(e:H a=some o):a<h.objs.size:=(x a o e).lt
theorem Bf.fresh (x:Bf P w H h)(e:h.objs.size<=a):H a=none:=by
 cases q:H a with
 |none=>rfl
 |some u=>exact absurd (C7 (x.lt q) e) (Ee _)
theorem Bf.kept (x:Bf P w H h)(k:∀b u,h.get? b=some u->h'.get? b=some u):Bf P w H h':=fun a o e=>
 (x a o e).stay (fun b u _ q=>k b u q) (fun _ q=>q) fun _ _ q=>q
theorem Bf.laid (x:Bf P w H h)(k:∀b u,h.get? b=some u->h'.get? b=some u)(hp:h.objs.size<=a)(new:Bp P w (upd H a o) h' a o):Bf P w (upd H a o) h':=fun b u e=>by
 have hn:=x.fresh hp
 by_cases hb:b=a
 .subst hb;rw[A5]at e;cases e;exact new
 .rw[A7 hb]at e
  exact(x b u e).stay (fun c v _ q=>k c v q) (fun c q=>by rw[A7 (AG q hn)];exact q) fun c xs q=>by rw[A7 (AG q hn)];exact q
end
def Rd (H:Hp)(a:Addr)(u:HO):Prop:=H a=some u\/∃o,H a=some (.frz o u)
theorem Rd.ok {P:Program}{w:World}{H:Hp}{h:Heap}{a:Addr}{u:HO}(r:Rd H a u)(x:Bf P w H h):Bp P w H h a u:=by
 rcases r with r|⟨o,r⟩
 .exact x a u r
 .obtain⟨_,q⟩:=x a _ r
  exact q
def Hn:Option HO->Prop
 |some (.lst _)=>True
 |some (.dK _)=>True
 |some (.dT _)=>True
 |some (.set _ _)=>True
 |some (.ins _ _ _)=>True
 |some (.ext _)=>True
 |_=>False
section
variable {P:Program}{w:World}{H:Hp}{h h':Heap}{x e:Addr}{o':HO}
theorem Bf.write (ok:Bf P w H h)(mu:Hn (H x))(he:e=x\/H e=some (.own x))(k:∀b u,b≠e->h.get? b=some u->h'.get? b=some u)(heo:∃u,h'.get? e=some u)
  (new:Bp P w (upd H x o') h' x o'):Bf P w (upd H x o') h':=fun b u q=>by
 have nown:∀c y,H c=some (.own y)->c≠x:=fun c y r z=>by subst z;rw[r]at mu;exact mu
 have ntup:∀c xs,H c=some (.tup xs)->c≠x:=fun c xs r z=>by subst z;rw[r]at mu;exact mu
 by_cases hb:b=x
 .subst hb;rw[A5]at q;cases q;exact new
 .rw[A7 hb]at q
  by_cases hbe:b=e
  .have q':H b=some (.own x):=by
    rcases he with z|z
    .exact absurd (hbe.trans z) hb
    .rw[hbe];exact z
   rw[q]at q';cases q'
   obtain⟨v,hv⟩:=heo
   exact⟨v,by rw[hbe];exact hv⟩
  .refine(ok b u q).stay (fun c v hc r=>k c v ?_ r) (fun c r=>by rw[A7 (nown c b r)];exact r) fun c xs r=>by rw[A7 (ntup c xs r)];exact r
   rcases hc with rfl|hc
   .exact hbe
   .rintro rfl
    rcases he with z|z
    .exact nown c b hc z
    .rw[hc]at z;cases z;exact hb rfl
end
structure Un (fs ex:List Addr)(H H':Hp)(h h':Heap):Prop where
 keep:∀b o,h.get? b=some o->H b=none->b∉fs->b∉ex->h'.get? b=some o
 slot:∀b o,h.get? b=some o->H b=none->b∈fs->b∉ex->∃sl,h'.get? b=some {o with slots:=sl}
 free:∀b o,h.get? b=some o->H b=none->b∉ex->H' b=none
 there:∀b o,h.get? b=some o->b∉ex->∃o',h'.get? b=some o'
 tups:∀b xs,H b=some (.tup xs)->H' b=some (.tup xs)
 frzs:∀b o u,H b=some (.frz o u)->H' b=some (.frz o u)
 tbls:∀b ps,H b=some (.tbl ps)->∃more,H' b=some (.tbl (ps++more))
section
variable {fs fs' ex ex':List Addr}{H H1 H2:Hp}{h h1 h2 h':Heap}{a x e:Addr}{o:HO}
theorem Un.any (u:Un fs ex H H1 h h1){b:Addr}{ob:Obj}(q:h.get? b=some ob)(n:H b=none)(hx:b∉ex):∃sl,h1.get? b=some {ob with slots:=sl}:=by
 by_cases hb:b∈fs
 .exact u.slot b ob q n hb hx
 .exact⟨ob.slots,u.keep b ob q n hb hx⟩
theorem Un.kept (k:∀b u,h.get? b=some u->h'.get? b=some u):Un fs ex H H h h':=
 ⟨fun b ob q _ _ _=>k b ob q,fun b ob q _ _ _=>⟨ob.slots,k b ob q⟩,fun _ _ _ n _=>n,fun b ob q _=>⟨ob,k b ob q⟩,fun _ _ q=>q,fun _ _ _ q=>q,fun _ ps q=>⟨#[],by rw[q];simp⟩⟩
theorem Un.refl:Un fs ex H H h h:=Un.kept fun _ _ q=>q
theorem Un.laid (k:∀b u,h.get? b=some u->h'.get? b=some u)(hp:h.objs.size<=a)(hn:H a=none):Un fs ex H (upd H a o) h h' where
 keep:=fun b u q _ _ _=>k b u q
 slot:=fun b u q _ _ _=>⟨u.slots,k b u q⟩
 free:=fun b u q n _=>by rw[A7 (BL (C7 (B1 q) hp))];exact n
 there:=fun b u q _=>⟨u,k b u q⟩
 tups:=fun b xs q=>by rw[A7 (AG q hn)];exact q
 frzs:=fun b u xs q=>by rw[A7 (AG q hn)];exact q
 tbls:=fun b ps q=>⟨#[],by rw[A7 (AG q hn),q];simp⟩
theorem Un.write (mu:Hn (H x))(he:e=x\/H e=some (.own x))(k:∀b u,b≠e->h.get? b=some u->h'.get? b=some u)(heo:∃u,h'.get? e=some u):Un fs ex H (upd H x o) h h':=by
 have hx:∀b,H b=none->b≠x:=fun b n z=>by subst z;rw[n]at mu;exact mu
 have hb:∀b,H b=none->b≠e:=fun b n z=>by
  subst z
  rcases he with r|r
  .exact hx b n r
  .rw[n]at r;cases r
 have hm:∀b u,H b=some u->¬Hn (some u)->b≠x:=fun b u q nm z=>by subst z;rw[q]at mu;exact nm mu
 refine⟨fun b u q n _ _=>k b u (hb b n) q,fun b u q n _ _=>⟨u.slots,k b u (hb b n) q⟩,fun b u q n _=>by rw[A7 (hx b n)];exact n,fun b u q _=>?_,
  fun b xs q=>by rw[A7 (hm b _ q fun z=>z)];exact q,fun b u xs q=>by rw[A7 (hm b _ q fun z=>z)];exact q,fun b ps q=>⟨#[],by rw[A7 (hm b _ q fun z=>z),q];simp⟩⟩
 by_cases hbe:b=e
 .subst hbe;exact heo
 .exact⟨u,k b u hbe q⟩
end
def Ji (h:Heap)(H:Hp):List Addr:=(List.range h.objs.size).filter fun a=>(H a).isSome
def EW (h:Heap)(H:Hp):Heap:=PySem.W.hideAll h (Ji h H)
theorem OW (h:Heap)(H:Hp):(EW h H).objs.size=h.objs.size:=PySem.W.hideAll_size _ _
theorem OS {h:Heap}{H:Hp}{b:Addr}{o:Obj}(e:h.get? b=some o)(n:H b=none):(EW h H).get? b=some o:=
 PySem.W.hideAll_get _ e fun hm=>by
  have q:(H b).isSome=true:=(LD.mp hm).2
  rw[n]at q;simp at q
theorem QK {h:Heap}{H:Hp}{b:Addr}{o:Obj}(e:(EW h H).get? b=some o):h.get? b=some o/\H b=none:=by
 have e':h.get? b=some o:=PySem.W.of_hideAll (Ji h H) e
 refine⟨e',?_⟩
 cases q:H b with
 |none=>rfl
 |
  some x=>
  have hm:b∈Ji h H:=LD.mpr ⟨JP.mpr (B1 e'),by simp[q]⟩
  have z:(EW h H).get? b=none:=PySem.W.hideAll_none (Ji h H) hm
  rw[z]at e;cases e
structure Mod (K:Xa)(mg:Str->Option Value)(base:Heap):Prop where
 kin:K.In base
 glob:base.Ns mainGlobals mg
 blt:∃mb,base.Ns builtinsNs mb/\∀x:Str,x≠"__name__"->mb x=bootBuiltins x
 nolimit:base.NoLimit
structure Cx where
 prog:Program
 w:World
 K:Xa
 mg:Str->Option Value
 base:Heap
 A:Around
 N:List Str
 s₀:Shared
 H₀:Hp
 env:Env
 outer:List Env
 stack:List Env
 ex:List Addr
 fn:Str->Bool
 calm:Bool
 pn:List (Addr×Obj)
 xe:Value->Shared->Prop
def Dd (l:List Env):List Addr:=l.filterMap (·.frame)
abbrev Cx.fs (X:Cx):List Addr:=Dd X.outer
def Hq (sc:Scope)(x:Str):Prop:=sc.names.lookup x=some .local\/sc.names.lookup x=some .cell\/sc.names.lookup x=some .free
def FP (sc:Scope)(x:Str):Prop:=sc.names.lookup x=some .local\/sc.names.lookup x=some .cell
def VN (env:Env)(h:Heap)(m:Str->Option Value)(x:Str)(u:Value):Prop:=
 (env.kindOf x=some .local/\m x=some u)\/((env.kindOf x=some .cell\/env.kindOf x=some .free)/\∃c,env.cells.lookup x=some c/\h.IsCell c (some u))
structure Cx.Ok (X:Cx):Prop where
 mod:Mod X.K X.mg X.base
 kind:X.env.scope.kind = .function
 glob:X.env.globals=mainGlobals
 blt:X.env.builtins=builtinsNs
 above:X.s₀.heap.objs.size<=X.env.locals
 inj:∀x y c,X.env.cells.lookup x=some c->X.env.cells.lookup y=some c->x=y
 has:∀x,(X.env.kindOf x=some .cell\/X.env.kindOf x=some .free)->∃c,X.env.cells.lookup x=some c
 cab:∀x c,X.fn x=true->X.env.cells.lookup x=some c->X.s₀.heap.objs.size<=c
 hd:X.calm=true->X.A.handled=none
 frames:X.A.frames=some X.stack
 stk:X.stack=X.outer\/(X.stack=X.env::X.outer/\X.env.frame=some X.env.locals)
 exf:∀b∈X.ex,b≠X.env.locals/\∀x c,X.env.cells.lookup x=some c->c≠b
 bs:∀b o,X.base.get? b=some o->X.s₀.heap.get? b=some o/\X.H₀ b=none
 bsz:X.base.objs.size<=X.s₀.heap.objs.size
 noex:∀b o,X.base.get? b=some o->b∉X.ex
 exfs:∀b∈X.ex,b∉X.fs
 funs:X.s₀.heap.FunFrames X.base X.outer
 frf:∀b∈X.fs,X.H₀ b=none
structure A1 (X:Cx)(pins:List (Addr×Obj))(σ:List (Option V))(H:Hp)(s:Shared):Prop where
 ok:X.Ok
 os:s.os=X.s₀.os
 bare:AllBare s.gens
 base:Un X.fs X.ex X.H₀ H X.s₀.heap s.heap
 loc:∃m,s.heap.Ns X.env.locals m/\∀(i:Nat) (x:Str) (v:V),X.N[i]?=some x->σ[i]?=some (some v)->Hq X.env.scope x->∃u,Ay v u/\VN X.env s.heap m x u
 cell:∀x c,X.env.cells.lookup x=some c->∃v,s.heap.IsCell c v
 free:H X.env.locals=none
 freeC:∀x c,X.env.cells.lookup x=some c->H c=none
 pin:∀p∈X.pn++pins,s.heap.get? p.1=some p.2/\H p.1=none/\p.1≠X.env.locals/\p.1∉X.fs/\∀v,p.2.data≠.cell v
 hok:Bf X.prog X.w H s.heap
 len:σ.length=X.N.length
section
variable {X:Cx}{pins:List (Addr×Obj)}{σ:List (Option V)}{H H':Hp}{s:Shared}{h':Heap}
theorem Cx.Ok.nofr (ok:X.Ok){b:Addr}{o:Obj}(e:X.base.get? b=some o):b∉X.fs:=fun hb=>by
 have:=(ok.funs.mem hb).1
 rw[e]at this;cases this
theorem A1.bs (I:A1 X pins σ H s):∀b o,X.base.get? b=some o->s.heap.get? b=some o/\H b=none:=fun b o e=>
 ⟨I.base.keep b o (I.ok.bs b o e).1 (I.ok.bs b o e).2 (I.ok.nofr e) (I.ok.noex b o e),I.base.free b o (I.ok.bs b o e).1 (I.ok.bs b o e).2 (I.ok.noex b o e)⟩
theorem A1.bk (I:A1 X pins σ H s):∀b o,X.base.get? b=some o->s.heap.get? b=some o:=fun b o e=>(I.bs b o e).1
theorem A1.mod (I:A1 X pins σ H s):Mod X.K X.mg X.base:=I.ok.mod
theorem A1.kIn (I:A1 X pins σ H s):X.K.In s.heap:=I.ok.mod.kin.keeps I.bk
theorem A1.lt (I:A1 X pins σ H s):X.env.locals<s.heap.objs.size:=by obtain⟨_,hn,_⟩:=I.loc;exact hn.lt
theorem A1.sz (I:A1 X pins σ H s):X.s₀.heap.objs.size<=s.heap.objs.size:=Bz I.ok.above (FV I.lt)
theorem A1.nofs (I:A1 X pins σ H s){a:Addr}(h:s.heap.objs.size<=a):a∉X.fs:=fun hb=>by
 obtain⟨_,o,ho,_⟩:=I.ok.funs.mem hb
 exact absurd (C7 (B1 ho) (Bz I.sz h)) (Ee _)
theorem A1.cne (I:A1 X pins σ H s):∀x c,X.env.cells.lookup x=some c->c≠X.env.locals:=fun x c e z=>by
 obtain⟨v,o,ho,hd⟩:=I.cell x c e
 obtain⟨m,⟨o',es,ep,ho',hd',_⟩,_⟩:=I.loc
 rw[z,ho']at ho;cases ho;rw[hd']at hd;cases hd
theorem A1.funs (I:A1 X pins σ H s):s.heap.FunFrames X.base X.outer:=by
 have all:∀(l:List Env),(∀b∈Dd l,b∈X.fs)->X.s₀.heap.FunFrames X.base l->s.heap.FunFrames X.base l:=by
  intro l
  induction l with
  |nil=>intro _ _;trivial
  |
   cons env r ih=>
   intro hs hl
   obtain⟨hk,⟨L,o,hf,hn,ho,hd⟩,hr⟩:=hl
   have hL:L∈X.fs:=hs L (by unfold Dd;rw[Oy,hf];exact AR)
   obtain⟨sl,e⟩:=I.base.slot L o ho (I.ok.frf L hL) hL fun z=>I.ok.exfs L z hL
   exact⟨hk,⟨L,_,hf,hn,e,hd⟩,ih (fun b hb=>hs b (by unfold Dd;rw[Oy,hf];exact Bm _ hb)) hr⟩
 exact all X.outer (fun _ hb=>hb) I.ok.funs
theorem A1.stack (I:A1 X pins σ H s):s.heap.FunFrames X.base X.stack:=by
 rcases I.ok.stk with e|⟨e,hf⟩
 .rw[e];exact I.funs
 .rw[e]
  obtain⟨m,hn,_⟩:=I.loc
  refine .cons (by rw[I.ok.kind];decide) hf hn ?_ I.funs
  exact Heap.get?_none_of_le (Bz I.ok.bsz I.ok.above)
theorem A1.stkSub (I:A1 X pins σ H s):∀b∈Dd X.stack,b∈X.env.locals::X.fs:=fun b hb=>by
 rcases I.ok.stk with e|⟨e,hf⟩
 .rw[e]at hb;exact Bm _ hb
 .rw[e]at hb
  unfold Dd at hb
  rw[Oy,hf]at hb
  exact hb
theorem A1.stkFree (I:A1 X pins σ H s):∀b∈Dd X.stack,H b=none:=fun b hb=>by
 rcases AH.mp (I.stkSub b hb) with e|hb
 .rw[e];exact I.free
 .obtain⟨_,o,ho,_⟩:=I.ok.funs.mem hb
  exact I.base.free b o ho (I.ok.frf b hb) fun z=>I.ok.exfs b z hb
theorem A1.step {g':Array GenState}{t':Nat}{d':Drawn}{ch:List Addr}(I:A1 X pins σ H s)
  (hch:∀b∈ch,(b∈X.ex\/X.s₀.heap.objs.size<=b)/\b≠X.env.locals/\(∀x c,X.env.cells.lookup x=some c->c≠b)/\∀p∈X.pn++pins,p.1≠b)
  (keep:∀b o,b≠X.env.locals->b∉X.fs->b∉ch->s.heap.get? b=some o->H b=none->h'.get? b=some o)
  (slot:∀b o,b≠X.env.locals->b∈X.fs->b∉ch->s.heap.get? b=some o->H b=none->∃sl,h'.get? b=some {o with slots:=sl}) (free:∀b o,b∉ch->s.heap.get? b=some o->H b=none->H' b=none)
  (there:∀b o,b∉ch->s.heap.get? b=some o->∃o',h'.get? b=some o')
  (tups:∀b xs,H b=some (.tup xs)->H' b=some (.tup xs)) (frzs:∀b o u,H b=some (.frz o u)->H' b=some (.frz o u)) (tbls:∀b ps,H b=some (.tbl ps)->∃more,H' b=some (.tbl (ps++more)))
  (ns:∀m,s.heap.Ns X.env.locals m->h'.Ns X.env.locals m) (hok:Bf X.prog X.w H' h') (hg:AllBare g') :
  A1 X pins σ H' {s with heap:=h',gens:=g',drawn:=d',toks:=t'}:=by
 have neL:∀b o,X.s₀.heap.get? b=some o->b≠X.env.locals:=fun b o e=>BL (C7 (B1 e) I.ok.above)
 have neC:∀b o,X.s₀.heap.get? b=some o->b∉X.ex->b∉ch:=fun b o e hx hb=>by
  rcases(hch b hb).1 with z|z
  .exact hx z
  .exact absurd (C7 (B1 e) z) (Ee _)
 have cellK:∀x c,X.env.cells.lookup x=some c->∀v,s.heap.IsCell c v->h'.IsCell c v:=fun x c e v ⟨o,ho,hd⟩=>by
  have nch:c∉ch:=fun z=>(hch c z).2.2.1 x c e rfl
  by_cases hc:c∈X.fs
  .obtain⟨sl,q⟩:=slot c o (I.cne x c e) hc nch ho (I.freeC x c e)
   exact⟨_,q,hd⟩
  .exact⟨o,keep c o (I.cne x c e) hc nch ho (I.freeC x c e),hd⟩
 refine⟨I.ok,I.os,hg,⟨fun b o e n hb hx=>?_,fun b o e n hb hx=>?_,fun b o e n hx=>?_,fun b o e hx=>?_,fun b xs e=>tups b xs (I.base.tups b xs e),fun b o xs e=>frzs b o xs (I.base.frzs b o xs e),fun b ps e=>?_⟩,?_,fun x c e=>?_,?_,fun x c e=>?_,fun p hp=>?_,hok,I.len⟩
 .exact keep b o (neL b o e) hb (neC b o e hx) (I.base.keep b o e n hb hx) (I.base.free b o e n hx)
 .obtain⟨sl,e1⟩:=I.base.slot b o e n hb hx
  obtain⟨sl',e2⟩:=slot b _ (neL b o e) hb (neC b o e hx) e1 (I.base.free b o e n hx)
  exact⟨sl',e2⟩
 .obtain⟨o',e1⟩:=I.base.there b o e hx
  exact free b o' (neC b o e hx) e1 (I.base.free b o e n hx)
 .obtain⟨o',e1⟩:=I.base.there b o e hx
  exact there b o' (neC b o e hx) e1
 .obtain⟨m1,e1⟩:=I.base.tbls b ps e
  obtain⟨m2,e2⟩:=tbls b _ e1
  exact⟨m1++m2,by rw[e2,Array.append_assoc]⟩
 .obtain⟨m,hn,hl⟩:=I.loc
  refine⟨m,ns m hn,fun i x v e1 e2 e3=>?_⟩
  obtain⟨u,r,l⟩:=hl i x v e1 e2 e3
  refine⟨u,r,?_⟩
  rcases l with l|⟨k,c,e,z⟩
  .exact .inl l
  .exact .inr ⟨k,c,e,cellK x c e _ z⟩
 .obtain⟨v,z⟩:=I.cell x c e
  exact⟨v,cellK x c e v z⟩
 .obtain⟨m,⟨o,_,_,ho,_⟩,_⟩:=I.loc
  exact free _ o (fun z=>(hch _ z).2.1 rfl) ho I.free
 .obtain⟨v,o,ho,hd⟩:=I.cell x c e
  exact free c o (fun z=>(hch c z).2.2.1 x c e rfl) ho (I.freeC x c e)
 .obtain⟨e,n,ne,nf,d⟩:=I.pin p hp
  have nch:p.1∉ch:=fun z=>(hch p.1 z).2.2.2 p hp rfl
  exact⟨keep p.1 p.2 ne nf nch e n,free p.1 p.2 nch e n,ne,nf,d⟩
theorem A1.un {t':Nat}(I:A1 X pins σ H s)(u:Un X.fs [] H H' s.heap h')(hok:Bf X.prog X.w H' h'):A1 X pins σ H' {s with heap:=h',toks:=t'}:=by
 obtain⟨m,⟨o,es,ep,ho,r⟩,_⟩:=id I.loc
 obtain⟨sl,hL⟩:=u.any ho I.free (by simp)
 exact I.step (g':=s.gens) (d':=s.drawn) (ch:=[]) (fun _ z=>nomatch z) (fun b o _ hb _ e n=>u.keep b o e n hb (by simp)) (fun b o _ hb _ e n=>u.slot b o e n hb (by simp)) (fun b o _ e n=>u.free b o e n (by simp)) (fun b o _ e=>u.there b o e (by simp)) u.tups u.frzs u.tbls (fun m' hm=>by
  obtain⟨o',es',ep',ho',r'⟩:=hm
  rw[ho]at ho';cases ho'
  exact⟨_,es',ep',hL,r'⟩) hok I.bare
theorem A1.call {g':Array GenState}{t':Nat}{d':Drawn}{ch:List Addr}(I:A1 X pins σ H s)(u:Un (Dd X.stack) ch H H' s.heap h')(hok:Bf X.prog X.w H' h')(hg:AllBare g')
  (hch:∀b∈ch,(b∈X.ex\/X.s₀.heap.objs.size<=b)/\b≠X.env.locals/\(∀x c,X.env.cells.lookup x=some c->c≠b)/\∀p∈X.pn++pins,p.1≠b) :
  A1 X pins σ H' {s with heap:=h',gens:=g',drawn:=d',toks:=t'}:=by
 obtain⟨m,⟨o,es,ep,ho,r⟩,_⟩:=id I.loc
 obtain⟨sl,hL⟩:=u.any ho I.free fun z=>(hch _ z).2.1 rfl
 exact I.step (ch:=ch) hch (fun b o hL hb hc e n=>u.keep b o e n (fun z=>(AH.mp (I.stkSub b z)).elim hL hb) hc) (fun b o _ _ hc e n=>u.any e n hc) (fun b o hc e n=>u.free b o e n hc) (fun b o hc e=>u.there b o e hc) u.tups u.frzs u.tbls (fun m' hm=>by
  obtain⟨o',es',ep',ho',r'⟩:=hm
  rw[ho]at ho';cases ho'
  exact⟨_,es',ep',hL,r'⟩) hok hg
theorem A1.turned {t':Nat}{it:Addr}(I:A1 X pins σ H s)(k:∀b o,b≠it->s.heap.get? b=some o->h'.get? b=some o)(hn:H it=none)(hL:it≠X.env.locals)
  (h1:it∈X.ex\/X.s₀.heap.objs.size<=it) (h2:∀x c,X.env.cells.lookup x=some c->c≠it) (h3:∀p∈X.pn++pins,p.1≠it):A1 X pins σ H {s with heap:=h',toks:=t'}:=by
 have nit:∀b u,H b=some u->b≠it:=fun b u e z=>by rw[z,hn]at e;cases e
 refine I.step (g':=s.gens) (d':=s.drawn) (ch:=[it]) (fun b hb=>?_) (fun b o _ _ hc e _=>k b o (fun z=>hc (by simp[z])) e) (fun b o _ _ hc e _=>⟨o.slots,k b o (fun z=>hc (by simp[z])) e⟩) (fun _ _ _ _ n=>n)
  (fun b o hc e=>⟨o,k b o (fun z=>hc (by simp[z])) e⟩) (fun _ _ e=>e) (fun _ _ _ e=>e) (fun b ps e=>⟨#[],by rw[e];simp⟩) (fun m hm=>?_) (fun b u e=>?_) I.bare
 .have e:b=it:=by simpa using hb
  subst e
  exact⟨h1,hL,h2,h3⟩
 .obtain⟨o,es,ep,ho,r⟩:=hm
  exact⟨o,es,ep,k _ o (Ne.symm hL) ho,r⟩
 .refine(I.hok b u e).stay (fun c v hc q=>k c v ?_ q) (fun _ q=>q) fun _ _ q=>q
  rcases hc with z|z
  .rw[z];exact nit b u e
  .exact nit c _ z
theorem A1.tok (I:A1 X pins σ H s)(t:Nat):A1 X pins σ H {s with toks:=t}:=I.un (h':=s.heap) (t':=t) Un.refl I.hok
theorem A1.kept {t':Nat}(I:A1 X pins σ H s)(k:∀b u,s.heap.get? b=some u->h'.get? b=some u):A1 X pins σ H {s with heap:=h',toks:=t'}:=I.un (Un.kept k) (I.hok.kept k)
theorem A1.laid {a:Addr}{o:HO}{t':Nat}(I:A1 X pins σ H s)(k:∀b u,s.heap.get? b=some u->h'.get? b=some u)(hp:s.heap.objs.size<=a)(new:Bp X.prog X.w (upd H a o) h' a o) :
 A1 X pins σ (upd H a o) {s with heap:=h',toks:=t'}:=I.un (Un.laid k hp (I.hok.fresh hp)) (I.hok.laid k hp new)
theorem A1.write {x e:Addr}{o:HO}{t':Nat}(I:A1 X pins σ H s)(mu:Hn (H x))(he:e=x\/H e=some (.own x))(k:∀b u,b≠e->s.heap.get? b=some u->h'.get? b=some u)(heo:∃u,h'.get? e=some u)
 (new:Bp X.prog X.w (upd H x o) h' x o):A1 X pins σ (upd H x o) {s with heap:=h',toks:=t'}:=I.un (Un.write mu he k heo) (I.hok.write mu he k heo new)
theorem A1.weak {σ':List (Option V)}(I:A1 X pins σ H s)(hl:σ'.length=σ.length)(w:∀(i:Nat) v,σ'[i]?=some (some v)->σ[i]?=some (some v)):A1 X pins σ' H s:=
 ⟨I.ok,I.os,I.bare,I.base,let ⟨m,hn,hl'⟩:=I.loc;⟨m,hn,fun i x v e1 e2 e3=>hl' i x v e1 (w i v e2) e3⟩,I.cell,I.free,I.freeC,I.pin,I.hok,hl.trans I.len⟩
theorem A1.pins_of {pins':List (Addr×Obj)}(I:A1 X pins σ H s)(h:∀p∈pins',s.heap.get? p.1=some p.2/\H p.1=none/\p.1≠X.env.locals/\p.1∉X.fs/\∀v,p.2.data≠.cell v):A1 X pins' σ H s:=
 ⟨I.ok,I.os,I.bare,I.base,I.loc,I.cell,I.free,I.freeC,fun p hp=>(BI.mp hp).elim (fun z=>I.pin p (FW _ z)) (h p),I.hok,I.len⟩
theorem Ks {N:List Str}(hN:N.Nodup){i j:Nat}{x:Str}(a:N[i]?=some x)(b:N[j]?=some x):i=j:=by
 obtain⟨h1,e1⟩:=BJ.mp a
 obtain⟨h2,e2⟩:=BJ.mp b
 exact(List.getElem_inj hN).mp (e1.trans e2.symm)
theorem Sv {M:Model}{A:Around}{E:Value->Shared->Prop}{i:Nat}{x:Str}{v:V}{u:Value}{Q:Unit->Shared->Prop}(I:A1 X pins σ H s)(hN:X.N.Nodup)(hi:X.N[i]?=some x)(hx:FP X.env.scope x)(r:Ay v u)
  (h:∀s',A1 X pins (σ.set i (some v)) H s'->(∃a,Heap.SameBut a s.heap s'.heap/\(a=X.env.locals\/X.env.cells.lookup x=some a))->Q () s') (hf:X.fn x=true\/X.env.scope.names.lookup x=some .local:=by first|exact .inl rfl|exact .inr rfl|assumption):wpAny M A (storeName X.env x u) Q E s:=by
 obtain⟨m,hn,hl⟩:=id I.loc
 have hcls:(X.env.scope.kind == .class||(X.env.scope.kind == .module&&X.env.locals != X.env.globals))=false:=by rw[I.ok.kind];rfl
 have hiσ:i<σ.length:=by rw[I.len];exact(BJ.mp hi).1
 have cne:=I.cne
 have tracked:∀{a:Addr} {h':Heap},(∃o,s.heap.get? a=some o/\H a=none)->Heap.SameBut a s.heap h'->Bf X.prog X.w H h':=fun{a h'} ha hs b ob e=>by
  obtain⟨_,_,hfree⟩:=ha
  refine(I.hok b ob e).stay (fun c w' hc q=>(hs.2 c ?_).trans q) (fun _ q=>q) fun _ _ q=>q
  rintro rfl
  rcases hc with rfl|hc
  .rw[hfree]at e;cases e
  .rw[hfree]at hc;cases hc
 rcases hx with hk|hk
 .refine wpAny_storeName_local hk hn (fun h' hn' hs=>?_) hcls
  obtain⟨oL,_,_,hoL,_⟩:=id hn
  refine h _ ⟨I.ok,I.os,I.bare,⟨fun b o e n hb hx=>?_,fun b o e n hb hx=>?_,I.base.free,fun b o e hx=>?_,I.base.tups,I.base.frzs,I.base.tbls⟩,⟨_,hn',fun j y v' e1 e2 e3=>?_⟩,fun y c e=>?_,I.free,I.freeC,fun p hp=>?_,tracked ⟨oL,hoL,I.free⟩ hs,by simpa using I.len⟩ ⟨_,hs,.inl rfl⟩
  .exact(hs.2 b (BL (C7 (B1 e) I.ok.above))).trans (I.base.keep b o e n hb hx)
  .obtain⟨sl,e1⟩:=I.base.slot b o e n hb hx
   exact⟨sl,(hs.2 b (BL (C7 (B1 e) I.ok.above))).trans e1⟩
  .obtain⟨o',e1⟩:=I.base.there b o e hx
   exact⟨o',(hs.2 b (BL (C7 (B1 e) I.ok.above))).trans e1⟩
  .by_cases hj:j=i
   .subst hj
    rw[hi]at e1;cases e1
    rw[LF hiσ]at e2
    cases e2
    exact⟨u,r,.inl ⟨hk,by simp⟩⟩
   .rw[Oz (Ne.symm hj)]at e2
    obtain⟨u',r',q⟩:=hl j y v' e1 e2 e3
    refine⟨u',r',?_⟩
    rcases q with⟨k,e⟩|⟨k,c,e,z⟩
    .refine .inl ⟨k,?_⟩
     have:y≠x:=fun e=>hj (Ks hN e1 (e▸hi))
     simp[this,e]
    .exact .inr ⟨k,c,e,z.sameBut hs (cne y c e)⟩
  .obtain⟨w',z⟩:=I.cell y c e
   exact⟨w',z.sameBut hs (cne y c e)⟩
  .obtain⟨e,n,ne,nf,d⟩:=I.pin p hp
   exact⟨(hs.2 p.1 ne).trans e,n,ne,nf,d⟩
 .have hfn:X.fn x=true:=by
   rcases hf with z|z
   .exact z
   .rw[z]at hk;cases hk
  obtain⟨c,hc⟩:=I.ok.has x (.inl hk)
  obtain⟨w',z⟩:=I.cell x c hc
  refine wpAny_storeName_cell I.ok.kind hk hc z (fun h' hc' hs=>?_)
  obtain⟨oc,hoc,hocd⟩:=id z
  refine h {s with heap:=h'} ⟨I.ok,I.os,I.bare,⟨fun b o e n hb hx=>?_,fun b o e n hb hx=>?_,I.base.free,fun b o e hx=>?_,I.base.tups,I.base.frzs,I.base.tbls⟩,⟨m,hn.sameBut hs (Ne.symm (cne x c hc)),fun j y v' e1 e2 e3=>?_⟩,fun y c' e=>?_,I.free,I.freeC,fun p hp=>?_,tracked ⟨oc,hoc,I.freeC x c hc⟩ hs,by simpa using I.len⟩ ⟨c,hs,.inr hc⟩
  .exact(hs.2 b (BL (C7 (B1 e) (I.ok.cab x c hfn hc)))).trans (I.base.keep b o e n hb hx)
  .obtain⟨sl,e1⟩:=I.base.slot b o e n hb hx
   exact⟨sl,(hs.2 b (BL (C7 (B1 e) (I.ok.cab x c hfn hc)))).trans e1⟩
  .obtain⟨o',e1⟩:=I.base.there b o e hx
   exact⟨o',(hs.2 b (BL (C7 (B1 e) (I.ok.cab x c hfn hc)))).trans e1⟩
  .by_cases hj:j=i
   .subst hj
    rw[hi]at e1;cases e1
    rw[LF hiσ]at e2
    cases e2
    exact⟨u,r,.inr ⟨.inl hk,c,hc,hc'⟩⟩
   .rw[Oz (Ne.symm hj)]at e2
    obtain⟨u',r',q⟩:=hl j y v' e1 e2 e3
    refine⟨u',r',?_⟩
    rcases q with q|⟨k,c',e,z'⟩
    .exact .inl q
    .refine .inr ⟨k,c',e,z'.sameBut hs ?_⟩
     rintro rfl
     exact hj (Ks hN e1 (I.ok.inj _ _ _ e hc▸hi))
  .by_cases hcc:c'=c
   .subst hcc;exact⟨_,hc'⟩
   .obtain⟨w2,z2⟩:=I.cell y c' e
    exact⟨w2,z2.sameBut hs hcc⟩
  .obtain⟨e,n,ne,nf,d⟩:=I.pin p hp
   refine⟨(hs.2 p.1 ?_).trans e,n,ne,nf,d⟩
   intro q
   rw[q,hoc]at e
   have q':oc=p.2:=BQ e
   exact d w' (by rw[←q'];exact hocd)
theorem Gb {M:Model}{A:Around}{E:Value->Shared->Prop}{i:Nat}{x:Str}{v:V}{u:Value}{Q:Unit->Shared->Prop}(I:A1 X pins σ H s)(hN:X.N.Nodup)(hi:X.N[i]?=some x)(hx:FP X.env.scope x)(r:Ay v u)
  (h:∀s',A1 X pins (σ.set i (some v)) H s'->Q () s') (hf:X.fn x=true\/X.env.scope.names.lookup x=some .local:=by first|exact .inl rfl|exact .inr rfl|assumption):wpAny M A (storeName X.env x u) Q E s:=
 Sv I hN hi hx r (fun s' I' _=>h s' I') hf
theorem A1.call' {s':Shared}{ch:List Addr}(I:A1 X pins σ H s)(ho:s'.os=s.os)(u:Un (Dd X.stack) ch H H' s.heap s'.heap)(hok:Bf X.prog X.w H' s'.heap)(hg:AllBare s'.gens)
  (hch:∀b∈ch,(b∈X.ex\/X.s₀.heap.objs.size<=b)/\b≠X.env.locals/\(∀x c,X.env.cells.lookup x=some c->c≠b)/\∀p∈X.pn++pins,p.1≠b):A1 X pins σ H' s':=by
 obtain⟨h',g',d',t',o'⟩:=s'
 have e:o'=s.os:=ho
 subst e
 exact I.call (g':=g') (t':=t') (d':=d') u hok hg hch
end
abbrev XK:=Value->Option Addr->Hp->Prop
abbrev St:=List (Option V)
abbrev VK:=V->Hp->Prop
abbrev TE:=St->Hp->VK->Prop
abbrev TT:=St->Hp->(Bool->Hp->Prop)->Prop
abbrev TA:=St->Hp->(List V->Hp->Prop)->Prop
structure Cw where
 nx:St->Hp->Prop
 rt:VK
 bk:St->Hp->Prop:=fun _ _=>False
 ct:St->Hp->Prop:=fun _ _=>False
abbrev TS:=Cw->St->Hp->Prop
def EP (X:Cx)(pins:List (Addr×Obj))(σ:St)(Q:VK)(u:Value)(s':Shared):Prop := ∃v H',A1 X pins σ H' s'/\Ay v u/\Q v H'
def TP (X:Cx)(pins:List (Addr×Obj))(σ:St)(Q:Bool->Hp->Prop)(b:Bool)(s':Shared):Prop := ∃H',A1 X pins σ H' s'/\Q b H'
def AP (X:Cx)(pins:List (Addr×Obj))(σ:St)(Q:List V->Hp->Prop)(us:List Value)(s':Shared):Prop := ∃vs H',A1 X pins σ H' s'/\As vs us/\Q vs H'
def SP (X:Cx)(pins:List (Addr×Obj))(D:Cw)(f:Flow)(s':Shared):Prop:=
 match f with
 |.next=>∃σ' H',A1 X pins σ' H' s'/\D.nx σ' H'
 |.brk=>∃σ' H',A1 X pins σ' H' s'/\D.bk σ' H'
 |.cont=>∃σ' H',A1 X pins σ' H' s'/\D.ct σ' H'
 |.ret u=>∃v σ' H',A1 X pins σ' H' s'/\Ay v u/\D.rt v H'
def PE (X:Cx)(e:Expr)(t:TE):Prop:=
 ∀(pins:List (Addr×Obj)) (s:Shared) (σ:St) (H:Hp) (Q:VK),A1 X pins σ H s->t σ H Q->wpAny (model X.prog X.w) X.A (eval e X.env) (EP X pins σ Q) X.xe s
def PT (X:Cx)(e:Expr)(t:TT):Prop:=
 ∀(pins:List (Addr×Obj)) (s:Shared) (σ:St) (H:Hp) (Q:Bool->Hp->Prop),A1 X pins σ H s->t σ H Q->wpAny (model X.prog X.w) X.A (isTrue e X.env (eval e X.env)) (TP X pins σ Q) X.xe s
def PW (X:Cx)(e:Expr)(t:TT):Prop:=
 ∀(whole:Sem Value) (pins:List (Addr×Obj)) (s:Shared) (σ:St) (H:Hp) (Q:Bool->Hp->Prop),A1 X pins σ H s->t σ H Q->wpAny (model X.prog X.w) X.A (isTrue e X.env whole) (TP X pins σ Q) X.xe s
theorem PW.pt {X:Cx}{e:Expr}{t:TT}(h:PW X e t):PT X e t:=h _
def PA (X:Cx)(es:List Expr)(t:TA):Prop:=
 ∀(pos:Pos) (pins:List (Addr×Obj)) (s:Shared) (σ:St) (H:Hp) (Q:List V->Hp->Prop),A1 X pins σ H s->t σ H Q->wpAny (model X.prog X.w) X.A (spliced (backTo pos (starEach es X.env))) (AP X pins σ Q) X.xe s
def PS (X:Cx)(st:Stmt)(t:TS):Prop:=
 ∀(pins:List (Addr×Obj)) (s:Shared) (σ:St) (H:Hp) (D:Cw),A1 X pins σ H s->t D σ H->wpAny (model X.prog X.w) X.A (exec st X.env) (SP X pins D) X.xe s
def CV (X:Cx)(st:List Stmt)(t:TS):Prop:=
 ∀(pins:List (Addr×Obj)) (s:Shared) (σ:St) (H:Hp) (D:Cw),A1 X pins σ H s->t D σ H->wpAny (model X.prog X.w) X.A (execs st X.env) (SP X pins D) X.xe s
theorem Ak {α:Type}{t:Sem α}{Q Q':α->Shared->Prop}{M:Model}{A:Around}{E:Value->Shared->Prop}{s:Shared}(h:wpAny M A t Q E s)(hQ:∀a s,Q a s->Q' a s):wpAny M A t Q' E s:=Ct h hQ fun _ _ x=>x
section
variable {X:Cx}
def Ed (i:Nat):TE:=fun σ H Q=>∃v,σ[i]?=some (some v)/\Q v H
def tC (v:V):TE:=fun _ H Q=>Q v H
theorem Qi {i:Nat}{x:Str}{pos:Pos}(hN:X.N[i]?=some x)(hv:Hq X.env.scope x)(hd:(x==("__debug__":Str))=false:=by decide)(hcd:(x==("__classdict__":Str))=false:=by decide):PE X (.Name x pos) (Ed i):=by
 intro pins s σ H Q I h
 obtain⟨v,e,h⟩:=h
 obtain⟨m,hn,hl⟩:=I.loc
 obtain⟨u,r,l⟩:=hl i x v hN e hv
 have fin:EP X pins σ Q u s:=⟨v,H,I,r,h⟩
 rcases l with⟨hk,hm⟩|⟨hk,c,hc,hcell⟩
 .exact wpAny_Name (wpAny_loadName_local I.ok.kind hk hn hm fin) hd
 .rcases hk with hk|hk
  .exact wpAny_Name (wpAny_loadName_cell I.ok.kind hk hc hcell fin) hd
  .exact wpAny_Name (wpAny_loadName_free I.ok.kind hk hc hcell fin hcd) hd
theorem A3 {i j pos}:PE X (.Constant (.int i) j pos) (tC (.int i)):=fun _ _ _ H _ I h=>wpAny_Constant_int ⟨.int i,H,I.tok _,⟨_,rfl⟩,h⟩
theorem C9 {b j pos}:PE X (.Constant (.bool b) j pos) (tC (.bl b)):=fun _ _ _ H _ I h=>Constant_bool ⟨.bl b,H,I,rfl,h⟩
theorem BK {j pos}:PE X (.Constant .none j pos) (tC .non):=fun _ _ _ H _ I h=>Constant_none ⟨.non,H,I,rfl,h⟩
theorem Av {x j pos}:PE X (.Constant (.str x) j pos) (tC (.str x)):=fun _ _ _ H _ I h=>Calls.Constant_str ⟨.str x,H,I.tok _,⟨_,rfl⟩,h⟩
def Gl (X:Cx)(x:Str):Prop:=X.env.kindOf x=some .globalImplicit
theorem EB {E:Value->Shared->Prop}{pins:List (Addr×Obj)}{s:Shared}{σ:St}{H:Hp}{x:Str}{u:Value}{pos:Pos}{Q:Value->Shared->Prop}(I:A1 X pins σ H s)(hg:Gl X x)(hm:X.mg x=some u)(h:Q u s)
  (hd:(x==("__debug__":Str))=false:=by decide):wpAny (model X.prog X.w) X.A (eval (.Name x pos) X.env) Q E s:=
 Calls.Name_function_global I.ok.kind hg (Calls.loadGlobal_global (by rw[I.ok.glob];exact I.mod.glob.keeps I.bk) hm h) hd
theorem HI {E:Value->Shared->Prop}{pins:List (Addr×Obj)}{s:Shared}{σ:St}{H:Hp}{x:Str}{u:Value}{pos:Pos}{Q:Value->Shared->Prop}(I:A1 X pins σ H s)(hg:Gl X x)(hm:X.mg x=none)(hv:bootBuiltins x=some u)(h:Q u s)
  (hn:x≠"__name__":=by decide) (hd:(x==("__debug__":Str))=false:=by decide):wpAny (model X.prog X.w) X.A (eval (.Name x pos) X.env) Q E s:=by
 obtain⟨mb,h1,h2⟩:=I.mod.blt
 exact Calls.Name_function_global I.ok.kind hg (Calls.loadGlobal_builtin (by rw[I.ok.glob];exact I.mod.glob.keeps I.bk) hm (by rw[I.ok.blt];exact h1.keeps I.bk) ((h2 x hn).trans hv) h) hd
theorem Ck {x:Str}{v:V}{u:Value}{pos:Pos}(hg:Gl X x)(hm:X.mg x=some u)(r:Ay v u)(hd:(x==("__debug__":Str))=false:=by decide):PE X (.Name x pos) (tC v):=
 fun _ _ _ H _ I h=>EB I hg hm ⟨v,H,I,r,h⟩ hd
theorem ND {x:Str}{v:V}{u:Value}{pos:Pos}(hg:Gl X x)(hm:X.mg x=none)(hv:bootBuiltins x=some u)(r:Ay v u)(hn:x≠"__name__":=by decide)(hd:(x==("__debug__":Str))=false:=by decide):PE X (.Name x pos) (tC v):=
 fun _ _ _ H _ I h=>HI I hg hm hv ⟨v,H,I,r,h⟩ hn hd
variable {a b:Expr}{ta tb:TE}{pos:Pos}
def tB (t:TE):TT:=fun σ H Q=>t σ H fun x H1=>∃c,x = .bl c/\Q c H1
theorem Cm {e:Expr}{t:TE}(h:PE X e t)(he:∀whole,isTrue e X.env whole=(do let v ←whole;standAt e.pos;holding [v] (truthy v)):=by intro _;rfl):PT X e (tB t):=by
 intro pins s σ H Q I hw
 refine isTrue_plain (Ak (h pins s σ H _ I hw) fun v s1 zz=>?_) (he _)
 obtain⟨x,H1,I1,r1,q1⟩:=zz
 obtain⟨d,rfl,q⟩:=q1
 cases r1
 exact GT ⟨H1,I1,q⟩
variable {tA tB':TT}{rest:List Expr}
def TV (t u:TT):TT:=fun σ H Q=>t σ H fun c H1=>if c=true then u σ H1 Q else Q false H1
def U7 (t u:TT):TT:=fun σ H Q=>t σ H fun c H1=>if c=true then Q true H1 else u σ H1 Q
def Qz (t:TT):TT:=fun σ H Q=>t σ H fun c H1=>Q (!c) H1
theorem DP (ha:PT X a tA):PW X (.BoolOp .And [a] pos) tA:=by
 intro wh pins s σ H Q I h
 refine isTrue_and (Ak (ha pins s σ H Q I h) fun c s1 e=>?_)
 cases c with
 |true=>exact isTrue_and_nil e
 |false=>exact e
theorem CT (ha:PT X a tA):PW X (.BoolOp .Or [a] pos) tA:=by
 intro wh pins s σ H Q I h
 refine isTrue_or (Ak (ha pins s σ H Q I h) fun c s1 e=>?_)
 cases c with
 |false=>exact isTrue_or_nil e
 |true=>exact e
theorem D6 (ha:PT X a tA)(hb:PW X (.BoolOp .And (b::rest) pos) tB'):PW X (.BoolOp .And (a::b::rest) pos) (TV tA tB'):=by
 intro wh pins s σ H Q I h
 refine isTrue_and (Ak (ha pins s σ H _ I h) fun c s1 zz=>?_)
 obtain⟨H1,I1,q1⟩:=zz
 cases c with
 |true=>exact hb wh pins s1 σ H1 Q I1 q1
 |false=>exact⟨H1,I1,q1⟩
theorem Cb (ha:PT X a tA)(hb:PW X (.BoolOp .Or (b::rest) pos) tB'):PW X (.BoolOp .Or (a::b::rest) pos) (U7 tA tB'):=by
 intro wh pins s σ H Q I h
 refine isTrue_or (Ak (ha pins s σ H _ I h) fun c s1 zz=>?_)
 obtain⟨H1,I1,q1⟩:=zz
 cases c with
 |true=>exact⟨H1,I1,q1⟩
 |false=>exact hb wh pins s1 σ H1 Q I1 q1
theorem E6 (ha:PT X a tA):PT X (.UnaryOp .Not a pos) (Qz tA):=by
 intro pins s σ H Q I h
 exact isTrue_not (ha pins s σ H (fun c H1=>Q (!c) H1) I h)
def Ka (ta tb:TE):TE:=fun σ H Q=>ta σ H fun x H1=>∃c,x = .bl c/\if c=true then tb σ H1 Q else Q (.bl false) H1
def Nr (ta tb:TE):TE:=fun σ H Q=>ta σ H fun x H1=>∃c,x = .bl c/\if c=true then Q (.bl true) H1 else tb σ H1 Q
def Pg (ta:TE):TE:=fun σ H Q=>ta σ H fun x H1=>∃c,x = .bl c/\Q (.bl (!c)) H1
theorem EG {op}{t:TE}(h:PE X a t):PE X (.BoolOp op [a] pos) t:=fun pins s σ H Q I hw=>BoolOp_one (h pins s σ H Q I hw)
theorem Gi (ha:PE X a ta)(hb:PE X (.BoolOp .And (b::rest) pos) tb):PE X (.BoolOp .And (a::b::rest) pos) (Ka ta tb):=by
 intro pins s σ H Q I h
 refine BoolOp_and (Ak (ha pins s σ H _ I h) fun v s1 zz=>?_)
 obtain⟨x,H1,I1,r1,q1⟩:=zz
 obtain⟨c,rfl,q1⟩:=q1
 cases r1
 refine GT ?_
 cases c with
 |true=>exact hb pins s1 σ H1 Q I1 q1
 |false=>exact⟨.bl false,H1,I1,rfl,q1⟩
theorem LB (ha:PE X a ta)(hb:PE X (.BoolOp .Or (b::rest) pos) tb):PE X (.BoolOp .Or (a::b::rest) pos) (Nr ta tb):=by
 intro pins s σ H Q I h
 refine BoolOp_or (Ak (ha pins s σ H _ I h) fun v s1 zz=>?_)
 obtain⟨x,H1,I1,r1,q1⟩:=zz
 obtain⟨c,rfl,q1⟩:=q1
 cases r1
 refine GT ?_
 cases c with
 |false=>exact hb pins s1 σ H1 Q I1 q1
 |true=>exact⟨.bl true,H1,I1,rfl,q1⟩
theorem SB (ha:PE X a ta):PE X (.UnaryOp .Not a pos) (Pg ta):=by
 intro pins s σ H Q I h
 refine UnaryOp_ (Ak (ha pins s σ H _ I h) fun v s1 zz=>?_)
 obtain⟨x,H1,I1,r1,q1⟩:=zz
 obtain⟨c,rfl,q1⟩:=q1
 cases r1
 exact not_of (GT ⟨.bl (!c),H1,I1,rfl,q1⟩)
end
def A2 (K:Xa)(H:Hp)(a:Addr)(xs:List V):Prop:=
 Rd H a (.lst xs)\/
  ∃(o:Obj) (its:Array Value) (n:Nat),K.lookup a=some o/\o.cls = .type "list"/\o.dict=none/\o.data = .seq its n/\its.size<=sizeLine/\As xs its.toList
def Aw (K:Xa)(H:Hp)(a:Addr)(xs:List V):Prop:=
 Rd H a (.tup xs)\/
  ∃(o:Obj) (its:Array Value) (n:Nat),K.lookup a=some o/\o.cls = .type "tuple"/\o.data = .seq its n/\its.size<=sizeLine/\As xs its.toList
def S0:Value->Option V
 |.none=>some .non
 |.bool b=>some (.bl b)
 |.int i _=>some (.int i)
 |.str x _=>some (.str x)
 |.bytes b _=>some (.byt b)
 |.float b _=>some (.flt b)
 |.ref a=>some (.ref a)
 |.type n=>some (.ty n)
 |_=>none
theorem Ay.abs {x:V}{u:Value}(r:Ay x u):S0 u=some x:=by
 cases x with
 |non=>cases r;rfl
 |bl _=>cases r;rfl
 |int _=>obtain⟨t,rfl⟩:=r;rfl
 |str _=>obtain⟨t,rfl⟩:=r;rfl
 |byt _=>obtain⟨t,rfl⟩:=r;rfl
 |flt _=>obtain⟨t,rfl⟩:=r;rfl
 |ref _=>cases r;rfl
 |ty _=>cases r;rfl
theorem Ay.inj {x y:V}{u:Value}(r:Ay x u)(q:Ay y u):x=y:=BQ (r.abs.symm.trans q.abs)
theorem As.inj:∀{xs ys:List V} {us:List Value},As xs us->As ys us->xs=ys:=by
 intro xs
 induction xs with
 |
  nil=>
  intro ys us h k
  cases h
  cases k
  rfl
 |
  cons x xs ih=>
  intro ys us h k
  cases h with
  |
   cons r t=>
   cases k with
   |cons r' t'=>rw[r.inj r',ih t t']
section
variable {X:Cx}{pins:List (Addr×Obj)}{σ:St}{H:Hp}{s:Shared}{a:Addr}{xs ys:List V}
theorem A2.of {K:Xa}(h:H a=some (.lst xs)):A2 K H a xs:=.inl (.inl h)
theorem Aw.of {K:Xa}(h:H a=some (.tup xs)):Aw K H a xs:=.inl (.inl h)
theorem A1.list (I:A1 X pins σ H s)(h:A2 X.K H a xs):∃its:List Value,As xs its/\PlainL s.heap a its.toArray/\xs.length<=sizeLine:=by
 rcases h with h|⟨o,its,n,hk,hc,hd,hs,hz,r⟩
 .obtain⟨z,its,n,r,e⟩:=h.ok I.hok
  exact⟨its,r,⟨_,n,e,rfl,rfl,rfl⟩,z⟩
 .refine⟨its.toList,r,⟨o,n,I.kIn a o hk,hc,hd,by simpa using hs⟩,?_⟩
  have e:=r.length
  simp only[Array.length_toList]at e
  omega
theorem A1.tuple (I:A1 X pins σ H s)(h:Aw X.K H a xs):∃its:List Value,As xs its/\IsTup s.heap a its.toArray/\xs.length<=sizeLine:=by
 rcases h with h|⟨o,its,n,hk,hc,hs,hz,r⟩
 .obtain⟨z,its,r,p⟩:=h.ok I.hok
  exact⟨its,r,p.tup,z⟩
 .refine⟨its.toList,r,⟨o,I.kIn a o hk,hc,n,by simpa using hs⟩,?_⟩
  have e:=r.length
  simp only[Array.length_toList]at e
  omega
theorem A1.list_inj (I:A1 X pins σ H s)(h:A2 X.K H a xs)(h':A2 X.K H a ys):xs=ys:=by
 obtain⟨its,r,⟨o,n,e,_,_,d⟩,_⟩:=I.list h
 obtain⟨its',r',⟨o',n',e',_,_,d'⟩,_⟩:=I.list h'
 rw[e]at e';cases e'
 rw[d]at d'
 injection d' with d1 _
 have:its=its':=by simpa using congrArg Array.toList d1
 subst this
 exact r.inj r'
theorem A1.tuple_inj (I:A1 X pins σ H s)(h:Aw X.K H a xs)(h':Aw X.K H a ys):xs=ys:=by
 obtain⟨its,r,⟨o,e,_,n,d⟩,_⟩:=I.tuple h
 obtain⟨its',r',⟨o',e',_,n',d'⟩,_⟩:=I.tuple h'
 rw[e]at e';cases e'
 rw[d]at d'
 injection d' with d1 _
 have:its=its':=by simpa using congrArg Array.toList d1
 subst this
 exact r.inj r'
end
abbrev Cx.wish (X:Cx)(E:Value->Shared->Prop):Cx:={X with xe:=E}
abbrev Cx.nox (X:Cx):Cx:=X.wish fun _ _=>False
theorem Cx.Ok.wish {X:Cx}(ok:X.Ok)(E:Value->Shared->Prop):(X.wish E).Ok:=
 ⟨ok.mod,ok.kind,ok.glob,ok.blt,ok.above,ok.inj,ok.has,ok.cab,ok.hd,ok.frames,ok.stk,ok.exf,ok.bs,ok.bsz,ok.noex,ok.exfs,ok.funs,ok.frf⟩
theorem Cx.Ok.unwish {X:Cx}{E:Value->Shared->Prop}(ok:(X.wish E).Ok):X.Ok:=
 ⟨ok.mod,ok.kind,ok.glob,ok.blt,ok.above,ok.inj,ok.has,ok.cab,ok.hd,ok.frames,ok.stk,ok.exf,ok.bs,ok.bsz,ok.noex,ok.exfs,ok.funs,ok.frf⟩
section
variable {X:Cx}{pins:List (Addr×Obj)}{σ:St}{H:Hp}{s:Shared}{E:Value->Shared->Prop}
theorem A1.wish (I:A1 X pins σ H s)(E:Value->Shared->Prop):A1 (X.wish E) pins σ H s:=⟨I.ok.wish E,I.os,I.bare,I.base,I.loc,I.cell,I.free,I.freeC,I.pin,I.hok,I.len⟩
theorem A1.unwish (I:A1 (X.wish E) pins σ H s):A1 X pins σ H s:=⟨I.ok.unwish,I.os,I.bare,I.base,I.loc,I.cell,I.free,I.freeC,I.pin,I.hok,I.len⟩
theorem SP.unwish {D:Cw}{f:Flow}{s':Shared}(h:SP (X.wish E) pins D f s'):SP X pins D f s':=by
 cases f with
 |next=>obtain⟨σ',H',I,q⟩:=h;exact⟨σ',H',I.unwish,q⟩
 |brk=>obtain⟨σ',H',I,q⟩:=h;exact⟨σ',H',I.unwish,q⟩
 |cont=>obtain⟨σ',H',I,q⟩:=h;exact⟨σ',H',I.unwish,q⟩
 |ret u=>obtain⟨v,σ',H',I,r,q⟩:=h;exact⟨v,σ',H',I.unwish,r,q⟩
theorem CV.nox {st:List Stmt}{t:TS}(h:CV X.nox st t):CV X st t:=fun pins s σ H D I hw=>
 Ct (h pins s σ H D (I.wish _) hw) (fun _ _ q=>q.unwish) fun _ _ z=>False.elim z
end
section
variable {X:Cx}{st:Stmt}{rest:List Stmt}{t u:TS}{e:Expr}{te:TE}{pos:Pos}
def Kz:TS:=fun D σ H=>D.nx σ H
def E7 (t u:TS):TS:=fun D σ H=>t {D with nx:=u D} σ H
theorem AN:CV X [] Kz:=fun _ _ σ H _ I h=>K4 ⟨σ,H,I,h⟩
theorem A6 (h1:PS X st t)(h2:CV X rest u):CV X (st::rest) (E7 t u):=by
 intro pins s σ H D I h
 refine wpAny_execs_cons (Ak (h1 pins s σ H {D with nx:=u D} I h) fun f s1 q=>?_)
 cases f with
 |
  next=>
  obtain⟨σ',H',I',q⟩:=q
  exact h2 pins s1 σ' H' D I' q
 |ret v=>exact q
 |brk=>exact q
 |cont=>exact q
theorem Ac (h1:PS X st t):CV X [st] t:=by
 intro pins s σ H D I h
 refine wpAny_execs_cons (Ak (h1 pins s σ H D I h) fun f s1 q=>?_)
 cases f with
 |next=>exact K4 q
 |ret v=>exact q
 |brk=>exact q
 |cont=>exact q
def QQ:TS:=fun D σ H=>D.bk σ H
theorem Qp:PS X (.Break pos) QQ:=fun _ _ σ H _ I h=>wpAny_Break ⟨σ,H,I,h⟩
theorem A1.quiet {pins:List (Addr×Obj)}{σ:St}{H:Hp}{s:Shared}(I:A1 X pins σ H s):interactive X.env=false:=by simp[interactive,I.ok.kind]
def Pi (te:TE):TS:=fun D σ H=>te σ H fun _ H1=>D.nx σ H1
theorem Bt (he:PE X e te)(hs:swapsWith e none pos.line X.env=pure false:=by rfl):PS X (.Expr e pos) (Pi te):=by
 intro pins s σ H D I h
 refine wpAny_Expr_any (Ak (he pins s σ H _ I h) fun v s1 zz=>?_) I.quiet hs
 obtain⟨x,H1,I1,r1,q1⟩:=zz
 exact⟨σ,H1,I1,q1⟩
def G7 (te:TE):TS:=fun D σ H=>te σ H D.rt
theorem Ar (he:PE X e te):PS X (.Return (some e) pos) (G7 te):=by
 intro pins s σ H D I h
 refine wpAny_Return_some (Ak (he pins s σ H _ I h) fun v s1 zz=>?_)
 obtain⟨x,H1,I1,r1,q1⟩:=zz
 exact⟨x,σ,H1,I1,r1,q1⟩
def Hr (c:TT)(t u:TS):TS:=fun D σ H=>c σ H fun b H1=>if b=true then t D σ H1 else u D σ H1
theorem AI {c:Expr}{a b:List Stmt}{tc:TT}(hc:PT X c tc)(ha:CV X a t)(hb:CV X b u):PS X (.If c a b pos) (Hr tc t u):=by
 intro pins s σ H D I h
 refine wpAny_If (Ak (hc pins s σ H _ I h) fun d s1 zz=>?_)
 obtain⟨H1,I1,q1⟩:=zz
 cases d with
 |true=>exact ha pins s1 σ H1 D I1 q1
 |false=>exact hb pins s1 σ H1 D I1 q1
end
abbrev TG:=V->St->Hp->(St->Hp->Prop)->Prop
abbrev FC:=List V->St->Hp->(St->Hp->Prop)->Prop
def PG (X:Cx)(target:Expr)(t:TG):Prop:=
 ∀(pins:List (Addr×Obj)) (s:Shared) (σ:St) (H:Hp) (v:V) (u:Value) (Q:St->Hp->Prop),A1 X pins σ H s->Ay v u->t v σ H Q->
  wpAny (model X.prog X.w) X.A (assign target X.env u) (fun _ s'=>∃σ' H',A1 X pins σ' H' s'/\Q σ' H') X.xe s
def JB (X:Cx)(ts:List Expr)(t:FC):Prop:=
 ∀(pins:List (Addr×Obj)) (s:Shared) (σ:St) (H:Hp) (vs:List V) (us:List Value) (Q:St->Hp->Prop),A1 X pins σ H s->As vs us->t vs σ H Q->
  wpAny (model X.prog X.w) X.A (assignInOrder ((assignEach ts X.env).map (·.2)) us) (fun _ s'=>∃σ' H',A1 X pins σ' H' s'/\Q σ' H') X.xe s
abbrev Lx:=V->V->V->Hp->(Hp->Prop)->Prop
def Oa (X:Cx)(t:Lx):Prop:=
 ∀(pins:List (Addr×Obj)) (s:Shared) (σ:St) (H:Hp) (o i v:V) (ov iv u:Value) (Q:Hp->Prop),A1 X pins σ H s->Ay o ov->Ay i iv->Ay v u->t o i v H Q->
  wpAny (model X.prog X.w) X.A (setItem ov iv u) (fun _ s'=>∃H',A1 X pins σ H' s'/\Q H') X.xe s
abbrev Gh:=V->V->Hp->VK->Prop
def Ke (X:Cx)(op:Operator)(t:Gh):Prop:=
 ∀(pins:List (Addr×Obj)) (s:Shared) (σ:St) (H:Hp) (x y:V) (v u:Value) (Q:VK),A1 X pins σ H s->Ay x v->Ay y u->t x y H Q->
  wpAny (model X.prog X.w) X.A (inplaceOp op v u) (EP X pins σ Q) X.xe s
section
variable {X:Cx}{pos:Pos}
def Am (i:Nat):TG:=fun v σ H Q=>Q (σ.set i (some v)) H
theorem BG {i:Nat}{x:Str}(hN:X.N.Nodup)(hi:X.N[i]?=some x)(hx:FP X.env.scope x)(hf:X.fn x=true\/X.env.scope.names.lookup x=some .local:=by first|exact .inl rfl|exact .inr rfl|assumption):PG X (.Name x pos) (Am i):=by
 intro pins s σ H v u Q I r h
 exact wpAny_assign_Name (Gb I hN hi hx r (fun s' I'=>⟨_,H,I',h⟩) hf)
def Uh:FC:=fun vs σ H Q=>vs=[]/\Q σ H
def VC (t:TG)(u:FC):FC:=fun vs σ H Q=>∃v r,vs=v::r/\t v σ H fun σ' H'=>u r σ' H' Q
theorem Iv:JB X [] Uh:=by
 intro pins s σ H vs us Q I r h
 obtain⟨e,h⟩:=h
 subst e
 cases r
 exact assignInOrder_nil ⟨σ,H,I,h⟩
theorem ET {e:Expr}{es:List Expr}{t:TG}{u:FC}(h1:PG X e t)(h2:JB X es u)
  (hs:(assignEach (e::es) X.env).map (·.2)=assign e X.env::(assignEach es X.env).map (·.2):=by rfl):JB X (e::es) (VC t u):=by
 intro pins s σ H vs us Q I r h
 obtain⟨v,vr,e1,h⟩:=h
 subst e1
 cases r with
 |
  cons r rr=>
  rw[hs]
  refine assignInOrder_cons (Ak (h1 pins s σ H _ _ _ I r h) fun _ s1 zz=>?_)
  obtain⟨σ1,H1,I1,q1⟩:=zz
  exact h2 pins s1 σ1 H1 _ _ Q I1 rr q1
def NO (K:Xa)(n:Nat)(t:FC):TG:=fun v σ H Q=>∃a xs,v = .ref a/\Aw K H a xs/\xs.length=n/\t xs σ H Q
theorem IX {es:List Expr}{k:Nat}{t:FC}{n:Nat}(hc:X.calm=true)(h:JB X es t)
  (hn:(assignEach es X.env).length=n:=by rfl) (hst:(assignEach es X.env).findIdx? (·.1)=none:=by rfl):PG X (.Tuple es k pos) (NO X.K n t):=by
 intro pins s σ H v u Q I r hw
 obtain⟨a,xs,e1,hq,hl,hw⟩:=hw
 subst e1
 cases r
 obtain⟨its,rv,ht,hz⟩:=I.tuple hq
 refine assign_Tuple_tuple (I.ok.hd hc) ht (by simp[hn,←hl,rv.length]) hst fun h' hx=>?_
 have I1:A1 X pins σ H {s with heap:=h'}:=I.kept (t':=s.toks) fun b o e=>hx b o (BL (B1 e)) e
 exact h pins _ σ H xs _ Q I1 (by simpa using rv) hw
def Gk (te:TE)(g:TG):TS:=fun D σ H=>te σ H fun x H1=>g x σ H1 D.nx
theorem O1 {tg e:Expr}{te:TE}{g:TG}(he:PE X e te)(hg:PG X tg g)(hs:swapsWithSole [tg] e pos.line X.env=pure false:=by rfl)(hw:swappedStores [tg] e X.env=pure none:=by rfl)
  (h1:(assignEach [tg] X.env).map (·.2)=[assign tg X.env]:=by rfl):PS X (.Assign [tg] e pos) (Gk te g):=by
 intro pins s σ H D I h
 refine wpAny_Assign_stores (Ak (he pins s σ H _ I h) fun v s1 zz=>?_) hs hw
 obtain⟨x,H1,I1,r1,q1⟩:=zz
 rw[h1]
 exact Ak (hg pins s1 σ H1 x v _ I1 r1 q1) fun _ s2 q=>q
theorem Aj {i:Nat}{x:Str}{e:Expr}{te:TE}{pos':Pos}(hN:X.N.Nodup)(hi:X.N[i]?=some x)(hx:FP X.env.scope x)(he:PE X e te)(hs:swapsWith e (some (.Name x pos')) pos.line X.env=pure false:=by rfl)(hf:X.fn x=true\/X.env.scope.names.lookup x=some .local:=by first|exact .inl rfl|exact .inr rfl|assumption) :
  PS X (.Assign [.Name x pos'] e pos) (Gk te (Am i)):=by
 intro pins s σ H D I h
 refine wpAny_Assign_Name (Ak (he pins s σ H _ I h) fun v s1 zz=>?_) hs
 obtain⟨y,H1,I1,r1,q1⟩:=zz
 exact Gb I1 hN hi hx r1 (fun s2 I2=>⟨_,H1,I2,q1⟩) hf
def Ky (i:Nat)(te:TE)(ti:Gh):TS:=fun D σ H=>∃x,σ[i]?=some (some x)/\te σ H fun y H1=>ti x y H1 fun z H2=>D.nx (σ.set i (some z)) H2
theorem PK {i:Nat}{x:Str}{e:Expr}{te:TE}{op:Operator}{ti:Gh}{pos':Pos}(hN:X.N.Nodup)(hi:X.N[i]?=some x)(hx:FP X.env.scope x)(he:PE X e te)(ho:Ke X op ti)(hf:X.fn x=true\/X.env.scope.names.lookup x=some .local:=by first|exact .inl rfl|exact .inr rfl|assumption) :
  PS X (.AugAssign (.Name x pos') op e pos) (Ky i te ti):=by
 intro pins s σ H D I h
 obtain⟨v,e1,h⟩:=h
 obtain⟨m,hn,hl⟩:=I.loc
 have vis:Hq X.env.scope x:=by rcases hx with k|k;exact .inl k;exact .inr (.inl k)
 obtain⟨u,r,l⟩:=hl i x v hi e1 vis
 refine wpAny_AugAssign_Name ?_
 have go:wpAny (model X.prog X.w) X.A (eval e X.env) (fun w s₂=>wpAny (model X.prog X.w) X.A (inplaceOp op u w) (fun r s₃=>wpAny (model X.prog X.w) X.A (storeName X.env x r) (fun _=>SP X pins D .next) X.xe s₃) X.xe s₂) X.xe s:=by
  refine Ak (he pins s σ H _ I h) fun w s1 zz=>?_
  obtain⟨y,H1,I1,r1,q1⟩:=zz
  refine Ak (ho pins s1 σ H1 v y u w _ I1 r r1 q1) fun z s2 zz=>?_
  obtain⟨zv,H2,I2,r2,q2⟩:=zz
  exact Gb I2 hN hi hx r2 (fun s3 I3=>⟨_,H2,I3,q2⟩) hf
 rcases l with⟨hk,hm⟩|⟨hk,c,hc,hcell⟩
 .exact wpAny_loadName_local I.ok.kind hk hn hm go
 .rcases hk with hk|hk
  .exact wpAny_loadName_cell I.ok.kind hk hc hcell go
  .rcases hx with k|k
   .have:X.env.scope.names.lookup x=some .free:=hk
    rw[k]at this;cases this
   .have:X.env.scope.names.lookup x=some .free:=hk
    rw[k]at this;cases this
def SE (to ti te:TE)(tget:V->V->Hp->VK->Prop)(tip:Gh)(tset:Lx):TS:=fun D σ H=>to σ H fun o H1=>ti σ H1 fun i H2=>tget o i H2 fun x H3=>te σ H3 fun y H4=>tip x y H4 fun z H5=>tset o i z H5 fun H6=>D.nx σ H6
def MI (X:Cx)(t:V->V->Hp->VK->Prop):Prop:=
 ∀(pins:List (Addr×Obj)) (s:Shared) (σ:St) (H:Hp) (o i:V) (ov iv:Value) (Q:VK),A1 X pins σ H s->Ay o ov->Ay i iv->t o i H Q->
  wpAny (model X.prog X.w) X.A (getItem ov iv) (EP X pins σ Q) X.xe s
theorem Mi {o i e:Expr}{to ti te:TE}{tget:V->V->Hp->VK->Prop}{tip:Gh}{tset:Lx}{op:Operator}{tpos:Pos}(ho:PE X o to)(hi:PE X i ti)(hg:MI X tget)(he:PE X e te)(hp:Ke X op tip)(hs:Oa X tset)
  (ha:∀ov iv new,augStore i ov iv new=(do holding [new,ov,iv] (setItem ov iv new);release [new,ov,iv] [];pure .next):=by intros;rfl):PS X (.AugAssign (.Subscript o i tpos) op e pos) (SE to ti te tget tip tset):=by
 intro pins s σ H D I h
 refine wpAny_AugAssign_SubscriptAny (Ak (ho pins s σ H _ I h) fun ov s1 zz=>?_) ha
 obtain⟨x1,H1,I1,r1,q1⟩:=zz
 refine Ak (hi pins s1 σ H1 _ I1 q1) fun iv s2 zz=>?_
 obtain⟨x2,H2,I2,r2,q2⟩:=zz
 refine Ak (hg pins s2 σ H2 x1 x2 ov iv _ I2 r1 r2 q2) fun old s3 zz=>?_
 obtain⟨x3,H3,I3,r3,q3⟩:=zz
 refine Ak (he pins s3 σ H3 _ I3 q3) fun v s4 zz=>?_
 obtain⟨x4,H4,I4,r4,q4⟩:=zz
 refine Ak (hp pins s4 σ H4 x3 x4 old v _ I4 r3 r4 q4) fun new s5 zz=>?_
 obtain⟨x5,H5,I5,r5,q5⟩:=zz
 refine Ak (hs pins s5 σ H5 x1 x2 x5 ov iv new _ I5 r1 r2 r5 q5) fun _ s6 zz=>?_
 obtain⟨H6,I6,q6⟩:=zz
 exact⟨σ,H6,I6,q6⟩
def Lb (f:Int->Int->Int):Gh:=fun x y H Q=>∃i j,x = .int i/\y = .int j/\Q (.int (f i j)) H
theorem Kr:Ke X .Add (Lb fun i j=>i+j):=by
 intro pins s σ H x y v u Q I r1 r2 h
 obtain⟨i,j,e1,e2,q⟩:=h
 subst e1;subst e2
 obtain⟨t,rfl⟩:=r1
 obtain⟨t',rfl⟩:=r2
 exact iadd_int ⟨.int _,H,I.tok _,⟨_,rfl⟩,q⟩
end
section
variable {X:Cx}{pos:Pos}
def JC (c:TT)(tb:TS):TS:=fun D σ H=>∃W:Nat->St->Hp->Prop,(∃m,W m σ H)/\∀m σ H,W m σ H->
 c σ H fun b H1=>if b=true then ∃N:St->Hp->Prop,(∀σ' H',N σ' H'->∃m',m'<m/\W m' σ' H')/\tb {D with nx:=N,ct:=N,bk:=D.nx} σ H1 else D.nx σ H1
theorem Hu {c:Expr}{body:List Stmt}{tc:TT}{tb:TS}(hp:PassesOwn (model X.prog X.w) X.A X.env X.xe)(hc:PT X c tc)(hb:CV X body tb):PS X (.While c body [] pos) (JC tc tb):=by
 intro pins s σ H D I h
 obtain⟨W,⟨m0,w0⟩,turn⟩:=h
 refine wpAny_While (codeAny_whileLoop (fun n s'=>∃σ' H',A1 X pins σ' H' s'/\W n σ' H') ?_ m0 ⟨σ,H,I,w0⟩)
 rintro n s1 ⟨σ1,H1,I1,w1⟩
 refine GU hp (Ak (hc pins s1 σ1 H1 _ I1 (turn n σ1 H1 w1)) fun b s2 zz=>?_)
 obtain⟨H2,I2,q2⟩:=zz
 cases b with
 |
  true=>
  obtain⟨N,hN,q2⟩:=q2
  rw[Af rfl]
  refine GU hp (Ak (hb pins s2 σ1 H2 _ I2 q2) fun f s3 q3=>?_)
  cases f with
  |
   next=>
   obtain⟨σ3,H3,I3,n3⟩:=q3
   obtain⟨m',hm,w3⟩:=hN σ3 H3 n3
   exact⟨m',hm,σ3,H3,I3,w3⟩
  |
   cont=>
   obtain⟨σ3,H3,I3,n3⟩:=q3
   obtain⟨m',hm,w3⟩:=hN σ3 H3 n3
   exact⟨m',hm,σ3,H3,I3,w3⟩
  |brk=>exact q3
  |ret v=>exact q3
 |
  false=>
  rw[A9 BM]
  exact K4 ⟨σ1,H2,I2,q2⟩
end
structure It where
 go:Nat->Hp->Prop
 yld:Nat->Hp->V->Hp->Prop
 stop:Nat->Hp->Prop
def DO (X:Cx)(pins:List (Addr×Obj))(H:Hp)(b:Addr):Prop:=
 H b=none/\b≠X.env.locals/\b∉X.fs/\(b∈X.ex\/X.s₀.heap.objs.size<=b)/\(∀x c,X.env.cells.lookup x=some c->c≠b)/\∀p∈X.pn++pins,p.1≠b
theorem A1.fpOk {X:Cx}{pins:List (Addr×Obj)}{σ:St}{H H':Hp}{s:Shared}{b:Addr}(I:A1 X pins σ H s)(hb:s.heap.objs.size<=b)(hn:H' b=none):DO X pins H' b:=by
 refine⟨hn,FX (C7 I.lt hb),I.nofs hb,.inr (Bz I.sz hb),fun x c e z=>?_,fun p hp z=>?_⟩
 .obtain⟨v,q⟩:=I.cell x c e
  exact absurd (C7 q.lt (by rw[z];exact hb)) (Ee _)
 .exact absurd (C7 (B1 (I.pin p hp).1) (by rw[z];exact hb)) (Ee _)
structure Gu (P:Program)(w:World)(K:Xa)(tg:Expr)(J:It)(fp:List Addr)(it:Addr)(tn:Nat->Heap->Prop):Prop where
 mem:it∈fp
 obj:∀i h,tn i h->∀b∈fp,∃o,h.get? b=some o/\∀v,o.data≠.cell v
 keep:∀i h h',tn i h->(∀b∈fp,∀o,h.get? b=some o->h'.get? b=some o)->tn i h'
 item:∀(X:Cx),X.prog=P->X.w=w->X.K=K->X.calm=true->∀(i:Nat) (pins:List (Addr×Obj)) (s:Shared) (σ:St) (H:Hp) (E:Value->Shared->Prop),A1 X pins σ H s->(∀b∈fp,DO X pins H b)->tn i s.heap->J.go i H->
  wpAny (model P w) X.A (pyNext (.ref it)) (fun r s1=>∃u,r=some u/\
   wpAny (model P w) X.A (letOwnedTupleGo tg (.ref it) u) (fun _ s2=>∃x H',A1 X pins σ H' s2/\Ay x u/\J.yld i H x H'/\tn (i+1) s2.heap/\∀b∈fp,H' b=none) E s1) E s
 done:∀(X:Cx),X.prog=P->X.w=w->X.K=K->X.calm=true->∀(i:Nat) (pins:List (Addr×Obj)) (s:Shared) (σ:St) (H:Hp) (E:Value->Shared->Prop),A1 X pins σ H s->(∀b∈fp,DO X pins H b)->tn i s.heap->J.stop i H->
  wpAny (model P w) X.A (pyNext (.ref it)) (fun r s1=>r=none/\A1 X pins σ H s1) E s
 self:∀(A:Around) (i:Nat) (s:Shared) (Q:Value->Shared->Prop) (E:Value->Shared->Prop),tn i s.heap->Q (.ref it) s->wpAny (model P w) A (pyIter (.ref it)) Q E s
abbrev TI:=St->Hp->(It->Hp->Prop)->Prop
def NP (X:Cx)(pins:List (Addr×Obj))(σ:St)(tg:Expr)(R:It->Hp->Prop)(itv:Value)(s2:Shared):Prop:=
 ∃(it:Addr) (fp:List Addr) (tn:Nat->Heap->Prop) (J:It) (H':Hp),itv = .ref it/\A1 X pins σ H' s2/\Gu X.prog X.w X.K tg J fp it tn/\tn 0 s2.heap/\(∀b∈fp,DO X pins H' b)/\R J H'
def PI (X:Cx)(tg iter:Expr)(wi:TI):Prop:=
 ∀(pins:List (Addr×Obj)) (s:Shared) (σ:St) (H:Hp) (R:It->Hp->Prop),A1 X pins σ H s->wi σ H R->
  wpAny (model X.prog X.w) X.A (eval iter X.env) (fun v s1=>wpAny (model X.prog X.w) X.A (pyIter v) (NP X pins σ tg R) X.xe s1) X.xe s
theorem IR {M:Model}{A:Around}{E:Value->Shared->Prop}{s:Shared}{tg:Expr}{it:Addr}{u:Value}{o:Obj}{n:String}{vs:Array Value}{Q:Unit->Shared->Prop}(ho:s.heap.get? it=some o)(hc:o.cls = .type n)(hd:o.data = .fields vs)
  (hn:["enumerate","zip","dict_itemiterator","dict_reverseitemiterator","odict_iterator","itertools.zip_longest","itertools.pairwise"].contains n=false) (hQ:Q () s):wpAny M A (letOwnedTupleGo tg (.ref it) u) Q E s:=by
 unfold letOwnedTupleGo
 cases tg<;>first
  |exact B9 hQ
  |(cases u<;>first
   |exact B9 hQ
   |(
    refine Ah (wpAny_load ho ?_)
    rw[hc,hd]
    show wpAny M A (if(["enumerate","zip","dict_itemiterator","dict_reverseitemiterator","odict_iterator","itertools.zip_longest","itertools.pairwise"].contains n&&vs[0]?==some (rawInt _))=true then _ else _) Q E s
    rw[A9 (by intro h;rw[hn,Bool.false_and]at h;cases h)]
    exact B9 hQ))
def FA (K:Xa)(a:Addr):It:=
 ⟨fun i H=>∃xs x,A2 K H a xs/\xs[i]?=some x,fun i H x H'=>H'=H/\∀xs,A2 K H a xs->xs[i]?=some x,fun i H=>∃xs,A2 K H a xs/\xs.length<=i⟩
def Kq (K:Xa)(a:Addr):It:=
 ⟨fun i H=>∃xs x,Aw K H a xs/\xs[i]?=some x,fun i H x H'=>H'=H/\∀xs,Aw K H a xs->xs[i]?=some x,fun i H=>∃xs,Aw K H a xs/\xs.length<=i⟩
def Ft (lo:Int)(n:Nat):It:=⟨fun i _=>i<n,fun i H x H'=>H'=H/\x = .int (lo+i),fun i _=>n<=i⟩
theorem V6 {P:Program}{w:World}{K:Xa}{tg:Expr}(a it:Addr):Gu P w K tg (FA K a) [it] it (fun i h=>h.IsListIter it a i) where
 mem:=by simp
 obj:=fun i h st b hb=>by
  have e:b=it:=by simpa using hb
  subst e
  obtain⟨o,e,c,d⟩:=st
  exact⟨o,e,fun v z=>by rw[d]at z;cases z⟩
 keep:=fun i h h' st k=>st.at fun o e=>k it (by simp) o e
 item:=by
  intro X hP hw hK hc i pins s σ H E I hf st hg
  subst hP hw hK
  obtain⟨xs,x,hq,hx⟩:=hg
  obtain⟨its,rv,p,hz⟩:=I.list hq
  obtain⟨u,hu,ru⟩:=rv.get hx
  obtain⟨f0,f1,f2,f3,f4,f5⟩:=hf it (by simp)
  refine wpAny_pyNext_list_item st p.isList (x:=u) (by simpa using hu) fun h' st' sb=>?_
  have I1:A1 X pins σ H {s with heap:=h'}:=I.turned (t':=s.toks) (fun b o hb e=>(sb.2 b hb).trans e) f0 f1 f3 f4 f5
  obtain⟨o,e,c,d⟩:=id st'
  exact⟨u,rfl,IR (s:={s with heap:=h'}) e c d (by decide) ⟨x,H,I1,ru,⟨rfl,fun ys hy=>by rw[I.list_inj hy hq];exact hx⟩,st',fun b hb=>(hf b hb).1⟩⟩
 done:=by
  intro X hP hw hK hc i pins s σ H E I hf st hg
  subst hP hw hK
  obtain⟨xs,hq,hx⟩:=hg
  obtain⟨its,rv,p,hz⟩:=I.list hq
  obtain⟨f0,f1,f2,f3,f4,f5⟩:=hf it (by simp)
  have hl:=rv.length
  exact wpAny_pyNext_list_end (I.ok.hd hc) st p.isList (by simp;omega) fun h' eb=>⟨rfl,I.turned (t':=s.toks) (fun b o hb e=>eb b o hb e) f0 f1 f3 f4 f5⟩
 self:=fun _ _ _ _ _ st h=>wpAny_pyIter_listiter st h
theorem UE {P:Program}{w:World}{K:Xa}{tg:Expr}(a it:Addr):Gu P w K tg (Kq K a) [it] it (fun i h=>h.IsTupleIter it a i) where
 mem:=by simp
 obj:=fun i h st b hb=>by
  have e:b=it:=by simpa using hb
  subst e
  obtain⟨o,e,c,d⟩:=st
  exact⟨o,e,fun v z=>by rw[d]at z;cases z⟩
 keep:=fun i h h' st k=>st.at fun o e=>k it (by simp) o e
 item:=by
  intro X hP hw hK hc i pins s σ H E I hf st hg
  subst hP hw hK
  obtain⟨xs,x,hq,hx⟩:=hg
  obtain⟨its,rv,p,hz⟩:=I.tuple hq
  obtain⟨u,hu,ru⟩:=rv.get hx
  obtain⟨f0,f1,f2,f3,f4,f5⟩:=hf it (by simp)
  refine wpAny_pyNext_tuple_item st (show s.heap.IsTuple a its.toArray from p) (x:=u) (by simpa using hu) fun h' st' sb=>?_
  have I1:A1 X pins σ H {s with heap:=h'}:=I.turned (t':=s.toks) (fun b o hb e=>(sb.2 b hb).trans e) f0 f1 f3 f4 f5
  obtain⟨o,e,c,d⟩:=id st'
  exact⟨u,rfl,IR (s:={s with heap:=h'}) e c d (by decide) ⟨x,H,I1,ru,⟨rfl,fun ys hy=>by rw[I.tuple_inj hy hq];exact hx⟩,st',fun b hb=>(hf b hb).1⟩⟩
 done:=by
  intro X hP hw hK hc i pins s σ H E I hf st hg
  subst hP hw hK
  obtain⟨xs,hq,hx⟩:=hg
  obtain⟨its,rv,p,hz⟩:=I.tuple hq
  obtain⟨f0,f1,f2,f3,f4,f5⟩:=hf it (by simp)
  have hl:=rv.length
  exact wpAny_pyNext_tuple_end (I.ok.hd hc) st (show s.heap.IsTuple a its.toArray from p) (by simp;omega) fun h' eb=>⟨rfl,I.turned (t':=s.toks) (fun b o hb e=>eb b o hb e) f0 f1 f3 f4 f5⟩
 self:=fun _ _ _ _ _ st h=>wpAny_pyIter_tupleiter st h
theorem R4 {P:Program}{w:World}{K:Xa}{tg:Expr}(it:Addr)(lo:Int)(n:Nat):Gu P w K tg (Ft lo n) [it] it (fun i h=>IsRangeIter h it (lo+(i:Nat)*1) ((n:Int)-(i:Nat)) 1) where
 mem:=by simp
 obj:=fun i h st b hb=>by
  have e:b=it:=by simpa using hb
  subst e
  exact⟨_,st,fun v z=>by
   have z':Data.fields _=Data.cell v:=z
   cases z'⟩
 keep:=fun i h h' st k=>k it (by simp) _ st
 item:=by
  intro X hP hw hK hc i pins s σ H E I hf st hg
  subst hP hw hK
  obtain⟨f0,f1,f2,f3,f4,f5⟩:=hf it (by simp)
  have W:=Walks.range (prog:=X.prog) (w:=X.w) (I.ok.hd hc) it lo 1 n
  refine W.item i s _ _ hg st fun v h' tk hv st' kk=>?_
  obtain⟨t,rfl⟩:=hv
  have I1:A1 X pins σ H {s with heap:=h',toks:=tk}:=I.turned (fun b o hb e=>kk b o (by simpa using hb) e) f0 f1 f3 f4 f5
  refine⟨_,rfl,IR (s:={s with heap:=h',toks:=tk}) (n:="range_iterator") st' rfl rfl (by decide) ⟨.int (lo+i),H,I1,⟨t,?_⟩,⟨rfl,rfl⟩,st',fun b hb=>(hf b hb).1⟩⟩
  rw[Int.mul_one]
 done:=by
  intro X hP hw hK hc i pins s σ H E I hf st hg
  subst hP hw hK
  obtain⟨f0,f1,f2,f3,f4,f5⟩:=hf it (by simp)
  exact wpAny_pyNext_range_end (I.ok.hd hc) st (by have:n<=i:=hg;omega) fun h' eb=>⟨rfl,I.turned (t':=s.toks) (fun b o hb e=>eb b o hb e) f0 f1 f3 f4 f5⟩
 self:=fun _ _ _ _ _ st h=>wpAny_pyIter_rangeiter st h
section
variable {X:Cx}{tg:Expr}
def OX (K:Xa)(tl:TE):TI:=fun σ H R=>tl σ H fun x H1=>∃a,x = .ref a/\(∃xs,A2 K H1 a xs)/\R (FA K a) H1
def Uv (K:Xa)(tl:TE):TI:=fun σ H R=>tl σ H fun x H1=>∃a,x = .ref a/\(∃xs,Aw K H1 a xs)/\R (Kq K a) H1
theorem Dy {l:Expr}{tl:TE}(hl:PE X l tl):PI X tg l (OX X.K tl):=by
 intro pins s σ H R I h
 refine Ak (hl pins s σ H _ I h) fun v s1 zz=>?_
 obtain⟨x,H1,I1,r1,q1⟩:=zz
 obtain⟨a,e,⟨xs,hq⟩,q⟩:=q1
 subst e
 cases r1
 obtain⟨its,rv,p,hz⟩:=I1.list hq
 refine K5 p.isList ?_
 refine⟨s1.heap.objs.size,[s1.heap.objs.size],_,_,H1,rfl,I1.kept (t':=s1.toks) fun b o e=>Bc _ e,V6 a _,⟨_,CB _ rfl,rfl,rfl⟩,fun b hb=>?_,q⟩
 have e:b=s1.heap.objs.size:=by simpa using hb
 subst e
 exact I1.fpOk (Ai _) (I1.hok.fresh (Ai _))
theorem KQ {l:Expr}{tl:TE}(hl:PE X l tl):PI X tg l (Uv X.K tl):=by
 intro pins s σ H R I h
 refine Ak (hl pins s σ H _ I h) fun v s1 zz=>?_
 obtain⟨x,H1,I1,r1,q1⟩:=zz
 obtain⟨a,e,⟨xs,hq⟩,q⟩:=q1
 subst e
 cases r1
 obtain⟨its,rv,p,hz⟩:=I1.tuple hq
 refine wpAny_pyIter_tuple (show s1.heap.IsTuple a its.toArray from p) ?_
 refine⟨s1.heap.objs.size,[s1.heap.objs.size],_,_,H1,rfl,I1.kept (t':=s1.toks) fun b o e=>Bc _ e,UE a _,⟨_,CB _ rfl,rfl,rfl⟩,fun b hb=>?_,q⟩
 have e:b=s1.heap.objs.size:=by simpa using hb
 subst e
 exact I1.fpOk (Ai _) (I1.hok.fresh (Ai _))
theorem PL {pins:List (Addr×Obj)}{σ:St}{H:Hp}{s:Shared}{R:It->Hp->Prop}{E:Value->Shared->Prop}{lo hi:Int}{t u v:Tok}{tk:Nat}(I:A1 X pins σ H s)(h1 : -(2 ^ 62)<=lo)(h2:lo<2 ^ 62)(h3 : -(2 ^ 62)<=hi)(h4:hi<2 ^ 62)
  (q:R (Ft lo (hi-lo).toNat) H):wpAny (model X.prog X.w) X.A (pyIter (.ref s.heap.objs.size)) (NP X pins σ tg R) E {s with heap:=s.heap.push {cls:=.type "range",data:=.fields #[.int lo t,.int hi u,.int 1 v]},toks:=tk}:=by
 refine wpAny_pyIter_range (IsRange.new ..) (small_one h1 h2 h3 h4) ?_
 have I1:A1 X pins σ H {s with heap:=s.heap.push {cls:=.type "range",data:=.fields #[.int lo t,.int hi u,.int 1 v]},toks:=tk}:=I.kept fun b o e=>Bc _ e
 refine⟨(s.heap.push {cls:=.type "range",data:=.fields #[.int lo t,.int hi u,.int 1 v]}).objs.size,[(s.heap.push {cls:=.type "range",data:=.fields #[.int lo t,.int hi u,.int 1 v]}).objs.size],_,_,H,rfl,
  I1.kept (t':=tk) fun b o e=>Bc _ e,R4 _ lo (hi-lo).toNat,?_,fun b hb=>?_,q⟩
 .have e1:lo+((0:Nat):Int)*1=lo:=by simp
  have e2:(((hi-lo).toNat:Nat):Int)-((0:Nat):Int)=Builtin.Range.rangeSize lo hi 1:=by rw[rangeSize_one];split<;>omega
  show IsRangeIter _ _ (lo+((0:Nat):Int)*1) ((((hi-lo).toNat:Nat):Int)-((0:Nat):Int)) 1
  rw[e1,e2]
  exact CB _ rfl
 .have e:b=(s.heap.push {cls:=.type "range",data:=.fields #[.int lo t,.int hi u,.int 1 v]}).objs.size:=by simpa using hb
  subst e
  exact I1.fpOk (Ai _) (I1.hok.fresh (Ai _))
def Pf (ta:TA):TI:=fun σ H R=>ta σ H fun vs H1=>∃j:Int,vs=[.int j]/\-(2 ^ 62)<=j/\j<2 ^ 62/\R (Ft 0 j.toNat) H1
theorem JD {a:Expr}{ta:TA}{p pos:Pos}(hg:Gl X "range")(hm:X.mg "range"=none)(ha:PA X [a] ta)(hs:starEach [a] X.env=[(false,eval a X.env)]:=by rfl):PI X tg (.Call (.Name "range" p) [a] [] pos) (Pf ta):=by
 intro pins s σ H R I h
 refine Call_ (HI I hg hm boot_range (VQ (Ak (ha pos pins s σ H _ I h) fun us s1 zz=>?_) hs rfl))
 obtain⟨vs,H1,I1,r1,q1⟩:=zz
 obtain⟨j,e,q1,q2,q⟩:=q1
 subst e
 cases r1 with
 |
  cons r rr=>
  cases rr
  obtain⟨t,rfl⟩:=r
  exact call_range_1 (PL I1 (by omega) (by omega) q1 q2 (by simpa using q))
def Qe (wi:TI)(g:TG)(tb:TS):TS:=fun D σ H=>wi σ H fun J H1=>∃W:Nat->Nat->St->Hp->Prop,(∃m,W 0 m σ H1)/\∀i m σ H,W i m σ H->
 (J.stop i H/\D.nx σ H)\/(J.go i H/\∃N:St->Hp->Prop,(∀σ' H',N σ' H'->∃m',m'<m/\W (i+1) m' σ' H')/\∀x H',J.yld i H x H'->g x σ H' fun σ2 H2=>tb {D with nx:=N,ct:=N,bk:=D.nx} σ2 H2)
def Gm (fp:List Addr)(h:Heap):List (Addr×Obj):=fp.filterMap fun b=>(h.get? b).map fun o=>(b,o)
theorem Ho {fp:List Addr}{h:Heap}{b:Addr}{o:Obj}(hb:b∈fp)(e:h.get? b=some o):(b,o)∈Gm fp h:=List.mem_filterMap.mpr ⟨b,hb,by rw[e];rfl⟩
theorem R9 {fp:List Addr}{h:Heap}{p:Addr×Obj}(hp:p∈Gm fp h):p.1∈fp/\h.get? p.1=some p.2:=by
 obtain⟨b,hb,e⟩:=List.mem_filterMap.mp hp
 cases q:h.get? b with
 |none=>rw[q]at e;cases e
 |
  some o=>
  rw[q]at e
  have e':(b,o)=p:=BQ e
  subst e'
  exact⟨hb,q⟩
theorem A1.pinned {pins:List (Addr×Obj)}{σ:St}{H:Hp}{s:Shared}{fp:List Addr}(I:A1 X pins σ H s)(hf:∀b∈fp,DO X pins H b)(ho:∀b∈fp,∃o,s.heap.get? b=some o/\∀v,o.data≠.cell v):A1 X (pins++Gm fp s.heap) σ H s:=
 I.pins_of fun p hp=>(BI.mp hp).elim (fun z=>I.pin p (Cp _ z)) fun z=>by
  obtain⟨hb,e⟩:=R9 z
  obtain⟨f0,f1,f2,_⟩:=hf p.1 hb
  obtain⟨o,e',d⟩:=ho p.1 hb
  rw[e]at e';cases e'
  exact⟨e,f0,f1,f2,d⟩
theorem A1.unpinned {pins pl:List (Addr×Obj)}{σ:St}{H:Hp}{s:Shared}(I:A1 X (pins++pl) σ H s):A1 X pins σ H s:=I.pins_of fun p hp=>I.pin p (Cp _ (FW _ hp))
theorem Ep {iter:Expr}{body:List Stmt}{wi:TI}{g:TG}{tb:TS}{pos:Pos}(hp:PassesOwn (model X.prog X.w) X.A X.env X.xe)(hc:X.calm=true)(hi:PI X tg iter wi)(hg:PG X tg g)(hb:CV X body tb)
  (hs:∀x,foldedSetIterable iter X.env x=pure x:=by intro _;rfl):PS X (.For tg iter body [] pos) (Qe wi g tb):=by
 intro pins s σ H D I h
 refine wpAny_For (Ak (hi pins s σ H _ I h) fun v s1 h1=>Ak h1 fun itv s2 h2=>?_) hs
 obtain⟨it,fp,tn,J,H2,e,I2,T,st2,f2,W,⟨m0,w0⟩,turn⟩:=h2
 subst e
 have stat:∀{H':Hp},(∀b∈fp,H' b=none)->∀b∈fp,DO X pins H' b:=fun hn b hb=>⟨hn b hb,(f2 b hb).2⟩
 refine codeAny_forLoop_any (fun n s'=>∃i σ' H',A1 X pins σ' H' s'/\tn i s'.heap/\(∀b∈fp,H' b=none)/\W i n σ' H') ?_ m0 ⟨0,σ,H2,I2,st2,fun b hb=>(f2 b hb).1,w0⟩
 rintro n s3 ⟨i,σ3,H3,I3,st3,fr3,w3⟩
 rcases turn i n σ3 H3 w3 with⟨stop,qn⟩|⟨go,N,hN,step⟩
 .refine GU hp (Ak (T.done X rfl rfl rfl hc i pins s3 σ3 H3 X.xe I3 (stat fr3) st3 stop) fun r s4 zz=>?_)
  obtain⟨hr,I4⟩:=zz
  subst hr
  exact K4 ⟨σ3,H3,I4,qn⟩
 .refine GU hp (Ak (T.item X rfl rfl rfl hc i pins s3 σ3 H3 X.xe I3 (stat fr3) st3 go) fun r s4 zz=>?_)
  obtain⟨u,hr,h4⟩:=zz
  subst hr
  refine GU hp (Ak h4 fun _ s5 zz=>?_)
  obtain⟨x,H5,I5,r5,y5,st5,fr5⟩:=zz
  have I5':=I5.pinned (stat fr5) (T.obj _ _ st5)
  refine GU hp (Ak (hg _ s5 σ3 H5 x u _ I5' r5 (step x H5 y5)) fun _ s6 zz=>?_)
  obtain⟨σ6,H6,I6,q6⟩:=zz
  refine GU hp (Ak (hb _ s6 σ6 H6 _ I6 q6) fun f s7 q7=>?_)
  have again:∀{σ7:St} {H7:Hp},A1 X (pins++Gm fp s5.heap) σ7 H7 s7->N σ7 H7->∃m,m<n/\∃i σ' H',A1 X pins σ' H' s7/\tn i s7.heap/\(∀b∈fp,H' b=none)/\W i m σ' H':=fun{σ7 H7} I7 n7=>by
   obtain⟨m',hm,w7⟩:=hN σ7 H7 n7
   refine⟨m',hm,i+1,σ7,H7,I7.unpinned,T.keep _ _ _ st5 fun b hb o e=>(I7.pin (b,o) (Cp _ (Cp _ (Ho hb e)))).1,fun b hb=>?_,w7⟩
   obtain⟨o,e,d⟩:=T.obj _ _ st5 b hb
   exact(I7.pin (b,o) (Cp _ (Cp _ (Ho hb e)))).2.1
  cases f with
  |next=>obtain⟨σ7,H7,I7,n7⟩:=q7;exact again I7 n7
  |cont=>obtain⟨σ7,H7,I7,n7⟩:=q7;exact again I7 n7
  |brk=>obtain⟨σ7,H7,I7,q7⟩:=q7;exact⟨σ7,H7,I7.unpinned,q7⟩
  |ret v=>obtain⟨x7,σ7,H7,I7,r7,q7⟩:=q7;exact⟨x7,σ7,H7,I7.unpinned,r7,q7⟩
end
theorem Gw {K:Xa}{a:Addr}{xs:List V}{g:TG}{tb:TS}{D:Cw}{σ:St}{H:Hp}(Pv:Nat->St->Hp->Prop)(h0:Pv 0 σ H)(hl:∀i σ H,i<=xs.length->Pv i σ H->A2 K H a xs)
  (hs:∀i x σ H,xs[i]?=some x->Pv i σ H->g x σ H fun σ2 H2=>tb {D with nx:=Pv (i+1),ct:=Pv (i+1),bk:=D.nx} σ2 H2) (hd:∀σ H,Pv xs.length σ H->D.nx σ H) :
  ∃W:Nat->Nat->St->Hp->Prop,(∃m,W 0 m σ H)/\∀i m σ H,W i m σ H->
   ((FA K a).stop i H/\D.nx σ H)\/((FA K a).go i H/\∃N:St->Hp->Prop,(∀σ' H',N σ' H'->∃m',m'<m/\W (i+1) m' σ' H')/\∀x H',(FA K a).yld i H x H'->g x σ H' fun σ2 H2=>tb {D with nx:=N,ct:=N,bk:=D.nx} σ2 H2):=by
 refine⟨fun i m σ H=>m=xs.length-i/\i<=xs.length/\Pv i σ H,⟨xs.length,by simp,C0 _,h0⟩,?_⟩
 rintro i m σ H ⟨rfl,hi,p⟩
 have q:=hl i σ H hi p
 by_cases hlt:i<xs.length
 .refine .inr ⟨⟨xs,xs[i],q,by simp[hlt]⟩,Pv (i+1),fun σ' H' p'=>⟨xs.length-(i+1),by omega,rfl,hlt,p'⟩,fun x H' y=>?_⟩
  obtain⟨e,y⟩:=y
  subst e
  exact hs i x σ _ (y xs q) p
 .have e:i=xs.length:=by omega
  subst e
  exact .inl ⟨⟨xs,q,Ai _⟩,hd σ H p⟩
theorem KO {lo:Int}{n:Nat}{g:TG}{tb:TS}{D:Cw}{σ:St}{H:Hp}(Pv:Nat->St->Hp->Prop)(h0:Pv 0 σ H)
  (hs:∀i σ H,i<n->Pv i σ H->g (.int (lo+i)) σ H fun σ2 H2=>tb {D with nx:=Pv (i+1),ct:=Pv (i+1),bk:=D.nx} σ2 H2) (hd:∀σ H,Pv n σ H->D.nx σ H) :
  ∃W:Nat->Nat->St->Hp->Prop,(∃m,W 0 m σ H)/\∀i m σ H,W i m σ H->
   ((Ft lo n).stop i H/\D.nx σ H)\/((Ft lo n).go i H/\∃N:St->Hp->Prop,(∀σ' H',N σ' H'->∃m',m'<m/\W (i+1) m' σ' H')/\∀x H',(Ft lo n).yld i H x H'->g x σ H' fun σ2 H2=>tb {D with nx:=N,ct:=N,bk:=D.nx} σ2 H2):=by
 refine⟨fun i m σ H=>m=n-i/\i<=n/\Pv i σ H,⟨n,by simp,C0 _,h0⟩,?_⟩
 rintro i m σ H ⟨rfl,hi,p⟩
 by_cases hlt:i<n
 .refine .inr ⟨hlt,Pv (i+1),fun σ' H' p'=>⟨n-(i+1),by omega,rfl,hlt,p'⟩,fun x H' y=>?_⟩
  obtain⟨e,y⟩:=y
  subst e y
  exact hs i σ _ hlt p
 .have e:i=n:=by omega
  subst e
  exact .inl ⟨Ai _,hd σ H p⟩
abbrev R2:=V->V->Hp->VK->Prop
def Bw (X:Cx)(f:Value->Value->Sem Value)(r:R2):Prop:=
 ∀(pins:List (Addr×Obj)) (s:Shared) (σ:St) (H:Hp) (x y:V) (v u:Value) (Q:VK),A1 X pins σ H s->Ay x v->Ay y u->r x y H Q->
  wpAny (model X.prog X.w) X.A (f v u) (EP X pins σ Q) X.xe s
def Kx (X:Cx)(f:Value->Sem Value)(r:V->Hp->VK->Prop):Prop:=
 ∀(pins:List (Addr×Obj)) (s:Shared) (σ:St) (H:Hp) (x:V) (v:Value) (Q:VK),A1 X pins σ H s->Ay x v->r x H Q->
  wpAny (model X.prog X.w) X.A (f v) (EP X pins σ Q) X.xe s
def DA (X:Cx)(f:Value)(r:List V->Hp->VK->Prop):Prop:=
 ∀(pins:List (Addr×Obj)) (s:Shared) (σ:St) (H:Hp) (xs:List V) (us:List Value) (Q:VK),A1 X pins σ H s->As xs us->r xs H Q->
  wpAny (model X.prog X.w) X.A (call f us) (EP X pins σ Q) X.xe s
def Eo (r:R2)(ta tb:TE):TE:=fun σ H Q=>ta σ H fun x H1=>tb σ H1 fun y H2=>r x y H2 Q
def PU (r:V->Hp->VK->Prop)(ta:TE):TE:=fun σ H Q=>ta σ H fun x H1=>r x H1 Q
def rI (C:Int->Int->Prop)(g:Int->Int->V):R2:=fun x y H Q=>∃i j,x = .int i/\y = .int j/\C i j/\Q (g i j) H
def EC (g:Int->Int->V):R2:=fun x y H Q=>∃i j,x = .int i/\y = .int j/\Q (g i j) H
def rU (g:Int->V):V->Hp->VK->Prop:=fun x H Q=>∃i,x = .int i/\Q (g i) H
section
variable {X:Cx}{a b c:Expr}{ta tb tc:TE}{pos:Pos}
theorem KZ (ha:PE X a ta)(hb:PE X b tb){pins:List (Addr×Obj)}{s:Shared}{σ:St}{H:Hp}{R:V->V->Hp->Prop}(I:A1 X pins σ H s)
  (h:ta σ H fun x H1=>tb σ H1 fun y H2=>R x y H2) {Q:Value->Shared->Prop} {f:Value->Value->Sem Value}
  (hf:∀v u s2 x y H2,A1 X pins σ H2 s2->Ay x v->Ay y u->R x y H2->wpAny (model X.prog X.w) X.A (f v u) Q X.xe s2) :
  wpAny (model X.prog X.w) X.A (eval a X.env) (fun v s₁=>wpAny (model X.prog X.w) X.A (eval b X.env) (fun u s₂=>wpAny (model X.prog X.w) X.A (f v u) Q X.xe s₂) X.xe s₁) X.xe s:=by
 refine Ak (ha pins s σ H _ I h) fun v s1 zz=>?_
 obtain⟨x,H1,I1,r1,q1⟩:=zz
 refine Ak (hb pins s1 σ H1 _ I1 q1) fun u s2 zz=>?_
 obtain⟨y,H2,I2,r2,q2⟩:=zz
 exact hf v u s2 x y H2 I2 r1 r2 q2
theorem Ae {op:Operator}{r:R2}(ho:Bw X (binaryOp op) r)(ha:PE X a ta)(hb:PE X b tb):PE X (.BinOp a op b pos) (Eo r ta tb):=by
 intro pins s σ H Q I h
 exact wpAny_BinOp (KZ ha hb I h fun v u s2 x y H2 I2 rx ry q=>ho pins s2 σ H2 x y v u Q I2 rx ry q)
theorem CN {op:UnaryOp}{r:V->Hp->VK->Prop}(ho:Kx X (unaryOp op) r)(ha:PE X a ta):PE X (.UnaryOp op a pos) (PU r ta):=by
 intro pins s σ H Q I h
 refine UnaryOp_ (Ak (ha pins s σ H _ I h) fun v s1 zz=>?_)
 obtain⟨x,H1,I1,r1,q1⟩:=zz
 exact ho pins s1 σ H1 x v Q I1 r1 q1
theorem Iq {f:Value->Value->Sem Value}{C:Int->Int->Prop}{g:Int->Int->Int}
  (rule:∀(i j:Int) (t u:Tok) (s:Shared) (Q:Value->Shared->Prop) (E:Value->Shared->Prop),C i j->Q (.int (g i j) s.toks) {s with toks:=s.toks+1}->wpAny (model X.prog X.w) X.A (f (.int i t) (.int j u)) Q E s) :
  Bw X f (rI C fun i j=>.int (g i j)):=by
 intro pins s σ H x y v u Q I rx ry h
 obtain⟨i,j,rfl,rfl,hc,q⟩:=h
 obtain⟨t,rfl⟩:=rx
 obtain⟨t',rfl⟩:=ry
 exact rule i j t t' s _ _ hc ⟨.int (g i j),H,I.tok _,⟨_,rfl⟩,q⟩
theorem NR {f:Value->Value->Sem Value}{g:Int->Int->Int}
  (rule:∀(i j:Int) (t u:Tok) (s:Shared) (Q:Value->Shared->Prop) (E:Value->Shared->Prop),Q (.int (g i j) s.toks) {s with toks:=s.toks+1}->wpAny (model X.prog X.w) X.A (f (.int i t) (.int j u)) Q E s) :
  Bw X f (EC fun i j=>.int (g i j)):=by
 intro pins s σ H x y v u Q I rx ry h
 obtain⟨i,j,rfl,rfl,q⟩:=h
 obtain⟨t,rfl⟩:=rx
 obtain⟨t',rfl⟩:=ry
 exact rule i j t t' s _ _ ⟨.int (g i j),H,I.tok _,⟨_,rfl⟩,q⟩
theorem Jd {f:Value->Value->Sem Value}{g:Int->Int->Bool}
  (rule:∀(i j:Int) (t u:Tok) (s:Shared) (Q:Value->Shared->Prop) (E:Value->Shared->Prop),Q (.bool (g i j)) s->wpAny (model X.prog X.w) X.A (f (.int i t) (.int j u)) Q E s) :
  Bw X f (EC fun i j=>.bl (g i j)):=by
 intro pins s σ H x y v u Q I rx ry h
 obtain⟨i,j,rfl,rfl,q⟩:=h
 obtain⟨t,rfl⟩:=rx
 obtain⟨t',rfl⟩:=ry
 exact rule i j t t' s _ _ ⟨.bl (g i j),H,I,rfl,q⟩
def Qa (i j:Int):Prop:=0<j/\j<1073741824
def Ui (i j:Int):Prop:=0<=j/\j<=1000000/\i.natAbs<2 ^ 64
def Lh (i j:Int):Prop:=(-(2 ^ 64)<i/\i<2 ^ 64)\/(-(2 ^ 64)<j/\j<2 ^ 64)
theorem Lh.ok {i j:Int}(h:Lh i j):IntMulOk i j:=by
 rcases h with⟨h1,h2⟩|⟨h1,h2⟩
 .exact .of_left (intBits_le_64 h1 h2)
 .exact .of_right (intBits_le_64 h1 h2)
theorem BS:Bw X (binaryOp .Add) (EC fun i j=>.int (i+j)):=NR fun _ _ _ _ _ _ _ q=>add_int q
theorem FR:Bw X (binaryOp .Sub) (EC fun i j=>.int (i-j)):=NR fun _ _ _ _ _ _ _ q=>sub_int q
theorem EU:Bw X (binaryOp .Mult) (rI Lh fun i j=>.int (i*j)):=Iq fun _ _ _ _ _ _ _ hc q=>mul_int q hc.ok
theorem Dm:Bw X (binaryOp .FloorDiv) (rI Qa fun i j=>.int (i/j)):=Iq fun i j _ _ _ _ _ hc q=>by
 have h1:(0:Int)<j:=hc.1
 have h2:j<1073741824:=hc.2
 exact floordiv_int (by omega) (by rw[Int.fdiv_eq_ediv_of_nonneg i (by omega)];exact q) (.inl (PyProof.noPylong_small (by omega)))
theorem By:Bw X (binaryOp .Mod) (rI (fun _ j=>0<j) fun i j=>.int (i%j)):=Iq fun i j _ _ _ _ _ hc q=>by
 have h1:(0:Int)<j:=hc
 exact mod_int' (by omega) (by rw[Int.fmod_eq_emod_of_nonneg i (by omega)];exact q)
theorem KY:Bw X (binaryOp .Pow) (rI Ui fun i j=>.int (i ^ j.toNat)):=Iq fun _ _ _ _ _ _ _ hc q=>pow_int_small hc.1 hc.2.1 hc.2.2 q
theorem Po {f:Value->Sem Value}{g:Int->Int}
  (rule:∀(i:Int) (t:Tok) (s:Shared) (Q:Value->Shared->Prop) (E:Value->Shared->Prop),Q (.int (g i) s.toks) {s with toks:=s.toks+1}->wpAny (model X.prog X.w) X.A (f (.int i t)) Q E s) :
  Kx X f (rU fun i=>.int (g i)):=by
 intro pins s σ H x v Q I rx h
 obtain⟨i,rfl,q⟩:=h
 obtain⟨t,rfl⟩:=rx
 exact rule i t s _ _ ⟨.int (g i),H,I.tok _,⟨_,rfl⟩,q⟩
theorem CH:Kx X (unaryOp .USub) (rU fun i=>.int (-i)):=Po fun _ _ _ _ _ q=>neg_int q
end
def MC:V->V->Bool
 |.non,.non=>true|.non,.int _=>true|.int _,.non=>true|.non,.bl _=>true|.bl _,.non=>true|.non,.str _=>true|.str _,.non=>true
 |.int _,.int _=>true|.bl _,.bl _=>true|.str _,.str _=>true|.byt _,.byt _=>true
 |.int _,.str _=>true|.str _,.int _=>true|.bl _,.str _=>true|.str _,.bl _=>true
 |_,_=>false
def N1:R2:=fun x y H Q=>MC x y=true/\Q (.bl (decide (x=y))) H
def N8:R2:=fun x y H Q=>MC x y=true/\Q (.bl (!decide (x=y))) H
theorem MN {i j:Int}:decide (V.int i=V.int j)=(i==j):=by
 rw[DJ]
 simp
theorem Nn {i j:Bool}:decide (V.bl i=V.bl j)=(i==j):=by
 rw[DJ]
 simp
theorem Mb {i j:Str}:decide (V.str i=V.str j)=(i==j):=by
 rw[DJ]
 simp
theorem M6 {i j:Array UInt8}:decide (V.byt i=V.byt j)=(i.toList==j.toList):=by
 rw[DJ]
 cases i
 cases j
 simp
section
variable {X:Cx}{a b c:Expr}{ta tb tc:TE}{pos:Pos}
theorem Bu {pins:List (Addr×Obj)}{σ:St}{H:Hp}{s:Shared}{Q:VK}{k k':Bool}(I:A1 X pins σ H s)(q:Q (.bl k) H)(e:k=k'):EP X pins σ Q (.bool k') s:=by
 subst e
 exact⟨.bl k,H,I,rfl,q⟩
theorem BC:Bw X (compareOp .Eq) N1:=by
 intro pins s σ H x y v u Q I rx ry h
 obtain⟨hs,q⟩:=h
 cases x with
 |
  non=>
  cases rx
  cases y with
  |non=>cases ry;exact PySem.EqNone.eq_none_none (Bu I q (by simp))
  |bl j=>cases ry;exact PySem.EqNone.eq_none_bool (Bu I q (by simp))
  |int j=>obtain⟨t',rfl⟩:=ry;exact PySem.EqNone.eq_none_int (Bu I q (by simp))
  |str j=>obtain⟨t',rfl⟩:=ry;exact PySem.EqNone.eq_none_str (Bu I q (by simp))
  |_=>exact absurd (show false=true from hs) BM
 |
  bl i=>
  cases rx
  cases y with
  |non=>cases ry;exact PySem.EqNone.eq_bool_none (Bu I q (by simp))
  |bl j=>cases ry;exact eq_bool (Bu I q Nn)
  |str j=>obtain⟨t',rfl⟩:=ry;exact PySem.EqMixed.eq_bool_str (Bu I q (by simp))
  |_=>exact absurd (show false=true from hs) BM
 |
  int i=>
  obtain⟨t,rfl⟩:=rx
  cases y with
  |non=>cases ry;exact PySem.EqNone.eq_int_none (Bu I q (by simp))
  |int j=>obtain⟨t',rfl⟩:=ry;exact eq_int (Bu I q MN)
  |str j=>obtain⟨t',rfl⟩:=ry;exact PySem.EqMixed.eq_int_str (Bu I q (by simp))
  |_=>exact absurd (show false=true from hs) BM
 |
  str i=>
  obtain⟨t,rfl⟩:=rx
  cases y with
  |non=>cases ry;exact PySem.EqNone.eq_str_none (Bu I q (by simp))
  |bl j=>cases ry;exact PySem.EqMixed.eq_str_bool (Bu I q (by simp))
  |int j=>obtain⟨t',rfl⟩:=ry;exact PySem.EqMixed.eq_str_int (Bu I q (by simp))
  |str j=>obtain⟨t',rfl⟩:=ry;exact eq_str (Bu I q Mb)
  |_=>exact absurd (show false=true from hs) BM
 |
  byt i=>
  obtain⟨t,rfl⟩:=rx
  cases y with
  |byt j=>obtain⟨t',rfl⟩:=ry;exact PySem.W.eq_bytes (Bu I q M6)
  |_=>exact absurd (show false=true from hs) BM
 |_=>cases y<;>exact absurd (show false=true from hs) BM
theorem DQ:Bw X (compareOp .NotEq) N8:=by
 intro pins s σ H x y v u Q I rx ry h
 obtain⟨hs,q⟩:=h
 cases x with
 |
  non=>
  cases rx
  cases y with
  |non=>cases ry;exact PySem.EqNone.ne_none_none (Bu I q (by simp))
  |bl j=>cases ry;exact PySem.EqNone.ne_none_bool (Bu I q (by simp))
  |int j=>obtain⟨t',rfl⟩:=ry;exact PySem.EqNone.ne_none_int (Bu I q (by simp))
  |str j=>obtain⟨t',rfl⟩:=ry;exact PySem.EqNone.ne_none_str (Bu I q (by simp))
  |_=>exact absurd (show false=true from hs) BM
 |
  bl i=>
  cases rx
  cases y with
  |non=>cases ry;exact PySem.EqNone.ne_bool_none (Bu I q (by simp))
  |bl j=>cases ry;exact ne_bool (Bu I q (congrArg not Nn))
  |str j=>obtain⟨t',rfl⟩:=ry;exact PySem.EqMixed.ne_bool_str (Bu I q (by simp))
  |_=>exact absurd (show false=true from hs) BM
 |
  int i=>
  obtain⟨t,rfl⟩:=rx
  cases y with
  |non=>cases ry;exact PySem.EqNone.ne_int_none (Bu I q (by simp))
  |int j=>obtain⟨t',rfl⟩:=ry;exact ne_int (Bu I q (congrArg not MN))
  |str j=>obtain⟨t',rfl⟩:=ry;exact PySem.EqMixed.ne_int_str (Bu I q (by simp))
  |_=>exact absurd (show false=true from hs) BM
 |
  str i=>
  obtain⟨t,rfl⟩:=rx
  cases y with
  |non=>cases ry;exact PySem.EqNone.ne_str_none (Bu I q (by simp))
  |bl j=>cases ry;exact PySem.EqMixed.ne_str_bool (Bu I q (by simp))
  |int j=>obtain⟨t',rfl⟩:=ry;exact PySem.EqMixed.ne_str_int (Bu I q (by simp))
  |str j=>obtain⟨t',rfl⟩:=ry;exact ne_str (Bu I q (congrArg not Mb))
  |_=>exact absurd (show false=true from hs) BM
 |
  byt i=>
  obtain⟨t,rfl⟩:=rx
  cases y with
  |byt j=>obtain⟨t',rfl⟩:=ry;exact PySem.W.ne_bytes (Bu I q (congrArg not M6))
  |_=>exact absurd (show false=true from hs) BM
 |_=>cases y<;>exact absurd (show false=true from hs) BM
theorem F0:Bw X (compareOp .Lt) (EC fun i j=>.bl (decide (i<j))):=Jd fun _ _ _ _ _ _ _ q=>lt_int q
theorem Ts:Bw X (compareOp .LtE) (EC fun i j=>.bl (decide (i<=j))):=Jd fun _ _ _ _ _ _ _ q=>le_int q
theorem EA:Bw X (compareOp .Gt) (EC fun i j=>.bl (decide (j<i))):=Jd fun _ _ _ _ _ _ _ q=>gt_int q
theorem Uz:Bw X (compareOp .GtE) (EC fun i j=>.bl (decide (j<=i))):=Jd fun _ _ _ _ _ _ _ q=>ge_int q
theorem HL:Bw X (compareOp .In) (fun x y H Q=>∃i j,x = .str i/\y = .str j/\Q (.bl (!(Builtin.Str.occurrences j i 0 j.length 1).isEmpty)) H):=by
 intro pins s σ H x y v u Q I rx ry h
 obtain⟨i,j,rfl,rfl,q⟩:=h
 obtain⟨t,rfl⟩:=rx
 obtain⟨t',rfl⟩:=ry
 exact in_str (Bu I q rfl)
theorem E1:Bw X (compareOp .Is) (fun x y H Q=>y = .non/\Q (.bl (decide (x = .non))) H):=by
 intro pins s σ H x y v u Q I rx ry h
 obtain⟨rfl,q⟩:=h
 cases ry
 refine is_none_gen (Bu I q ?_)
 cases x<;>first
  |(cases rx;rfl)
  |(obtain⟨t,rfl⟩:=rx;rfl)
theorem Kb:Bw X (compareOp .IsNot) (fun x y H Q=>y = .non/\Q (.bl (!decide (x = .non))) H):=by
 intro pins s σ H x y v u Q I rx ry h
 obtain⟨rfl,q⟩:=h
 cases ry
 refine isnot_none_gen (Bu I q ?_)
 cases x<;>first
  |(cases rx;rfl)
  |(obtain⟨t,rfl⟩:=rx;rfl)
theorem Ao (b:Expr){op:CmpOp}(h:op≠.In:=by decide)(h2:op≠.NotIn:=by decide):behindInMarks op b=false:=by
 have e1:(op==CmpOp.In)=false:=by cases op<;>first|rfl|exact absurd rfl h
 have e2:(op==CmpOp.NotIn)=false:=by cases op<;>first|rfl|exact absurd rfl h2
 cases b<;>simp[behindInMarks,e1,e2]
theorem De {op:CmpOp}{r:R2}(ho:Bw X (compareOp op) r)(ha:PE X a ta)(hb:PE X b tb)(hm:behindInMarks op b=false):PE X (.Compare a [op] [b] pos) (Eo r ta tb):=by
 intro pins s σ H Q I h
 exact wpAny_Compare1 (KZ ha hb I h fun v u s2 x y H2 I2 rx ry q=>ho pins s2 σ H2 x y v u Q I2 rx ry q) hm
def Ny (t:TE):TT:=fun σ H Q=>t σ H fun x H'=>∃k,x = .bl k/\Q k H'
theorem An {op:CmpOp}{r:R2}(ho:Bw X (compareOp op) r)(ha:PE X a ta)(hb:PE X b tb)(hm:behindInMarks op b=false):PT X (.Compare a [op] [b] pos) (Ny (Eo r ta tb)):=by
 intro pins s σ H Q I h
 refine wpAny_isTrue_Compare1 (Ak (ha pins s σ H _ I h) fun v s1 ⟨x,H1,I1,r1,q1⟩=>Ak (hb pins s1 σ H1 _ I1 q1) fun u s2 ⟨y,H2,I2,r2,q2⟩=>
  Ak (ho pins s2 σ H2 x y v u _ I2 r1 r2 q2) fun c s3 ⟨z,H3,I3,r3,k,e,q3⟩=>?_) hm
 subst e
 cases r3
 exact GT ⟨H3,I3,q3⟩
theorem FF:(sizeLine:Nat)<2 ^ 63:=by rw[F3];decide
theorem C1:Bw X (binaryOp .Add) (fun x y H Q=>∃i j,x = .str i/\y = .str j/\i.length+j.length<=sizeLine/\Q (.str (i++j)) H):=by
 intro pins s σ H x y v u Q I rx ry h
 obtain⟨i,j,rfl,rfl,hz,q⟩:=h
 obtain⟨t,rfl⟩:=rx
 obtain⟨t',rfl⟩:=ry
 exact add_str (fun t' tk=>⟨.str (i++j),H,I.tok _,⟨_,rfl⟩,q⟩) hz
theorem E4 {x:V}{us:List Value}(r:As [x] us):∃u,us=[u]/\Ay x u:=by
 cases r with
 |cons r1 r2=>cases r2;exact⟨_,rfl,r1⟩
theorem RP {x y:V}{us:List Value}(r:As [x,y] us):∃u w',us=[u,w']/\Ay x u/\Ay y w':=by
 cases r with
 |
  cons r1 r2=>
  cases r2 with
  |cons r3 r4=>cases r4;exact⟨_,_,rfl,r1,r3⟩
theorem Ol:DA X (.builtin "abs") (fun xs H Q=>∃i,xs=[.int i]/\Q (.int (if i<0 then -i else i)) H):=by
 intro pins s σ H xs us Q I r h
 obtain⟨i,rfl,q⟩:=h
 obtain⟨u,rfl,t,rfl⟩:=E4 r
 exact call_abs_int fun u tk=>⟨.int (if i<0 then -i else i),H,I.tok _,⟨_,rfl⟩,q⟩
theorem Q3 (hc:X.calm=true):DA X (.builtin "max") (fun xs H Q=>∃i j,xs=[.int i,.int j]/\Q (.int (if j>i then j else i)) H):=by
 intro pins s σ H xs us Q I r h
 obtain⟨i,j,rfl,q⟩:=h
 obtain⟨u,w',rfl,⟨t,rfl⟩,⟨t',rfl⟩⟩:=RP r
 refine max_two_ints (I.ok.hd hc) fun h' tk k=>⟨_,H,I.kept k,?_,q⟩
 by_cases hj:j>i
 .rw[Af hj,Af hj];exact⟨_,rfl⟩
 .rw[A9 hj,A9 hj];exact⟨_,rfl⟩
theorem M4:DA X (.type "int") (fun xs H Q=>(∃i,xs=[.int i]/\Q (.int i) H)\/∃k,xs=[.bl k]/\Q (.int (if k then 1 else 0)) H):=by
 intro pins s σ H xs us Q I r h
 rcases h with⟨i,rfl,q⟩|⟨k,rfl,q⟩
 .obtain⟨u,rfl,t,rfl⟩:=E4 r
  exact call_int_int ⟨.int i,H,I,⟨_,rfl⟩,q⟩
 .obtain⟨u,rfl,r1⟩:=E4 r
  cases r1
  exact call_int_bool ⟨.int (if k then 1 else 0),H,I.tok _,⟨_,rfl⟩,q⟩
theorem Iw:DA X (.type "str") (fun xs H Q=>∃i,xs=[.int i]/\i.natAbs.log2<1920/\Q (.str (toString i)) H):=by
 intro pins s σ H xs us Q I r h
 obtain⟨i,rfl,hz,q⟩:=h
 obtain⟨u,rfl,t,rfl⟩:=E4 r
 exact PySem.P.str_of_int hz ⟨.str _,H,I.tok _,⟨_,rfl⟩,q⟩
end
structure GJ (h:Heap)(x dx C:Addr)(mA:Str->Option Value):Prop where
 obj:h.get? x=some (PySem.W.instObj C dx)
 ns:h.Ns1 dx mA
 ne:dx≠x
theorem M3 {h:Heap}{dx:Addr}{mA:Str->Option Value}(n:h.Ns1 dx mA):∃od,h.get? dx=some od/\∀name,PySem.W.lookIn name od=some (mA name):=by
 obtain⟨o,es,ep,ho,hd,hk,_,hm⟩:=n
 refine⟨o,ho,fun name=>?_⟩
 have e:=hm name
 unfold nsFind findBy at e
 rw[←Array.find?_toList]at e
 unfold PySem.W.lookIn
 rw[hd]
 dsimp only
 split
 .rename_i y q
  rw[q]at e
  exact congrArg some e
 .rename_i q
  rw[q]at e
  have a:es.toList.any (·.refKey)=false:=by
   rw[List.any_eq_false]
   intro y hy
   obtain⟨z,t,hkey⟩:=hk y (Array.mem_toList_iff.mp hy)
   simp[DictEntry.refKey,hkey]
  have a':¬es.toList.any (·.refKey)=true:=by rw[a];exact BM
  rw[A9 a']
  exact congrArg some e
theorem GJ.look {h:Heap}{x dx C:Addr}{mA:Str->Option Value}(I:GJ h x dx C mA):∃od,PySem.W.InstAt h x (PySem.W.instObj C dx) C (some od)/\∀name,PySem.W.lookIn name od=some (mA name):=
 let ⟨od,ho,hl⟩:=M3 I.ns
 ⟨od,⟨I.obj,rfl,rfl,ho⟩,hl⟩
section
variable {prog:Program}{w:World}{A:Around}{E:Value->Shared->Prop}{s:Shared}{K:Xa}{x dx C f:Addr}{mA:Str->Option Value}{name:Str}{v:Value}
theorem VI {expr:Bool}{Q:Value->Shared->Prop}(X:K.In s.heap)(I:GJ s.heap x dx C mA)(hg:PySem.W.plainGet K C name=true)(hh:PySem.W.hasDictIn K C=true)
  (ha:PySem.W.findIn K (.ref C) name=some none) (hv:mA name=some v) (hv':PySem.W.handedIn v=true) (h:Q v {s with toks:=s.toks+1}) :
  wpAny (model prog w) A (getAttr (.ref x) name expr) Q E s:=by
 obtain⟨od,J,hl⟩:=I.look
 exact PySem.W.get_value X J (PySem.W.plainGet_of hg).1 (PySem.W.findObj_own hh ha rfl (by rw[hl,hv])) hv' h
theorem Ri {ns:List Str}{Q:Unit->Shared->Prop}(X:K.In s.heap)(I:GJ s.heap x dx C mA)
  (hs:PySem.W.findIn K (.ref C) "__setattr__"=some (some (.builtin "object.__setattr__"))) (hp:PySem.W.plainOver K C=true) (ht:PySem.W.takerIn K C name=some none) (hh:PySem.W.hasDictIn K C=true)
  (hw:PySem.Within mA ns) (hsz:ns.length<=sizeLine)
  (h:∀h',GJ h' x dx C (fun y=>if y=name then some v else mA y)->Heap.SameBut dx s.heap h'->Q () {s with heap:=h',toks:=s.toks+2}) :
  wpAny (model prog w) A (setAttr (.ref x) name v) Q E s:=by
 obtain⟨od,J,hl⟩:=I.look
 refine PySem.W.set_plain X J hs (PySem.W.osa_open (s:={s with toks:=s.toks+1}) (r:=none) X J hp ht fun b=>?_)
 obtain⟨cd,hc,hd'⟩:=PySem.W.any_some hh
 have hx:s.heap.get? x=some ⟨.ref C,some dx,.plain,#[]⟩:=I.obj
 refine Ah (B9 (Ah (Ah (wpAny_loadPart hx (Ah (PySem.W.Looks.here (s:={s with toks:=s.toks+1}) (PySem.W.looks_clsIn X hc) ?_))))))
 rw[hd']
 refine B9 (a:=some dx) (Ah (B9 (Ah ?_)))
 refine wpAny_nsSet1 (s:={s with toks:=s.toks+1}) I.ns fun h' hn2 hs2=>?_
 obtain⟨oD,esD,epD,hoD,hdD,hcD⟩:=hn2.count (PySem.Within.cons name v hw)
 refine Ah (wpAny_lookBehind hoD (by rw[hdD];exact pastItsLine_dict (Bz hcD (by rw[AO];omega))) ?_)
 exact B9 (h _ ⟨(hs2.2 _ (Ne.symm I.ne)).trans I.obj,hn2,I.ne⟩ hs2)
theorem T5 {R:Result->Shared->Prop}{vs:List Value}{kw:List (Str×Value)}(X:K.In s.heap)(hm:PySem.W.makesIn K C=true)
  (hi:PySem.W.findIn K (.ref C) "__init__"=some (some (.ref f))) (hf:PySem.W.typeIn K (.ref f)=some (.type "function"))
  (h:codeAny (model prog w) (A.under (.builtin "type.__call__" ⟨.ref C::vs,kw⟩)) (.call (.ref f) ⟨.ref (s.heap.objs.size+1)::vs,kw⟩) (PySem.W.InitBack (s.heap.objs.size+1) R)
   {s with heap:=(s.heap.push PySem.W.emptyDict).push (PySem.W.instObj C s.heap.objs.size)}) :
  codeAny (model prog w) A (.call (.ref C) ⟨vs,kw⟩) R s:=by
 obtain⟨hh,g,d,t,os⟩:=s
 exact PySem.W.make_core (PySem.W.makes_of X hm) (PySem.W.looks_findIn X hi) (fun self=>PySem.W.bind_fn X self hf) (.inl rfl) h
end
def Aa (f:Str)(v:V):List (Str×V)->List (Str×V)
 |[]=>[(f,v)]
 |(g,x)::r=>if g=f then(g,v)::r else(g,x)::Aa f v r
theorem MK (f g:Str)(v:V):∀fs:List (Str×V),(Aa f v fs).lookup g=if g=f then some v else fs.lookup g
 |
  []=>by
  show List.lookup g [(f,v)]=_
  by_cases h:g=f
  .have hb:(g==f)=true:=D3.mpr h
   simp only[List.lookup,hb,Af h]
  .have hb:(g==f)=false:=G5.mpr h
   simp only[List.lookup,hb,A9 h]
 |
  (k,x)::r=>by
  have ih:=MK f g v r
  rw[show Aa f v ((k,x)::r)=(if k=f then(k,v)::r else(k,x)::Aa f v r) from rfl]
  by_cases hk:k=f
  .rw[Af hk]
   by_cases h:g=k
   .have hb:(g==k)=true:=D3.mpr h
    simp only[List.lookup,hb,Af (h.trans hk)]
   .have hb:(g==k)=false:=G5.mpr h
    simp only[List.lookup,hb,A9 (fun e:g=f=>h (e.trans hk.symm))]
  .rw[A9 hk]
   by_cases h:g=k
   .have hb:(g==k)=true:=D3.mpr h
    simp only[List.lookup,hb,A9 (fun e:g=f=>hk (h.symm.trans e))]
   .have hb:(g==k)=false:=G5.mpr h
    simp only[List.lookup,hb]
    exact ih
theorem Lj (f:Str)(v:V):∀fs:List (Str×V),f∈(Aa f v fs).map (·.1)/\∀g,g∈fs.map (·.1)->g∈(Aa f v fs).map (·.1)
 |[]=>⟨by simp[Aa],fun g h=>by simp at h⟩
 |
  (k,x)::r=>by
  obtain⟨i1,i2⟩:=Lj f v r
  rw[show Aa f v ((k,x)::r)=(if k=f then(k,v)::r else(k,x)::Aa f v r) from rfl]
  by_cases hk:k=f
  .rw[Af hk]
   subst hk
   exact⟨by simp,fun g h=>by simpa using h⟩
  .rw[A9 hk]
   refine⟨?_,fun g h=>?_⟩
   .rw[C8]
    exact Bm _ i1
   .rw[C8]at h ⊢
    rcases AH.mp h with e|e
    .exact AH.mpr (.inl e)
    .exact Bm _ (i2 g e)
theorem Nj (f:Str)(v:V):∀fs:List (Str×V),(Aa f v fs).length<=fs.length+1
 |[]=>by simp[Aa]
 |
  (k,x)::r=>by
  have ih:=Nj f v r
  rw[show Aa f v ((k,x)::r)=(if k=f then(k,v)::r else(k,x)::Aa f v r) from rfl]
  by_cases hk:k=f
  .rw[Af hk,AO,AO];omega
  .rw[A9 hk,AO,AO];omega
theorem El.some_of {v:V}{o:Option Value}(r:El (some v) o):∃u,o=some u/\Ay v u:=by
 cases o with
 |none=>exact(show False from r).elim
 |some u=>exact⟨u,rfl,r⟩
theorem NF {v:V}{u:Value}(r:Ay v u):PySem.W.handedIn u=true:=by
 cases v with
 |non=>cases (show u=Value.none from r);rfl
 |bl b=>cases (show u=Value.bool b from r);rfl
 |int i=>obtain⟨t,e⟩:=(show ∃t,u=Value.int i t from r);cases e;rfl
 |str x=>obtain⟨t,e⟩:=(show ∃t,u=Value.str x t from r);cases e;rfl
 |byt b=>obtain⟨t,e⟩:=(show ∃t,u=Value.bytes b t from r);cases e;rfl
 |flt b=>obtain⟨t,e⟩:=(show ∃t,u=Value.float b t from r);cases e;rfl
 |ref a=>cases (show u=Value.ref a from r);rfl
 |ty n=>cases (show u=Value.type n from r);rfl
section
variable {P:Program}{w:World}{H H':Hp}{h h':Heap}{a C dx:Addr}{fs fs':List (Str×V)}
theorem L9 (hok:Bf P w H h)(e:H a=some (.ins C dx fs)):∃mA,GJ h a dx C mA/\(∀f,El (fs.lookup f) (mA f))/\PySem.Within mA (fs.map (·.1))/\fs.length<=1000/\H dx=some (.own a):=by
 obtain⟨d,z,ne,ob,mA,n,r,q⟩:=(show Bp P w H h a (.ins C dx fs) from hok a _ e)
 exact⟨mA,⟨ob,n,ne⟩,r,q,z,d⟩
end
structure D8 (K:Xa)(C:Addr):Prop where
 pg:PySem.W.plainGet K C Str.empty=true
 hd:PySem.W.hasDictIn K C=true
 po:PySem.W.plainOver K C=true
 sa:PySem.W.findIn K (.ref C) "__setattr__"=some (some (.builtin "object.__setattr__"))
theorem D8.get {K:Xa}{C:Addr}(c:D8 K C)(f:Str):PySem.W.plainGet K C f=true:=c.pg
def Bx (K:Xa)(C:Addr)(f:Str):Prop:=PySem.W.findIn K (.ref C) f=some none
theorem Bx.taker {K:Xa}{C:Addr}{f:Str}(n:Bx K C f):PySem.W.takerIn K C f=some none:=by
 unfold PySem.W.takerIn
 rw[show PySem.W.findIn K (.ref C) f=some none from n]
 rfl
section
variable {X:Cx}{pins:List (Addr×Obj)}{σ:St}{H:Hp}{s:Shared}{a C dx:Addr}{fs:List (Str×V)}{f:Str}{v:V}{A:Around}{E:Value->Shared->Prop}
theorem RE {b:Bool}{Q:Value->Shared->Prop}(I:A1 X pins σ H s)(e:H a=some (.ins C dx fs))(c:D8 X.K C)(n:Bx X.K C f)(l:fs.lookup f=some v)
  (h:∀u s',A1 X pins σ H s'->Ay v u->Q u s'):wpAny (model X.prog X.w) A (getAttr (.ref a) f b) Q E s:=by
 obtain⟨mA,O,r,_,_,_⟩:=L9 I.hok e
 obtain⟨u,hu,ru⟩:=El.some_of (v:=v) (o:=mA f) (by rw[←l];exact r f)
 exact VI I.kIn O (c.get f) c.hd n hu (NF ru) (h u _ (I.tok _) ru)
theorem Vu {y:V}{u:Value}{Q:Unit->Shared->Prop}(I:A1 X pins σ H s)(e:H a=some (.ins C dx fs))(c:D8 X.K C)(n:Bx X.K C f)(hl:fs.length<1000)(ry:Ay y u)
  (h:∀s',A1 X pins σ (upd H a (.ins C dx (Aa f y fs))) s'->Q () s'):wpAny (model X.prog X.w) A (setAttr (.ref a) f u) Q E s:=by
 obtain⟨mA,O,r,wi,_,ho⟩:=L9 I.hok e
 have hz:(fs.map (·.1)).length<=sizeLine:=by rw[Aq,F3];omega
 refine Ri I.kIn O c.sa c.po n.taker c.hd wi hz fun h' O' sb=>h _ ?_
 have hd:∃o,h'.get? dx=some o:=by obtain⟨o,_,_,e',_⟩:=O'.ns;exact⟨o,e'⟩
 refine I.write (x:=a) (e:=dx) (by rw[e];exact True.intro) (.inr ho) (fun b q hb z=>(sb.2 b hb).trans z) hd ?_
 refine⟨by rw[A7 O.ne];exact ho,?_,O.ne,O'.obj,_,O'.ns,fun g=>?_,fun g hg=>?_⟩
 .have:=Nj f y fs;omega
 .show El ((Aa f y fs).lookup g) (if g=f then some u else mA g)
  rw[MK]
  by_cases q:g=f
  .rw[Af q,Af q];exact ry
  .rw[A9 q,A9 q];exact r g
 .by_cases q:g=f
  .rw[q];exact(Lj f y fs).1
  .refine(Lj f y fs).2 g (wi g fun z=>hg ?_)
   show(if g=f then some u else mA g)=none
   rw[A9 q];exact z
theorem A1.made (I:A1 X pins σ H s):A1 X pins σ (upd (upd H s.heap.objs.size (.own (s.heap.objs.size+1))) (s.heap.objs.size+1) (.ins C s.heap.objs.size []))
  {s with heap:=(s.heap.push PySem.W.emptyDict).push (PySem.W.instObj C s.heap.objs.size)}:=by
 have e1:(s.heap.push PySem.W.emptyDict).get? s.heap.objs.size=some PySem.W.emptyDict:=CB s.heap rfl
 have e2:((s.heap.push PySem.W.emptyDict).push (PySem.W.instObj C s.heap.objs.size)).get? (s.heap.objs.size+1)=some (PySem.W.instObj C s.heap.objs.size):=by
  have:=CB (s.heap.push PySem.W.emptyDict) (o:=PySem.W.instObj C s.heap.objs.size) rfl
  rwa [HM]at this
 have e3:(s.heap.push PySem.W.emptyDict).Ns s.heap.objs.size (fun _=>none):=⟨PySem.W.emptyDict,#[],_,e1,rfl,(fun e he=>absurd he (by simp)),fun _=>rfl⟩
 have I1:=I.laid (a:=s.heap.objs.size) (o:=.own (s.heap.objs.size+1)) (h':=s.heap.push PySem.W.emptyDict) (t':=s.toks) (fun b u q=>Bc _ q) (Ai _) ⟨_,e1⟩
 refine I1.laid (a:=s.heap.objs.size+1) (o:=.ins C s.heap.objs.size []) (t':=s.toks) (fun b u q=>Bc _ q) (Nat.le_of_eq (HM _ _)) ?_
 have ne:s.heap.objs.size≠s.heap.objs.size+1:=BL (JQ _)
 refine⟨by rw[A7 ne,A5],C0 _,ne,e2,fun _=>none,(Heap.Ns1.of_empty e3).at fun o q=>Bc _ q,fun _=>True.intro,fun y hy=>absurd rfl hy⟩
theorem Oc {prog:Program}{w:World}{env:Env}{e:Expr}{f:Str}{pos:Pos}{s:Shared}{Q:Value->Shared->Prop}(hb:attributeBase e f env (eval e env)=eval e env)
  (h:wpAny (model prog w) A (eval e env) (fun o s₁=>wpAny (model prog w) A (getAttr o f true) Q E s₁) E s):wpAny (model prog w) A (eval (.Attribute e f pos) env) Q E s:=
 Attribute_any_ h (by rw[arm_eval_Attribute,hb])
end
def NS (K:Xa)(ta:TE)(f:Str):TE:=fun σ H Q=>ta σ H fun x H1=>∃a C dx fs v,x = .ref a/\H1 a=some (.ins C dx fs)/\D8 K C/\Bx K C f/\fs.lookup f=some v/\Q v H1
def P6 (K:Xa)(ta tv:TE)(f:Str):TS:=fun D σ H=>tv σ H fun y H1=>ta σ H1 fun x H2=>∃a C dx fs,x = .ref a/\H2 a=some (.ins C dx fs)/\D8 K C/\Bx K C f/\fs.length<1000/\
 D.nx σ (upd H2 a (.ins C dx (Aa f y fs)))
section
variable {X:Cx}{o e value:Expr}{f:Str}{pos pos' tpos:Pos}{ta tv:TE}
theorem Bj (he:PE X e ta)(hb:attributeBase e f X.env (eval e X.env)=eval e X.env):PE X (.Attribute e f pos) (NS X.K ta f):=by
 intro pins s σ H Q I h
 refine Oc hb (Ak (he pins s σ H _ I h) fun u s1 zz=>?_)
 obtain⟨x,H1,I1,rx,a,C,dx,fs,v,ex,ea,c,n,l,q⟩:=zz
 subst ex
 obtain rfl:u=Value.ref a:=rx
 exact RE I1 ea c n l fun u' s2 I2 ru=>⟨v,H1,I2,ru,q⟩
theorem BZ (ha:PE X o ta)(hv:PE X value tv)(hs:swapsWith value (some (.Attribute o f pos')) pos.line X.env=pure false):PS X (.Assign [.Attribute o f pos'] value pos) (P6 X.K ta tv f):=by
 intro pins s σ H D I h
 refine VU (Ak (hv pins s σ H _ I h) fun u s1 zz=>?_) hs
 obtain⟨y,H1,I1,ry,q⟩:=zz
 refine Ak (ha pins s1 σ H1 _ I1 q) fun ov s2 zz=>?_
 obtain⟨x,H2,I2,rx,a,C,dx,fs,ex,ea,c,n,l,q2⟩:=zz
 subst ex
 obtain rfl:ov=Value.ref a:=rx
 exact Vu I2 ea c n l ry fun s3 I3=>⟨σ,_,I3,q2⟩
end
section
variable {X:Cx}{pins:List (Addr×Obj)}{σ:St}{H:Hp}{s:Shared}{A:Around}{E:Value->Shared->Prop}{Q:Value->Shared->Prop}{c:Value}{b:Bool}
inductive Co (K:Xa)(H:Hp):V->Value->Prop where
 |non:Co K H .non (.type "NoneType")
 |bl (x:Bool):Co K H (.bl x) (.type "bool")
 |int (i:Int):Co K H (.int i) (.type "int")
 |str (x:Str):Co K H (.str x) (.type "str")
 |flt (x:UInt64):Co K H (.flt x) (.type "float")
 |lst {a:Addr} {xs:List V} (e:H a=some (.lst xs)):Co K H (.ref a) (.type "list")
 |frz {a:Addr} {o:Obj} {xs:List V} (e:H a=some (.frz o (.lst xs))):Co K H (.ref a) (.type "list")
 |tup {a:Addr} {xs:List V} (e:H a=some (.tup xs)):Co K H (.ref a) (.type "tuple")
 |dK {a:Addr} {kvs:List (B5×V)} (e:H a=some (.dK kvs)):Co K H (.ref a) (.type "dict")
 |dT {a:Addr} {kvs:List (List B5×V)} (e:H a=some (.dT kvs)):Co K H (.ref a) (.type "dict")
 |ins {a C dx:Addr} {fs:List (Str×V)} (e:H a=some (.ins C dx fs)) (cl:D8 K C) (ha:PySem.W.findIn K (.ref C) "__class__"=some (some (.builtin "object.__class__")))
  (hn:PySem.W.specialIn K (.builtin "object.__class__") "__get__"=some (some (.builtin "getset_descriptor.__get__"))) (htk:PySem.W.takesIn K (.builtin "object.__class__")=some true)
  (hm:PySem.W.mroIn K C (.type "object")=some true):Co K H (.ref a) (.ref C)
theorem RW {x:V}{u t:Value}(I:A1 X pins σ H s)(rx:Ay x u)(ty:Co X.K H x t)(e:PySem.W.kitOne X.K t c=some b)(h:∀tk,Q (.bool b) {s with toks:=tk}) :
  wpAny (model X.prog X.w) A (call (.builtin "isinstance") [u,c]) Q E s:=by
 cases ty with
 |non=>cases (show u=Value.none from rx);exact Ew PySem.W.kitx_none I.kIn True.intro e (fun z=>nomatch z) h
 |bl y=>cases (show u=Value.bool y from rx);exact Ew PySem.W.kitx_bool I.kIn True.intro e (fun z=>nomatch z) h
 |int i=>obtain⟨t,q⟩:=(show ∃t,u=Value.int i t from rx);cases q;exact Ew PySem.W.kitx_int I.kIn True.intro e (fun z=>nomatch z) h
 |str y=>obtain⟨t,q⟩:=(show ∃t,u=Value.str y t from rx);cases q;exact Ew PySem.W.kitx_str I.kIn True.intro e (fun z=>nomatch z) h
 |flt y=>obtain⟨t,q⟩:=(show ∃t,u=Value.float y t from rx);cases q;exact Ew PySem.W.kitx_float I.kIn True.intro e (fun z=>nomatch z) h
 |
  @lst a xs ea=>
  cases (show u=Value.ref a from rx)
  obtain⟨_,_,n,_,h1⟩:=(show Bp X.prog X.w H s.heap a (.lst xs) from I.hok a _ ea)
  exact Ew PySem.W.kitx_list I.kIn ⟨_,h1,rfl⟩ e (fun z=>nomatch z) h
 |
  @frz a ob xs ea=>
  cases (show u=Value.ref a from rx)
  obtain⟨_,_,_,n,_,h1⟩:=(show Bp X.prog X.w H s.heap a (.frz ob (.lst xs)) from I.hok a _ ea)
  exact Ew PySem.W.kitx_list I.kIn ⟨_,h1,rfl⟩ e (fun z=>nomatch z) h
 |
  @tup a xs ea=>
  cases (show u=Value.ref a from rx)
  obtain⟨_,_,_,p⟩:=(show Bp X.prog X.w H s.heap a (.tup xs) from I.hok a _ ea)
  obtain⟨o,h1,h2,_⟩:=p
  exact Ew PySem.W.kitx_tuple I.kIn ⟨o,h1,h2⟩ e (fun z=>nomatch z) h
 |
  @dK a kvs ea=>
  cases (show u=Value.ref a from rx)
  obtain⟨_,_,vs,_,p⟩:=(show Bp X.prog X.w H s.heap a (.dK kvs) from I.hok a _ ea)
  obtain⟨o,es,ep,h1,h2,_⟩:=p
  exact Ew PySem.W.kitx_dict I.kIn ⟨o,h1,h2.1⟩ e (fun z=>nomatch z) h
 |
  @dT a kvs ea=>
  cases (show u=Value.ref a from rx)
  obtain⟨_,_,xs,_,o,es,ep,h1,h2,_⟩:=(show Bp X.prog X.w H s.heap a (.dT kvs) from I.hok a _ ea)
  exact Ew PySem.W.kitx_dict I.kIn ⟨o,h1,h2.1⟩ e (fun z=>nomatch z) h
 |
  @ins a C dx fs ea cl ha hn htk hm=>
  cases (show u=Value.ref a from rx)
  obtain⟨mA,O,_⟩:=L9 I.hok ea
  obtain⟨od,J,_⟩:=O.look
  exact Ew (PySem.W.kitx_own (cl.get _) cl.hd ha hn htk hm) I.kIn J e (fun z=>nomatch z) h
end
structure BR (k:Nat)(A:Around):Prop where
 hd:A.handled=none
 dp:A.depth+3*k+5<recursionLimit
 un:A.units+16*k+200<cLine
 gd:A.guards=some []
theorem BR.mono {j k:Nat}{A:Around}(r:BR k A)(h:j<=k):BR j A:=⟨r.hd,by have:=r.dp;omega,by have:=r.un;omega,r.gd⟩
theorem BR.deeper {k:Nat}{A:Around}(r:BR (k+1) A)(env:Env):BR k (A.deeper env):=
 ⟨r.hd,by have:=r.dp;show A.depth+1+3*k+5<_;omega,by have:=r.un;show A.units+3+16*k+200<_;omega,r.gd⟩
theorem PD {A:Around}{C:Addr}{us:List Value}{kw:List (Str×Value)}:(A.under (.builtin "type.__call__" ⟨.ref C::us,kw⟩)).depth=A.depth+1:=by
 first|rfl|simp[Around.under,Code.weight,Code.isCreation,Code.isGuard,Code.isCaller,Code.frames,Code.isFrame,guardIds]
theorem Ue {A:Around}{C:Addr}{us:List Value}{kw:List (Str×Value)}:(A.under (.builtin "type.__call__" ⟨.ref C::us,kw⟩)).units=A.units+1:=by
 first|rfl|simp[Around.under,Code.cUnits,Code.frames,Code.isFrame]
theorem Pu {A:Around}{C:Addr}{us:List Value}{kw:List (Str×Value)}:(A.under (.builtin "type.__call__" ⟨.ref C::us,kw⟩)).guards=A.guards:=by
 have:Code.guards (.builtin "type.__call__" ⟨.ref C::us,kw⟩)=[]:=by first|rfl|simp[Code.guards,Code.isGuard,guardIds]
 show pushGuards (Code.guards (.builtin "type.__call__" ⟨.ref C::us,kw⟩)) A.guards=A.guards
 rw[this]
 cases A.guards<;>rfl
theorem BR.make {k:Nat}{A:Around}(r:BR (k+1) A)(C:Addr)(us:List Value)(kw:List (Str×Value)):BR k (A.under (.builtin "type.__call__" ⟨.ref C::us,kw⟩)):=
 ⟨r.hd,by have:=r.dp;rw[PD];omega,by have:=r.un;rw[Ue];omega,by rw[Pu];exact r.gd⟩
theorem BR.depth {k:Nat}{A:Around}(r:BR k A):A.depth<recursionLimit:=by have:=r.dp;omega
def FG:TA:=fun _ H Q=>Q [] H
def Gs (ta:TE)(tr:TA):TA:=fun σ H Q=>ta σ H fun x H1=>tr σ H1 fun xs H2=>Q (x::xs) H2
section
variable {X:Cx}{e:Expr}{es:List Expr}{te:TE}{t:TA}{pos:Pos}
theorem A4:PA X [] FG:=fun _ _ _ _ H Q I h=>Calls.spliced_nil ⟨[],H,I,.nil,h⟩
theorem A0 (ha:PE X e te)(hr:PA X es t)(hs:starEach (e::es) X.env=(false,eval e X.env)::starEach es X.env:=by rfl):PA X (e::es) (Gs te t):=by
 intro pos pins s σ H Q I h
 rw[hs]
 show wpAny _ _ (spliced ((false,eval e X.env)::backTo pos (starEach es X.env))) _ _ s
 refine Calls.spliced_cons (Ak (ha pins s σ H _ I h) fun u s1 zz=>?_)
 obtain⟨x,H1,I1,r1,q1⟩:=zz
 refine Ak (hr pos pins s1 σ H1 _ I1 q1) fun us s2 zz=>?_
 obtain⟨xs,H2,I2,r2,q2⟩:=zz
 exact⟨x::xs,H2,I2,.cons r1 r2,q2⟩
def Ng (t:TA):TE:=fun σ H Q=>t σ H fun xs H1=>xs.length<=sizeLine/\∀p,H1 p=none->Q (.ref p) (upd H1 p (.tup xs))
def KB (t:TA):TE:=fun σ H Q=>t σ H fun xs H1=>xs.length<=sizeLine/\∀p,H1 p=none->Q (.ref p) (upd H1 p (.lst xs))
theorem CJ {x1}(h:PA X es t):PE X (.Tuple es x1 pos) (Ng t):=by
 intro pins s σ H Q I hq
 refine wpAny_Tuple_spliced (Ak (h pos pins s σ H _ I hq) fun us s1 zz=>?_)
 obtain⟨xs,H1,I1,r,z,q⟩:=zz
 refine⟨by rw[←r.length];exact z,?_⟩
 have hf:H1 s1.heap.objs.size=none:=I1.hok.fresh (Ai _)
 refine⟨.ref s1.heap.objs.size,upd H1 s1.heap.objs.size (.tup xs),I1.laid (t':=s1.toks) (fun b u e=>Bc _ e) (Ai _) ?_,rfl,q _ hf⟩
 exact⟨z,us,r,⟨_,CB _ rfl,rfl,⟨_,rfl⟩,rfl⟩⟩
theorem Bl (h:PA X es t):PE X (.List es pos) (KB t):=by
 intro pins s σ H Q I hq
 refine wpAny_List_spliced (Ak (h pos pins s σ H _ I hq) fun us s1 zz=>?_)
 obtain⟨xs,H1,I1,r,z,q⟩:=zz
 refine⟨by rw[←r.length];exact z,?_⟩
 have hf:H1 s1.heap.objs.size=none:=I1.hok.fresh (Ai _)
 refine⟨.ref s1.heap.objs.size,upd H1 s1.heap.objs.size (.lst xs),I1.laid (t':=s1.toks) (fun b u e=>Bc _ e) (Ai _) ?_,rfl,q _ hf⟩
 exact⟨z,us,0,r,CB _ rfl⟩
end
abbrev Sp:=List V->Hp->VK->XK->Prop
abbrev Dx:=List Env->Hp->Shared->XK->Value->Shared->Prop
structure FS (P:Program)(w:World)(K:Xa)(mg:Str->Option Value)(base:Heap)(A:Around)(outer:List Env)(s:Shared)(H:Hp):Prop where
 frames:A.frames=some outer
 mod:Mod K mg base
 bs:∀b o,base.get? b=some o->s.heap.get? b=some o/\H b=none
 bsz:base.objs.size<=s.heap.objs.size
 funs:s.heap.FunFrames base outer
 frf:∀b∈Dd outer,H b=none
 hok:Bf P w H s.heap
 bare:AllBare s.gens
def CE (outer:List Env)(P:Program)(w:World)(H:Hp)(s:Shared)(Q:VK)(u:Value)(s':Shared):Prop:=
 ∃v H',s'.os=s.os/\AllBare s'.gens/\Un (Dd outer) [] H H' s.heap s'.heap/\Bf P w H' s'.heap/\Ay v u/\Q v H'
def CR (CX:Dx)(outer:List Env)(P:Program)(w:World)(H:Hp)(s:Shared)(Q:VK)(E:XK)(r:Result)(s':Shared):Prop:=
 match r with
 |.ok (.ret u)=>CE outer P w H s Q u s'
 |.ok _=>False
 |.error e=>CX outer H s E e s'
structure AJ (P:Program)(w:World)(K:Xa)(mg:Str->Option Value)(base:Heap)(CX:Dx)(k:Nat)(f:Addr)(fd:FuncData)(ps:List Str)(sp:Sp):Prop where
 len:∀vs H Q E,sp vs H Q E->vs.length=ps.length
 run:∀(A:Around) (outer:List Env) (s:Shared) (H:Hp) (args:Args) (us:List Value) (vs:List V) (Q:VK) (E:XK),BR k A->FS P w K mg base A outer s H->BindsTo s fd args (ps.zip us)->As vs us->sp vs H Q E->
  codeAny (model P w) A (.call (.ref f) args) (CR CX outer P w H s Q E) s
theorem FS.make {P:Program}{w:World}{K:Xa}{mg:Str->Option Value}{base:Heap}{A:Around}{outer:List Env}{s:Shared}{H:Hp}(e:FS P w K mg base A outer s H)(C:Addr)(us:List Value)(kw:List (Str×Value)) :
 FS P w K mg base (A.under (.builtin "type.__call__" ⟨.ref C::us,kw⟩)) outer s H:=⟨by first|exact e.frames|(simpa[Around.under,Code.envs,Code.isFrame,pushEnvs] using e.frames),e.mod,e.bs,e.bsz,e.funs,e.frf,e.hok,e.bare⟩
section
variable {X:Cx}{pins:List (Addr×Obj)}{σ:St}{H:Hp}{s s':Shared}
theorem A1.env0 (I:A1 X pins σ H s):FS X.prog X.w X.K X.mg X.base X.A X.stack s H:=
 ⟨I.ok.frames,I.ok.mod,I.bs,Bz I.ok.bsz I.sz,I.stack,I.stkFree,I.hok,I.bare⟩
theorem A1.after {Q:VK}{u:Value}(I:A1 X pins σ H s)(h:CE X.stack X.prog X.w H s Q u s'):EP X pins σ Q u s':=by
 obtain⟨v,H',os,bare,un,hok,r,q⟩:=h
 obtain⟨hh,g,d,t,os'⟩:=s'
 obtain rfl:os'=s.os:=os
 exact⟨v,H',I.call (h':=hh) (g':=g) (d':=d) (t':=t) (ch:=[]) un hok bare (fun b z=>absurd z (by simp)),r,q⟩
end
def MQ (sp:Sp)(dvs:List V)(E:XK)(t:TA):TE:=fun σ H Q=>t σ H fun vs H1=>sp (vs++dvs) H1 Q E
def NX (C:Addr)(sp:Sp)(dvs:List V)(E:XK)(t:TA):TE:=fun σ H Q=>t σ H fun vs H1=>∀x dx,H1 x=none->H1 dx=none->dx≠x->
 sp (.ref x::(vs++dvs)) (upd (upd H1 dx (.own x)) x (.ins C dx [])) (fun v H2=>v = .non/\Q (.ref x) H2) E
def AL (K:Xa)(fd:FuncData)(ps:List Str)(ds:List Value):Prop:=
 ∀(s:Shared) (us:List Value),K.In s.heap->(us++ds).length=ps.length->BindsTo s fd ⟨us,[]⟩ (ps.zip (us++ds))
theorem AL.all {K:Xa}{fd:FuncData}{ps:List Str}(h:∀us:List Value,us.length=ps.length->bindArgs fd ⟨us,[]⟩=pure (ps.zip us)):AL K fd ps []:=fun s us _ hl=>by
 rw[DU]at hl ⊢
 exact .of_eq (h us hl)
def Ff (CX:Dx)(X:Cx)(E:XK):Prop := ∀(pins:List (Addr×Obj)) (σ:St) (H:Hp) (s:Shared) (e:Value) (s':Shared),A1 X pins σ H s->CX X.stack H s E e s'->X.xe e s'
section
variable {X:Cx}{CX:Dx}{k:Nat}{f C:Addr}{fd:FuncData}{ps:List Str}{sp:Sp}{dvs:List V}{ds:List Value}{E:XK}{x m:Str}{p pos apos:Pos}{e o:Expr}{es:List Expr}{ta:TE}{t:TA}
theorem LY {pins:List (Addr×Obj)}{σ:St}{H:Hp}{s:Shared}{Q:VK}{us:List Value}{vs:List V}(F:AJ X.prog X.w X.K X.mg X.base CX k f fd ps sp)(hr:BR k X.A)(hb:AL X.K fd ps ds)(hd:As dvs ds)(hx:Ff CX X E)
  (I:A1 X pins σ H s) (r:As vs us) (h:sp (vs++dvs) H Q E):wpAny (model X.prog X.w) X.A (call (.ref f) us) (EP X pins σ Q) X.xe s:=by
 have r2:As (vs++dvs) (us++ds):=r.append hd
 have hl:(us++ds).length=ps.length:=by rw[←r2.length];exact F.len _ _ _ _ h
 refine Fp (Fq (F.run X.A X.stack s H ⟨us,[]⟩ (us++ds) (vs++dvs) Q E hr I.env0 (hb s us I.kIn hl) r2 h) fun r s' hq=>?_)
 cases r with
 |error e=>exact hx pins σ H s e s' I hq
 |
  ok fl=>
  cases fl with
  |ret u=>exact I.after hq
  |next=>exact False.elim hq
  |brk=>exact False.elim hq
  |cont=>exact False.elim hq
theorem AC (F:AJ X.prog X.w X.K X.mg X.base CX k f fd ps sp)(hr:BR k X.A)(hg:Gl X x)(hm:X.mg x=some (.ref f))(hk:PySem.W.keepIn X.K (.ref f)=true)(hb:AL X.K fd ps ds)(hd:As dvs ds)(hx:Ff CX X E)
  (ha:PA X (e::es) t) (hdb:(x==("__debug__":Str))=false:=by decide) (he:starEach (e::es) X.env=(false,eval e X.env)::starEach es X.env:=by rfl) (hpl:(backTo pos (starEach es X.env)).any (·.1)=false:=by rfl) :
  PE X (.Call (.Name x p) (e::es) [] pos) (MQ sp dvs E t):=by
 intro pins s σ H Q I h
 refine Fs (EB I hg hm ?_ hdb)
 refine JR (h₀:=X.base) I.ok.mod.kin hk (Ak (ha pos pins s σ H _ I h) fun us s1 zz=>?_) he hpl
 obtain⟨vs,H1,I1,r,q⟩:=zz
 refine⟨I1.kIn,?_⟩
 exact LY F hr hb hd hx I1 r q
structure Mk (K:Xa)(C f:Addr):Prop where
 makes:PySem.W.makesIn K C=true
 init:PySem.W.findIn K (.ref C) "__init__"=some (some (.ref f))
 fn:PySem.W.isFn K (.ref f)=true
 kp:PySem.W.keepIn K (.ref C)=true
theorem Nl {pins:List (Addr×Obj)}{σ:St}{H:Hp}{s:Shared}{Q:VK}{us:List Value}{vs:List V}(M:Mk X.K C f)(F:AJ X.prog X.w X.K X.mg X.base CX k f fd ps sp)(hr:BR (k+1) X.A)(hb:AL X.K fd ps ds)(hd:As dvs ds)
  (hx:Ff CX X E) (I:A1 X pins σ H s) (r:As vs us)
  (h:∀x dx,H x=none->H dx=none->dx≠x->sp (.ref x::(vs++dvs)) (upd (upd H dx (.own x)) x (.ins C dx [])) (fun v H2=>v = .non/\Q (.ref x) H2) E) :
  wpAny (model X.prog X.w) X.A (call (.ref C) us) (EP X pins σ Q) X.xe s:=by
 have hq:=h (s.heap.objs.size+1) s.heap.objs.size (I.hok.fresh (GK _)) (I.hok.fresh (Ai _)) (BL (JQ _))
 have I2:=A1.made (C:=C) I
 have r2:As (V.ref (s.heap.objs.size+1)::(vs++dvs)) (Value.ref (s.heap.objs.size+1)::(us++ds)):=.cons rfl (r.append hd)
 have hl:(Value.ref (s.heap.objs.size+1)::us++ds).length=ps.length:=by
  have e:=r2.length
  rw[F.len _ _ _ _ hq]at e
  exact e.symm
 refine Fp (T5 (f:=f) I.kIn M.makes M.init (D3.mp M.fn) (Fq (F.run _ X.stack _ _ ⟨Value.ref (s.heap.objs.size+1)::us,[]⟩ (Value.ref (s.heap.objs.size+1)::(us++ds)) _ _ E (hr.make C us [])
  (I2.env0.make C us []) (hb _ (Value.ref (s.heap.objs.size+1)::us) I2.kIn hl) r2 hq) fun r s' hq'=>?_))
 cases r with
 |error e=>exact hx pins σ _ _ e s' I2 hq'
 |
  ok fl=>
  cases fl with
  |
   ret u=>
   obtain⟨v,H',I3,rv,ev,q3⟩:=I2.after hq'
   subst ev
   exact⟨rv,⟨V.ref (s.heap.objs.size+1),H',I3,rfl,q3⟩⟩
  |next=>exact False.elim hq'
  |brk=>exact False.elim hq'
  |cont=>exact False.elim hq'
theorem Gn (M:Mk X.K C f)(F:AJ X.prog X.w X.K X.mg X.base CX k f fd ps sp)(hr:BR (k+1) X.A)(hg:Gl X x)(hm:X.mg x=some (.ref C))(hb:AL X.K fd ps ds)(hd:As dvs ds)(hx:Ff CX X E)
  (ha:PA X (e::es) t) (hdb:(x==("__debug__":Str))=false:=by decide) (he:starEach (e::es) X.env=(false,eval e X.env)::starEach es X.env:=by rfl) (hpl:(backTo pos (starEach es X.env)).any (·.1)=false:=by rfl) :
  PE X (.Call (.Name x p) (e::es) [] pos) (NX C sp dvs E t):=by
 intro pins s σ H Q I h
 refine Fs (EB I hg hm ?_ hdb)
 refine JR (h₀:=X.base) I.ok.mod.kin M.kp (Ak (ha pos pins s σ H _ I h) fun us s1 zz=>?_) he hpl
 obtain⟨vs,H1,I1,r,q⟩:=zz
 refine⟨I1.kIn,?_⟩
 exact Nl M F hr hb hd hx I1 r q
theorem RS (M:Mk X.K C f)(F:AJ X.prog X.w X.K X.mg X.base CX k f fd ps sp)(hr:BR (k+1) X.A)(hg:Gl X x)(hm:X.mg x=some (.ref C))(hb:AL X.K fd ps ds)(hd:As dvs ds)(hx:Ff CX X E)
  (hdb:(x==("__debug__":Str))=false:=by decide):PE X (.Call (.Name x p) [] [] pos) (NX C sp dvs E FG):=by
 intro pins s σ H Q I h
 refine Fs (EB I hg hm ?_ hdb)
 exact PySem.W.callWith_K0 I.kIn M.kp (Nl (us:=[]) M F hr hb hd hx I .nil h)
end
section
variable {X:Cx}{CX:Dx}{k:Nat}{f C:Addr}{fd:FuncData}{ps ks:List Str}{sp:Sp}{E:XK}{x m:Str}{p pos apos kpos:Pos}{e o:Expr}{es:List Expr}{kws:List Keyword}{te ta:TE}{t tk:TA}{nm:Option Str}
variable {g:List Value->List Value->List Value}{gV:List V->List V->List V}
end
structure AQ (N P:List Str)(sc:Scope):Prop where
 kind:sc.kind = .function
 co:sc.isCoroutine=false
 gen:sc.isGenerator=false
 nd:N.Nodup
 pre:N.take P.length=P
 par:∀x∈P,sc.names.lookup x=some .local\/sc.names.lookup x=some .cell
 nofree:∀y∈sc.names,y.2≠.free
theorem Mj {kindOf:Str->Option NameKind}{x:Str}:∀{binds:List (Str×Value)} {m:Str->Option Value},(∀v,(x,v)∉binds)->bindL kindOf binds m x=m x
 |[],_,_=>rfl
 |
  (n,v)::r,m,h=>by
  unfold bindL
  rw[Mj fun w hw=>h w (Bm _ hw)]
  split
  .have:x≠n:=by rintro rfl;exact h v AR
   simp[this]
  .rfl
theorem Ms {kindOf:Str->Option NameKind}{x:Str}:∀{binds:List (Str×Value)} {m:Str->Option Value},(∀v,(x,v)∉binds)->bindC kindOf binds m x=m x
 |[],_,_=>rfl
 |
  (n,v)::r,m,h=>by
  unfold bindC
  rw[Ms fun w hw=>h w (Bm _ hw)]
  split
  .rfl
  .have:x≠n:=by rintro rfl;exact h v AR
   simp[this]
theorem NT {kindOf:Str->Option NameKind}{x:Str}{v:Value}:∀{P:List Str} {vs:List Value} {i:Nat} {m:Str->Option Value},P.Nodup->P[i]?=some x->vs[i]?=some v->kindOf x=some .local->
  bindL kindOf (P.zip vs) m x=some v
 |[],_,_,_,_,h,_,_=>by simp at h
 |_::_,[],_,_,_,_,h,_=>by simp at h
 |
  p::P,w::vs,0,m,nd,h1,h2,hk=>by
  simp at h1 h2;subst h1;subst h2
  show bindL kindOf ((p,w)::P.zip vs) m p=_
  unfold bindL
  rw[Mj fun v hv=>(FY.mp nd).1 (OA hv).1,Af hk]
  simp
 |
  p::P,w::vs,i+1,m,nd,h1,h2,hk=>by
  show bindL kindOf ((p,w)::P.zip vs) m x=_
  unfold bindL
  exact NT (i:=i) (FY.mp nd).2 (by simpa using h1) (by simpa using h2) hk
theorem MY {kindOf:Str->Option NameKind}{x:Str}{v:Value}:∀{P:List Str} {vs:List Value} {i:Nat} {m:Str->Option Value},P.Nodup->P[i]?=some x->vs[i]?=some v->kindOf x≠some .local->
  bindC kindOf (P.zip vs) m x=some v
 |[],_,_,_,_,h,_,_=>by simp at h
 |_::_,[],_,_,_,_,h,_=>by simp at h
 |
  p::P,w::vs,0,m,nd,h1,h2,hk=>by
  simp at h1 h2;subst h1;subst h2
  show bindC kindOf ((p,w)::P.zip vs) m p=_
  unfold bindC
  rw[Ms fun v hv=>(FY.mp nd).1 (OA hv).1,A9 hk]
  simp
 |
  p::P,w::vs,i+1,m,nd,h1,h2,hk=>by
  show bindC kindOf ((p,w)::P.zip vs) m x=_
  unfold bindC
  exact MY (i:=i) (FY.mp nd).2 (by simpa using h1) (by simpa using h2) hk
def start (N:List Str)(vs:List V):St:=vs.map some++List.replicate (N.length-vs.length) none
def F7 (CX:Dx)(P:Program)(w:World)(K:Xa)(mg:Str->Option Value)(base:Heap)(N:List Str)(qual:Str)(scope:Scope)(f:Addr)(cd:Value)(A:Around)(outer:List Env)(s:Shared)(H:Hp)(E:XK):Cx where
 prog:=P
 w:=w
 K:=K
 mg:=mg
 base:=base
 A:=A.deeper (envOfC qual scope s.heap.objs.size f cd)
 N:=N
 s₀:=s
 H₀:=H
 env:=envOfC qual scope s.heap.objs.size f cd
 outer:=outer
 stack:=envOfC qual scope s.heap.objs.size f cd::outer
 ex:=[]
 calm:=true
 fn:=fun _=>true
 pn:=[]
 xe:=fun e s'=>wpAny (model P w) (A.deeper (envOfC qual scope s.heap.objs.size f cd)) (leaving (envOfC qual scope s.heap.objs.size f cd) e) (fun _ s''=>CX outer H s E e s'') (fun e' s''=>CX outer H s E e' s'') s'
theorem Nb {sc:Scope}{n:Nat}{x:Str}(h:sc.names.lookup x=some .cell):∃c,(cellsFrom n sc.names []).lookup x=some c:=by
 have q:=PySem.W.cellsFrom_some sc.names n [] (.inl h)
 exact Option.isSome_iff_exists.mp q
theorem RL {CX:Dx}{P:Program}{w:World}{K:Xa}{mg:Str->Option Value}{base:Heap}{N ps:List Str}{qual:Str}{scope:Scope}{f:Addr}{cd:Value}{A:Around}{outer:List Env}{s s1:Shared}{H:Hp}{E:XK}{us:List Value}{vs:List V}
  (S:AQ N ps scope) (hd:A.handled=none) (e0:FS P w K mg base A outer s H) (hl:vs.length=ps.length) (r:As vs us)
  (x:InCallC s s.heap.objs.size (bindL (envOfC qual scope s.heap.objs.size f cd).kindOf (ps.zip us) fun _=>none) (cellsFrom (s.heap.objs.size+1) scope.names []) (bindC (envOfC qual scope s.heap.objs.size f cd).kindOf (ps.zip us) fun _=>none) s1) :
  A1 (F7 CX P w K mg base N qual scope f cd A outer s H E) [] (start N vs) H s1:=by
 have hpl:ps.length<=N.length:=by have:=congrArg List.length S.pre;rw[BA]at this;omega
 obtain⟨h1,tk,rfl,hk⟩:=x.done
 have noA:∀b:Addr,b∉(F7 CX P w K mg base N qual scope f cd A outer s H E).ex:=fun b z=>absurd (show b∈([]:List Addr) from z) (by simp)
 refine⟨⟨e0.mod,S.kind,rfl,rfl,Ai _,fun y z c h1 h2=>?_,fun y hy=>?_,fun y c _ h=>?_,fun _=>hd,Around.frames_deeper e0.frames,.inr ⟨rfl,rfl⟩,fun b z=>absurd z (noA b),e0.bs,e0.bsz,fun b _ _=>noA b,fun b z=>absurd z (noA b),e0.funs,e0.frf⟩,
  rfl,e0.bare,Un.kept hk,⟨_,x.toInCall.ns,fun i y v h1 h2 h3=>?_⟩,fun y c h=>⟨_,x.cell y c h⟩,e0.hok.fresh (Ai _),fun y c h=>?_,fun p hp=>absurd (show p∈([]:List (Addr×Obj)) from hp) (by simp),e0.hok.kept hk,?_⟩
 .exact name_of_addr x.apart (JS h1) (JS h2)
 .have hy:scope.names.lookup y=some .cell\/scope.names.lookup y=some .free:=hy
  rcases hy with hy|hy
  .exact Nb hy
  .exact absurd rfl (S.nofree _ (JS hy))
 .exact FV (x.above y c (JS h))
 .have hi:i<vs.length:=by
   unfold start at h2
   by_cases hi:i<vs.length
   .exact hi
   .rw[DV (by simpa using hi)]at h2
    rw[List.getElem?_replicate]at h2
    split at h2<;>cases h2
  have ha:vs[i]?=some v:=by
   unfold start at h2
   rw[DW (by simpa using hi),CO]at h2
   cases e:vs[i]? with
   |none=>rw[e]at h2;cases h2
   |some a=>rw[e]at h2;cases h2;rfl
  obtain⟨u,hu,rv⟩:=r.get ha
  have hp:ps[i]?=some y:=by
   rw[←S.pre,List.getElem?_take_of_lt (by omega)];exact h1
  have ndP:ps.Nodup:=by rw[←S.pre];exact S.nd.sublist (List.take_sublist _ _)
  refine⟨u,rv,?_⟩
  rcases S.par y (CC hp) with k|k
  .exact .inl ⟨k,NT ndP hp hu k⟩
  .obtain⟨c,e⟩:=Nb (n:=s.heap.objs.size+1) k
   refine .inr ⟨.inl k,c,e,?_⟩
   have q:=x.cell y c e
   rw[MY ndP hp hu (by show scope.names.lookup y≠_;rw[k];decide)]at q
   exact q
 .exact e0.hok.fresh (FV (x.above y c (JS h)))
 .unfold start
  show _=N.length
  rw[Ap,Aq,List.length_replicate]
  omega
theorem MG {CX:Dx}{P:Program}{w:World}{K:Xa}{mg:Str->Option Value}{base:Heap}{k:Nat}{f:Addr}{name qual:Str}{params:Arguments}{body:List Stmt}{scope:Scope}{dV kV doc pm cdv ct oc:Value}{an od:Option Addr}
  {osl:Array (Option Value)} {N ps:List Str} {sp:Sp} (lk:K.lookup f=some ⟨oc,od,.func (PySem.W.fnOf name qual params body scope dV kV doc pm an cdv ct),osl⟩) (hcd:PySem.W.codeIn K cdv qual=true) (S:AQ N ps scope)
  (len:∀vs H Q E,sp vs H Q E->vs.length=ps.length)
  (hbody:∀(A:Around) (outer:List Env) (s:Shared) (H:Hp) (vs:List V) (Q:VK) (E:XK),BR k (A.deeper (envOfC qual scope s.heap.objs.size f cdv))->sp vs H Q E->
   ∃t,CV (F7 CX P w K mg base N qual scope f cdv A outer s H E) body t/\t {nx:=fun _ H'=>Q .non H',rt:=Q} (start N vs) H) :
  AJ P w K mg base CX (k+1) f (PySem.W.fnOf name qual params body scope dV kV doc pm an cdv ct) ps sp:=by
 refine⟨len,fun A outer s H args us vs Q E hr e0 hb r hsp=>?_⟩
 have hl:=len _ _ _ _ hsp
 have KX:K.In s.heap:=e0.mod.kin.keeps fun b o e=>(e0.bs b o e).1
 have lim:s.heap.NoLimit:=e0.mod.nolimit.keeps fun b o e=>(e0.bs b o e).1
 have hkind:∀y∈ps.zip us,scope.names.lookup y.1=some .local\/(scope.names.lookup y.1=some .cell/\((cellsFrom (s.heap.objs.size+1) scope.names []).lookup y.1).isSome=true):=fun⟨n,v⟩ hy=>by
  rcases S.par n (OA hy).1 with q|q
  .exact .inl q
  .exact .inr ⟨q,PySem.W.cellsFrom_some _ _ _ (.inl q)⟩
 refine codeAny_call_function hr.depth (KX _ _ lk) rfl S.co S.gen rfl (PySem.W.codeRec_of KX hcd) (hb _ _ _ _ ?_)
 refine wpAny_newFunctionEnv_cells S.kind hkind fun env he s1 x=>?_
 subst he
 refine⟨lim.keeps x.toInCall.keep,codeAny_func ?_⟩
 obtain⟨t,ht,hq⟩:=hbody A outer s H vs Q E (hr.deeper _) hsp
 have I:A1 (F7 CX P w K mg base N qual scope f cdv A outer s H E) [] (start N vs) H s1:=RL S hr.hd e0 hl r x
 refine Ct (ht [] s1 (start N vs) H _ I hq) (fun fl s' hs=>?_) fun e s' hs=>hs
 have fin:∀{σ':St} {H':Hp} {v:V} {u:Value},A1 (F7 CX P w K mg base N qual scope f cdv A outer s H E) [] σ' H' s'->Ay v u->Q v H'->CE outer P w H s Q u s':=
  fun{σ' H' v u} J rv q=>⟨v,H',J.os,J.bare,J.base,J.hok,rv,q⟩
 cases fl with
 |
  ret u=>
  obtain⟨v,σ',H',J,rv,q⟩:=hs
  exact fin J rv q
 |
  next=>
  obtain⟨σ',H',J,q⟩:=hs
  exact fin (v:=V.non) (u:=Value.none) J rfl q
 |
  brk=>
  obtain⟨_,_,_,q⟩:=hs
  exact False.elim q
 |
  cont=>
  obtain⟨_,_,_,q⟩:=hs
  exact False.elim q
section
variable {X:Cx}{x:Str}{p pos:Pos}{e:Expr}{es:List Expr}{t:TA}{id T:String}{r:List V->Hp->VK->Prop}
def Ih (r:List V->Hp->VK->Prop)(t:TA):TE:=fun σ H Q=>t σ H fun vs H1=>r vs H1 Q
theorem B6 (hc:DA X (.builtin id) r)(hg:Gl X x)(hm:X.mg x=none)(hv:bootBuiltins x=some (.builtin id))(ha:PA X (e::es) t)(hn:x≠"__name__":=by decide)(hdb:(x==("__debug__":Str))=false:=by decide)
  (he:starEach (e::es) X.env=(false,eval e X.env)::starEach es X.env:=by rfl) (hpl:(backTo pos (starEach es X.env)).any (·.1)=false:=by rfl):PE X (.Call (.Name x p) (e::es) [] pos) (Ih r t):=by
 intro pins s σ H Q I h
 refine Fs (HI I hg hm hv ?_ hn hdb)
 refine VR (Ak (ha pos pins s σ H _ I h) fun us s1 zz=>?_) he hpl
 obtain⟨vs,H1,I1,r1,q1⟩:=zz
 exact hc pins s1 σ H1 vs us Q I1 r1 q1
theorem Dl (hc:DA X (.type T) r)(hg:Gl X x)(hm:X.mg x=none)(hv:bootBuiltins x=some (.type T))(ha:PA X (e::es) t)(hn:x≠"__name__":=by decide)(hdb:(x==("__debug__":Str))=false:=by decide)
  (he:starEach (e::es) X.env=(false,eval e X.env)::starEach es X.env:=by rfl) (hpl:(backTo pos (starEach es X.env)).any (·.1)=false:=by rfl):PE X (.Call (.Name x p) (e::es) [] pos) (Ih r t):=by
 intro pins s σ H Q I h
 refine Fs (HI I hg hm hv ?_ hn hdb)
 refine VQ (Ak (ha pos pins s σ H _ I h) fun us s1 zz=>?_) he hpl
 obtain⟨vs,H1,I1,r1,q1⟩:=zz
 exact hc pins s1 σ H1 vs us Q I1 r1 q1
end
end L2
namespace HT
open PySem PyProof.Rows
section
open PySem.SeqAt
open PySem.AutoSeq1 (wpAny_loadPart')
open PySem.MeetsSeq PySem.MeetsSeq2 PySem.MeetsSeq3
end
section
variable {prog:Program}{w:World}{A:Around}{E:Value->Shared->Prop}{s:Shared}
def sIx (n d:Nat):Option Int->Nat
 |none=>d
 |some v=>if v<0 then(v+(n:Int)).toNat else min v.toNat n
theorem sIx_none (n d:Nat):sIx n d none=d:=rfl
theorem sIx_nat (n d k:Nat):sIx n d (some (k:Int))=min k n:=by
 show(if(k:Int)<0 then((k:Int)+(n:Int)).toNat else min (k:Int).toNat n)=min k n
 rw[A9 (by omega),HN]
theorem sIx_le (n d:Nat)(hd:d<=n)(o:Option Int):sIx n d o<=n:=by
 cases o with
 |none=>exact hd
 |
  some v=>
  show(if v<0 then(v+(n:Int)).toNat else min v.toNat n)<=n
  by_cases hv:v<0
  .rw[Af hv];omega
  .rw[A9 hv];exact Nat.min_le_right _ _
end
end HT
namespace L2
open PySem PySem.Spec PyProof.Rows
abbrev TO:=St->Hp->(Option Int->Hp->Prop)->Prop
def PO (X:Cx)(e:Option Expr)(t:TO):Prop:=
 ∀(pins:List (Addr×Obj)) (s:Shared) (σ:St) (H:Hp) (Q:Option Int->Hp->Prop),A1 X pins σ H s->t σ H Q->
  wpAny (model X.prog X.w) X.A (evalPart e X.env) (fun u s'=>∃o H',A1 X pins σ H' s'/\IsPart u o/\Q o H') X.xe s
def VH:TO:=fun _ H Q=>Q none H
def Vy (t:TE):TO:=fun σ H Q=>t σ H fun x H1=>∃i,x = .int i/\Q (some i) H1
section
variable {X:Cx}{e:Expr}{te:TE}{lo hi:Option Expr}{tl th:TO}{pos p2:Pos}
theorem DS:PO X none VH:=by
 intro pins s σ H Q I h
 rw[evalPart_none]
 exact B9 ⟨none,H,I,.none,h⟩
theorem Cq (h:PE X e te):PO X (some e) (Vy te):=by
 intro pins s σ H Q I hw
 rw[evalPart_some]
 refine Ak (h pins s σ H _ I hw) fun u s1 zz=>?_
 obtain⟨x,H1,I1,r1,q1⟩:=zz
 obtain⟨i,rfl,q⟩:=q1
 obtain⟨t,rfl⟩:=r1
 exact⟨some i,H1,I1,.int i t,q⟩
def Km (X:Cx)(r:V->Option Int->Option Int->Hp->VK->Prop):Prop:=
 ∀(pins:List (Addr×Obj)) (s:Shared) (σ:St) (H:Hp) (x:V) (v vl vu:Value) (lo hi:Option Int) (sl:Addr) (Q:VK),A1 X pins σ H s->Ay x v->s.heap.IsSliceOf sl vl vu .none->IsPart vl lo->IsPart vu hi->r x lo hi H Q->
  ∃T id,typeLookup (.type T) "__getitem__"=pure (some (.builtin id))/\s.TypeIs v T/\wpAny (model X.prog X.w) X.A (getItem v (.ref sl)) (EP X pins σ Q) X.xe s
def PY (r:V->Option Int->Option Int->Hp->VK->Prop)(te:TE)(tl th:TO):TE:=fun σ H Q=>te σ H fun x H1=>tl σ H1 fun l H2=>th σ H2 fun u H3=>r x l u H3 Q
theorem CW {r:V->Option Int->Option Int->Hp->VK->Prop}(hr:Km X r)(he:PE X e te)(hl:PO X lo tl)(hu:PO X hi th):PE X (.Subscript e (.Slice lo hi none p2) pos) (PY r te tl th):=by
 intro pins s σ H Q I h
 refine Subscript_ (Ak (he pins s σ H _ I h) fun v s1 zz=>?_)
 obtain⟨x,H1,I1,r1,q1⟩:=zz
 refine wpAny_Slice (Ak (hl pins s1 σ H1 _ I1 q1) fun vl s2 zz=>?_)
 obtain⟨l,H2,I2,pl,q2⟩:=zz
 refine Ak (hu pins s2 σ H2 _ I2 q2) fun vu s3 zz=>?_
 obtain⟨u,H3,I3,pu,q3⟩:=zz
 rw[evalPart_none]
 refine B9 ?_
 have I4:A1 X pins σ H3 {s3 with heap:=s3.heap.push {cls:=.type "slice",data:=.fields #[vl,vu,.none]}}:=I3.kept (t':=s3.toks) fun b ob q=>Bc _ q
 obtain⟨T,id,hT,ht,hg⟩:=hr pins {s3 with heap:=s3.heap.push {cls:=.type "slice",data:=.fields #[vl,vu,.none]}} σ H3 x v vl vu l u s3.heap.objs.size Q I4 r1 (Heap.IsSliceOf.new ..) pl pu q3
 show wpAny (model X.prog X.w) X.A (subscriptTail e (.Slice lo hi none p2) v (.ref s3.heap.objs.size)) (EP X pins σ Q) X.xe {s3 with heap:=s3.heap.push {cls:=.type "slice",data:=.fields #[vl,vu,.none]}}
 exact tail_any (ops:=[.ref s3.heap.objs.size,v]) ht hT hg (by with_unfolding_all rfl)
def CA (xs:List V)(lo hi:Option Int):List V:=(xs.drop (HT.sIx xs.length 0 lo)).take (HT.sIx xs.length xs.length hi-HT.sIx xs.length 0 lo)
theorem UF (xs:List V)(lo hi:Option Int):(CA xs lo hi).length<=xs.length:=by
 unfold CA
 rw[BA,Cr]
 omega
end
def DC (n:Nat)(i:Int):Option Nat:=if 0<=i then(if i<n then some i.toNat else none) else if -(n:Int)<=i then some (i+n).toNat else none
def BH {α:Type}(xs:List α)(i:Int):Option α:=(DC xs.length i).bind fun j=>xs[j]?
theorem Og {n:Nat}{i:Int}{j:Nat}(h:DC n i=some j):seqIndex? i n=some j/\j<n/\-(n:Int)<=i/\i<n:=by
 unfold DC at h
 by_cases h0:0<=i
 .rw[Af h0]at h
  by_cases h1:i<n
  .rw[Af h1]at h
   have e:i.toNat=j:=BQ h
   exact⟨by rw[seqIndex_of h0 h1,e],by omega,by omega,h1⟩
  .rw[A9 h1]at h;cases h
 .rw[A9 h0]at h
  by_cases h1 : -(n:Int)<=i
  .rw[Af h1]at h
   have e:(i+n).toNat=j:=BQ h
   exact⟨by rw[LW (by omega) h1,e],by omega,h1,by omega⟩
  .rw[A9 h1]at h;cases h
theorem Jv {α:Type}{xs:List α}{i:Int}{v:α}(h:BH xs i=some v):∃j,seqIndex? i xs.length=some j/\xs[j]?=some v/\j<xs.length/\-(xs.length:Int)<=i/\i<xs.length:=by
 unfold BH at h
 cases e:DC xs.length i with
 |none=>rw[e]at h;cases h
 |
  some j=>
  rw[e]at h
  obtain⟨h1,h2,h3,h4⟩:=Og e
  exact⟨j,h1,h,h2,h3,h4⟩
theorem Ge {α:Type}{xs:List α}{j:Nat}{v:α}(h:xs[j]?=some v):BH xs (j:Int)=some v:=by
 have hj:j<xs.length:=(BJ.mp h).1
 have e:DC xs.length (j:Int)=some j:=by
  unfold DC
  rw[Af (by omega),Af (by omega)];simp
 unfold BH;rw[e];exact h
theorem KD {α:Type}(xs:List α)(v:α):BH (xs++[v]) (-1)=some v:=by
 have hl:(xs++[v]).length=xs.length+1:=by simp
 have e:DC (xs++[v]).length (-1)=some xs.length:=by
  unfold DC
  rw[hl,A9 (by decide),Af (by omega)]
  congr 1
  omega
 unfold BH
 rw[e]
 show(xs++[v])[xs.length]?=some v
 simp
def V4 (b:Expr):Prop := ∀o i,subscripted b false o i=operate [o,i] (getItem o i)
def Em (X:Cx)(r:R2):Prop:=
 ∀(value slice:Expr) (pins:List (Addr×Obj)) (s:Shared) (σ:St) (H:Hp) (x y:V) (v u:Value) (Q:VK),A1 X pins σ H s->Ay x v->Ay y u->r x y H Q->
  subscripted slice false v u=operate [v,u] (getItem v u)->wpAny (model X.prog X.w) X.A (subscriptTail value slice v u) (EP X pins σ Q) X.xe s
def Fk (X:Cx)(id:String)(r:V->List V->Hp->VK->Prop):Prop:=
 ∀(pins:List (Addr×Obj)) (s:Shared) (σ:St) (H:Hp) (x:V) (xs:List V) (v:Value) (us:List Value) (Q:VK),A1 X pins σ H s->Ay x v->As xs us->r x xs H Q->
  wpAny (model X.prog X.w) X.A (call (.builtin id) (v::us)) (EP X pins σ Q) X.xe s
section
variable {X:Cx}{a b:Expr}{ta tb:TE}{pos:Pos}
theorem Ag {r:R2}(hr:Em X r)(ha:PE X a ta)(hb:PE X b tb)(hs:V4 b):PE X (.Subscript a b pos) (Eo r ta tb):=by
 intro pins s σ H Q I h
 exact Subscript_ (KZ ha hb I h fun v u s2 x y H2 I2 rx ry q=>hr a b pins s2 σ H2 x y v u Q I2 rx ry q (hs _ _))
def L6 (K:Xa):R2:=fun x y H Q=>∃p xs i v,x = .ref p/\y = .int i/\A2 K H p xs/\BH xs i=some v/\Q v H
def Hy (K:Xa):R2:=fun x y H Q=>∃p xs i v,x = .ref p/\y = .int i/\Aw K H p xs/\BH xs i=some v/\Q v H
def Lc:R2:=fun x y H Q=>∃z i c,x = .str z/\y = .int i/\z.length<=sizeLine/\BH z.cps.toList i=some c/\Q (.str ⟨#[c]⟩) H
theorem AV:Em X (L6 X.K):=by
 intro value slice pins s σ H x y v u Q I rx ry h hs
 obtain⟨p,xs,i,z,rfl,rfl,hq,he,q⟩:=h
 cases rx
 obtain⟨t,rfl⟩:=ry
 obtain⟨its,r,pl,hz⟩:=I.list hq
 obtain⟨j,h1,h2,h3,h4,h5⟩:=Jv he
 obtain⟨w,ew,rw'⟩:=r.get h2
 have hl:=r.length
 have hn:=FF
 have fin:EP X pins σ Q w s:=⟨z,H,I,rw',q⟩
 by_cases h0:0<=i
 .have hj:i.toNat=j:=by
   rw[seqIndex_of h0 h5]at h1
   exact BQ h1
  exact item_listR pl.isList h0 (by omega) (by rw[hj];simpa using ew) fin hs
 .have hj:(i+(its.toArray.size:Int)).toNat=j:=by
   rw[LW (by omega) h4]at h1
   rw[BD,←hl]
   exact BQ h1
  exact subscriptTail_builtinR (x:=w) pl.isList.typeIs slot_list_getitem.lookup
   (wpAny_getItem_list_neg (Q:=fun r s'=>r=w/\EP X pins σ Q r s') pl.isList (by omega) (by rw[BD]<;>omega) (by omega) (by rw[hj];simpa using ew) ⟨rfl,fin⟩) hs
theorem B0:Em X (Hy X.K):=by
 intro value slice pins s σ H x y v u Q I rx ry h hs
 obtain⟨p,xs,i,z,rfl,rfl,hq,he,q⟩:=h
 cases rx
 obtain⟨t,rfl⟩:=ry
 obtain⟨its,r,pl,hz⟩:=I.tuple hq
 obtain⟨j,h1,h2,h3,h4,h5⟩:=Jv he
 obtain⟨w,ew,rw'⟩:=r.get h2
 have hl:=r.length
 have hn:=FF
 have fin:EP X pins σ Q w s:=⟨z,H,I,rw',q⟩
 exact subscriptTail_builtinR (x:=w) pl.typeIs slot_tuple_getitem.lookup
  (getItem_tuple (j:=j) (Q:=fun r s'=>r=w/\EP X pins σ Q r s') pl (by omega) (by omega) (by rw[BD,←hl];exact h1) (by simpa using ew) ⟨rfl,fin⟩) hs
theorem En:Em X Lc:=by
 intro value slice pins s σ H x y v u Q I rx ry h hs
 obtain⟨z,i,c,rfl,rfl,hz,he,q⟩:=h
 obtain⟨t,rfl⟩:=rx
 obtain⟨t',rfl⟩:=ry
 obtain⟨j,h1,h2,h3,h4,h5⟩:=Jv he
 have hl:z.cps.toList.length=z.length:=by simp[Str.length]
 rw[hl]at h1 h4 h5
 have hn:=FF
 exact tail_any (GV s z t) slot_str_getitem.lookup (getItem_str (c:=c) (by
  have e1:decide (i < -(2 ^ 63:Int))=false:=Bv (by omega)
  have e2:decide (i≥2 ^ 63)=false:=Bv (by omega)
  rw[e1,e2,LG]) (by rw[h1];simpa using h2) ⟨.str ⟨#[c]⟩,H,I.tok _,⟨_,rfl⟩,q⟩) hs
theorem TX (its:List Value)(n j:Nat)(u:Value):Obj.mapSeq (·.setIfInBounds j u) {cls:=.type "list",data:=.seq its.toArray n}={cls:=.type "list",data:=.seq (its.set j u).toArray n}:=by
 simp[Obj.mapSeq]
theorem A1.lst {pins:List (Addr×Obj)}{σ:St}{H:Hp}{s:Shared}{p:Addr}{xs:List V}(I:A1 X pins σ H s)(h:H p=some (.lst xs)) :
  ∃(its:List Value) (n:Nat),As xs its/\s.heap.get? p=some {cls:=.type "list",data:=.seq its.toArray n}/\xs.length<=sizeLine:=by
 obtain⟨z,its,n,r,e⟩:=I.hok p _ h
 exact⟨its,n,r,e,z⟩
theorem A1.lstUpd {pins:List (Addr×Obj)}{σ:St}{H:Hp}{s:Shared}{p:Addr}{xs ys:List V}{its its':List Value}{n n':Nat}{f:Obj->Obj}(I:A1 X pins σ H s)(h:H p=some (.lst xs))
  (ho:s.heap.get? p=some {cls:=.type "list",data:=.seq its.toArray n}) (hf:f {cls:=.type "list",data:=.seq its.toArray n}={cls:=.type "list",data:=.seq its'.toArray n'}) (r:As ys its') (hz:ys.length<=sizeLine) (t:Nat) :
  A1 X pins σ (upd H p (.lst ys)) {s with heap:=s.heap.update p f,toks:=t}:=by
 have e:(s.heap.update p f).get? p=some {cls:=.type "list",data:=.seq its'.toArray n'}:=by
  rw[JT f ho (by rw[hf]<;>rfl),hf]
 refine I.write (x:=p) (e:=p) (by rw[h];trivial) (.inl rfl) (fun b u hb q=>(Fl _ _ (Ne.symm hb)).trans q) ⟨_,e⟩ ?_
 exact⟨hz,its',n',r,e⟩
def QU:V->V->V->Hp->(Hp->Prop)->Prop:=fun o i v H Q=>∃p xs k j,o = .ref p/\i = .int k/\H p=some (.lst xs)/\DC xs.length k=some j/\Q (upd H p (.lst (xs.set j v)))
theorem Ow:Oa X QU:=by
 intro pins s σ H o i v ov iv u Q I ro ri rv h
 obtain⟨p,xs,k,j,rfl,rfl,hp,hj,q⟩:=h
 cases ro
 obtain⟨t,rfl⟩:=ri
 obtain⟨its,n,r,ho,hz⟩:=I.lst hp
 obtain⟨h1,h2,h3,h4⟩:=Og hj
 have hl:=r.length
 have hn:=FF
 have I':A1 X pins σ (upd H p (.lst (xs.set j v))) {s with heap:=s.heap.update p (Obj.mapSeq (·.setIfInBounds j u))}:=
  I.lstUpd hp ho (TX its n j u) (r.set rv j) (by rw[List.length_set];exact hz) s.toks
 by_cases h0:0<=k
 .have hk:k.toNat=j:=by
   rw[seqIndex_of h0 h4]at h1
   exact BQ h1
  exact PySem.W.ki_setAt ho h0 (by omega) (by rw[BD,←hl];exact h4) (by rw[hk];exact⟨_,I',q⟩)
 .have hk:(k+(its.toArray.size:Int)).toNat=j:=by
   rw[LW (by omega) h3]at h1
   rw[BD,←hl]
   exact BQ h1
  exact PySem.W.ki_setBack ho (by omega) (by rw[BD,←hl];exact h3) (by omega) (by rw[hk];exact⟨_,I',q⟩)
theorem VP (lo hi:Option Int)(n:Nat):(sliceBounds lo hi none n).1=((HT.sIx n 0 lo:Nat):Int)/\(sliceBounds lo hi none n).2.1=((HT.sIx n n hi:Nat):Int)/\(sliceBounds lo hi none n).2.2=1:=by
 refine⟨?_,?_,rfl⟩
 .cases lo with
  |none=>simp[sliceBounds,HT.sIx]
  |
   some i=>
   simp only[sliceBounds,HT.sIx,Option.getD_none,show(1:Int)>0 by decide,F4]
   by_cases h:i<0
   .simp only[h,F4]<;>omega
   .simp only[h,G6]<;>omega
 .cases hi with
  |none=>simp[sliceBounds,HT.sIx]
  |
   some i=>
   simp only[sliceBounds,HT.sIx,Option.getD_none,show(1:Int)>0 by decide,F4]
   by_cases h:i<0
   .simp only[h,F4]<;>omega
   .simp only[h,G6]<;>omega
theorem UK (its:List Value)(lo hi:Option Int):slicePick its.toArray lo hi none=((its.drop (HT.sIx its.length 0 lo)).take (HT.sIx its.length its.length hi-HT.sIx its.length 0 lo)).toArray:=by
 obtain⟨h1,h2,h3⟩:=VP lo hi its.toArray.size
 unfold slicePick
 rw[h1,h2,h3]
 simp only[sliceRange_one,pick_run,BD]<;>rfl
def Ul (K:Xa):V->Option Int->Option Int->Hp->VK->Prop:=fun x lo hi H Q=>∃a xs,x = .ref a/\A2 K H a xs/\∀p,H p=none->Q (.ref p) (upd H p (.lst (CA xs lo hi)))
theorem Ej:Km X (Ul X.K):=by
 intro pins s σ H x v vl vu lo hi sl Q I rx hs pl pu h
 obtain⟨a,xs,rfl,hx,q⟩:=h
 cases rx
 obtain⟨its,r,ht,hz⟩:=I.list hx
 have hlen:=r.length
 refine⟨"list",_,slot_list_getitem.lookup,ht.isList.typeIs,?_⟩
 refine wpAny_getItem_list_slice ht.isList hs pl pu .none (by simp) ?_ (by rw[BD]<;>omega)
 rw[UK,←hlen]
 refine⟨.ref s.heap.objs.size,_,I.laid (t':=s.toks) (o:=.lst (CA xs lo hi)) (fun b ob q=>Bc _ q) (Ai _) ?_,rfl,q _ (I.hok.fresh (Ai _))⟩
 exact⟨Bz (UF xs lo hi) hz,_,0,(r.drop (HT.sIx xs.length 0 lo)).take (HT.sIx xs.length xs.length hi-HT.sIx xs.length 0 lo),CB _ rfl⟩
def E8:V->Bool
 |.non=>true
 |.bl _=>true
 |.int _=>true
 |.str _=>true
 |_=>false
def Et:V->V->Bool
 |.non,.non=>true
 |.bl a,.bl b=>a==b
 |.bl a,.int b=>(if a then 1 else 0)==b
 |.int a,.bl b=>a==(if b then 1 else 0)
 |.int a,.int b=>a==b
 |.str a,.str b=>a==b
 |_,_=>false
theorem Sa {A:Around}{s:Shared}{y x:V}{u v:Value}(ry:Ay y u)(rx:Ay x v)(fy:E8 y=true)(fx:E8 x=true):SeqAt.EqAt A s u v (Et y x):=by
 cases y with
 |
  non=>
  cases ry
  cases x with
  |non=>cases rx;exact SeqAt.EqAt.same _
  |bl b=>cases rx;exact SeqAt.EqAt.none_bool b
  |int b=>obtain⟨t,rfl⟩:=rx;exact SeqAt.EqAt.none_int b t
  |str b=>obtain⟨t,rfl⟩:=rx;exact SeqAt.EqAt.none_str b t
  |_=>exact absurd (show false=true from fx) BM
 |
  bl a=>
  cases ry
  cases x with
  |non=>cases rx;exact SeqAt.EqAt.bool_none a
  |bl b=>cases rx;exact SeqAt.EqAt.bool_bool a b
  |int b=>obtain⟨t,rfl⟩:=rx;exact SeqAt.EqAt.bool_int a b t
  |str b=>obtain⟨t,rfl⟩:=rx;exact SeqAt.EqAt.bool_str a b t
  |_=>exact absurd (show false=true from fx) BM
 |
  int a=>
  obtain⟨t',rfl⟩:=ry
  cases x with
  |non=>cases rx;exact SeqAt.EqAt.int_none a t'
  |bl b=>cases rx;exact SeqAt.EqAt.int_bool a t' b
  |int b=>obtain⟨t,rfl⟩:=rx;exact SeqAt.EqAt.int_int a t' b t
  |str b=>obtain⟨t,rfl⟩:=rx;exact SeqAt.EqAt.int_str a t' b t
  |_=>exact absurd (show false=true from fx) BM
 |
  str a=>
  obtain⟨t',rfl⟩:=ry
  cases x with
  |non=>cases rx;exact SeqAt.EqAt.str_none a t'
  |bl b=>cases rx;exact SeqAt.EqAt.str_bool a t' b
  |int b=>obtain⟨t,rfl⟩:=rx;exact SeqAt.EqAt.str_int a t' b t
  |str b=>obtain⟨t,rfl⟩:=rx;exact SeqAt.EqAt.str_str a t' b t
  |_=>exact absurd (show false=true from fx) BM
 |_=>exact absurd (show false=true from fy) BM
def Df (x:V)(u:Value):Bool:=match u with
 |.none=>Et .non x
 |.bool b=>Et (.bl b) x
 |.int i _=>Et (.int i) x
 |.str z _=>Et (.str z) x
 |_=>false
theorem Oi {x y:V}{u:Value}(r:Ay y u)(f:E8 y=true):Df x u=Et y x:=by
 cases y with
 |non=>cases r;rfl
 |bl b=>cases r;rfl
 |int i=>obtain⟨t,rfl⟩:=r;rfl
 |str z=>obtain⟨t,rfl⟩:=r;rfl
 |_=>exact absurd (show false=true from f) BM
theorem Hg {x:V}:∀{xs:List V} {us:List Value},As xs us->xs.all E8=true->us.any (Df x)=xs.any fun y=>Et y x
 |_,_,.nil,_=>rfl
 |
  y::xs,u::us,.cons r t,f=>by
  rw[LH,FZ]at f
  rw[HP,HP,Oi r f.1,Hg t f.2]
theorem Hx {A:Around}{s:Shared}{x:V}{v:Value}(rx:Ay x v)(fx:E8 x=true):∀{xs:List V} {us:List Value},As xs us->xs.all E8=true->∀u∈us,SeqAt.EqAt A s u v (Df x u)
 |_,_,.nil,_=>fun u hu=>by cases hu
 |
  y::xs,u::us,.cons r t,f=>fun u' hu=>by
  rw[LH,FZ]at f
  rcases AH.mp hu with rfl|hu
  .rw[Oi r f.1];exact Sa r rx f.1 fx
  .exact Hx rx fx t f.2 u' hu
def CZ (x:V)(xs:List V):Bool:=xs.any fun y=>Et y x
def Jo (K:Xa)(neg:Bool):R2:=fun x y H Q=>∃p xs,y = .ref p/\(A2 K H p xs\/Aw K H p xs)/\E8 x=true/\xs.all E8=true/\Q (.bl (if neg then !CZ x xs else CZ x xs)) H
theorem GD:Bw X (compareOp .In) (Jo X.K false):=by
 intro pins s σ H x y v u Q I rx ry h
 obtain⟨p,xs,rfl,hq,fx,fs,q⟩:=h
 cases ry
 rcases hq with hq|hq
 .obtain⟨its,r,pl,hz⟩:=I.list hq
  refine SeqAt.in_listAt (Df x) pl.isList (fun w hw=>Hx rx fx r fs w (by simpa using hw)) ⟨.bl _,H,I,rfl,?_⟩
  rw[show its.toArray.any (Df x)=its.any (Df x) by simp,Hg r fs]
  exact q
 .obtain⟨its,r,pl,hz⟩:=I.tuple hq
  refine SeqAt.in_tupleAt (Df x) pl (fun w hw=>Hx rx fx r fs w (by simpa using hw)) ⟨.bl _,H,I,rfl,?_⟩
  rw[show its.toArray.any (Df x)=its.any (Df x) by simp,Hg r fs]
  exact q
theorem Lu:Bw X (compareOp .NotIn) (Jo X.K true):=by
 intro pins s σ H x y v u Q I rx ry h
 obtain⟨p,xs,rfl,hq,fx,fs,q⟩:=h
 cases ry
 rcases hq with hq|hq
 .obtain⟨its,r,pl,hz⟩:=I.list hq
  refine SeqAt.notIn_listAt (Df x) pl.isList (fun w hw=>Hx rx fx r fs w (by simpa using hw)) ⟨.bl _,H,I,rfl,?_⟩
  rw[show its.toArray.any (Df x)=its.any (Df x) by simp,Hg r fs]
  exact q
 .obtain⟨its,r,pl,hz⟩:=I.tuple hq
  refine SeqAt.notIn_tupleAt (Df x) pl (fun w hw=>Hx rx fx r fs w (by simpa using hw)) ⟨.bl _,H,I,rfl,?_⟩
  rw[show its.toArray.any (Df x)=its.any (Df x) by simp,Hg r fs]
  exact q
theorem Vw:Bw X (compareOp .NotIn) (fun x y H Q=>∃i j,x = .str i/\y = .str j/\Q (.bl (!(!(Builtin.Str.occurrences j i 0 j.length 1).isEmpty))) H):=by
 intro pins s σ H x y v u Q I rx ry h
 obtain⟨i,j,rfl,rfl,q⟩:=h
 obtain⟨t,rfl⟩:=rx
 obtain⟨t',rfl⟩:=ry
 exact notIn_str ⟨.bl _,H,I,rfl,q⟩
theorem BO:DA X (.builtin "len") (fun xs H Q=>∃p ys,xs=[.ref p]/\(A2 X.K H p ys\/Aw X.K H p ys)/\Q (.int ys.length) H):=by
 intro pins s σ H xs us Q I r h
 obtain⟨p,ys,rfl,hq,q⟩:=h
 obtain⟨u,rfl,rx⟩:=E4 r
 cases rx
 have hn:=FF
 rcases hq with hq|hq
 .obtain⟨its,r',pl,hz⟩:=I.list hq
  have hlen:=r'.length
  exact Calls.call_len_list pl.isList (by simp only[BD]<;>omega) ⟨.int ys.length,H,I.tok _,⟨s.toks+1,by rw[BD,hlen]⟩,q⟩
 .obtain⟨its,r',pl,hz⟩:=I.tuple hq
  have hlen:=r'.length
  exact len_tuple pl (by simp only[BD]<;>omega) ⟨.int ys.length,H,I.tok _,⟨s.toks+1,by rw[BD,hlen]⟩,q⟩
theorem IL:DA X (.builtin "len") (fun xs H Q=>∃z,xs=[.str z]/\z.length<=sizeLine/\Q (.int z.length) H):=by
 intro pins s σ H xs us Q I r h
 obtain⟨z,rfl,hz,q⟩:=h
 obtain⟨u,rfl,t,rfl⟩:=E4 r
 have hn:=FF
 exact len_str (by omega) ⟨.int z.length,H,I.tok _,⟨_,rfl⟩,q⟩
theorem TL:DA X (.type "list") (fun xs H Q=>∃p ys,xs=[.ref p]/\(A2 X.K H p ys\/Aw X.K H p ys)/\∀l,H l=none->Q (.ref l) (upd H l (.lst ys))):=by
 intro pins s σ H xs us Q I r h
 obtain⟨p,ys,rfl,hq,q⟩:=h
 obtain⟨u,rfl,rx⟩:=E4 r
 cases rx
 have fin:∀(its:List Value),As ys its->ys.length<=sizeLine->∀(h':Heap) (c':Nat),(∀b o',s.heap.get? b=some o'->h'.get? b=some o')->
   h'.get? s.heap.objs.size=some {cls:=.type "list",dict:=none,data:=.seq its.toArray c',slots := #[]}->EP X pins σ Q (.ref s.heap.objs.size) {s with heap:=h'}:=fun its r' hz h' c' kp e=>
  ⟨.ref s.heap.objs.size,_,I.laid (t':=s.toks) kp (Ai _) (show Bp X.prog X.w _ h' _ (.lst ys) from⟨hz,its,c',r',e⟩),rfl,q _ (I.hok.fresh (Ai _))⟩
 rcases hq with hq|hq
 .obtain⟨its,r',pl,hz⟩:=I.list hq
  have hlen:=r'.length
  obtain⟨o,ho,hc,n,hd⟩:=pl.isList
  exact call_list_seq p (.inl rfl) ho hc hd (fun h' c' kp e=>fin its r' hz h' c' kp e) (by simp only[BD]<;>omega)
 .obtain⟨its,r',pl,hz⟩:=I.tuple hq
  have hlen:=r'.length
  obtain⟨o,ho,hc,n,hd⟩:=pl
  exact call_list_seq p (.inr rfl) ho hc hd (fun h' c' kp e=>fin its r' hz h' c' kp e) (by simp only[BD]<;>omega)
theorem Fu:DA X (.type "tuple") (fun xs H Q=>∃p ys,xs=[.ref p]/\((A2 X.K H p ys/\∀l,H l=none->Q (.ref l) (upd H l (.tup ys)))\/(Aw X.K H p ys/\Q (.ref p) H))):=by
 intro pins s σ H xs us Q I r h
 obtain⟨p,ys,rfl,h⟩:=h
 obtain⟨u,rfl,rx⟩:=E4 r
 cases rx
 rcases h with⟨hq,q⟩|⟨hq,q⟩
 .obtain⟨its,r',pl,hz⟩:=I.list hq
  have hlen:=r'.length
  refine call_tuple_list pl.isList (fun h' kp=>?_) (by simp only[BD]<;>omega)
  have I1:A1 X pins σ H {s with heap:=h'}:=I.kept (t':=s.toks) kp
  have I2:A1 X pins σ (upd H h'.objs.size (.tup ys)) {s with heap:=h'.push {cls:=.type "tuple",data:=.seq its.toArray}}:=
   I1.laid (t':=s.toks) (fun b o e=>Bc _ e) (Ai _) (show Bp X.prog X.w _ _ _ (.tup ys) from⟨hz,its,r',Fg.new _ _⟩)
  exact⟨.ref h'.objs.size,_,I2,rfl,q _ (I1.hok.fresh (Ai _))⟩
 .obtain⟨its,r',pl,hz⟩:=I.tuple hq
  exact call_tuple_same pl ⟨.ref p,H,I,rfl,q⟩
def Kh (K:Xa)(T:String)(x:V)(H:Hp):Prop:=match x with
 |.str _=>T="str"
 |.int _=>T="int"
 |.ref p=>(T="list"/\∃xs,A2 K H p xs)\/(T="tuple"/\∃o,K.lookup p=some o/\o.cls = .type "tuple"/\o.dict=none)\/
  (T="dict"/\((∃kvs,H p=some (.dK kvs))\/∃kvs,H p=some (.dT kvs)))\/(T="set"/\∃S n,H p=some (.set S n))
 |_=>False
theorem KU {pins:List (Addr×Obj)}{σ:St}{H:Hp}{s:Shared}{T:String}{x:V}{v:Value}(I:A1 X pins σ H s)(r:Ay x v)(ty:Kh X.K T x H) :
  s.TypeIs v T/\∀a,v = .ref a->∃ob,s.heap.get? a=some ob/\ob.dict=none:=by
 cases x with
 |
  str z=>
  obtain⟨t,rfl⟩:=r
  cases (show T="str" from ty)
  exact⟨GV s z t,fun _ e=>nomatch e⟩
 |
  int i=>
  obtain⟨t,rfl⟩:=r
  cases (show T="int" from ty)
  exact⟨typeIs_int s i t,fun _ e=>nomatch e⟩
 |
  ref p=>
  cases r
  rcases ty with⟨rfl,xs,hq⟩|⟨rfl,o,hk,hc,hd⟩|⟨rfl,hk⟩|⟨rfl,S,n,hk⟩
  .obtain⟨its,_,pl,_⟩:=I.list hq
   refine⟨pl.isList.typeIs,fun a e=>?_⟩
   cases e
   obtain⟨o,n,e,c,hd,_⟩:=pl
   exact⟨o,e,hd⟩
  .refine⟨⟨o,I.kIn p o hk,hc⟩,fun a e=>?_⟩
   cases e
   exact⟨o,I.kIn _ o hk,hd⟩
  .have z:∃o,s.heap.get? p=some o/\o.ExactDict:=by
    rcases hk with⟨kvs,hk⟩|⟨kvs,hk⟩
    .obtain⟨_,_,_,_,o,_,_,e,ex,_⟩:=I.hok p _ hk
     exact⟨o,e,ex⟩
    .obtain⟨_,_,_,_,o,_,_,e,ex,_⟩:=I.hok p _ hk
     exact⟨o,e,ex⟩
   obtain⟨o,e,ex⟩:=z
   refine⟨⟨o,e,ex.1⟩,fun a e2=>?_⟩
   cases e2
   exact⟨o,e,ex.2.1⟩
  .obtain⟨o,_,_,_,e,ex,_⟩:=I.hok p _ hk
   refine⟨⟨o,e,ex.1⟩,fun a e2=>?_⟩
   cases e2
   exact⟨o,e,ex.2.1⟩
 |_=>exact False.elim ty
def SL (K:Xa)(T:String)(r:V->List V->Hp->VK->Prop)(to:TE):TE:=fun σ H Q=>to σ H fun x H1=>Kh K T x H1/\r x [] H1 Q
def Lv (K:Xa)(T:String)(r:V->List V->Hp->VK->Prop)(to:TE)(t:TA):TE:=fun σ H Q=>to σ H fun x H1=>Kh K T x H1/\t σ H1 fun xs H2=>r x xs H2 Q
variable {o e:Expr}{es:List Expr}{to:TE}{t:TA}{name:Str}{apos cpos:Pos}{T id:String}{r:V->List V->Hp->VK->Prop}
theorem DB (pa:PlainAttrs T)(slot:Slot T name id)(hty:typeOf (.builtin id)=pure (.type "method_descriptor"))(hm:Fk X id r)(ho:PE X o to)
  (hbase:attributeBase o name X.env (eval o X.env)=eval o X.env:=by rfl) (hline:(apos.endLine==cpos.line)=true:=by rfl):PE X (.Call (.Attribute o name apos) [] [] cpos) (SL X.K T r to):=by
 intro pins s σ H Q I h
 refine wpAny_Call_method0_late hbase hline (Ak (ho pins s σ H _ I h) fun v s1 zz=>?_)
 obtain⟨x,H1,I1,r1,ty,q1⟩:=zz
 obtain⟨h1,h2⟩:=KU I1 r1 ty
 exact⟨T,id,pa,slot,hty,h1,h2,Calls.callWith_builtin rfl (PySem.evalArgs_none (hm pins s1 σ H1 x [] v [] Q I1 r1 .nil q1))⟩
theorem Be (pa:PlainAttrs T)(slot:Slot T name id)(hty:typeOf (.builtin id)=pure (.type "method_descriptor"))(hm:Fk X id r)(ho:PE X o to)(ha:PA X (e::es) t)
  (hbase:attributeBase o name X.env (eval o X.env)=eval o X.env:=by rfl)
  (hfew:((backTo cpos (starEach (e::es) X.env)).all (fun x=>!x.1)&&(backToKw cpos (keywordEach [] X.env)).all (fun x=>x.1.isSome)
   && decide ((e::es).length+([]:List Keyword).length+(if([]:List Keyword).isEmpty then 0 else 1)<30))=true:=by rfl)
  (hline:(apos.endLine==cpos.line)=true:=by rfl) (hs:starEach (e::es) X.env=(false,eval e X.env)::starEach es X.env:=by rfl) (hplain:(backTo cpos (starEach es X.env)).any (·.1)=false:=by rfl) :
  PE X (.Call (.Attribute o name apos) (e::es) [] cpos) (Lv X.K T r to t):=by
 intro pins s σ H Q I h
 refine wpAny_Call_method_late hbase hfew hline rfl (Ak (ho pins s σ H _ I h) fun v s1 zz=>?_)
 obtain⟨x,H1,I1,r1,ty,q1⟩:=zz
 obtain⟨h1,h2⟩:=KU I1 r1 ty
 refine⟨T,id,pa,slot,hty,h1,h2,?_⟩
 have hA:=ha cpos pins s1 σ H1 _ I1 q1
 rw[hs]at hA ⊢
 refine Calls.callWith_builtin (by show(false||(backTo cpos (starEach es X.env)).any (·.1))=false;rw[hplain]<;>rfl) (Calls.evalArgs_plain ?_)
 refine Ak hA fun us s2 zz=>?_
 obtain⟨vs,H2,I2,r2,q2⟩:=zz
 exact hm pins s2 σ H2 x vs v us Q I2 r1 r2 q2
end
def NJ (X:Cx)(id:String)(r:V->List V->Hp->VK->Prop):Prop:=
 ∀(pins:List (Addr×Obj)) (s:Shared) (σ:St) (H:Hp) (x:V) (xs:List V) (v:Value) (us:List Value) (Q:VK),A1 X pins σ H s->Ay x v->As xs us->r x xs H Q->
  wpAny (model X.prog X.w) X.A (call (.builtin id) (v::us)) (EP X pins σ Q) X.xe s
theorem As.one:∀{x:V} {us:List Value},As [x] us->∃u,us=[u]/\Ay x u:=by
 intro x us h
 cases h with
 |
  cons r q=>
  cases q
  exact⟨_,rfl,r⟩
theorem As.two:∀{x y:V} {us:List Value},As [x,y] us->∃u v,us=[u,v]/\Ay x u/\Ay y v:=by
 intro x y us h
 cases h with
 |
  cons r q=>
  obtain⟨v,rfl,z⟩:=As.one q
  exact⟨_,_,rfl,r,z⟩
theorem As.zero:∀{us:List Value},As [] us->us=[]
 |_,.nil=>rfl
theorem As.dropLast {xs:List V}{us:List Value}(h:As xs us):As xs.dropLast us.dropLast:=by
 induction h with
 |nil=>exact .nil
 |
  cons r t ih=>
  cases t with
  |nil=>exact .nil
  |cons q t'=>exact .cons r ih
theorem PQ {α:Type}(l:List α):l.eraseIdx (l.length-1)=l.dropLast:=by
 induction l with
 |nil=>rfl
 |
  cons a r ih=>
  cases r with
  |nil=>rfl
  |
   cons b r=>
   have e:(a::b::r).length-1=((b::r).length-1)+1:=by
    have h1:(a::b::r).length=r.length+2:=rfl
    have h2:(b::r).length=r.length+1:=rfl
    omega
   rw[e,List.eraseIdx_cons_succ,ih]
   all_goals rfl
section
variable {X:Cx}{pins:List (Addr×Obj)}{σ:St}{H:Hp}{s:Shared}{l b:Addr}{xs ys zs:List V}
theorem A1.lset {its its':List Value}{n:Nat}{f:Array Value->Array Value}{t':Nat}(I:A1 X pins σ H s)(hH:H l=some (.lst xs))
  (e:s.heap.get? l=some {cls:=.type "list",data:=.seq its.toArray n}) (hf:f its.toArray=its'.toArray) (hv:As ys its') (hz:ys.length<=sizeLine) :
  A1 X pins σ (upd H l (.lst ys)) {s with heap:=s.heap.update l (Obj.mapSeq f),toks:=t'}:=by
 have q:=PySem.IsL.update e f
 rw[hf]at q
 refine I.write (x:=l) (e:=l) (by rw[hH];exact trivial) (.inl rfl) (fun b' u hb hu=>(Fl s.heap (Obj.mapSeq f) (Ne.symm hb)).trans hu) ⟨_,q⟩ ?_
 exact⟨hz,its',_,hv,q⟩
theorem A1.lnew {its:List Value}{t':Nat}(I:A1 X pins σ H s)(hv:As ys its)(hz:ys.length<=sizeLine) :
  A1 X pins σ (upd H s.heap.objs.size (.lst ys)) {s with heap:=s.heap.push {cls:=.type "list",data:=.seq its.toArray},toks:=t'}:=
 I.laid (fun _ _ q=>Bc _ q) (Ai _) ⟨hz,its,0,hv,CB _ rfl⟩
theorem A1.fresh (I:A1 X pins σ H s):H s.heap.objs.size=none:=I.hok.fresh (Ai _)
theorem A1.lstM (I:A1 X pins σ H s)(hH:H l=some (.lst xs)):xs.length<=sizeLine/\∃(its:List Value) (n:Nat),As xs its/\xs.length=its.length/\s.heap.get? l=some {cls:=.type "list",data:=.seq its.toArray n}:=by
 obtain⟨z,its,n,r,e⟩:=I.hok l _ hH
 exact⟨z,its,n,r,r.length,e⟩
end
section
variable {X:Cx}
def MV:V->List V->Hp->VK->Prop:=fun x vs H Q=>∃l xs y,x = .ref l/\vs=[y]/\H l=some (.lst xs)/\xs.length<sizeLine/\Q .non (upd H l (.lst (xs++[y])))
theorem C4:NJ X "list.append" MV:=by
 intro pins s σ H x vs v us Q I rx rv h
 obtain⟨l,xs,y,rfl,rfl,hH,hz,q⟩:=h
 cases rx
 obtain⟨u,rfl,ru⟩:=rv.one
 obtain⟨z,its,n,r,hl,e⟩:=I.lstM hH
 refine GW F.slot_list_append ⟨_,e,rfl⟩ F.entry_list_append (F.args_list_append_2 _ _) (PySem.list_append l its.toArray n u (by rw[BD];omega)) ⟨e,?_⟩
 refine⟨.non,_,I.lset (its':=its++[u]) hH e (by simp) (r.append (.cons ru .nil)) ?_,rfl,q⟩
 rw[Ap,Bk]
 omega
def Sn:V->List V->Hp->VK->Prop:=fun x vs H Q=>∃l xs y,x = .ref l/\vs=[]/\H l=some (.lst xs)/\xs[xs.length-1]?=some y/\Q y (upd H l (.lst xs.dropLast))
theorem Dz:NJ X "list.pop" Sn:=by
 intro pins s σ H x vs v us Q I rx rv h
 obtain⟨l,xs,y,rfl,rfl,hH,hy,q⟩:=h
 cases rx
 have hus:=rv.zero
 subst hus
 obtain⟨z,its,n,r,hl,e⟩:=I.lstM hH
 obtain⟨u,hu,ru⟩:=r.get hy
 have hy':its.toArray[its.toArray.size-1]?=some u:=by
  show its.toArray[its.length-1]?=some u
  rw[←Array.getElem?_toList,←hl]
  exact hu
 refine GW F.slot_list_pop ⟨_,e,rfl⟩ F.entry_list_pop (F.args_list_pop_1 _) (MeetsSeq.list_pop_last l its.toArray n u hy' (by rw[BD];omega)) ⟨e,?_⟩
 refine⟨y,_,I.lset (its':=its.dropLast) hH e ?_ r.dropLast ?_,ru,q⟩
 .show its.toArray.eraseIdxIfInBounds (its.toArray.size-1)=its.dropLast.toArray
  rw[BD,List.eraseIdxIfInBounds_toArray,PQ]
 .rw[List.length_dropLast]
  omega
def Vs:R2:=fun x y H Q=>∃l b xs zs,x = .ref l/\y = .ref b/\H l=some (.lst xs)/\H b=some (.lst zs)/\xs.length+zs.length<=sizeLine/\∀p,H p=none->Q (.ref p) (upd H p (.lst (xs++zs)))
theorem EL:Bw X (binaryOp .Add) Vs:=by
 intro pins s σ H x y v u Q I rx ry h
 obtain⟨l,b,xs,zs,rfl,rfl,hH,hB,hz,q⟩:=h
 cases rx
 cases ry
 obtain⟨z,its,n,r,hl,e⟩:=I.lstM hH
 obtain⟨z2,its2,n2,r2,hl2,e2⟩:=I.lstM hB
 refine PySem.P.add_list e e2 ?_ (by rw[BD,BD];omega)
 have ea:its.toArray++its2.toArray=(its++its2).toArray:=by simp
 rw[ea]
 exact⟨.ref _,_,I.lnew (t':=s.toks) (r.append r2) (by rw[Ap];omega),rfl,q _ I.fresh⟩
end
section
variable {prog:Program}{w:World}{A:Around}{E:Value->Shared->Prop}{s:Shared}
set_option maxRecDepth 100000 in
end
section
variable {X:Cx}
end
section
variable {κ:Type}[DecidableEq κ]
def Cy (kvs:List (κ×V))(k:κ):Option V:=(kvs.find? fun kv=>decide (kv.1=k)).map (·.2)
def EM (kvs:List (κ×V))(k:κ)(v:V):List (κ×V):=
 if(kvs.any fun kv=>decide (kv.1=k))=true then kvs.map (fun kv=>if kv.1=k then(kv.1,v) else kv) else kvs++[(k,v)]
theorem VF {p:κ×V}{r:List (κ×V)}{k:κ}(e:p.1=k):Cy (p::r) k=some p.2:=by simp[Cy,LI,e]
theorem Vf {p:κ×V}{r:List (κ×V)}{k:κ}(e:¬p.1=k):Cy (p::r) k=Cy r k:=by simp[Cy,LI,e]
theorem QC (kvs:List (κ×V))(k:κ)(v:V):(EM kvs k v).length<=kvs.length+1:=by
 unfold EM
 split
 .rw[Aq];omega
 .rw[Ap,AO,JU];omega
theorem KV.val {kvs:List (κ×V)}{vs:List (κ×Value)}(r:KV kvs vs)(k:κ):El (Cy kvs k) (valueAt vs k):=by
 unfold KV at r
 induction r with
 |nil=>exact True.intro
 |
  @cons p q ps qs h t ih=>
  obtain⟨h1,h2⟩:=h
  by_cases e:p.1=k
  .have e':q.1=k:=h1.symm.trans e
   have b:valueAt (q::qs) k=some q.2:=by simp[valueAt,LI,e']
   rw[VF e,b];exact h2
  .have e':¬q.1=k:=fun z=>e (h1.trans z)
   have b:valueAt (q::qs) k=valueAt qs k:=by simp[valueAt,LI,e']
   rw[Vf e,b];exact ih
theorem KV.any {kvs:List (κ×V)}{vs:List (κ×Value)}(r:KV kvs vs)(k:κ):(kvs.any fun kv=>decide (kv.1=k))=vs.any fun kv=>decide (kv.1=k):=by
 unfold KV at r
 induction r with
 |nil=>rfl
 |cons h t ih=>rw[HP,HP,ih,h.1]
theorem KV.repl {kvs:List (κ×V)}{vs:List (κ×Value)}(r:KV kvs vs)(k:κ){y:V}{u:Value}(ry:Ay y u) :
  KV (kvs.map fun kv=>if kv.1=k then(kv.1,y) else kv) (vs.map fun kv=>if kv.1=k then(kv.1,u) else kv):=by
 unfold KV at r ⊢
 induction r with
 |nil=>exact .nil
 |
  @cons p q ps qs h t ih=>
  rw[C8,C8]
  refine .cons ?_ ih
  obtain⟨h1,h2⟩:=h
  by_cases e:p.1=k
  .rw[Af e,Af (h1.symm.trans e)];exact⟨h1,ry⟩
  .rw[A9 e,A9 (fun z=>e (h1.trans z))];exact⟨h1,h2⟩
theorem KV.put {kvs:List (κ×V)}{vs:List (κ×Value)}(r:KV kvs vs)(k:κ){y:V}{u:Value}(ry:Ay y u):KV (EM kvs k y) (stored vs k u):=by
 unfold EM stored
 rw[r.any k]
 by_cases e:(vs.any fun kv=>decide (kv.1=k))=true
 .rw[Af e,Af e];exact r.repl k ry
 .rw[A9 e,A9 e];exact Paired.snoc r ⟨rfl,ry⟩
theorem KV.length {kvs:List (κ×V)}{vs:List (κ×Value)}(r:KV kvs vs):kvs.length=vs.length:=Paired.length r
end
theorem Jp {P:Program}{w:World}{k:B5}{u:Value}(r:Ay (kV k) u):(Dq P w).is k u=true:=by
 cases k with
 |inl i=>obtain⟨t,e⟩:=(show ∃t,u=Value.int i t from r);subst e;exact Qf P w i t
 |inr x=>obtain⟨t,e⟩:=(show ∃t,u=Value.str x t from r);subst e;exact RV P w x t
theorem On {P:Program}{w:World}:∀{ks:List B5} {us:List Value},As (ks.map kV) us->ItemsAre (Dq P w) ks us
 |[],_,r=>by rw[List.map_nil]at r;cases r;exact .nil
 |
  k::ks,_,r=>by
  rw[C8]at r
  cases r with
  |cons h t=>exact .cons (Jp h) (On t)
abbrev KT (H:Hp):List (List B5×V)->List (List B5×Addr×Value)->Prop:=Paired fun p q=>p.1=q.1/\H q.2.1=some (.tup (p.1.map kV))/\Ay p.2 q.2.2
section
variable {P:Program}{w:World}{H:Hp}{h:Heap}{a:Addr}
theorem O5 {u:HO}(ok:Bf P w H h)(e:Rd H a u):Bp P w H h a u:=e.ok ok
theorem Nt {kvs:List (B5×V)}(ok:Bf P w H h)(e:Rd H a (.dK kvs)):kvs.length<=sizeLine/\(a==sysModules)=false/\∃vs,KV kvs vs/\h.DictOf (Dq P w) a vs:=
 show Bp P w H h a (.dK kvs) from O5 ok e
theorem PM {kvs:List (B5×V)}(ok:Bf P w H h)(e:H a=some (.dK kvs)):kvs.length<=sizeLine/\(a==sysModules)=false/\∃vs,KV kvs vs/\h.DictOf (Dq P w) a vs:=Nt ok (.inl e)
theorem RY {ks:List B5}(ok:Bf P w H h)(e:H a=some (.tup (ks.map kV))):(tupleKind (Dq P w)).is h ks a:=by
 obtain⟨_,its,r,o,h1,h2,⟨n,h3⟩,_⟩:=(show Bp P w H h a (.tup (ks.map kV)) from ok a _ e)
 exact⟨o,its.toArray,n,h1,h2,h3,by simpa using On r⟩
theorem Vl {kvs:List (List B5×V)}(ok:Bf P w H h)(e:Rd H a (.dT kvs)):kvs.length<=sizeLine/\(a==sysModules)=false/\
  ∃xs,KT H kvs xs/\h.DictOfH (tupleKind (Dq P w)) a xs:=by
 obtain⟨z,y,xs,r,o,es,ep,h1,h2,h3,h4,h5⟩:=(show Bp P w H h a (.dT kvs) from O5 ok e)
 refine⟨z,y,xs,r,o,es,ep,h1,h2,h3,h4,fun x hx=>?_,h5⟩
 have all:∀{l:List (List B5×V)} {m:List (List B5×Addr×Value)},KT H l m->∀x∈m,(tupleKind (Dq P w)).is h x.1 x.2.1:=by
  intro l m q
  induction q with
  |nil=>intro x hx;exact nomatch hx
  |
   @cons p q ps qs hq t ih=>
   intro x hx
   rcases AH.mp hx with e|hx
   .subst e
    exact RY ok (by rw[←hq.1];exact hq.2.1)
   .exact ih x hx
 exact all r x hx
end
section
variable {X:Cx}{pins:List (Addr×Obj)}{σ:St}{H:Hp}{s:Shared}{a:Addr}{y v:V}{u r:Value}{o:Option V}{A:Around}{E:Value->Shared->Prop}
theorem A1.big (I:A1 X pins σ H s):sysModules<s.heap.objs.size:=by
 have h:mainGlobals<s.heap.objs.size:=(I.mod.glob.keeps I.bk).lt
 exact Nat.lt_trans (by decide) h
theorem Pm {h':Heap}{t':Nat}{ob:HO}(I:A1 X pins σ H s)(mu:Hn (H a))(hs:Heap.SameBut a s.heap h')(he:∃q,h'.get? a=some q)(new:Bp X.prog X.w (upd H a ob) h' a ob) :
  A1 X pins σ (upd H a ob) {s with heap:=h',toks:=t'}:=
 I.write (x:=a) (e:=a) mu (.inl rfl) (fun b q hb z=>(hs.2 b hb).trans z) he new
theorem QR {P:Program}{w:World}{H':Hp}{h':Heap}{kvs:List (B5×V)}{vs:List (B5×Value)}(z:kvs.length<=sizeLine)(hd:(a==sysModules)=false)(rel:KV kvs vs)(dd:h'.DictOf (Dq P w) a vs) :
 Bp P w H' h' a (.dK kvs):=⟨z,hd,vs,rel,dd⟩
end
section
variable {X:Cx}{pins:List (Addr×Obj)}{σ:St}{H:Hp}{s:Shared}{a:Addr}{kvs:List (B5×V)}{k:B5}{u:Value}{A:Around}{E:Value->Shared->Prop}
end
def O3 (i:Expr):Prop := ∀ov iv,subscripted i false ov iv=operate [ov,iv] (getItem ov iv)
theorem Tg {prog:Program}{w:World}{A:Around}{E:Value->Shared->Prop}{s:Shared}{env:Env}{value slice:Expr}{pos:Pos}{T id:String}{Q:Value->Shared->Prop}
  (hl:typeLookup (.type T) "__getitem__"=pure (some (.builtin id))) (hs:O3 slice)
  (h:wpAny (model prog w) A (eval value env) (fun o s₁=>wpAny (model prog w) A (eval slice env) (fun i s₂=>s₂.TypeIs o T/\wpAny (model prog w) A (getItem o i) Q E s₂) E s₁) E s) :
  wpAny (model prog w) A (eval (.Subscript value slice pos) env) Q E s:=by
 refine Subscript_ (Ct h (fun o s₁ h₁=>Ct h₁ (fun i s₂ h₂=>?_) fun _ _ x=>x) fun _ _ x=>x)
 obtain⟨hT,h₂⟩:=h₂
 unfold subscriptTail
 refine Ah ?_
 rw[getitemInPython_of_ne hT.not_modules]
 refine Ah (wpAny_specialOf hT hl ?_)
 have fin:wpAny (model prog w) A (subscripted slice false o i) (fun r s₃=>wpAny (model prog w) A (letTemporaryGo value o r>>=fun _=>pure r) Q E s₃) E s₂:=by
  rw[hs o i]
  exact wpAny_operating (Ct h₂ (fun r s₃ h₃=>Ah (wpAny_letTemporaryGo (B9 h₃))) fun _ _ x=>x)
 first
  |exact B9 (Ah fin)
  |exact Ah (B9 (Ah fin))
  |exact Ah fin
section
variable {X:Cx}{o i e value:Expr}{pos pos' tpos:Pos}{td ty tv:TE}
end
theorem P2 {P:Program}{w:World}{H:Hp}(h:Heap)(hb:sysModules<h.objs.size):Bp P w H (h.push {cls:=.type "dict",data:=.dict #[]}) h.objs.size (.dK []):=
 ⟨C0 _,G5.mpr (Ne.symm (BL hb)),[],.nil,Heap.DictOf.new h⟩
def T4:TE:=fun _ H Q=>∀p,H p=none->Q (.ref p) (upd H p (.dK []))
section
variable {X:Cx}{pos:Pos}
theorem Te:PE X (.Dict [] [] pos) T4:=fun pins s σ H Q I h=>
 wpAny_Dict_empty ⟨.ref s.heap.objs.size,_,I.laid (a:=s.heap.objs.size) (o:=.dK []) (t':=s.toks) (fun _ _ q=>Bc _ q) (Ai _) (P2 s.heap I.big),rfl,h _ (I.hok.fresh (Ai _))⟩
end
structure M2 (X:Cx)(o:Expr)(m:Str)(apos:Pos)(e f:Expr)(cpos:Pos):Prop where
 base:attributeBase o m X.env (eval o X.env)=eval o X.env
 few:((backTo cpos (starEach [e,f] X.env)).all (fun x=>!x.1)&&(backToKw cpos (keywordEach [] X.env)).all (fun x=>x.1.isSome)
  && decide (([e,f]:List Expr).length+([]:List Keyword).length+(if([]:List Keyword).isEmpty then 0 else 1)<30))=true
 line:(apos.endLine==cpos.line)=true
 trees:backTo cpos (starEach [e,f] X.env)=[(false,eval e X.env),(false,eval f X.env)]
def O6 (H:Hp)(a:Addr):Prop:=(∃kvs,Rd H a (.dK kvs))\/∃kvs,Rd H a (.dT kvs)
theorem U0 {X:Cx}{pins:List (Addr×Obj)}{σ:St}{H:Hp}{s:Shared}{a:Addr}(I:A1 X pins σ H s)(d:O6 H a) :
  s.TypeIs (.ref a) "dict"/\(∀b,Value.ref a = .ref b->∃ob,s.heap.get? b=some ob/\ob.dict=none)/\(a==sysModules)=false:=by
 rcases d with⟨kvs,e⟩|⟨kvs,e⟩
 .obtain⟨_,hd,vs,_,dd⟩:=Nt I.hok e
  refine⟨dd.typeIs,fun b q=>?_,hd⟩
  cases q
  obtain⟨ob,_,_,h1,h2,_⟩:=dd
  exact⟨ob,h1,h2.2.1⟩
 .obtain⟨_,hd,xs,_,dd⟩:=Vl I.hok e
  refine⟨dd.typeIs,fun b q=>?_,hd⟩
  cases q
  obtain⟨ob,_,_,h1,h2,_⟩:=dd
  exact⟨ob,h1,h2.2.1⟩
section
variable {X:Cx}{pins:List (Addr×Obj)}{σ:St}{H:Hp}{s:Shared}{a:Addr}{y d:V}{u r:Value}{o:Option V}{A:Around}{E:Value->Shared->Prop}
end
section
variable {X:Cx}{o e f:Expr}{apos cpos:Pos}{td ty tx:TE}
end
section
variable {X:Cx}{pins:List (Addr×Obj)}{σ:St}{H:Hp}{s:Shared}{a:Addr}{kvs:List (B5×V)}{A:Around}{E:Value->Shared->Prop}
end
section
variable {X:Cx}{pins:List (Addr×Obj)}{σ:St}{H:Hp}{s:Shared}{a:Addr}{y:V}{u:Value}{A:Around}{E:Value->Shared->Prop}
end
end L2
namespace Att
open PySem PySem.W PySem.Calls PyProof.Rows
theorem Sw {P:Params}{h:Heap}:∀(ns:List Int) (vs:List Value),WellAll P h vs (ns.map WData.int)->IntsAre vs ns:=by
 intro ns
 induction ns with
 |
  nil=>
  intro vs w
  rw[List.map_nil]at w
  cases w
  exact .nil
 |
  cons n ns ih=>
  intro vs w
  rw[C8]at w
  cases w with
  |
   cons a b=>
   cases a
   exact .cons _ _ (ih _ b)
theorem RC {l:OpenLaw}{n:Nat}(hn:l.most=some n){P:Params}{h:Heap}{args:List WData}{vals:List Value}
  (hpre:l.row.toRowW.claim.pre args=true) (hwl:WellAll P h vals args) :
  ∃a vs ns,vals=[Value.ref a]/\args=[WData.list (ns.map WData.int)]/\h.get? a=some {cls:=.type "list",data:=.seq vs.toArray}/\IntsAre vs ns/\ns.length<=n:=by
 have hsh:WShape.hasAll [] args [.list .int]=true:=(pre_splitW hpre).1
 have hc:l.pre.holds [] {args:=args}=true:=(pre_splitW hpre).2
 obtain⟨d,r,rfl,h1,h2⟩:=hasAllW_cons hsh
 obtain rfl:=hasAllW_nil h2
 obtain⟨xs,rfl,h3⟩:=hasW_list h1
 obtain⟨ns,rfl⟩:=items_int h3
 have hlen:ns.length<=n:=by
  unfold OpenLaw.pre at hc
  have h4:(WTm.not (.lt (.lit (.int (n:Int))) (.len (.arg 0)))).holds [] {args:=[.list (ns.map .int)]}=true:=by
   have h4:=(holds_andW hc).1
   rw[hn]at h4
   exact h4
  have h5:=condW_of h4 (w_not (w_lt w_lit (w_len_list (w_arg rfl))))
  rw[Aq]at h5
  refine Nat.le_of_not_lt fun q=>?_
  have q':(n:Int)<((ns.length:Nat):Int):=by omega
  first
   |(rw[B7 q']at h5;exact absurd h5 (by decide))
   |(simp at h5;omega)
 cases hwl with
 |
  cons w1 w2=>
  cases w2
  cases w1 with
  |list ho hall=>exact⟨_,_,ns,rfl,rfl,ho,Sw ns _ hall,hlen⟩
theorem V9 (l:OpenLaw)(args:List WData):l.row.toRowW.claim.post args (.bool true) args=true:=
 postW_of (r:=l.row.toRowW) (X:=(true==true))
  (show WShape.has [] (.bool true) .bool=true by first|rfl|decide|simp[WShape.has,WShape.arms,WShape.armsAll])
  (show(WTm.eq .res (.lit (.bool true))).value [] {args:=args,res:=some (.bool true),after:=args}=some (.bool (true==true)) from w_eq_bool (w_res rfl) w_lit) rfl
theorem attach_call {l:OpenLaw}{n:Nat}{q:Program}{loose:List Str}{XP:(Str->Option Value)->Heap->Prop}{YP:World->Heap->Prop}{d:DefRec}
  (hn:l.most=some n) (hdf:d.params.defaults=[])
  (call:∀(w:World) (s₀ s₁:Shared) (mg mb:Str->Option Value) (fa:Addr) (o:Obj) (pm cd doc:Value) (a:Addr) (vs:List Value) (ns:List Int),
   Ground q loose [] XP w s₀ mg mb s₁.heap->YP w s₁.heap->
   s₁.heap.get? fa=some o->o.data = .func (docDef d.name d.params d.body d.scope pm cd doc)->s₁.heap.CodeRec cd d.name->mg d.name=some (.ref fa)->
   s₁.heap.get? a=some {cls:=.type "list",data:=.seq vs.toArray}->IntsAre vs ns->ns.length<=n->s₁.gens = #[]->
   codeAny (model l.prog w) callerA (.call (.ref fa) ⟨[.ref a],[]⟩) (fun r s'=>r = .ok (.ret (.bool true))/\OldK s₁.heap s'.heap/\s'.os=s₁.os/\AllBare s'.gens) s₁) :
  WalkO q loose XP YP l.row.toRowW d [] (fun f vs=>PySem.call f vs):=by
 intro w s₀ s₁ mg mb G Y fa o pm cd doc dV kV ho hd hcd hD hmg hg args vals as hpre hlay hrd hwl hlo
 obtain rfl:dV = .none:=Dflts.none hD hdf
 obtain rfl:kV = .none:=Dflts.noKw hD
 obtain⟨a,vs,ns,rfl,rfl,hobj,hints,hlen⟩:=RC hn hpre hwl
 refine enter_call (Fq (call w s₀ s₁ mg mb fa o pm cd doc a vs ns G Y ho (fd_plain hd) hcd hmg hobj hints hlen hg) fun r s' hq=>?_)
 obtain⟨rfl,h2,h3,h4⟩:=hq
 exact⟨.inl ⟨.bool true,.bool true,[],rfl,fun _=>rfl,.bool true,V9 l _,fun _=>⟨List.Pairwise.nil,fun _ hm=>(nomatch hm)⟩⟩,h2,h3,h4⟩
section
variable {prog:Program}{w:World}{A:Around}{E:Value->Shared->Prop}{s:Shared}{K:Frag}
end
end Att
namespace L2
open PySem PySem.Spec PyProof.Rows
theorem NN:∀{vs:List Value} {ns:List Int},IntsAre vs ns->As (ns.map V.int) vs
 |_,_,.nil=>.nil
 |_,_,.cons n t h=>.cons ⟨t,rfl⟩ (NN h)
def Jm (H:Hp):Prop := ∀b,H b=none\/∃o xs,H b=some (.frz o (.lst xs))
theorem RJ {P:Program}{w:World}{K:Xa}{mg mb:Str->Option Value}{CX:Dx}{k:Nat}{fa a:Addr}{fd:FuncData}{x:Str}{sp:Sp}{s₁:Shared}{vs:List Value}{ns:List Int}
  (KX:K.In s₁.heap) (hns:s₁.heap.Ns mainGlobals mg) (hb:s₁.heap.Ns builtinsNs mb) (hbb:∀x:Str,x≠"__name__"->mb x=bootBuiltins x) (hlim:s₁.heap.NoLimit) (hg:s₁.gens = #[])
  (ha:s₁.heap.get? a=some {cls:=.type "list",data:=.seq vs.toArray}) (hi:IntsAre vs ns) (hl:ns.length<=sizeLine) (hr:BR k callerA)
  (F:∀base:Heap,K.In base->base.Ns mainGlobals mg->AJ P w K mg base CX k fa fd [x] sp) (hbind:∀(s:Shared) (u:Value),BindsTo s fd ⟨[u],[]⟩ [(x,u)])
  (hsp:∀H:Hp,Jm H->A2 K H a (ns.map V.int)->sp [.ref a] H (fun v _=>v = .bl true) fun _ _ _=>False)
  (hCX:∀H e s',CX [] H s₁ (fun _ _ _=>False) e s'->False) :
  codeAny (model P w) callerA (.call (.ref fa) ⟨[.ref a],[]⟩) (fun r s'=>r = .ok (.ret (.bool true))/\OldK s₁.heap s'.heap/\s'.os=s₁.os/\AllBare s'.gens) s₁:=by
 have rv:=NN hi
 have lenV:=hi.length
 have core:∀H:Hp,Jm H->A2 K H a (ns.map V.int)->Bf P w H s₁.heap->(∀b,H b≠none->b=a)->(H a≠none->K.lookup a=none)->
   codeAny (model P w) callerA (.call (.ref fa) ⟨[.ref a],[]⟩) (fun r s'=>r = .ok (.ret (.bool true))/\OldK s₁.heap s'.heap/\s'.os=s₁.os/\AllBare s'.gens) s₁:=by
  intro H hO hS hok hA hK
  have base_of:∀{b:Addr} {o:Obj},s₁.heap.get? b=some o->H b=none->(EW s₁.heap H).get? b=some o:=fun e n=>OS e n
  have noA:∀{b:Addr} {o:Obj} {es:Array DictEntry} {ep:Nat},s₁.heap.get? b=some o->o.data = .dict es ep->H b=none:=fun{b o es ep} e d=>by
   cases q:H b with
   |none=>rfl
   |
    some u=>
    have e':b=a:=hA b (by rw[q];simp)
    subst e'
    rw[ha]at e;cases e
    have d':Data.seq vs.toArray _=Data.dict es ep:=d
    cases d'
  have nsK:∀{b:Addr} {m:Str->Option Value},s₁.heap.Ns b m->(EW s₁.heap H).Ns b m:=fun{b m} ⟨o,es,ep,e,d,r⟩=>⟨o,es,ep,base_of e (noA e d),d,r⟩
  have hKb:K.In (EW s₁.heap H):=fun b o e=>base_of (KX b o e) (by
   cases q:H b with
   |none=>rfl
   |
    some u=>
    have e':b=a:=hA b (by rw[q];simp)
    subst e'
    rw[hK (by rw[q];simp)]at e;cases e)
  have hM:Mod K mg (EW s₁.heap H):=⟨hKb,nsK hns,⟨mb,nsK hb,hbb⟩,let ⟨mc,h1,h2⟩:=hlim;⟨mc,nsK h1,h2⟩⟩
  have e0:FS P w K mg (EW s₁.heap H) callerA [] s₁ H:=⟨rfl,hM,fun b o e=>QK e,Nat.le_of_eq (OW _ _),trivial,fun b hb=>absurd (show b∈([]:List Addr) from hb) (by simp),hok,.of_eq hg⟩
  refine Fq ((F _ hKb (nsK hns)).run callerA [] s₁ H ⟨[.ref a],[]⟩ [.ref a] [.ref a] _ _ hr e0 (hbind s₁ (.ref a)) (.cons rfl .nil) (hsp H hO hS)) fun r s' h=>?_
  cases r with
  |error e=>exact(hCX H e s' h).elim
  |
   ok fl=>
   cases fl with
   |next=>exact False.elim h
   |brk=>exact False.elim h
   |cont=>exact False.elim h
   |
    ret u=>
    obtain⟨v,H',os,bare,un,hok',r',q⟩:=h
    have q':v = .bl true:=q
    subst q'
    obtain rfl:u=Value.bool true:=r'
    refine⟨rfl,OldK.of_keep fun b o e=>?_,os,bare⟩
    cases q:H b with
    |none=>exact un.keep b o e q (by intro z;exact absurd (show b∈([]:List Addr) from z) (by simp)) (by simp)
    |
     some u=>
     rcases hO b with z|⟨ob,xs,z⟩
     .rw[q]at z;cases z
     .have z2:=un.frzs b ob _ z
      obtain⟨e1,_⟩:=hok b _ z
      obtain⟨e2,_⟩:=hok' b _ z2
      rw[e]at e1;cases e1
      exact e2
 cases hk:K.lookup a with
 |
  some o=>
  have e:=KX a o hk
  rw[ha]at e
  cases e
  refine core (fun _=>none) (fun _=>.inl rfl) (.inr ⟨_,vs.toArray,_,hk,rfl,rfl,rfl,by rw[BD,lenV];exact hl,by simpa using rv⟩) (fun b u z=>by have z':(none:Option HO)=some u:=z;cases z') (fun b z=>absurd rfl z) fun z=>absurd rfl z
 |
  none=>
  refine core (fun b=>if b=a then some (.frz {cls:=.type "list",data:=.seq vs.toArray} (.lst (ns.map V.int))) else none) (fun b=>?_) (.inl (.inr ⟨{cls:=.type "list",data:=.seq vs.toArray},Af rfl⟩)) (fun b u z=>?_) (fun b z=>?_) fun _=>hk
  .by_cases hb:b=a
   .exact .inr ⟨_,_,Af hb⟩
   .exact .inl (A9 hb)
  .by_cases hb:b=a
   .have z':=(Af hb).symm.trans z
    cases z'
    subst hb
    exact⟨ha,by rw[Aq];exact hl,vs,_,rv,ha⟩
   .have z':=(A9 hb).symm.trans z
    cases z'
  .by_cases hb:b=a
   .exact hb
   .exact absurd (A9 hb) z
theorem walk_of {l:PySem.W.OpenLaw}{n k:Nat}{q:Program}{loose:List Str}{XP:(Str->Option Value)->Heap->Prop}{YP:World->Heap->Prop}{d:DefRec}{K:Params->Xa}{CX:World->Dx}{sp:World->Sp}{x:Str}
  (hn:l.most=some n) (hn2:n<=sizeLine) (hdf:d.params.defaults=[]) (hr:BR k callerA)
  (hY:∀(w:World) (h:Heap),YP w h->(K w.params).In h)
  (F:∀(w:World) (mg:Str->Option Value) (fa:Addr) (h:Heap),(K w.params).In h->h.Ns mainGlobals mg->mg d.name=some (.ref fa)->
   ∃fd:FuncData,(∀(s:Shared) (u:Value),BindsTo s fd ⟨[u],[]⟩ [(x,u)])/\
    ∀base:Heap,(K w.params).In base->base.Ns mainGlobals mg->AJ l.prog w (K w.params) mg base (CX w) k fa fd [x] (sp w))
  (hsp:∀(w:World) (H:Hp) (a:Addr) (ns:List Int),ns.length<=n->Jm H->A2 (K w.params) H a (ns.map V.int)->sp w [.ref a] H (fun v _=>v = .bl true) fun _ _ _=>False)
  (hCX:∀(w:World) (H:Hp) (s:Shared) (e:Value) (s':Shared),CX w [] H s (fun _ _ _=>False) e s'->False) :
  PySem.W.WalkO q loose XP YP l.row.toRowW d [] (fun f vs=>PySem.call f vs):=by
 refine Att.attach_call hn hdf fun w s₀ s₁ mg mb fa o pm cd doc a vs ns G Y ho hd hcd hmg hobj hints hlen hg=>?_
 have KX:=hY w _ Y
 obtain⟨fd,hb,hF⟩:=F w mg fa _ KX G.T.g hmg
 exact RJ KX G.T.g G.T.b G.T.builtins G.T.nolimit hg hobj hints (Bz hlen hn2) hr hF hb (fun H hO hS=>hsp w H a ns hlen hO hS) fun H e s'=>hCX w H s₁ e s'
def F8 (s:Stmt)(j:Nat):Stmt:=match s with
 |.ClassDef _ _ _ body _ _ _ _ _ _ _=>body.getD j (.Pass ⟨0,0,0,0⟩)
 |_=>.Pass ⟨0,0,0,0⟩
def HF (s:Stmt):Arguments:=match s with
 |.FunctionDef _ a _ _ _ _ _ _ _ _=>a
 |_=>{posonlyargs:=[],args:=[],vararg:=none,kwonlyargs:=[],kw_defaults:=[],kwarg:=none,defaults:=[]}
def FN (s:Stmt):List Stmt:=match s with
 |.FunctionDef _ _ b _ _ _ _ _ _ _=>b
 |_=>[]
def AB (s:Stmt):Scope:=match s with
 |.FunctionDef _ _ _ _ _ _ sc _ _ _=>sc
 |_=>{kind:=.function,names:=[],isGenerator:=false,isCoroutine:=false}
abbrev AS:Dx:=fun _ _ _ _ _ _=>False
abbrev E0:XK:=fun _ _ _=>False
theorem Au {X:Cx}:Ff AS X E0:=fun _ _ _ _ _ _ _ h=>h.elim
structure AM (K:Xa)(x qual:Str)(st:Stmt)(f:Addr)(fd:FuncData):Prop where
 ex:∃(oc:Value) (od:Option Addr) (kV doc pm:Value) (an:Option Addr) (cdv ct:Value) (osl:Array (Option Value)),
  fd=PySem.W.fnOf x qual (HF st) (FN st) (AB st) .none kV doc pm an cdv ct/\K.lookup f=some ⟨oc,od,.func fd,osl⟩/\PySem.W.codeIn K cdv qual=true
 kp:PySem.W.keepIn K (.ref f)=true
section
variable {P:Program}{w:World}{K:Xa}{mg:Str->Option Value}{base:Heap}
theorem AM.ok {x qual:Str}{st:Stmt}{f:Addr}{fd:FuncData}{N ps:List Str}{k:Nat}{sp:Sp}(F:AM K x qual st f fd)(S:AQ N ps (AB st))(len:∀vs H Q E,sp vs H Q E->vs.length=ps.length)
  (hbody:∀(cdv:Value) (A:Around) (outer:List Env) (s:Shared) (H:Hp) (vs:List V) (Q:VK) (E:XK),BR k (A.deeper (envOfC qual (AB st) s.heap.objs.size f cdv))->sp vs H Q E->
   ∃t,CV (F7 AS P w K mg base N qual (AB st) f cdv A outer s H E).nox (FN st) t/\t {nx:=fun _ H'=>Q .non H',rt:=Q} (start N vs) H):AJ P w K mg base AS (k+1) f fd ps sp:=by
 obtain⟨oc,od,kV,doc,pm,an,cdv,ct,osl,rfl,lk,hcd⟩:=F.ex
 refine MG lk hcd S len fun A outer s H vs Q E hr hsp=>?_
 obtain⟨t,h,q⟩:=hbody cdv A outer s H vs Q E hr hsp
 exact⟨t,h.nox,q⟩
theorem AM.binds {x qual:Str}{st:Stmt}{f:Addr}{fd:FuncData}{ps:List Str}(F:AM K x qual st f fd)
  (h:∀(kV doc pm:Value) (an:Option Addr) (cdv ct:Value) (us:List Value),us.length=ps.length->bindArgs (PySem.W.fnOf x qual (HF st) (FN st) (AB st) .none kV doc pm an cdv ct) ⟨us,[]⟩=pure (ps.zip us)):AL K fd ps []:=by
 obtain⟨oc,od,kV,doc,pm,an,cdv,ct,osl,rfl,lk,hcd⟩:=F.ex
 exact .all (h kV doc pm an cdv ct)
theorem fun_mk {x qual:Str}{st:Stmt}{f:Addr}{oc:Value}{od an:Option Addr}{osl:Array (Option Value)}{kV doc pm cdv ct:Value}(l:K.lookup f=some ⟨oc,od,.func (PySem.W.fnOf x qual (HF st) (FN st) (AB st) .none kV doc pm an cdv ct),osl⟩)
 (c:PySem.W.codeIn K cdv qual=true) (k:PySem.W.keepIn K (.ref f)=true):AM K x qual st f (PySem.W.fnOf x qual (HF st) (FN st) (AB st) .none kV doc pm an cdv ct):=⟨⟨oc,od,kV,doc,pm,an,cdv,ct,osl,rfl,l,c⟩,k⟩
end
section
variable {X:Cx}
theorem pv (i:Nat){x:Str}{pos:Pos}(hN:X.N[i]?=some x:=by rfl)(hv:Hq X.env.scope x:=by first|exact Or.inl rfl|exact Or.inr (.inl rfl)|exact Or.inr (.inr rfl))(hd:(x==("__debug__":Str))=false:=by decide)
 (hcd:(x==("__classdict__":Str))=false:=by decide):PE X (.Name x pos) (Ed i):=Qi hN hv hd hcd
end
theorem AA {A B:Prop}(h:B):if false=true then A else B:=by
 rw[A9 BM]
 exact h
theorem Bq {A B:Prop}(h:A):if true=true then A else B:=by
 rw[Af rfl]
 exact h
theorem Az {c A B:Prop}[Decidable c](h1:c->A)(h2:¬c->B):if c then A else B:=by
 by_cases h:c
 .rw[Af h]
  exact h1 h
 .rw[A9 h]
  exact h2 h
def A8 (H H':Hp):Prop := ∀b o,H b=some o->H' b=some o
theorem A8.refl (H:Hp):A8 H H:=fun _ _ h=>h
theorem A8.trans {H H1 H2:Hp}(a:A8 H H1)(b:A8 H1 H2):A8 H H2:=fun c o h=>b c o (a c o h)
theorem A8.free {H H':Hp}(e:A8 H H'){l:Addr}(h:H' l=Option.none):H l=Option.none:=by
 cases q:H l with
 |none=>rfl
 |
  some o=>
  rw[e l o q]at h
  cases h
theorem A8.seq {K:Xa}{H H':Hp}{a:Addr}{xs:List V}(e:A8 H H')(h:A2 K H a xs):A2 K H' a xs:=by
 rcases h with(h|⟨o,h⟩)|h
 .exact .inl (.inl (e _ _ h))
 .exact .inl (.inr ⟨o,e _ _ h⟩)
 .exact .inr h
section
variable {κ:Type}[DecidableEq κ]
end
theorem KJ (env:Env):∀(l:List (Str×NameKind)) (cs:List (Str×Addr)),(∀n,(n,NameKind.free)∈l->∃c,env.cells.lookup n=some c)->(∀x c,cs.lookup x=some c->env.cells.lookup x=some c)->
  ∃cl,(forIn l cs fun x s=>if(x.snd==NameKind.free)=true then do let c ←cellOf env x.fst;pure (ForInStep.yield ((x.fst,c)::s)) else pure (ForInStep.yield s))=(pure cl:Sem (List (Str×Addr)))/\
   (∀x c,cl.lookup x=some c->env.cells.lookup x=some c)/\(∀n,(n,NameKind.free)∈l->∃c,cl.lookup n=some c)/\∀n c,cs.lookup n=some c->∃c',cl.lookup n=some c'
 |[],cs,_,h=>⟨cs,rfl,h,(fun _ z=>nomatch z),(fun n c e=>⟨c,e⟩)⟩
 |
  (n,k)::r,cs,hf,h=>by
  by_cases hk:k = .free
  .subst hk
   obtain⟨c,hc⟩:=hf n AR
   have e:cellOf env n=pure c:=by unfold cellOf;rw[hc]
   obtain⟨cl,e1,h1,h2,h3⟩:=KJ env r ((n,c)::cs) (fun m hm=>hf m (Bm _ hm)) (fun x c' q=>by
    rw[Fm]at q
    by_cases hx:x=n
    .subst hx;simp at q;subst q;exact hc
    .have:(x==n)=false:=by simpa using hx
     rw[this]at q;exact h x c' q)
   refine⟨cl,?_,h1,fun m hm=>?_,fun m c' q=>?_⟩
   .rw[List.forIn_cons]
    show((do let c ←cellOf env n;pure (ForInStep.yield ((n,c)::cs)))>>=_)=_
    rw[e]
    exact e1
   .rcases AH.mp hm with z|z
    .cases z;exact h3 n c (by simp)
    .exact h2 m z
   .by_cases hx:m=n
    .subst hx;exact h3 m c (by simp)
    .have:(m==n)=false:=by simpa using hx
     exact h3 m c' (by rw[Fm,this];exact q)
  .have hb:(k==NameKind.free)=false:=by simpa using hk
   obtain⟨cl,e1,h1,h2,h3⟩:=KJ env r cs (fun m hm=>hf m (Bm _ hm)) h
   refine⟨cl,?_,h1,fun m hm=>?_,h3⟩
   .rw[List.forIn_cons]
    dsimp only
    rw[hb]
    exact e1
   .rcases AH.mp hm with z|z
    .cases z;exact absurd rfl hk
    .exact h2 m z
theorem Oh {scope:Scope}{env:Env}(h:∀n,(n,NameKind.free)∈scope.names->∃c,env.cells.lookup n=some c) :
  ∃cl,closureFor scope env=pure cl/\(∀x c,cl.lookup x=some c->env.cells.lookup x=some c)/\∀n,(n,NameKind.free)∈scope.names->∃c,cl.lookup n=some c:=by
 obtain⟨cl,e,h1,h2,_⟩:=KJ env scope.names [] h (fun _ _ z=>by simp at z)
 refine⟨cl,?_,h1,h2⟩
 simp only[closureFor]
 rw[e]
 rfl
def Cu (X:Cx)(scope:Scope)(N':List Str)(cl:List (Str×Addr))(C:Addr)(s:Shared)(H:Hp)(fp:List Addr)(pins:List (Addr×Obj)):Cx where
 prog:=X.prog
 w:=X.w
 K:=X.K
 mg:=X.mg
 base:=X.base
 A:=X.A
 N:=N'
 s₀:=s
 H₀:=H
 env:=compEnvC scope cl C X.env
 outer:=X.stack
 stack:=X.stack
 ex:=fp
 calm:=X.calm
 fn:=fun _=>false
 pn:=X.pn++pins
 xe:=fun _ _=>False
structure GE (sc:Scope)(out:Scope):Prop where
 kind:sc.kind = .function
 cell:∀y∈sc.names,y.2≠.cell
 loc:∀y∈sc.names,y.2 = .local->sc.names.lookup y.1=some .local
 free:∀y∈sc.names,y.2 = .free->out.names.lookup y.1=some .cell\/out.names.lookup y.1=some .free
def BE (ρ:List (Option Nat))(σ:St):St:=ρ.map fun o=>match o with|some i=>(σ[i]?).getD none|none=>none
def HD (sc:Scope)(env:Env)(N N':List Str)(ρ:List (Option Nat)):Prop:=
 ρ.length=N'.length/\∀(j i:Nat) (x:Str),ρ[j]?=some (some i)->N'[j]?=some x->N[i]?=some x/\Hq env.scope x/\(x,NameKind.free)∈sc.names
theorem Oj {names:List (Str×NameKind)}{env:Env}{x:Str}{k:NameKind}(h:(names.map fun(n,k)=>if(k==NameKind.free&&env.scope.kind == .function&&env.kindOf n==some .cell) then(n,NameKind.cell) else(n,k)).lookup x=some k)
  (hk:k = .cell\/k = .free) (hc:∀y∈names,y.2≠.cell):(x,NameKind.free)∈names:=by
 induction names with
 |nil=>simp at h
 |
  cons p r ih=>
  obtain⟨n,k'⟩:=p
  by_cases hx:x=n
  .subst hx
   have hk':k' = .free:=by
    by_cases hc':(k'==NameKind.free&&env.scope.kind == .function&&env.kindOf x==some .cell)=true
    .simp only[FZ,D3]at hc'
     exact hc'.1.1
    .simp only[C8]at h
     rw[A9 hc']at h
     simp at h
     subst h
     rcases hk with z|z
     .exact absurd z (hc (x,k') AR)
     .exact z
   rw[hk'];exact AR
  .have hb:(x==n)=false:=by simpa using hx
   refine Bm _ (ih ?_ fun y hy=>hc y (Bm _ hy))
   simp only[C8]at h
   by_cases hc':(k'==NameKind.free&&env.scope.kind == .function&&env.kindOf n==some .cell)=true
   .rw[Af hc',Fm,hb]at h;exact h
   .rw[A9 hc',Fm,hb]at h;exact h
theorem PN:∀{names:List (Str×NameKind)} {env:Env} {x:Str},(x,NameKind.free)∈names->(names.map fun(n,k)=>if(k==NameKind.free&&env.scope.kind == .function&&env.kindOf n==some .cell) then(n,NameKind.cell) else(n,k)).lookup x=some .cell\/
  (names.map fun(n,k)=>if(k==NameKind.free&&env.scope.kind == .function&&env.kindOf n==some .cell) then(n,NameKind.cell) else(n,k)).lookup x=some .free\/names.lookup x≠some .free:=by
 intro names env x hm
 by_cases hl:names.lookup x=some .free
 .induction names with
  |nil=>simp at hl
  |
   cons p r ih=>
   obtain⟨n,k'⟩:=p
   by_cases hx:x=n
   .subst hx
    simp at hl
    subst hl
    by_cases hc':(NameKind.free==NameKind.free&&env.scope.kind == .function&&env.kindOf x==some .cell)=true
    .left;simp only[C8];rw[Af hc'];simp
    .right;left;simp only[C8];rw[A9 hc'];simp
   .have hb:(x==n)=false:=by simpa using hx
    rw[Fm,hb]at hl
    have hm':(x,NameKind.free)∈r:=by
     rcases AH.mp hm with z|z
     .cases z;exact absurd rfl hx
     .exact z
    have q:=ih hm' hl
    simp only[C8]
    by_cases hc':(k'==NameKind.free&&env.scope.kind == .function&&env.kindOf n==some .cell)=true
    .rw[Af hc',Fm,hb,Fm,hb];exact q
    .rw[A9 hc',Fm,hb,Fm,hb];exact q
 .exact .inr (.inr hl)
section
variable {X:Cx}{pins:List (Addr×Obj)}{σ:St}{H:Hp}{s:Shared}{scope:Scope}{N':List Str}{ρ:List (Option Nat)}{cl:List (Str×Addr)}{fp:List Addr}{C D:Addr}
theorem Uj (I:A1 X pins σ H s)(S:GE scope X.env.scope)(hf:∀b∈fp,DO X pins H b)(h1:∀x c,cl.lookup x=some c->X.env.cells.lookup x=some c)(h2:∀n,(n,NameKind.free)∈scope.names->∃c,cl.lookup n=some c)
  (hC:s.heap.objs.size<=C) (hfs:∀b∈fp,b<s.heap.objs.size):(Cu X scope N' cl C s H fp pins).Ok where
 mod:=I.ok.mod
 kind:=S.kind
 glob:=I.ok.glob
 blt:=I.ok.blt
 above:=hC
 inj:=fun x y c e1 e2=>I.ok.inj x y c (h1 x c e1) (h1 y c e2)
 has:=fun x hk=>h2 x (by
  rcases hk with hk|hk
  .exact Oj (env:=X.env) hk (.inl rfl) S.cell
  .exact Oj (env:=X.env) hk (.inr rfl) S.cell)
 cab:=fun _ _ z=>nomatch z
 hd:=I.ok.hd
 frames:=I.ok.frames
 stk:=.inl rfl
 exf:=fun b hb=>⟨BL (C7 (hfs b hb) hC),fun x c e=>(hf b hb).2.2.2.2.1 x c (h1 x c e)⟩
 bs:=I.bs
 bsz:=Bz I.ok.bsz I.sz
 noex:=fun b o e hb=>by
  rcases(hf b hb).2.2.2.1 with z|z
  .exact I.ok.noex b o e z
  .exact absurd (C7 (C7 (B1 e) I.ok.bsz) z) (Ee _)
 exfs:=fun b hb z=>by
  rcases AH.mp (I.stkSub b z) with q|q
  .exact(hf b hb).2.1 q
  .exact(hf b hb).2.2.1 q
 funs:=I.stack
 frf:=I.stkFree
theorem Sm {h₁:Heap}{tk:Nat}(I:A1 X pins σ H s)(S:GE scope X.env.scope)(hρ:HD scope X.env X.N N' ρ)(hf:∀b∈fp,DO X pins H b)(h1:∀x c,cl.lookup x=some c->X.env.cells.lookup x=some c)
  (h2:∀n,(n,NameKind.free)∈scope.names->∃c,cl.lookup n=some c) (hC:s.heap.objs.size<=C) (hfs:∀b∈fp,b<s.heap.objs.size) (hn:h₁.Ns C (fun _=>none)) (hk:∀b o,s.heap.get? b=some o->h₁.get? b=some o)
  (hl:∀x,(x,NameKind.free)∈scope.names->scope.names.lookup x=some .free) :
  A1 (Cu X scope N' cl C s H fp pins) [] (BE ρ σ) H {s with heap:=h₁,toks:=tk} where
 ok:=Uj I S hf h1 h2 hC hfs
 os:=rfl
 bare:=I.bare
 base:=Un.kept hk
 loc:=by
  refine⟨_,hn,fun j x v e1 e2 hv=>?_⟩
  obtain⟨m,hm,hl'⟩:=I.loc
  unfold BE at e2
  rw[CO]at e2
  cases hr:ρ[j]? with
  |none=>rw[hr]at e2;simp at e2
  |
   some o=>
   cases o with
   |none=>rw[hr]at e2;simp at e2
   |
    some i=>
    rw[hr]at e2
    obtain⟨q1,q2,q3⟩:=hρ.2 j i x hr e1
    have e3:σ[i]?=some (some v):=by
     cases hσ:σ[i]? with
     |none=>simp[hσ]at e2
     |some z=>simp[hσ]at e2;rw[e2]
    obtain⟨u,r,lk⟩:=hl' i x v q1 e3 q2
    refine⟨u,r,?_⟩
    obtain⟨c,hc⟩:=h2 x q3
    have hkind:(relabel scope X.env).names.lookup x=some .cell\/(relabel scope X.env).names.lookup x=some .free:=by
     rcases PN (env:=X.env) q3 with z|z|z
     .exact .inl z
     .exact .inr z
     .exact absurd (hl x q3) z
    refine .inr ⟨hkind,c,hc,?_⟩
    rcases lk with⟨k,_⟩|⟨_,c',e',z⟩
    .rcases S.free (x,.free) q3 rfl with z|z
     .have k':X.env.scope.names.lookup x=some .local:=k
      rw[z]at k';cases k'
     .have k':X.env.scope.names.lookup x=some .local:=k
      rw[z]at k';cases k'
    .have:=h1 x c hc
     rw[e']at this;cases this
     obtain⟨o,ho,hd⟩:=z
     exact⟨o,hk _ _ ho,hd⟩
 cell:=fun x c e=>by
  obtain⟨v,o,ho,hd⟩:=I.cell x c (h1 x c e)
  exact⟨v,o,hk _ _ ho,hd⟩
 free:=I.hok.fresh hC
 freeC:=fun x c e=>I.freeC x c (h1 x c e)
 pin:=fun p hp=>by
  have hp':p∈X.pn++pins:=by simpa[Cu] using hp
  obtain⟨e,n,ne,nf,d⟩:=I.pin p hp'
  refine⟨hk _ _ e,n,BL (C7 (B1 e) hC),fun z=>?_,d⟩
  rcases AH.mp (I.stkSub p.1 z) with q|q
  .exact ne q
  .exact nf q
 hok:=I.hok.kept hk
 len:=by
  show(BE ρ σ).length=N'.length
  unfold BE
  rw[Aq];exact hρ.1
end
theorem Bf.track {P:Program}{w:World}{H:Hp}{h:Heap}{D:Addr}{o:HO}(x:Bf P w H h)(n:H D=none)(new:Bp P w (upd H D o) h D o):Bf P w (upd H D o) h:=fun b u e=>by
 by_cases hb:b=D
 .subst hb;rw[A5]at e;cases e;exact new
 .rw[A7 hb]at e
  exact(x b u e).stay (fun c v _ q=>q) (fun c q=>by rw[A7 (AG q n)];exact q) fun c xs q=>by rw[A7 (AG q n)];exact q
section
variable {prog:Program}{w:World}{A:Around}{R:Result->Shared->Prop}{s:Shared}
theorem V2 {elt target iter:Expr}{ifs:List Expr}{scope:Scope}{pos:Pos}{it acc:Value}{env:Env}(I:Nat->Shared->Prop)
  (turn:∀n s,I n s->wpAny (model prog w) A (pyNext it) (fun r s₁=>match r with
   |none=>R (.ok .next) s₁
   |some v=>wpAny (model prog w) A (letOwnedTupleGo target it v) (fun _ s₁'=>wpAny (model prog w) A (assign target env v) (fun _ s₂=>
    wpAny (model prog w) A (forIn ifs true fun c r=>if r=true then do let ok ←isTrue c env (eval c env);pure (ForInStep.yield ok) else pure (ForInStep.yield r)) (fun ok s₃=>
     if ok=true then wpAny (model prog w) A (eval elt env) (fun x s₄=>
      wpAny (model prog w) A (call (.builtin "list.append") [acc,x]) (fun _ s₅=>∃m,m<n/\I m s₅) (fun _ _=>False) s₄) (fun _ _=>False) s₃
     else ∃m,m<n/\I m s₃) (fun _ _=>False) s₂) (fun _ _=>False) s₁') (fun _ _=>False) s₁) (fun _ _=>False) s)
  (n:Nat) (h:I n s) :
  codeAny (model prog w) A (.compLoop (.ListComp elt [⟨target,iter,ifs,0⟩] scope pos) 0 it acc env) R s:=by
 refine codeAny_loop rfl I (fun n s hI=>?_) n h
 show wpAny _ A ((compTurn (.ListComp elt [⟨target,iter,ifs,0⟩] scope pos) 0 it acc env).onRaise (fun x=>do noteFrame x env;theTreesLotGoes x)) _ _ s
 refine wpAny_noted ?_
 rw[compTurn_list]
 refine Ah (HX (Ah (Ct (turn n s hI) (fun r s₁ h₁=>?_) fun _ _ h'=>h'.elim)))
 cases r with
 |none=>exact B9 h₁
 |
  some v=>
  refine Ah (Ct h₁ (fun _ s₁' h₁=>?_) fun _ _ h'=>h'.elim)
  refine Ah (Ct h₁ (fun _ s₂ h₂=>Ah (Ct h₂ (fun ok s₃ h₃=>?_) fun _ _ h'=>h'.elim)) fun _ _ h'=>h'.elim)
  cases ok with
  |false=>exact B9 ⟨rfl,h₃⟩
  |
   true=>
   exact Ah (Ah (Ct h₃ (fun x s₄ h₄=>Ah (Ct h₄ (fun _ s₅ h₅=>B9 (B9 ⟨rfl,h₅⟩)) fun _ _ h'=>h'.elim)) fun _ _ h'=>h'.elim))
end
def Fz (X:Cx)(ifs:List Expr)(t:TT):Prop:=
 ∀(pins:List (Addr×Obj)) (s:Shared) (σ:St) (H:Hp) (Q:Bool->Hp->Prop),A1 X pins σ H s->t σ H Q->
  wpAny (model X.prog X.w) X.A (forIn ifs true fun c r=>if r=true then do let ok ←isTrue c X.env (eval c X.env);pure (ForInStep.yield ok) else pure (ForInStep.yield r)) (TP X pins σ Q) X.xe s
def Qc:TT:=fun _ H Q=>Q true H
theorem Eh {X:Cx}:Fz X [] Qc:=fun _ _ _ H _ I h=>wpAny_tests_nil ⟨H,I,h⟩
theorem Kj {X:Cx}{c:Expr}{t:TT}(h:PT X c t):Fz X [c] t:=fun pins s σ H Q I hw=>wpAny_tests_one (h pins s σ H Q I hw)
def IM (ρ:List (Option Nat))(σ σ2:St):Prop:=σ2.length=ρ.length/\∀(j:Nat) v,(BE ρ σ)[j]?=some (some v)->σ2[j]?=some (some v)
def FT (ρ:List (Option Nat))(g:TG)(tt:TT)(te:TE)(σ:St)(Q:VK)(J:It)(H1:Hp):Prop := ∃W:Nat->Nat->List V->Hp->Prop,(∃m,W 0 m [] H1)/\∀i m ys H',W i m ys H'->
 (J.stop i H'/\ys.length<=sizeLine/\∀p,H' p=none->Q (.ref p) (upd H' p (.lst ys)))\/
 (J.go i H'/\ys.length<sizeLine/\∃N:List V->Hp->Prop,(∀ys' H'',N ys' H''->∃m',m'<m/\W (i+1) m' ys' H'')/\∀x H2,J.yld i H' x H2->g x (BE ρ σ) H2 fun σ2 H3=>IM ρ σ σ2/\tt σ2 H3 fun ok H4=>if ok=true then te σ2 H4 fun v H5=>N (ys++[v]) H5 else N ys H4)
def Gd (ρ:List (Option Nat))(wi:TI)(g:TG)(tt:TT)(te:TE):TE:=fun σ H Q=>wi σ H fun J H1=>FT ρ g tt te σ Q J H1
theorem Mg {X:Cx}{elt iter tg:Expr}{ifs:List Expr}{scope:Scope}{pos:Pos}{N':List Str}{ρ:List (Option Nat)}{wi:TI}{g:TG}{tt:TT}{te:TE}{cl:List (Str×Addr)}{RR:Value->Addr->Result->Shared->Prop}(hc:X.calm=true)(hi:PI X tg iter wi)(S:GE scope X.env.scope)(hρ:HD scope X.env X.N N' ρ)
  (hl:∀x,(x,NameKind.free)∈scope.names->scope.names.lookup x=some .free)
  (inner:∀(cl:List (Str×Addr)) (C:Addr) (s:Shared) (H:Hp) (fp:List Addr) (pins:List (Addr×Obj)),PG (Cu X scope N' cl C s H fp pins) tg g/\Fz (Cu X scope N' cl C s H fp pins) ifs tt/\PE (Cu X scope N' cl C s H fp pins) elt te)
  {pins:List (Addr×Obj)} {s:Shared} {σ:St} {H:Hp} {Q:VK} (I:A1 X pins σ H s) (h:Gd ρ wi g tt te σ H Q)
  (h1:∀x c,cl.lookup x=some c->X.env.cells.lookup x=some c) (h2:∀n,(n,NameKind.free)∈scope.names->∃c,cl.lookup n=some c)
  (fin:∀D C s' H' m,A1 X pins σ H' s'->Q (.ref D) H'->s'.heap.Ns C m->DO X pins H' C->RR (.ref D) C (.ok .next) s') :
  wpAny (model X.prog X.w) X.A (eval iter X.env) (fun x s₁=>wpAny (model X.prog X.w) X.A (pyIter x) (fun it s₂=>wpAny (model X.prog X.w) X.A (newList []) (fun acc s₃=>
   wpAny (model X.prog X.w) X.A (newFunctionEnv scope X.env.globals cl [] X.env.qual none .none (some X.env)) (fun cenv s₄=>
    codeAny (model X.prog X.w) X.A (.compStart (.ListComp elt [⟨tg,iter,ifs,0⟩] scope pos) 0 it acc {cenv with scope:=relabel scope X.env}) (RR acc cenv.locals) s₄) X.xe s₃) X.xe s₂) X.xe s₁) X.xe s:=by
 refine Ak (hi pins s σ H _ I h) fun v s1 h1'=>Ak h1' fun itv s2 hx=>?_
 obtain⟨it,fp,tn,J,H2,e,I2,T,st2,f2,W,⟨m0,w0⟩,turn⟩:=hx
 subst e
 have hfs:∀b∈fp,b<s2.heap.objs.size:=fun b hb=>by
  obtain⟨o,e,_⟩:=T.obj _ _ st2 b hb
  exact B1 e
 refine wpAny_newObj_type (wpAny_newFunctionEnv S.cell (by intro y hy;simp at hy) (fun h₁ hns₁ hsb₁=>?_) S.kind)
 dsimp only at hns₁ hsb₁ ⊢
 generalize hH2:s2.heap.push {cls:=.type "list",dict:=none,data:=.seq ([]:List Value).toArray}=G at hns₁ hsb₁ ⊢
 have hC:G.objs.size=s2.heap.objs.size+1:=by rw[←hH2,HM]
 have hDC:s2.heap.objs.size≠G.objs.size:=by rw[hC];exact BL (JQ _)
 have hCle:s2.heap.objs.size<=G.objs.size:=by rw[hC];exact GK _
 have old:∀b o,s2.heap.get? b=some o->h₁.get? b=some o:=fun b o e=>hsb₁.extBut b o (BL (C7 (B1 e) hCle)) (Bc _ (hH2▸Bc _ e))
 have hacc:h₁.get? s2.heap.objs.size=some {cls:=.type "list",dict:=none,data:=.seq ([]:List Value).toArray}:=hsb₁.extBut _ _ hDC (Bc _ (hH2▸CB _ rfl))
 have hns₂:h₁.Ns G.objs.size (fun _=>none):=hns₁
 generalize hXX:Cu X scope N' cl G.objs.size s2 H2 fp pins=XX at *
 have IN:∀(tk:Nat),A1 XX [] (BE ρ σ) H2 {s2 with heap:=h₁,toks:=tk}:=fun tk=>hXX▸Sm (N':=N') I2 S hρ f2 h1 h2 hCle hfs hns₂ old hl
 obtain⟨pg,pt,pe⟩:=inner cl G.objs.size s2 H2 fp pins
 rw[hXX]at pg pt pe
 have eP:XX.prog=X.prog:=by rw[←hXX];rfl
 have eW:XX.w=X.w:=by rw[←hXX];rfl
 have eK:XX.K=X.K:=by rw[←hXX];rfl
 have eA:XX.A=X.A:=by rw[←hXX];rfl
 have eE:XX.env=compEnvC scope cl G.objs.size X.env:=by rw[←hXX];rfl
 have eL:XX.env.locals=G.objs.size:=by rw[eE];rfl
 have ec:XX.calm=true:=by rw[←hXX];exact hc
 have ex:XX.xe=fun _ _=>False:=by rw[←hXX];rfl
 have es0:XX.s₀=s2:=by rw[←hXX];rfl
 have eex:XX.ex=fp:=by rw[←hXX];rfl
 have efs:XX.fs=Dd X.stack:=by rw[←hXX];rfl
 have eH0:XX.H₀=H2:=by rw[←hXX];rfl
 have epn:XX.pn=X.pn++pins:=by rw[←hXX];rfl
 have ecl:XX.env.cells=cl:=by rw[eE];rfl
 have stat:∀{H':Hp} {ps:List (Addr×Obj)},(∀b∈fp,H' b=none)->(∀p∈ps,p.1=s2.heap.objs.size)->∀b∈fp,DO XX ps H' b:=fun{H' ps} hn hp b hb=>by
  refine⟨hn b hb,?_,?_,?_,?_,?_⟩
  .rw[eL];exact BL (C7 (hfs b hb) hCle)
  .rw[efs]
   intro z
   rcases AH.mp (I2.stkSub b z) with q|q
   .exact(f2 b hb).2.1 q
   .exact(f2 b hb).2.2.1 q
  .rw[eex];exact .inl hb
  .rw[ecl];exact fun x c e=>(f2 b hb).2.2.2.2.1 x c (h1 x c e)
  .intro p hp' z
   rw[epn]at hp'
   rcases BI.mp hp' with q|q
   .exact(f2 b hb).2.2.2.2.2 p q z
   .rw[hp p q]at z
    exact absurd (hfs b hb) (by rw[z];exact Ee _)
 have nofsD:s2.heap.objs.size∉XX.fs:=by
  rw[efs];intro z
  rcases AH.mp (I2.stkSub _ z) with q|q
  .exact absurd I2.lt (by rw[←q];exact Ee _)
  .exact I2.nofs (Ai _) q
 have pinD:∀{σ':St} {H':Hp} {s':Shared} {its:List Value} {n:Nat},A1 XX [] σ' H' s'->H' s2.heap.objs.size=none->s'.heap.get? s2.heap.objs.size=some {cls:=.type "list",data:=.seq its.toArray n}->
   A1 XX [(s2.heap.objs.size,{cls:=.type "list",data:=.seq its.toArray n})] σ' H' s':=fun{σ' H' s' its n} I' hn ho=>I'.pins_of fun p hp=>by
  have e:p=(s2.heap.objs.size,{cls:=.type "list",data:=.seq its.toArray n}):=by simpa using hp
  subst e
  refine⟨ho,hn,by rw[eL];exact hDC,nofsD,fun v z=>?_⟩
  have z':Data.seq its.toArray n=Data.cell v:=z
  cases z'
 have loop:∀s₃:Shared,(∃tk,s₃={s2 with heap:=h₁,toks:=tk})->
   codeAny (model X.prog X.w) X.A (.compLoop (.ListComp elt [⟨tg,iter,ifs,0⟩] scope pos) 0 (.ref it) (.ref s2.heap.objs.size) (compEnvC scope cl G.objs.size X.env)) (RR (.ref s2.heap.objs.size) G.objs.size) s₃:=by
  rintro s₃ ⟨tk,rfl⟩
  refine V2 (fun n s'=>∃i ys its k H',A1 XX [] (BE ρ σ) H' s'/\tn i s'.heap/\(∀b∈fp,H' b=none)/\H' s2.heap.objs.size=none/\As ys its/\
   s'.heap.get? s2.heap.objs.size=some {cls:=.type "list",data:=.seq its.toArray k}/\W i n ys H') ?_ m0
   ⟨0,[],[],0,H2,IN tk,T.keep _ _ _ st2 fun b _ o e=>old b o e,fun b hb=>(f2 b hb).1,I2.hok.fresh (Ai _),.nil,hacc,w0⟩
  rintro n s3 ⟨i,ys,its,k,H3,I3,st3,fr3,hD3,rv,ho3,w3⟩
  rcases turn i n ys H3 w3 with⟨stop,hz,qn⟩|⟨go,hz,N,hN,step⟩
  .have I3p:=pinD I3 hD3 ho3
   have q:=T.done XX eP eW eK ec i _ s3 (BE ρ σ) H3 (fun _ _=>False) I3p (stat fr3 (by simp)) st3 stop
   rw[eA]at q
   refine Ak q fun r s4 zz=>?_
   obtain⟨hr,I4⟩:=zz
   subst hr
   have ho4:=(I4.pin (s2.heap.objs.size,{cls:=.type "list",data:=.seq its.toArray k}) (by simp)).1
   obtain⟨m,hm,_⟩:=I4.loc
   rw[eL]at hm
   have hun:Un (Dd X.stack) fp H2 (upd H3 s2.heap.objs.size (.lst ys)) s2.heap s4.heap:=by
    have u:=I4.base
    rw[efs,eex,eH0,es0]at u
    refine⟨u.keep,u.slot,fun b o e n hx=>?_,u.there,fun b xs e=>?_,fun b o xs e=>?_,fun b ps e=>?_⟩
    .rw[A7 (BL (B1 e))];exact u.free b o e n hx
    .have q:=u.tups b xs e
     rw[A7 (AG q hD3)];exact q
    .have q:=u.frzs b o xs e
     rw[A7 (AG q hD3)];exact q
    .obtain⟨more,q⟩:=u.tbls b ps e
     exact⟨more,by rw[A7 (AG q hD3)];exact q⟩
   have hok:Bf X.prog X.w (upd H3 s2.heap.objs.size (.lst ys)) s4.heap:=by
    have q:=I4.hok
    rw[eP,eW]at q
    exact q.track hD3 ⟨hz,its,k,rv,ho4⟩
   have hfr:∀b∈fp,(b∈X.ex\/X.s₀.heap.objs.size<=b)/\b≠X.env.locals/\(∀x c,X.env.cells.lookup x=some c->c≠b)/\∀p∈X.pn++pins,p.1≠b:=fun b hb=>⟨(f2 b hb).2.2.2.1,(f2 b hb).2.1,(f2 b hb).2.2.2.2.1,(f2 b hb).2.2.2.2.2⟩
   have IO:A1 X pins σ (upd H3 s2.heap.objs.size (.lst ys)) s4:=I2.call' (by have:=I4.os;rw[es0]at this;exact this) hun hok I4.bare hfr
   refine fin _ _ s4 _ m IO (qn _ hD3) hm (I2.fpOk hCle ?_)
   rw[A7 (Ne.symm hDC)]
   have:=I4.free
   rw[eL]at this
   exact this
  .have I3p:=pinD I3 hD3 ho3
   have q:=T.item XX eP eW eK ec i _ s3 (BE ρ σ) H3 (fun _ _=>False) I3p (stat fr3 (by simp)) st3 go
   rw[eA]at q
   refine Ak q fun r s4 zz=>?_
   obtain⟨u,hr,h4⟩:=zz
   subst hr
   refine Ak h4 fun _ s5 zz=>?_
   obtain⟨x,H5,I5,r5,y5,st5,fr5⟩:=zz
   have I5':=I5.pinned (stat fr5 (by simp)) (T.obj _ _ st5)
   have qa:=pg _ s5 (BE ρ σ) H5 x u _ I5' r5 (step x H5 y5)
   rw[eP,eW,eA,eE,ex]at qa
   refine Ak qa fun _ s6 zz=>?_
   obtain⟨σ6,H6,I6,⟨ou1,ou2⟩,q6⟩:=zz
   have hw6:(BE ρ σ).length=σ6.length:=by rw[ou1];unfold BE;rw[Aq]
   have qt:=pt _ s6 σ6 H6 _ I6 q6
   rw[eP,eW,eA,eE,ex]at qt
   refine Ak qt fun ok s7 zz=>?_
   obtain⟨H7,I7,q7⟩:=zz
   have back:∀{s8:Shared} {H8:Hp},A1 XX ([(s2.heap.objs.size,{cls:=.type "list",data:=.seq its.toArray k})]++Gm fp s5.heap) σ6 H8 s8->tn (i+1) s8.heap/\(∀b∈fp,H8 b=none)/\H8 s2.heap.objs.size=none/\
     s8.heap.get? s2.heap.objs.size=some {cls:=.type "list",data:=.seq its.toArray k}:=fun{s8 H8} I8=>by
    refine⟨T.keep _ _ _ st5 fun b hb o e=>(I8.pin (b,o) (Cp _ (Cp _ (Ho hb e)))).1,fun b hb=>?_,?_,?_⟩
    .obtain⟨o,e,d⟩:=T.obj _ _ st5 b hb
     exact(I8.pin (b,o) (Cp _ (Cp _ (Ho hb e)))).2.1
    .exact(I8.pin (s2.heap.objs.size,{cls:=.type "list",data:=.seq its.toArray k}) (by simp)).2.1
    .exact(I8.pin (s2.heap.objs.size,{cls:=.type "list",data:=.seq its.toArray k}) (by simp)).1
   cases ok with
   |
    false=>
    obtain⟨m',hm,w7⟩:=hN _ _ q7
    obtain⟨b1,b2,b3,b4⟩:=back I7
    exact⟨m',hm,i+1,ys,its,k,H7,(I7.pins_of (pins':=[]) (fun _ z=>nomatch z)).weak hw6 ou2,b1,b2,b3,rv,b4,w7⟩
   |
    true=>
    have qe:=pe _ s7 σ6 H7 _ I7 q7
    rw[eP,eW,eA,eE,ex]at qe
    refine Ak qe fun y s8 zz=>?_
    obtain⟨v8,H8,I8,r8,n8⟩:=zz
    obtain⟨m',hm,w8⟩:=hN _ _ n8
    obtain⟨b1,b2,b3,b4⟩:=back I8
    have hlen:=rv.length
    refine GW F.slot_list_append ⟨_,b4,rfl⟩ F.entry_list_append (F.args_list_append_2 _ _) (PySem.list_append s2.heap.objs.size its.toArray k y (by rw[BD];omega)) ⟨b4,?_⟩
    have qL:=PySem.IsL.update b4 (fun xs=>xs.push y)
    have I8':A1 XX [] σ6 H8 s8:=I8.pins_of (fun _ z=>nomatch z)
    have I9:A1 XX [] σ6 H8 {s8 with heap:=s8.heap.update s2.heap.objs.size (Obj.mapSeq fun xs=>xs.push y),toks:=s8.toks}:=I8'.turned (it:=s2.heap.objs.size) (fun b o hb e=>(Fl s8.heap _ (Ne.symm hb)).trans e) b3
     (by rw[eL];exact hDC) (.inr (by rw[es0];exact Ai _)) (by
      rw[ecl];intro x c e z
      obtain⟨v,qc⟩:=I2.cell x c (h1 x c e)
      exact absurd qc.lt (by rw[z];exact Ee _)) (by
      intro p hp z
      have hp':p∈X.pn++pins:=by rw[epn]at hp;simpa using hp
      exact absurd (B1 (I2.pin p hp').1) (by rw[z];exact Ee _))
    have hnd:s2.heap.objs.size∉fp:=fun z=>Ee _ (hfs _ z)
    rw[show its.toArray.push y=(its++[y]).toArray by simp]at qL
    refine⟨m',hm,i+1,ys++[v8],its++[y],_,H8,I9.weak hw6 ou2,T.keep _ _ _ b1 fun b hb o e=>(Fl s8.heap _ (by rintro rfl;exact hnd hb)).trans e,b2,b3,rv.append (.cons r8 .nil),qL,w8⟩
 refine codeAny_compStart_list (loop _ ⟨_,rfl⟩) (T.self X.A 0 _ _ _ (T.keep _ _ _ st2 fun b _ o e=>old b o e) (loop _ ⟨_,rfl⟩))
theorem QB {X:Cx}{elt iter tg:Expr}{ifs:List Expr}{scope:Scope}{pos:Pos}(N':List Str)(ρ:List (Option Nat)){wi:TI}{g:TG}{tt:TT}{te:TE}(hc:X.calm=true)(hi:PI X tg iter wi)(S:GE scope X.env.scope)(hρ:HD scope X.env X.N N' ρ)
  (hl:∀x,(x,NameKind.free)∈scope.names->scope.names.lookup x=some .free)
  (inner:∀(cl:List (Str×Addr)) (C:Addr) (s:Shared) (H:Hp) (fp:List Addr) (pins:List (Addr×Obj)),PG (Cu X scope N' cl C s H fp pins) tg g/\Fz (Cu X scope N' cl C s H fp pins) ifs tt/\PE (Cu X scope N' cl C s H fp pins) elt te)
  (hs:∀x,foldedSetIterable iter X.env x=pure x:=by intro _;rfl):PE X (.ListComp elt [⟨tg,iter,ifs,0⟩] scope pos) (Gd ρ wi g tt te):=by
 intro pins s σ H Q I h
 obtain⟨cl,hcl,h1,h2⟩:=Oh (scope:=scope) (env:=X.env) (fun n hn=>I.ok.has n (S.free (n,.free) hn rfl))
 rw[eval_ListComp]
 refine wpAny_comprehension_free (use:=none) rfl hs hcl S.kind S.loc ?_
 refine Mg (RR:=fun acc C=>compPost (model X.prog X.w) X.A X.xe none (EP X pins σ Q) acc C) hc hi S hρ hl inner I h h1 h2 ?_
 intro D C s' H' m I' q hm hf
 refine⟨m,hm,fun h' sb=>⟨.ref D,H',?_,rfl,q⟩⟩
 exact I'.turned (t':=s'.toks) (fun b o hb e=>(sb.2 b hb).trans e) hf.1 hf.2.1 hf.2.2.2.1 hf.2.2.2.2.1 hf.2.2.2.2.2
theorem RH {X:Cx}{elt iter tg:Expr}{ifs:List Expr}{scope:Scope}{pos pos' spos:Pos}{i:Nat}{x:Str}(N':List Str)(ρ:List (Option Nat)){wi:TI}{g:TG}{tt:TT}{te:TE}(hN:X.N.Nodup)(hix:X.N[i]?=some x)(hx:FP X.env.scope x)
  (hc:X.calm=true) (hi:PI X tg iter wi) (S:GE scope X.env.scope) (hρ:HD scope X.env X.N N' ρ)
  (hl:∀x,(x,NameKind.free)∈scope.names->scope.names.lookup x=some .free)
  (inner:∀(cl:List (Str×Addr)) (C:Addr) (s:Shared) (H:Hp) (fp:List Addr) (pins:List (Addr×Obj)),PG (Cu X scope N' cl C s H fp pins) tg g/\Fz (Cu X scope N' cl C s H fp pins) ifs tt/\PE (Cu X scope N' cl C s H fp pins) elt te)
  (hsw:swapsWith (.ListComp elt [⟨tg,iter,ifs,0⟩] scope pos) (some (.Name x pos')) spos.line X.env=pure true:=by rfl)
  (hs:∀x,foldedSetIterable iter X.env x=pure x:=by intro _;rfl) (hf:X.fn x=true\/X.env.scope.names.lookup x=some .local:=by first|exact .inl rfl|exact .inr rfl|assumption) :
  PS X (.Assign [.Name x pos'] (.ListComp elt [⟨tg,iter,ifs,0⟩] scope pos) spos) (Gk (Gd ρ wi g tt te) (Am i)):=by
 intro pins s σ H Dn I h
 obtain⟨cl,hcl,h1,h2⟩:=Oh (scope:=scope) (env:=X.env) (fun n hn=>I.ok.has n (S.free (n,.free) hn rfl))
 rw[exec_Assign_Name_used _ _ _ _ hsw]
 refine Ah (HX (Ah ?_))
 show wpAny _ X.A (do let _ ←comprehension (.ListComp elt [⟨tg,iter,ifs,0⟩] scope pos) scope X.env _ (newList []) false (eval iter X.env) (some (assign (.Name x pos') X.env))) _ _ s
 refine Ah (Ct (wpAny_comprehension_free (use:=some (assign (.Name x pos') X.env)) (Q:=fun _ s'=>SP X pins Dn .next s') rfl hs hcl S.kind S.loc ?_) (fun _ s' hq=>B9 (B9 hq)) fun _ _ e=>e)
 refine Mg (RR:=fun acc C=>compPost (model X.prog X.w) X.A X.xe (some (assign (.Name x pos') X.env)) (fun _ s'=>SP X pins Dn .next s') acc C) hc hi S hρ hl inner I h h1 h2 ?_
 intro D C s' H' m I' q hm hfC
 obtain⟨oC,es,ep,hoC,hr⟩:=id hm
 have pin:A1 X (pins++Gm [C] s'.heap) σ H' s':=I'.pinned (fun b hb=>by
  have e:b=C:=by simpa using hb
  subst e
  exact hfC) (fun b hb=>by
  have e:b=C:=by simpa using hb
  subst e
  exact⟨oC,hoC,fun v z=>by rw[hr.1]at z;cases z⟩)
 show wpAny _ X.A (assign (.Name x pos') X.env (.ref D)) _ _ _
 refine wpAny_assign_Name ?_
 refine Gb (M:=model X.prog X.w) (A:=X.A) (E:=X.xe) pin hN hix hx (v:=.ref D) (u:=.ref D) rfl (fun s'' I''=>?_) hf
 have pC:=(I''.pin (C,oC) (Cp _ (Cp _ (Ho (by simp) hoC))))
 refine⟨m,⟨oC,es,ep,pC.1,hr⟩,fun h' sb=>⟨_,H',?_,q⟩⟩
 have I2:A1 X pins (σ.set i (some (.ref D))) H' s'':=I''.unpinned
 exact I2.turned (t':=s''.toks) (fun b o hb e=>(sb.2 b hb).trans e) hfC.1 hfC.2.1 hfC.2.2.2.1 hfC.2.2.2.2.1 hfC.2.2.2.2.2
theorem HA (σ:St)(o:Option Nat)(ρ:List (Option Nat)):BE (o::ρ) σ=(match o with|some i=>(σ[i]?).getD none|none=>none)::BE ρ σ:=rfl
theorem Us {ρ:List (Option Nat)}{σ:St}(o:Option V):IM (none::ρ) σ (o::BE ρ σ):=by
 refine⟨by unfold BE;simp,fun j v e=>?_⟩
 cases j with
 |zero=>rw[HA]at e;simp at e
 |succ j=>rw[HA]at e;simpa using e
theorem UC {ρ:List (Option Nat)}{σ:St}(o o':Option V):IM (none::none::ρ) σ (o::o'::BE ρ σ):=by
 refine⟨by unfold BE;simp,fun j v e=>?_⟩
 cases j with
 |zero=>rw[HA]at e;simp at e
 |
  succ j=>
  rw[HA,HA]at e
  cases j with
  |zero=>simp at e
  |succ j=>simpa using e
theorem IC {J:It}{n:Nat}{X:Nat->V->Prop}{ρ:List (Option Nat)}{tt:TT}{te:TE}{σ:St}{H:Hp}{Q:VK}(Pv:Nat->List V->Hp->Prop)(h0:Pv 0 [] H)(hlen:n<=sizeLine)
  (hy:∀i ys H,i<=n->Pv i ys H->ys.length<=i) (hgo:∀i ys H,i<n->Pv i ys H->J.go i H) (hyl:∀i ys H x H',i<n->Pv i ys H->J.yld i H x H'->H'=H/\X i x) (hst:∀ys H,Pv n ys H->J.stop n H)
  (hs:∀i x ys H,i<n->X i x->Pv i ys H->tt (some x::BE ρ σ) H fun ok H4=>if ok=true then te (some x::BE ρ σ) H4 fun v H5=>Pv (i+1) (ys++[v]) H5 else Pv (i+1) ys H4)
  (hd:∀ys H,Pv n ys H->∀p,H p=none->Q (.ref p) (upd H p (.lst ys))) :
  FT (none::ρ) (Am 0) tt te σ Q J H:=by
 refine⟨fun i m ys H=>m=n-i/\i<=n/\Pv i ys H,⟨n,by simp,C0 _,h0⟩,?_⟩
 rintro i m ys H ⟨rfl,hi,p⟩
 have hl:=hy i ys H hi p
 by_cases hlt:i<n
 .refine .inr ⟨hgo i ys H hlt p,by omega,Pv (i+1),fun ys' H'' p'=>⟨n-(i+1),by omega,rfl,hlt,p'⟩,fun x H' y=>?_⟩
  obtain⟨e,y2⟩:=hyl i ys H x H' hlt p y
  subst e
  exact⟨Us _,hs i x ys _ hlt y2 p⟩
 .have e:i=n:=by omega
  subst e
  exact .inl ⟨hst ys H p,by omega,hd ys H p⟩
theorem Lo {K:Xa}{a:Addr}{xs:List V}{ρ:List (Option Nat)}{tt:TT}{te:TE}{σ:St}{H:Hp}{Q:VK}(Pv:Nat->List V->Hp->Prop)(h0:Pv 0 [] H)(hlen:xs.length<=sizeLine)(hl:∀i ys H,i<=xs.length->Pv i ys H->Aw K H a xs/\ys.length<=i)
  (hs:∀i x ys H,xs[i]?=some x->Pv i ys H->tt (some x::BE ρ σ) H fun ok H4=>if ok=true then te (some x::BE ρ σ) H4 fun v H5=>Pv (i+1) (ys++[v]) H5 else Pv (i+1) ys H4)
  (hd:∀ys H,Pv xs.length ys H->∀p,H p=none->Q (.ref p) (upd H p (.lst ys))) :
  FT (none::ρ) (Am 0) tt te σ Q (Kq K a) H:=
 IC (n:=xs.length) (X:=fun i x=>xs[i]?=some x) Pv h0 hlen (fun i ys H hi p=>(hl i ys H hi p).2) (fun i ys H hi p=>⟨xs,xs[i],(hl i ys H (FV hi) p).1,by simp[hi]⟩) (fun i ys H x H' hi p y=>⟨y.1,y.2 xs (hl i ys H (FV hi) p).1⟩)
  (fun ys H p=>⟨xs,(hl _ ys H (Ai _) p).1,Ai _⟩) (fun i x ys H _ e p=>hs i x ys H e p) hd
theorem Fv {K:Xa}{a:Addr}{xs:List V}{ρ:List (Option Nat)}{tt:TT}{te:TE}{σ:St}{H:Hp}{Q:VK}(Pv:Nat->List V->Hp->Prop)(h0:Pv 0 [] H)(hlen:xs.length<=sizeLine)(hl:∀i ys H,i<=xs.length->Pv i ys H->A2 K H a xs/\ys.length<=i)
  (hs:∀i x ys H,xs[i]?=some x->Pv i ys H->tt (some x::BE ρ σ) H fun ok H4=>if ok=true then te (some x::BE ρ σ) H4 fun v H5=>Pv (i+1) (ys++[v]) H5 else Pv (i+1) ys H4)
  (hd:∀ys H,Pv xs.length ys H->∀p,H p=none->Q (.ref p) (upd H p (.lst ys))) :
  FT (none::ρ) (Am 0) tt te σ Q (FA K a) H:=
 IC (n:=xs.length) (X:=fun i x=>xs[i]?=some x) Pv h0 hlen (fun i ys H hi p=>(hl i ys H hi p).2) (fun i ys H hi p=>⟨xs,xs[i],(hl i ys H (FV hi) p).1,by simp[hi]⟩) (fun i ys H x H' hi p y=>⟨y.1,y.2 xs (hl i ys H (FV hi) p).1⟩)
  (fun ys H p=>⟨xs,(hl _ ys H (Ai _) p).1,Ai _⟩) (fun i x ys H _ e p=>hs i x ys H e p) hd
theorem Vt {lo:Int}{n:Nat}{ρ:List (Option Nat)}{tt:TT}{te:TE}{σ:St}{H:Hp}{Q:VK}(Pv:Nat->List V->Hp->Prop)(h0:Pv 0 [] H)(hlen:n<=sizeLine)(hl:∀i ys H,i<=n->Pv i ys H->ys.length<=i)
  (hs:∀i ys H,i<n->Pv i ys H->tt (some (.int (lo+i))::BE ρ σ) H fun ok H4=>if ok=true then te (some (.int (lo+i))::BE ρ σ) H4 fun v H5=>Pv (i+1) (ys++[v]) H5 else Pv (i+1) ys H4)
  (hd:∀ys H,Pv n ys H->∀p,H p=none->Q (.ref p) (upd H p (.lst ys))) :
  FT (none::ρ) (Am 0) tt te σ Q (Ft lo n) H:=
 IC (n:=n) (X:=fun i x=>x = .int (lo+i)) Pv h0 hlen hl (fun i ys H hi p=>hi) (fun i ys H x H' hi p y=>y) (fun ys H p=>Ai _) (fun i x ys H hi e p=>by subst e;exact hs i ys H hi p) hd
abbrev cds (x:Str):List Nat:=x.cps.toList
theorem cds_len (x:Str):(cds x).length=x.length:=by simp[cds,Str.length]
theorem DF {x y:Str}(h:cds x=cds y):x=y:=StrLaws.mk_of_toList (x:=x) h▸(StrLaws.mk_of_toList (x:=y) rfl).symm
theorem B4 (x y:Str):cds (x++y)=cds x++cds y:=by simp[cds,Str.cps_append]
theorem O9 (c:Nat):cds ⟨#[c]⟩=[c]:=rfl
theorem Vm (l:List Nat):cds ⟨l.toArray⟩=l:=by simp[cds]
def Ax (l:List Nat):Str:=⟨l.toArray⟩
theorem Ba (l:List Nat):cds (Ax l)=l:=by simp[cds,Ax]
theorem E9 (x:Str):Ax (cds x)=x:=DF (Ba _)
def Cn {α:Type}(xs:List α)(lo hi:Option Int):List α:=(xs.drop (HT.sIx xs.length 0 lo)).take (HT.sIx xs.length xs.length hi-HT.sIx xs.length 0 lo)
theorem Mr (n:Nat)(i:Int)(k:Nat):max 0 (min (if i<0 then i+(n:Int) else i) (n:Int))=((HT.sIx n k (some i):Nat):Int):=by
 unfold HT.sIx
 dsimp only
 split<;>omega
theorem VB (lo hi:Option Int)(n:Nat):Builtin.Str.strSliceIndices lo hi 1 n=(List.range (HT.sIx n n hi-HT.sIx n 0 lo)).map (fun k=>HT.sIx n 0 lo+k):=by
 have e:Builtin.Str.strSliceIndices lo hi 1 n=sliceRange ((HT.sIx n 0 lo:Nat):Int) ((HT.sIx n n hi:Nat):Int) 1:=by
  unfold Builtin.Str.strSliceIndices
  simp only[show((1:Int)>0)=True by simp,F4]
  congr 1
  .cases lo with
   |none=>rfl
   |some i=>exact Mr n i 0
  .cases hi with
   |none=>rfl
   |some i=>exact Mr n i n
 rw[e]
 unfold sliceRange
 simp only[show((1:Int)>0)=True by simp,F4]
 generalize HT.sIx n 0 lo=a
 generalize HT.sIx n n hi=b
 by_cases h:(a:Int)<b
 .rw[Af h,show(((b:Int)-a+1-1)/1).toNat=b-a by simp<;>omega]
  refine List.map_congr_left fun k _=>?_
  omega
 .rw[A9 h,show b-a=0 by omega]
  rfl
theorem Tq (x:Str)(lo hi:Option Int):cds (Txt.slice x lo hi)=Cn (cds x) lo hi:=by
 unfold Txt.slice Cn
 have hl:=cds_len x
 rw[hl,VB]
 have b1:=HT.sIx_le x.length 0 (C0 _) lo
 have b2:=HT.sIx_le x.length x.length (Ai _) hi
 generalize HT.sIx x.length 0 lo=a at *
 generalize HT.sIx x.length x.length hi=b at *
 split
 .rename_i h
  have hb:b-a=x.length:=by simpa using h
  have ha:a=0:=by omega
  subst ha
  rw[HQ,hb,←hl,Ef]
 .by_cases hab:a<=b
  .have q:=StrLaws.picks (cds x) (b-a) a (by omega)
   have q2:(List.filterMap (fun x_1=>x.cps[x_1]?) (List.map (fun k=>a+k) (List.range (b-a))))=List.filterMap (fun x_1=>(cds x)[x_1]?) (List.map (fun k=>a+k) (List.range (b-a))):=by
    simp[cds]
   rw[Vm,q2,q]
  .rw[show b-a=0 by omega]
   simp[cds]
section
variable {X:Cx}
def UW:V->Option Int->Option Int->Hp->VK->Prop:=fun x lo hi H Q=>∃z,x = .str z/\z.length<=sizeLine/\Q (.str (Ax (Cn (cds z) lo hi))) H
theorem GI:Km X UW:=by
 intro pins s σ H x v vl vu lo hi sl Q I rx hs pl pu h
 obtain⟨z,rfl,hz,q⟩:=h
 obtain⟨t,rfl⟩:=rx
 rw[←Tq,E9]at q
 refine⟨"str",_,F.slot_str_getitem.lookup,GV _ _ _,?_⟩
 have go:∀(l u:Option (Int×Tok)),l.map (·.1)=lo->u.map (·.1)=hi->s.heap.IsSlice sl l u none->wpAny (model X.prog X.w) X.A (getItem (.str z t) (.ref sl)) (EP X pins σ Q) X.xe s:=fun l u e1 e2 hS=>by
  subst e1 e2
  exact wpAny_getItem_str_slice hS rfl (post_val_or_str ⟨Bz (Txt.slice_le z _ _) hz,fun t' k=>⟨.str _,H,I.tok _,⟨_,rfl⟩,q⟩⟩)
 cases pl with
 |
  none=>
  cases pu with
  |none=>exact go none none rfl rfl hs
  |int j u=>exact go none (some (j,u)) rfl rfl hs
 |
  int i t'=>
  cases pu with
  |none=>exact go (some (i,t')) none rfl rfl hs
  |int j u=>exact go (some (i,t')) (some (j,u)) rfl rfl hs
theorem Ly {c:Nat}:∀{l:List Nat} {i:Nat},l[i]?=some c->(∀k,k<i->l[k]?≠some c)->l.idxOf c=i
 |[],i,h,_=>by simp at h
 |a::r,0,h,_=>by simp at h;subst h;simp
 |
  a::r,i+1,h,hn=>by
  have ha:a≠c:=fun e=>hn 0 (G0 _) (by simp[e])
  have q:=Ly (c:=c) (l:=r) (i:=i) (by simpa using h) (fun k hk=>by simpa using hn (k+1) (Nat.succ_lt_succ hk))
  have hb:(a==c)=false:=by simpa using ha
  rw[List.idxOf_cons,hb,q]
  rfl
theorem IS (x:Str)(c:Nat):(!(Builtin.Str.occurrences x ⟨#[c]⟩ 0 x.length 1).isEmpty)=decide (c∈cds x):=StrLaws.found_one x c
def KW (K:Xa):V->List V->Hp->VK->Prop:=fun x xs H Q=>∃z p ys,x = .str z/\xs=[.ref p]/\(A2 K H p (ys.map V.str)\/Aw K H p (ys.map V.str))/\(ys.map (·.length)).sum+ys.length*z.length<=16777216/\Q (.str (Txt.join z ys)) H
theorem Kg:∀{ys:List Str} {us:List Value},As (ys.map V.str) us->StrsAre us ys
 |[],_,.nil=>.nil
 |
  y::ys,_,.cons r t=>by
  obtain⟨k,rfl⟩:=r
  exact .cons y k (Kg t)
theorem KH:Fk X "str.join" (KW X.K):=by
 intro pins s σ H x xs v us Q I rx rv h
 obtain⟨z,p,ys,rfl,rfl,hq,hz,q⟩:=h
 obtain⟨t,rfl⟩:=rx
 obtain⟨u,rfl,ru⟩:=rv.one
 cases ru
 rcases hq with hq|hq
 .obtain⟨its,r,pl,_⟩:=I.list hq
  exact join_list pl.isList (by simpa using Kg r) hz fun t' k=>⟨.str _,H,I.tok _,⟨_,rfl⟩,q⟩
 .obtain⟨its,r,pl,_⟩:=I.tuple hq
  exact join_tuple pl (by simpa using Kg r) hz fun t' k=>⟨.str _,H,I.tok _,⟨_,rfl⟩,q⟩
theorem Sr:DA X (.type "int") (fun xs H Q=>∃z n,xs=[.str z]/\intText? z=some n/\z.length<=640/\Q (.int n) H):=by
 intro pins s σ H xs us Q I r h
 obtain⟨z,n,rfl,hn,hl,q⟩:=h
 obtain⟨u,rfl,t,rfl⟩:=E4 r
 exact PySem.W.KIN.call_text hn hl ⟨.int n,H,I.tok _,⟨_,rfl⟩,q⟩
end
def Ko (z:Str):It:=⟨fun i _=>i<(cds z).length,fun i H x H'=>H'=H/\∃c,(cds z)[i]?=some c/\x = .str ⟨#[c]⟩,fun i _=>(cds z).length<=i⟩
theorem Nq {P:Program}{w:World}{K:Xa}{tg:Expr}(it:Addr)(z:Str)(t:Tok)(ty:String)(hty:ty="str_ascii_iterator"\/ty="str_iterator"):Gu P w K tg (Ko z) [it] it (fun i h=>h.IsStrIter it ty z t i) where
 mem:=by simp
 obj:=fun i h st b hb=>by
  have e:b=it:=by simpa using hb
  subst e
  obtain⟨o,e,c,d⟩:=st
  exact⟨o,e,fun v z=>by rw[d]at z;cases z⟩
 keep:=fun i h h' st k=>let ⟨o,ho,r⟩:=st;⟨o,k it (by simp) o ho,r⟩
 item:=by
  intro X hP hw hK hc i pins s σ H E I hf st hg
  subst hP hw hK
  obtain⟨f0,f1,f2,f3,f4,f5⟩:=hf it (by simp)
  have hlt:i<z.cps.size:=by have:i<(cds z).length:=hg;simpa[cds] using this
  have W:Walks X.prog X.w X.A it [it] [it] z.cps.size (SignAt z) (fun i h=>h.IsStrIter it ty z t i):=by
   rcases hty with rfl|rfl
   .exact Walks.strAscii (I.ok.hd hc) it z t
   .exact Walks.strWide (I.ok.hd hc) it z t
  refine W.item i s _ _ hlt st fun v h' tk hv st' kk=>?_
  obtain⟨c,u,hcu,rfl⟩:=hv
  have I1:A1 X pins σ H {s with heap:=h',toks:=tk}:=I.turned (fun b o hb e=>kk b o (by simpa using hb) e) f0 f1 f3 f4 f5
  obtain⟨o,e,c1,d⟩:=id st'
  refine⟨_,rfl,IR (s:={s with heap:=h',toks:=tk}) e c1 d (by rcases hty with rfl|rfl<;>decide) ⟨.str ⟨#[c]⟩,H,I1,⟨u,rfl⟩,⟨rfl,c,by simpa[cds] using hcu,rfl⟩,st',fun b hb=>(hf b hb).1⟩⟩
 done:=by
  intro X hP hw hK hc i pins s σ H E I hf st hg
  subst hP hw hK
  obtain⟨f0,f1,f2,f3,f4,f5⟩:=hf it (by simp)
  have hle:z.cps.size<=i:=by have:(cds z).length<=i:=hg;simpa[cds] using this
  have hn:z.cps[i]?=none:=by simp[hle]
  rcases hty with rfl|rfl
  .exact wpAny_pyNext_ascii_end (I.ok.hd hc) st hn fun h' he'=>⟨rfl,I.turned (t':=s.toks) (fun b o hb e=>he' b o hb e) f0 f1 f3 f4 f5⟩
  .exact wpAny_pyNext_wide_end (I.ok.hd hc) st hn fun h' he'=>⟨rfl,I.turned (t':=s.toks) (fun b o hb e=>he' b o hb e) f0 f1 f3 f4 f5⟩
 self:=fun _ _ _ _ _ st h=>by
  rcases hty with rfl|rfl
  .exact wpAny_pyIter_striter_ascii st h
  .exact wpAny_pyIter_striter_wide st h
def Uk (tl:TE):TI:=fun σ H R=>tl σ H fun x H1=>∃z,x = .str z/\R (Ko z) H1
theorem Vb {X:Cx}{tg l:Expr}{tl:TE}(hl:PE X l tl):PI X tg l (Uk tl):=by
 intro pins s σ H R I h
 refine Ak (hl pins s σ H _ I h) fun v s1 zz=>?_
 obtain⟨x,H1,I1,r1,q1⟩:=zz
 obtain⟨z,e,q⟩:=q1
 subst e
 obtain⟨t,rfl⟩:=r1
 have fin:∀b∈[s1.heap.objs.size],DO X pins H1 b:=fun b hb=>by
  have e:b=s1.heap.objs.size:=by simpa using hb
  subst e
  exact I1.fpOk (Ai _) (I1.hok.fresh (Ai _))
 cases ha:z.cps.all (· < 128)
 .refine wpAny_pyIter_wide ha ?_
  exact⟨s1.heap.objs.size,[s1.heap.objs.size],_,_,H1,rfl,I1.kept (t':=s1.toks) fun b o e=>Bc _ e,Nq _ z t _ (.inr rfl),⟨_,CB _ rfl,rfl,rfl⟩,fin,q⟩
 .refine wpAny_pyIter_ascii ha ?_
  exact⟨s1.heap.objs.size,[s1.heap.objs.size],_,_,H1,rfl,I1.kept (t':=s1.toks) fun b o e=>Bc _ e,Nq _ z t _ (.inl rfl),⟨_,CB _ rfl,rfl,rfl⟩,fin,q⟩
theorem Pz {z:Str}{ρ:List (Option Nat)}{tt:TT}{te:TE}{σ:St}{H:Hp}{Q:VK}(Pv:Nat->List V->Hp->Prop)(h0:Pv 0 [] H)(hlen:(cds z).length<=sizeLine)(hl:∀i ys H,i<=(cds z).length->Pv i ys H->ys.length<=i)
  (hs:∀i c ys H,(cds z)[i]?=some c->Pv i ys H->tt (some (.str ⟨#[c]⟩)::BE ρ σ) H fun ok H4=>if ok=true then te (some (.str ⟨#[c]⟩)::BE ρ σ) H4 fun v H5=>Pv (i+1) (ys++[v]) H5 else Pv (i+1) ys H4)
  (hd:∀ys H,Pv (cds z).length ys H->∀p,H p=none->Q (.ref p) (upd H p (.lst ys))) :
  FT (none::ρ) (Am 0) tt te σ Q (Ko z) H:=
 IC (n:=(cds z).length) (X:=fun i x=>∃c,(cds z)[i]?=some c/\x = .str ⟨#[c]⟩) Pv h0 hlen hl (fun i ys H hi p=>hi) (fun i ys H x H' hi p y=>y) (fun ys H p=>Ai _) (fun i x ys H hi ⟨c,hc,e⟩ p=>by subst e;exact hs i c ys H hc p) hd
section
variable {X:Cx}
theorem Ll (hc:X.calm=true):DA X (.builtin "all") (fun xs H Q=>∃(p:Addr) (bs:List Bool),xs=[.ref p]/\A2 X.K H p (bs.map V.bl)/\Q (.bl (bs.all id)) H):=by
 intro pins s σ H xs us Q I r h
 obtain⟨p,bs,rfl,hq,q⟩:=h
 obtain⟨u,rfl,ru⟩:=E4 r
 cases ru
 obtain⟨its,rv,pl,hz⟩:=I.list hq
 have hne:p≠s.heap.objs.size:=by
  obtain⟨o,n,e,_⟩:=pl
  exact BL (B1 e)
 have hl:=rv.length
 refine call_all_walk (K5 pl.isList ⟨s.heap.objs.size,_,_,its.toArray.size,_,_,fun i=>bs.getD i true,rfl,Walks.list (A:=X.A.in1) (show X.A.in1.handled=none from I.ok.hd hc) s.heap.objs.size p hne its.toArray,⟨⟨_,CB _ rfl,rfl,rfl⟩,(pl.isList).push _⟩,?_,fun h' tk kk=>?_⟩)
 .intro i v s' Q' E hv hq'
  have hv':its[i]?=some v:=by simpa using hv
  have hb:∃b,bs[i]?=some b/\v = .bool b:=by
   cases e:(bs.map V.bl)[i]? with
   |
    none=>
    have:=rv.none_of e
    rw[hv']at this;cases this
   |
    some y=>
    obtain⟨u,hu,ru⟩:=rv.get e
    rw[hv']at hu;cases hu
    rw[CO]at e
    cases eb:bs[i]? with
    |none=>rw[eb]at e;cases e
    |
     some b=>
     rw[eb]at e
     cases e
     exact⟨b,rfl,ru⟩
  obtain⟨b,hb,rfl⟩:=hb
  refine GT ?_
  have hq2:Q' ((bs[i]?).getD true) s':=hq'
  rw[hb]at hq2
  exact hq2
 .have e:((List.range its.toArray.size).all fun i=>bs.getD i true)=bs.all id:=by
   have el:its.toArray.size=bs.length:=by rw[BD,←hl,Aq]
   rw[el]
   rw[DJ]
   simp only[G1,JP]
   constructor
   .intro h b hb
    obtain⟨i,hi,e⟩:=List.mem_iff_getElem.mp hb
    have:=h i hi
    rw[GL,BX hi]at this
    rw[←e];exact this
   .intro h i hi
    rw[GL,BX hi]
    exact h _ (GM hi)
  rw[e]
  refine⟨.bl (bs.all id),H,I.kept (t':=tk) fun b o eb=>kk b o ?_ (Bc _ eb),rfl,q⟩
  intro z
  have z':b=s.heap.objs.size:=by simpa using z
  exact absurd (B1 eb) (by rw[z'];exact Ee _)
def Vr:V->Option Value
 |.ty n=>some (.type n)
 |.ref a=>some (.ref a)
 |_=>none
theorem FJ:DA X (.builtin "isinstance") (fun xs H Q=>∃x c t cv b,xs=[x,c]/\Vr c=some cv/\Co X.K H x t/\PySem.W.kitOne X.K t cv=some b/\Q (.bl b) H):=by
 intro pins s σ H xs us Q I r h
 obtain⟨x,c,t,cv,b,rfl,rc,ty,e,q⟩:=h
 obtain⟨u,w',rfl,rx,rw'⟩:=r.two
 have:w'=cv:=by
  cases c with
  |ref a=>cases rc;exact rw'
  |ty a=>cases rc;exact rw'
  |_=>cases rc
 subst this
 exact RW I rx ty e fun tk=>⟨.bl b,H,I.tok _,rfl,q⟩
end
def CM (sc out:Scope)(N N':List Str)(ρ:List (Option Nat)):Bool:=
 decide (sc.kind = .function)&&sc.names.all (fun y=>decide (y.2≠.cell))&&sc.names.all (fun y=>decide (y.2 = .local->sc.names.lookup y.1=some .local)) &&
 sc.names.all (fun y=>decide (y.2 = .free->sc.names.lookup y.1=some .free/\(out.names.lookup y.1=some .cell\/out.names.lookup y.1=some .free))) &&
 decide (ρ.length=N'.length)&&decide N'.Nodup &&
 (ρ.zip N').all (fun p=>match p.1 with|none=>true|some i=>decide (N[i]?=some p.2)&&decide (out.names.lookup p.2=some .local\/out.names.lookup p.2=some .cell\/out.names.lookup p.2=some .free)&&sc.names.any (fun y=>decide (y=(p.2,NameKind.free))))
structure UZ (sc:Scope)(env:Env)(N N':List Str)(ρ:List (Option Nat)):Prop where
 S:GE sc env.scope
 sl:HD sc env N N' ρ
 hl:∀x,(x,NameKind.free)∈sc.names->sc.names.lookup x=some .free
 nd:N'.Nodup
theorem Mn {sc:Scope}{env:Env}{N N':List Str}{ρ:List (Option Nat)}(h:CM sc env.scope N N' ρ=true):UZ sc env N N' ρ:=by
 unfold CM at h
 simp only[FZ,DZ,G1]at h
 obtain⟨⟨⟨⟨⟨⟨h1,h2⟩,h3⟩,h4⟩,h5⟩,h6⟩,h7⟩:=h
 refine⟨⟨h1,h2,h3,fun y hy e=>(h4 y hy e).2⟩,⟨h5,fun j i x e1 e2=>?_⟩,fun x hx=>(h4 _ hx rfl).1,h6⟩
 have hm:(some i,x)∈ρ.zip N':=by
  refine CC (i:=j) ?_
  rw[List.getElem?_zip_eq_some]
  exact⟨e1,e2⟩
 have q:=h7 _ hm
 simp only[FZ,DZ,List.any_eq_true]at q
 obtain⟨⟨q1,q2⟩,y,hy,e⟩:=q
 exact⟨q1,q2,e▸hy⟩
theorem DN {X:Cx}{elt iter tg:Expr}{ifs:List Expr}{scope:Scope}{pos:Pos}(N':List Str)(ρ:List (Option Nat)){wi:TI}{g:TG}{tt:TT}{te:TE}(hc:X.calm=true)(hi:PI X tg iter wi)(h:CM scope X.env.scope X.N N' ρ=true)
  (inner:∀(cl:List (Str×Addr)) (C:Addr) (s:Shared) (H:Hp) (fp:List Addr) (pins:List (Addr×Obj)),PG (Cu X scope N' cl C s H fp pins) tg g/\Fz (Cu X scope N' cl C s H fp pins) ifs tt/\PE (Cu X scope N' cl C s H fp pins) elt te)
  (hs:∀x,foldedSetIterable iter X.env x=pure x:=by intro _;rfl):PE X (.ListComp elt [⟨tg,iter,ifs,0⟩] scope pos) (Gd ρ wi g tt te):=
 have F:=Mn h
 QB N' ρ hc hi F.S F.sl F.hl inner hs
theorem Pp {X:Cx}{elt iter tg:Expr}{ifs:List Expr}{scope:Scope}{pos pos' spos:Pos}{i:Nat}{x:Str}(N':List Str)(ρ:List (Option Nat)){wi:TI}{g:TG}{tt:TT}{te:TE}(hN:X.N.Nodup)(hix:X.N[i]?=some x)(hx:FP X.env.scope x)
  (hc:X.calm=true) (hi:PI X tg iter wi) (h:CM scope X.env.scope X.N N' ρ=true)
  (inner:∀(cl:List (Str×Addr)) (C:Addr) (s:Shared) (H:Hp) (fp:List Addr) (pins:List (Addr×Obj)),PG (Cu X scope N' cl C s H fp pins) tg g/\Fz (Cu X scope N' cl C s H fp pins) ifs tt/\PE (Cu X scope N' cl C s H fp pins) elt te)
  (hsw:swapsWith (.ListComp elt [⟨tg,iter,ifs,0⟩] scope pos) (some (.Name x pos')) spos.line X.env=pure true:=by rfl)
  (hs:∀x,foldedSetIterable iter X.env x=pure x:=by intro _;rfl) (hf:X.fn x=true\/X.env.scope.names.lookup x=some .local:=by first|exact .inl rfl|exact .inr rfl|assumption) :
  PS X (.Assign [.Name x pos'] (.ListComp elt [⟨tg,iter,ifs,0⟩] scope pos) spos) (Gk (Gd ρ wi g tt te) (Am i)):=
 have F:=Mn h
 RH N' ρ hN hix hx hc hi F.S F.sl F.hl inner hsw hs hf
def Kf (K:Xa):Sp:=fun vs H Q _=>∃(a:Addr) (ns:List Int),vs=[.ref a]/\A2 K H a (ns.map V.int)/\ns.length<=63/\Jm H/\∀H',Q (.bl true) H'
theorem law_walk {l:PySem.W.OpenLaw}{q:Program}{loose:List Str}{XP:(Str->Option Value)->Heap->Prop}{YP:World->Heap->Prop}{d:DefRec}{K:Params->Xa}{x:Str}(k:Nat)(hk:k<=200)(hn:l.most=some 63)(hdf:d.params.defaults=[])
  (hY:∀(w:World) (h:Heap),YP w h->(K w.params).In h)
  (F:∀(w:World) (mg:Str->Option Value) (fa:Addr) (h:Heap),(K w.params).In h->h.Ns mainGlobals mg->mg d.name=some (.ref fa)->
   ∃fd:FuncData,(∀(s:Shared) (u:Value),BindsTo s fd ⟨[u],[]⟩ [(x,u)])/\∀base:Heap,(K w.params).In base->base.Ns mainGlobals mg->AJ l.prog w (K w.params) mg base AS k fa fd [x] (Kf (K w.params))) :
  PySem.W.WalkO q loose XP YP l.row.toRowW d [] (fun f vs=>PySem.call f vs):=
 L2.walk_of (n:=63) (k:=k) (x:=x) (CX:=fun _=>AS) (sp:=fun w=>Kf (K w.params)) hn (by decide) hdf
  ⟨rfl,by
    have:callerA.depth+605<recursionLimit:=by decide
    omega,by
     have:callerA.units+3400<cLine:=by decide
     omega,rfl⟩ hY F (fun _ H a ns hl hO hS=>⟨a,ns,rfl,hS,hl,hO,fun _=>rfl⟩) fun _ _ _ _ _ z=>z
def DG (l:List (Str×NameKind)):Scope:={kind:=.function,names:=l,isGenerator:=false,isCoroutine:=false,more:=[]}
theorem BB:bootBuiltins "len"=some (.builtin "len"):=by decide +kernel
theorem KE:bootBuiltins "all"=some (.builtin "all"):=by decide +kernel
theorem Fx:bootBuiltins "isinstance"=some (.builtin "isinstance"):=by decide +kernel
theorem M9:bootBuiltins "abs"=some (.builtin "abs"):=by decide +kernel
theorem Rt:bootBuiltins "max"=some (.builtin "max"):=by decide +kernel
theorem IV:bootBuiltins "int"=some (.type "int"):=by decide +kernel
theorem Ir:bootBuiltins "str"=some (.type "str"):=by decide +kernel
theorem P8:bootBuiltins "bool"=some (.type "bool"):=by decide +kernel
theorem QO:bootBuiltins "list"=some (.type "list"):=by decide +kernel
theorem FM:bootBuiltins "tuple"=some (.type "tuple"):=by decide +kernel
theorem AF {n:Nat}(h:n<=1000000):n<=sizeLine:=by rw[F3];omega
theorem AD {n:Nat}(h:Nat.ble n 1000000=true):n<=sizeLine:=AF (Nat.le_of_ble_eq_true h)
theorem C5 {n:Nat}(h:n<1000000):n<sizeLine:=by rw[F3];omega
theorem Ab {H:Hp}{p:Addr}(h:H p=none)(o:HO):A8 H (upd H p o):=fun b u q=>by rw[A7 (AG q h)];exact q
theorem A8.seqT {K:Xa}{H H':Hp}{a:Addr}{xs:List V}(e:A8 H H')(h:Aw K H a xs):Aw K H' a xs:=by
 rcases h with h|h
 .rcases h with h|⟨o,h⟩
  .exact .inl (.inl (e _ _ h))
  .exact .inl (.inr ⟨o,e _ _ h⟩)
 .exact .inr h
theorem dT {p:Prop}[Decidable p](h:decide p=true):p:=HY h
theorem dF {p:Prop}[Decidable p](h:¬decide p=true):¬p:=fun z=>h (B7 z)
def V3 (K:Xa):Sp:=fun vs H Q _=>∃(a:Addr) (ns:List Int) (k:Int),vs=[.ref a,.int k]/\A2 K H a (ns.map V.int)/\0<=k/\Q (.int (ns.getD k.toNat 0)) H
theorem FH {ns:List Int}{k:Int}(h0:0<=k)(h:k<(ns.length:Int)):BH (ns.map V.int) k=some (.int (ns.getD k.toNat 0)):=by
 have hk:k.toNat<ns.length:=by omega
 have ek:k=((k.toNat:Nat):Int):=by omega
 have q:BH (ns.map V.int) ((k.toNat:Nat):Int)=some (.int (ns.getD k.toNat 0)):=Ge (by rw[CO,BX hk];simp[GL,hk])
 rw[←ek]at q
 exact q
theorem Rh {ns:List Int}{k:Int}(h:¬k<(ns.length:Int)):ns.getD k.toNat 0=0:=by rw[GL,List.getElem?_eq_none (by omega)];rfl
def isInt:V->Bool
 |.int _=>true
 |_=>false
def Qx:V->Bool
 |.int _=>true
 |.bl _=>true
 |.non=>true
 |.str _=>true
 |_=>false
def UI:Sp:=fun vs H Q _=>∃x,vs=[x]/\Qx x=true/\Q (.bl (isInt x)) H
def QX:Sp:=fun vs H Q _=>∃z y:Str,vs=[.str z,.str y]/\z.length<=1000/\∀H',A8 H H'->Q (.bl (decide (∀c∈cds z,c∈cds y))) H'
def Ca (l:List Nat):Prop:=1<=l.length/\l.length<=18/\¬(l.head?=some 48/\1<l.length)/\∀c∈l,48<=c/\c<=57
noncomputable instance (l:List Nat):Decidable (Ca l):=by unfold Ca;infer_instance
def EO (l:List Nat):V:=if Ca l then .int ((NumText.digitsVal l:Nat):Int) else .non
def T9:Sp:=fun vs H Q _=>∃z:Str,vs=[.str z]/\z.length<=1000/\∀H',A8 H H'->Q (EO (cds z)) H'
theorem SJ:cds "0123456789"=[48,49,50,51,52,53,54,55,56,57]:=by decide +kernel
theorem Mp (c:Nat):c∈cds "0123456789"↔48<=c/\c<=57:=by
 rw[SJ]
 simp
 omega
theorem DE {α:Type}{l:List α}{i:Nat}{c:α}(h:l[i]?=some c):l.take (i+1)=l.take i++[c]:=by
 rw[List.take_succ,h];rfl
theorem KC {z:Str}:z="0"↔cds z=[48]:=⟨fun h=>by rw[h];decide +kernel,fun h=>DF (by rw[h];decide +kernel)⟩
theorem Gq {z:Str}:z=""↔cds z=[]:=⟨fun h=>by rw[h];decide +kernel,fun h=>DF (by rw[h];decide +kernel)⟩
theorem D4 {t u:TS}{D:Cw}{σ:St}{H:Hp}(M:St->Hp->Prop)(hu:∀σ' H',M σ' H'->u D σ' H')(ht:(∀σ' H',M σ' H'->u D σ' H')->t {D with nx:=u D} σ H):E7 t u D σ H:=ht hu
theorem IU {b:Bool}{A B:Prop}{v:Bool}(e:b=v)(h:if v=true then A else B):if b=true then A else B:=by rw[e];exact h
theorem Dp (l:List Nat):(Ax l).length=l.length:=by rw[←cds_len,Ba]
theorem Mx (x y:Str):(x++y).length=x.length+y.length:=Str.length_append x y
section
variable {X:Cx}{pins:List (Addr×Obj)}{σ:St}{H:Hp}{s:Shared}
end
section
variable {X:Cx}
theorem EY {A:Around}{k:Nat}(hr:BR k A):A.units+64<cLine:=by have:=hr.un;omega
end
section
variable {X:Cx}
end
def HG (x:Int)(k:Int):Int:=(x*x+48271*x+k)%2147483647
def DM (x k:Int):Nat->List Int
 |0=>[]
 |n+1=>HG x k::DM (HG x k) (k+1) n
theorem Ou (x k:Int)(n:Nat):(DM x k n).length=n:=by
 induction n generalizing x k with
 |zero=>rfl
 |succ n ih=>simp[DM,ih]
theorem QL {x k y:Int}{n:Nat}(h:y∈DM x k n):0<=y/\y<2147483647:=by
 induction n generalizing x k with
 |zero=>cases h
 |
  succ n ih=>
  rcases AH.mp h with rfl|h
  .exact⟨BY _ (by decide),Cd _ (by decide)⟩
  .exact ih h
def Cj (x k:Int):Nat->Int
 |0=>x
 |n+1=>Cj (HG x k) (k+1) n
theorem Ox (x k:Int)(n:Nat):Cj x k (n+1)=HG (Cj x k n) (k+n):=by
 induction n generalizing x k with
 |zero=>simp[Cj]
 |
  succ n ih=>
  rw[Cj,ih,Cj]
  congr 1
  omega
theorem U4 (x k:Int)(n:Nat):DM x k (n+1)=DM x k n++[Cj x k (n+1)]:=by
 induction n generalizing x k with
 |zero=>simp[DM,Cj]
 |
  succ n ih=>
  rw[DM,ih,DM,F1]
  rfl
def Cv (c:Int):Int:=c%2147483647+48271
def Er (c:Int)(n:Nat):List Int:=(DM (Cv c) 0 (n+1)).drop 1
theorem HH (c:Int)(n:Nat):(Er c n).length=n:=by unfold Er;rw[Cr,Ou];omega
theorem JE {c y:Int}{n:Nat}(h:y∈Er c n):0<=y/\y<2147483647:=QL (GN h)
def SY:Sp:=fun vs H Q _=>∃(c n:Int),vs=[.int c,.int n]/\0<=n/\n<=1000/\∀(r:Addr) (H':Hp),A8 H H'->H' r=some (.lst ((Er c n.toNat).map V.int))->Q (.ref r) H'
theorem P4 {x:Int}(h0:0<=x)(h1:x<2147531918) : -(2 ^ 64:Int)<x/\x<2 ^ 64:=by
 have:(2:Int) ^ 64=18446744073709551616:=by decide
 omega
theorem SX (c:Int):0<=Cv c/\Cv c<2147531918:=by
 have h0:=BY c (show(2147483647:Int)≠0 by decide)
 have h1:=Cd c (show(0:Int)<2147483647 by decide)
 unfold Cv;omega
theorem U8 (c:Int)(n:Nat):0<=Cj (Cv c) 0 n/\Cj (Cv c) 0 n<2147531918:=by
 cases n with
 |zero=>exact SX c
 |
  succ n=>
  rw[Ox]
  unfold HG
  have h0:=BY (Cj (Cv c) 0 n*Cj (Cv c) 0 n+48271*Cj (Cv c) 0 n+(0+(n:Int))) (show(2147483647:Int)≠0 by decide)
  have h1:=Cd (Cj (Cv c) 0 n*Cj (Cv c) 0 n+48271*Cj (Cv c) 0 n+(0+(n:Int))) (show(0:Int)<2147483647 by decide)
  omega
theorem Pb {α:Type}(l:List α):(l.drop (HT.sIx l.length 0 (some 1))).take (HT.sIx l.length l.length none-HT.sIx l.length 0 (some 1))=l.drop 1:=by
 rw[show HT.sIx l.length 0 (some (1:Int))=min 1 l.length from HT.sIx_nat _ _ 1,HT.sIx_none]
 cases l with
 |nil=>rfl
 |
  cons a r=>
  have e:min 1 (a::r).length=1:=by simp
  rw[e]
  simp
theorem VA (xs:List Int):CA (xs.map V.int) (some 1) none=(xs.drop 1).map V.int:=by
 unfold CA
 rw[Pb,List.map_drop]
theorem Kw:∀ys:List Str,cds (Txt.join "" ys)=(ys.map cds).flatten:=by
 intro ys
 show cds (Builtin.Str.glued "" ys)=_
 rw[StrLaws.glued_eq_join]
 induction ys with
 |nil=>rfl
 |
  cons y r ih=>
  cases r with
  |nil=>simp[Str.join]
  |
   cons z r=>
   show cds (y++""++Str.join "" (z::r))=_
   rw[B4,B4,ih]
   have:cds ("":Str)=[]:=by decide +kernel
   rw[this,DU]
   rfl
abbrev Ec:Str:="abcdefghijklmnopqrstuvwxyz"
theorem NA:cds Ec=(List.range 26).map (97 + ·):=by decide +kernel
def Du (x:Int):Nat:=97+(x%26).toNat
theorem ML (x:Int):BH (cds Ec) (x%26)=some (Du x):=by
 have h0:=BY x (show(26:Int)≠0 by decide)
 have h1:=Cd x (show(0:Int)<26 by decide)
 have e:x%26=(((x%26).toNat:Nat):Int):=by omega
 rw[e]
 refine Ge ?_
 rw[NA,CO,List.getElem?_range (by omega)]
 rfl
theorem Oe:Ec.length<=sizeLine:=AF (by decide +kernel)
def EK (xs:List Int):List Nat:=(xs.drop 2).map Du
def C6 (xs:List Int):Int:=1+xs.getD 1 0%8
def Ci (xs:List Int):Int:=xs.getD 1 0/8%C6 xs
def FD (xs:List Int)(w:List Nat)(k:Int):List Nat:=w.take (Ci xs).toNat++[Du (xs.getD (2+Ci xs).toNat 0+k)]++(w.drop (Ci xs+1).toNat).take ((C6 xs).toNat-(Ci xs+1).toNat)
def Gg (xs:List Int)(w:List Nat)(k:Int):List Nat:=w.take (1+(C6 xs+3*k)%8).toNat
def Br (xs:List Int)(w:List Nat)(k:Int):List Nat:=if xs.getD 0 0%2=0 then Gg xs w k else FD xs w k
def Dg:List (List Nat):=[cds "for",cds "end",cds "size"]
def D7 (xs:List Int)(w:List Nat)(k:Int):List Nat:=if Br xs w k∈Dg then[122,122]++Br xs w k else Br xs w k
theorem Hc (xs:List Int):1<=C6 xs/\C6 xs<=8:=by
 have h0:=BY (xs.getD 1 0) (show(8:Int)≠0 by decide)
 have h1:=Cd (xs.getD 1 0) (show(0:Int)<8 by decide)
 unfold C6;omega
theorem IP (xs:List Int):0<=Ci xs/\Ci xs<C6 xs:=by
 have:=Hc xs
 exact⟨BY _ (by omega),Cd _ (by omega)⟩
theorem QF {xs:List Int}(h:xs.length=10):(EK xs).length=8:=by unfold EK;rw[Aq,Cr,h]
theorem N0 (z:List Nat):CZ (.str (Ax z)) [.str "for",.str "end",.str "size"]=decide (z∈Dg):=by
 have key:∀y:Str,Et (.str y) (.str (Ax z))=decide (z=cds y):=fun y=>by
  show(y==Ax z)=_
  rw[DJ]
  simp only[D3,DZ]
  exact⟨fun e=>by rw[e,Ba],fun e=>by rw[e,E9]⟩
 unfold CZ Dg
 simp only[HP,List.any_nil,key,LG]
 rw[DJ]
 simp
theorem FU {α:Type}(l:List α){k:Int}(h:0<=k):Cn l none (some k)=l.take k.toNat:=by
 unfold Cn
 have e:k=((k.toNat:Nat):Int):=by omega
 rw[HT.sIx_none,e,HT.sIx_nat,HQ,Nat.sub_zero]
 rw[show(((k.toNat:Nat):Int)).toNat=k.toNat by omega]
 by_cases h:k.toNat<=l.length
 .rw[LJ h]
 .rw[Nat.min_eq_right (by omega),G2 (by omega),G2 (by omega)]
theorem K9 {α:Type}(l:List α){i j:Int}(hi:0<=i)(hj:0<=j)(hl:j<=(l.length:Int))(hij:i<=j):Cn l (some i) (some j)=(l.drop i.toNat).take (j.toNat-i.toNat):=by
 unfold Cn
 have e1:i=((i.toNat:Nat):Int):=by omega
 have e2:j=((j.toNat:Nat):Int):=by omega
 rw[e1,e2,HT.sIx_nat,HT.sIx_nat]
 rw[show(((i.toNat:Nat):Int)).toNat=i.toNat by omega,show(((j.toNat:Nat):Int)).toNat=j.toNat by omega,LJ (by omega),LJ (by omega)]
theorem TH {α:Type}(l:List α){i:Int}(hi:0<=i):Cn l (some i) none=l.drop i.toNat:=by
 unfold Cn
 have e1:i=((i.toNat:Nat):Int):=by omega
 rw[e1,HT.sIx_nat,HT.sIx_none,show(((i.toNat:Nat):Int)).toNat=i.toNat by omega]
 by_cases h:i.toNat<=l.length
 .rw[LJ h,G2 (by rw[Cr];omega)]
 .rw[Nat.min_eq_right (by omega),Ey,List.take_zero,LK (by omega)]
theorem Qk {xs:List Int}{w:List Nat}(hw:w.length=8)(k:Int):(D7 xs w k).length<=10:=by
 have hr:(Br xs w k).length<=8:=by
  unfold Br
  split
  .unfold Gg;rw[BA];omega
  .have:=Hc xs;have:=IP xs
   unfold FD
   rw[Ap,Ap,BA,BA,Cr,Bk]
   omega
 unfold D7
 split
 .rw[Ap];simp;omega
 .omega
def Fc (c far:Int):Int:=if c%3=0 then c/3%7-3 else c/3%(2*far+1)-far
def QH:Sp:=fun vs H Q _=>∃(c far:Int),vs=[.int c,.int far]/\0<=far/\far<2 ^ 63/\Q (.int (Fc c far)) H
def Cc (c:Nat)(l:List Nat):List Nat:=l.take (l.idxOf c)
def CI (c:Nat)(l:List Nat):List Nat:=l.drop (l.idxOf c+1)
def D1 (c:Nat)(l:List Nat):List V:=if c∈l then[.str (Ax (Cc c l)),.str ⟨#[c]⟩,.str (Ax (CI c l))] else[.str (Ax l),.str "",.str ""]
theorem Hj {X:Cx}:Fk X "str.partition" (fun x xs H Q=>∃z c,x = .str z/\xs=[.str ⟨#[c]⟩]/\z.length<=sizeLine/\∀p,H p=none->Q (.ref p) (upd H p (.tup (D1 c (cds z))))):=by
 intro pins s σ H x xs v us Q I rx rv h
 obtain⟨z,c,rfl,rfl,hz,q⟩:=h
 obtain⟨t,rfl⟩:=rx
 obtain⟨u,rfl,t',rfl⟩:=rv.one
 have fin:∀(its:List Value) (tk:Nat),As (D1 c (cds z)) its->EP X pins σ Q (.ref s.heap.objs.size) {s with toks:=tk,heap:=s.heap.push {cls:=.type "tuple",data:=.seq its.toArray}}:=fun its tk hv=>by
  refine⟨.ref s.heap.objs.size,_,I.laid (t':=tk) (o:=.tup (D1 c (cds z))) (fun b o e=>Bc _ e) (Ai _) ?_,rfl,q _ (I.hok.fresh (Ai _))⟩
  refine⟨?_,its,hv,Fg.new _ _⟩
  unfold D1
  split<;>exact AD rfl
 refine GW F.slot_str_partition (GV _ _ _) F.entry_str_partition (F.args_str_partition_2 _ _) (meets_str_partition z ⟨#[c]⟩ t t' rfl hz) ?_
 rcases StrLaws.occ_head z ⟨#[c]⟩ 1 (Ai _) with⟨e,hn⟩|⟨i,r,e,ha,hn⟩
 .rw[e]
  have hc:¬c∈cds z:=fun hm=>by
   obtain⟨i,hi,hc⟩:=List.mem_iff_getElem.mp hm
   exact hn i ((StrLaws.subAt_one z c i).mpr (by rw[BX hi,hc]))
  refine fin _ _ ?_
  unfold D1
  rw[A9 hc,E9]
  exact .cons ⟨_,rfl⟩ (.cons ⟨_,rfl⟩ (.cons ⟨_,rfl⟩ .nil))
 .rw[e]
  have hi:=(StrLaws.subAt_one z c i).mp ha
  have ei:=Ly hi fun k hk w=>hn k hk ((StrLaws.subAt_one z c k).mpr w)
  refine fin _ _ ?_
  unfold D1 Cc CI
  rw[Af (CC hi),ei]
  have e1:Builtin.Str.strSub z 0 i=Ax ((cds z).take i):=DF (by rw[Ba];exact(StrLaws.strSub_toList z 0 i).trans (by simp))
  have e2:Builtin.Str.strSub z (i+(⟨#[c]⟩:Str).length) z.length=Ax ((cds z).drop (i+1)):=DF (by
   rw[Ba]
   refine(StrLaws.strSub_toList z _ _).trans ?_
   show((cds z).drop (i+1)).take (z.length-(i+1))=_
   rw[G2 (by rw[Cr,cds_len];exact Ai _)])
  rw[←e1,←e2]
  exact .cons ⟨_,rfl⟩ (.cons ⟨_,rfl⟩ (.cons ⟨_,rfl⟩ .nil))
def Bg (l:List Nat):Prop:=1<=l.length/\l.length<=8/\(∀c∈l,c∈cds Ec)/\l∉Dg
noncomputable instance (l:List Nat):Decidable (Bg l):=by unfold Bg;infer_instance
theorem GZ (c:Nat):c∈cds Ec↔97<=c/\c<=122:=by
 rw[NA]
 simp only[CF,JP]
 constructor
 .rintro ⟨k,hk,rfl⟩;omega
 .intro h;exact⟨c-97,by omega,by omega⟩
def Ea (l:List Nat):Int:=((NumText.digitsVal l:Nat):Int)
def E3 (l:List Nat):Option (List Nat×Int):=
 if Bg l then some (l,0) else if Ca l then some ([],Ea l)
 else if 43∈l then(if Ca (CI 43 l)/\Bg (Cc 43 l) then some (Cc 43 l,Ea (CI 43 l)) else none)
 else if 45∈l then(if Ca (CI 45 l) then(if Bg (Cc 45 l)\/(Cc 45 l=[]/\0<Ea (CI 45 l)) then some (Cc 45 l,- Ea (CI 45 l)) else none) else none)
 else none
theorem Jb {l:List Nat}{c:Nat}(h:c∈l)(hc:¬(97<=c/\c<=122)):¬Bg l:=fun z=>hc ((GZ c).mp (z.2.2.1 c h))
theorem Jx {l:List Nat}{c:Nat}(h:c∈l)(hc:¬(48<=c/\c<=57)):¬Ca l:=fun z=>hc (z.2.2.2 c h)
def PF:Sp:=fun vs H Q _=>∃z:Str,vs=[.str z]/\z.length<=1000/\∀H',A8 H H'->Q (.bl (decide (Bg (cds z)))) H'
def Gp (o:Option (List Nat×Int))(H:Hp)(Q:VK):Prop:=match o with
 |none=>∀H',A8 H H'->Q .non H'
 |some s=>∀r H',A8 H H'->H' r=some (.tup [.str (Ax s.1),.int s.2])->Q (.ref r) H'
def US (f:List Nat->Option (List Nat×Int)):Sp:=fun vs H Q _=>∃z:Str,vs=[.str z]/\z.length<=1000/\Gp (f (cds z)) H Q
def Ni (c:Nat)(f:List Nat->Option (List Nat×Int))(K:Xa):Sp:=fun vs H Q _=>∃(p:Addr) (l:List Nat),vs=[.ref p]/\Aw K H p (D1 c l)/\l.length<=1000/\Gp (f l) H Q
theorem Mz (c:Nat)(l:List Nat)(h:l.length<=1000):∃b m e,D1 c l=[.str (Ax b),.str m,.str (Ax e)]/\(c∈l->b=Cc c l/\e=CI c l)/\(c∉l->b=l/\e=[])/\(m=""↔c∉l)/\(Ax b).length<=1000/\(Ax e).length<=1000:=by
 unfold D1
 have k:∀y:List Nat,(Ax y).length=y.length:=fun y=>by rw[←cds_len,Ba]
 by_cases hc:c∈l
 .rw[Af hc]
  refine⟨_,_,_,rfl,fun _=>⟨rfl,rfl⟩,fun z=>absurd hc z,⟨fun z=>by have:=Gq.mp z;rw[O9]at this;exact absurd this (by simp),fun z=>absurd hc z⟩,?_,?_⟩
  .rw[k];unfold Cc;rw[BA];omega
  .rw[k];unfold CI;rw[Cr];omega
 .rw[A9 hc]
  refine⟨l,"",[],rfl,fun z=>absurd z hc,fun _=>⟨rfl,rfl⟩,⟨fun _=>hc,fun _=>rfl⟩,?_,?_⟩
  .rw[k];exact h
  .rw[k];exact C0 _
def HK (l:List Nat):Option (List Nat×Int):=if 43∈l then(if Ca (CI 43 l)/\Bg (Cc 43 l) then some (Cc 43 l,Ea (CI 43 l)) else none) else none
def IJ (l:List Nat):Option (List Nat×Int):=if 45∈l then(if Ca (CI 45 l) then(if Bg (Cc 45 l)\/(Cc 45 l=[]/\0<Ea (CI 45 l)) then some (Cc 45 l,- Ea (CI 45 l)) else none) else none) else none
theorem Mc:¬Ca []:=fun z=>by have:=z.1;simp at this
theorem Jl {l:List Nat}(h:Ca l):EO l = .int (Ea l):=by unfold EO Ea;rw[Af h]
theorem Ip {l:List Nat}(h:¬Ca l):EO l = .non:=by unfold EO;rw[A9 h]
theorem Gp.over {o:Option (List Nat×Int)}{H H1:Hp}{Q:VK}(q:Gp o H Q)(e:A8 H H1):Gp o H1 Q:=by
 cases o with
 |none=>exact fun H' e'=>q H' (e.trans e')
 |some s=>exact fun r H' e' h=>q r H' (e.trans e') h
end L2
namespace Rd
open PySem
def FO (y l:List Nat)(n:Nat):Prop := ∀k,k<n->(l.drop k).take y.length≠y
inductive IsSplit (y:List Nat):List Nat->List (List Nat)->Prop
 |one {l:List Nat} (h:FO y l (l.length+1)):IsSplit y l [l]
 |cut {p l:List Nat} {ps:List (List Nat)} (h:FO y (p++(y++l)) p.length) (t:IsSplit y l ps):IsSplit y (p++(y++l)) (p::ps)
theorem JJ (p y l:List Nat):((p++(y++l)).drop p.length).take y.length=y:=by
 rw[JV,GO]
theorem IsSplit.fn {y:List Nat}{l:List Nat}{ps qs:List (List Nat)}(a:IsSplit y l ps)(b:IsSplit y l qs):ps=qs:=by
 induction a generalizing qs with
 |
  @one l h=>
  generalize e:l=l' at b
  cases b with
  |one _=>rfl
  |@cut p r ps h' t=>exact absurd (JJ p y r) (by rw[←e];exact h p.length (by rw[e,Ap];omega))
 |
  @cut p l ps h t ih=>
  generalize e:p++(y++l)=l' at b
  cases b with
  |one h'=>exact absurd (JJ p y l) (by rw[e];exact h' p.length (by rw[←e,Ap];omega))
  |
   @cut p' r ps' h' t'=>
   have hl:p.length=p'.length:=by
    rcases Nat.lt_trichotomy p.length p'.length with z|z|z
    .exact absurd (JJ p y l) (by rw[e];exact h' _ z)
    .exact z
    .exact absurd (JJ p' y r) (by rw[←e];exact h _ z)
   obtain⟨rfl,e2⟩:=List.append_inj e hl
   have e3:=List.append_cancel_left e2
   subst e3
   rw[ih t']
theorem Kk (x y:Str):∀(cuts:List Nat) (a f:Nat),StrLaws.ChainG x y x.length a cuts f->(∀k,f<=k->¬StrLaws.At x y x.length k)->a<=x.length->
  IsSplit (L2.cds y) ((L2.cds x).drop a) ((StrLaws.partsFrom x y.length a cuts).map L2.cds)
 |
  [],a,f,h,hn,ha=>by
  have e:f=a:=h
  subst e
  have e1:L2.cds (Builtin.Str.strSub x f x.length)=(L2.cds x).drop f:=(StrLaws.strSub_toList x f x.length).trans (G2 (by rw[Cr];exact Ai _))
  show IsSplit _ _ [L2.cds (Builtin.Str.strSub x f x.length)]
  rw[e1]
  refine .one fun k hk z=>hn (f+k) (by omega) ⟨?_,?_⟩
  .have z1:=congrArg List.length z
   rw[BA,Cr,Cr,L2.cds_len,L2.cds_len]at z1
   rw[Cr,L2.cds_len]at hk
   by_cases h0:y.length=0
   .omega
   .omega
  .rw[StrLaws.subAt_eq,D3]
   rw[HR,L2.cds_len]at z
   exact z
 |
  c::r,a,f,h,hn,ha=>by
  obtain⟨h1,h2,h3,h4⟩:=h
  have h20:=h2.1
  have ih:=Kk x y r (c+y.length) f h4 hn h20
  have e1:L2.cds (Builtin.Str.strSub x a c)=((L2.cds x).drop a).take (c-a):=StrLaws.strSub_toList x a c
  have e2:((L2.cds x).drop c).take y.length=L2.cds y:=by have:=h2.2;rw[StrLaws.subAt_eq,D3]at this;exact this
  have e3:(L2.cds x).drop a=((L2.cds x).drop a).take (c-a)++(L2.cds y++(L2.cds x).drop (c+y.length)):=by
   rw[←e2,←HR,LL,show(L2.cds x).drop c=((L2.cds x).drop a).drop (c-a) by rw[HR];congr 1;omega,LL]
  show IsSplit _ _ (L2.cds (Builtin.Str.strSub x a c)::_)
  rw[e1]
  have hl:(((L2.cds x).drop a).take (c-a)).length=c-a:=by rw[BA,Cr,L2.cds_len];omega
  have key:=IsSplit.cut (y:=L2.cds y) (p:=((L2.cds x).drop a).take (c-a)) (l:=(L2.cds x).drop (c+y.length)) (ps:=(StrLaws.partsFrom x y.length (c+y.length) r).map L2.cds) (by
   rw[←e3,hl]
   intro k hk z
   rw[HR,L2.cds_len]at z
   refine h3 (a+k) (by omega) (by omega) ⟨by omega,?_⟩
   rw[StrLaws.subAt_eq,D3]
   exact z) ih
  rw[←e3]at key
  exact key
end Rd
namespace Rd
open PySem
theorem Ml (x y:Str)(hw:1<=y.length)(h:∀k,¬StrLaws.At x y x.length k):IsSplit (L2.cds y) (L2.cds x) [L2.cds x]:=by
 have h1:=Kk x y [] 0 0 rfl (fun k _=>h k) (C0 _)
 rw[HQ]at h1
 have e:(StrLaws.partsFrom x y.length 0 []).map L2.cds=[L2.cds x]:=by
  show[L2.cds (Builtin.Str.strSub x 0 x.length)]=_
  rw[StrLaws.sub_whole]
 rw[e]at h1
 exact h1
theorem kind_le {x y:Str}(h:∀c∈L2.cds y,c<256):Builtin.Str.strKind y=1:=by
 unfold Builtin.Str.strKind
 rw[Af]
 rw[Array.all_eq_true']
 intro c hc
 exact B7 (h c (Array.mem_toList_iff.mpr hc))
theorem kind_pos (x:Str):1<=Builtin.Str.strKind x:=by
 unfold Builtin.Str.strKind
 split
 .decide
 .split<;>decide
theorem split_is (x y:Str)(hy:1<=y.length)(hk:∀c∈L2.cds y,c<256):IsSplit (L2.cds y) (L2.cds x) ((Txt.split x y).map L2.cds):=by
 obtain⟨f,hG,hn⟩:=StrLaws.occ_tight x y hy
 unfold Txt.split
 split
 .rename_i hc
  rw[OB,DZ,DZ]at hc
  have k1:=kind_le (x:=x) hk
  have k2:=kind_pos x
  refine Ml x y hy fun k z=>?_
  have:=z.1
  omega
 .split
  .rename_i he
   have e0:Builtin.Str.occurrences x y 0 x.length (x.length+1)=[]:=LM.mp he
   rw[e0]at hG
   have ef:f=0:=hG
   subst ef
   exact Ml x y hy fun k=>hn k (C0 _)
  .rw[StrLaws.partsBetween_eq]
   have:=Kk x y _ 0 f hG hn (C0 _)
   rw[HQ]at this
   exact this
theorem split_len (x y:Str):(Builtin.Str.partsBetween x (Builtin.Str.occurrences x y 0 x.length (x.length+1)) y.length).length<=x.length+2:=by
 have h1:=StrLaws.occ_length_le x y 0 x.length (x.length+1)
 unfold Builtin.Str.partsBetween
 rw[Aq,List.length_zip]
 simp only[AO,Aq,Ap,JU]
 omega
theorem split_len2 (x y:Str):(Txt.split x y).length<=x.length+2:=by
 have:=split_len x y
 unfold Txt.split
 split
 .simp
 .split
  .simp
  .exact this
theorem FO.of {c:Nat}{y l:List Nat}{n:Nat}(h:∀k,k<n->l[k]?≠some c):FO (c::y) l n:=fun k hk z=>h k hk (by
 have:=congrArg List.head? z
 rw[AO,List.head?_take,A9 (by omega),List.head?_drop]at this
 exact this)
theorem FO.free {c:Nat}{y p l:List Nat}(h:c∉p):FO (c::y) (p++l) p.length:=.of fun k hk z=>h (by
 rw[DW hk]at z
 exact CC z)
theorem IsSplit.one' {c:Nat}{y p:List Nat}(h:c∉p):IsSplit (c::y) p [p]:=.one (.of fun k hk z=>h (CC z))
theorem IsSplit.cut' {c:Nat}{y p l:List Nat}{ps:List (List Nat)}(h:c∉p)(t:IsSplit (c::y) l ps):IsSplit (c::y) (p++(c::y++l)) (p::ps):=.cut (.free h) t
theorem IsSplit.flat {c:Nat}{l:List Nat}{ps:List (List Nat)}(h:IsSplit [c] l ps):ps.flatten=l.filter (· != c):=by
 have key:∀p:List Nat,c∉p->p.filter (· != c)=p:=fun p hp=>OC.mpr fun a ha=>by
  rw[Ez]
  exact fun e=>hp (e▸ha)
 have at1:∀(p l:List Nat) (n:Nat),n<=p.length->FO [c] (p++l) n->∀k,k<n->(p)[k]?≠some c:=fun p l n hn h k hk z=>h k hk (by
  have hk':k<p.length:=by omega
  rw[List.drop_append_of_le_length (by omega),G3 hk']
  rw[BX hk']at z
  rw[BQ z]
  rfl)
 induction h with
 |
  @one l h=>
  have hc:c∉l:=fun hm=>by
   obtain⟨k,hk⟩:=List.getElem?_of_mem hm
   have hk':=(BJ.mp hk).1
   exact at1 l [] l.length (Ai _) (fun k hk=>by rw[DU];exact h k (by omega)) k hk' hk
  rw[key l hc]
  exact DU _
 |
  @cut p l ps h t ih=>
  have hc:c∉p:=fun hm=>by
   obtain⟨k,hk⟩:=List.getElem?_of_mem hm
   exact at1 p _ p.length (Ai _) h k (BJ.mp hk).1 hk
  rw[OD,ih,G4,key p hc,G4]
  simp
end Rd
namespace L2
open PySem
theorem Mw:∀{l:List (Str×Tok)},As ((l.map (·.1)).map V.str) (strValues l)
 |[]=>.nil
 |(z,t)::l=>.cons ⟨t,rfl⟩ Mw
theorem ID {X:Cx}:Fk X "str.split" (fun x xs H Q=>∃z y:Str,x = .str z/\xs=[.str y]/\1<=y.length/\(∀c∈cds y,c<256)/\z.length<=900000/\∀(p:Addr) (ps:List Str),H p=none->Rd.IsSplit (cds y) (cds z) (ps.map cds)->Q (.ref p) (upd H p (.lst (ps.map V.str)))):=by
 intro pins s σ H x xs v us Q I rx rv h
 obtain⟨z,y,rfl,rfl,hy,hk,hz,q⟩:=h
 obtain⟨t,rfl⟩:=rx
 obtain⟨u,rfl,t',rfl⟩:=rv.one
 have e1:sizeLine=16777216:=F3
 have h1:=Rd.split_len z y
 have h2:=Rd.split_len2 z y
 have hy0:(y.length==0)=false:=by rw[G5];omega
 have hs:=Rd.split_is z y hy hk
 have fin:∀(l:List (Str×Tok)) (tk:Nat),l.map (·.1)=Txt.split z y->EP X pins σ Q (.ref s.heap.objs.size) {s with toks:=tk,heap:=s.heap.push {cls:=.type "list",data:=.seq (strValues l).toArray}}:=fun l tk hl=>by
  refine⟨.ref s.heap.objs.size,_,I.laid (t':=tk) (o:=.lst ((Txt.split z y).map V.str)) (fun b o e=>Bc _ e) (Ai _) ?_,rfl,q _ _ (I.hok.fresh (Ai _)) hs⟩
  refine⟨by rw[Aq];omega,strValues l,0,?_,CB _ rfl⟩
  rw[←hl]
  exact Mw
 cases h1:(decide (z.length<y.length)||decide (Builtin.Str.strKind z<Builtin.Str.strKind y))
 .cases hf:(Builtin.Str.occurrences z y 0 z.length (z.length+1)).isEmpty
  .refine GW F.slot_str_split (GV _ _ _) F.entry_str_split (F.args_str_split_2 _ _) (meets_str_split_sep z y t t' h1 hy0 hf (by omega) (by omega)) ?_
   show wants _ _ _ {s with toks:=_,heap:=s.heap.push {cls:=.type "list",data:=.seq (strsFrom s.toks (Builtin.Str.partsBetween z (Builtin.Str.occurrences z y 0 z.length (z.length+1)) y.length)).toArray}}
   rw[strsFrom_eq]
   exact fin (numbered s.toks _) _ ((numbered_texts _ _).trans ((A9 (OK h1)).trans (A9 (OK hf))).symm)
  .exact GW F.slot_str_split (GV _ _ _) F.entry_str_split (F.args_str_split_2 _ _) (meets_str_split_not_found z y t t' h1 hy0 hf) (fin [(z,t)] s.toks ((A9 (OK h1)).trans (Af hf)).symm)
 .exact GW F.slot_str_split (GV _ _ _) F.entry_str_split (F.args_str_split_2 _ _) (meets_str_split_cannot_occur z y t t' h1) (fin [(z,t)] s.toks (Af h1).symm)
theorem R5 {X:Cx}:Fk X "str.endswith" (fun x xs H Q=>∃z c,x = .str z/\xs=[.str ⟨#[c]⟩]/\Q (.bl (decide ((cds z).getLast?=some c))) H):=by
 intro pins s σ H x xs v us Q I rx rv h
 obtain⟨z,c,rfl,rfl,q⟩:=h
 obtain⟨t,rfl⟩:=rx
 obtain⟨u,rfl,t',rfl⟩:=rv.one
 have e:Txt.endswith z ⟨#[c]⟩=decide ((cds z).getLast?=some c):=by
  unfold Txt.endswith
  rw[StrLaws.subAt_eq]
  have hl:(cds z).length=z.length:=cds_len z
  rw[DJ,FZ,DZ,DZ,D3,List.getLast?_eq_getElem?]
  show 0+1<=z.length/\((cds z).drop (z.length-1)).take 1=[c]↔_
  rw[hl]
  constructor
  .intro⟨a,b⟩
   have:=congrArg List.head? b
   rw[List.head?_take,A9 (by decide),List.head?_drop]at this
   exact this
  .intro b
   have hb:=(BJ.mp b).1
   refine⟨by omega,?_⟩
   rw[G3 (by omega)]
   rw[BX (by omega)]at b
   show[_]=_
   rw[BQ b]
 exact SC.endswith ⟨.bl _,H,I.tok _,by rw[e];rfl,q⟩
def stp (c:Nat)(l:List Nat):List Nat:=((l.dropWhile (· == c)).reverse.dropWhile (· == c)).reverse
theorem PJ {X:Cx}:Fk X "str.strip" (fun x xs H Q=>∃(z:Str) (c:Nat),x = .str z/\xs=[.str ⟨#[c]⟩]/\z.length<=sizeLine/\Q (.str (Ax (stp c (cds z)))) H):=by
 intro pins s σ H x xs v us Q I rx rv h
 obtain⟨z,c,rfl,rfl,hz,q⟩:=h
 obtain⟨t,rfl⟩:=rx
 obtain⟨u,rfl,t',rfl⟩:=rv.one
 have hg:(#[c]:Array Nat).contains=fun a=>a==c:=by
  funext a
  rw[DJ]
  simp
 have dw:∀(l:List Nat),l.drop (l.takeWhile (· == c)).length=l.dropWhile (· == c):=fun l=>by
  induction l with
  |nil=>rfl
  |
   cons a l ih=>
   rw[HV,GP]
   split
   .exact ih
   .rfl
 have e:Txt.stripChars z ⟨#[c]⟩=Ax (stp c (cds z)):=by
  apply DF
  rw[Ba]
  have key:cds (stripped (fun a=>a==c) true true z)=stp c (cds z):=by
   refine(StrLaws.strSub_toList z _ _).trans ?_
   unfold stripLo stripHi stp
   simp only[F4]
   show((cds z).drop ((cds z).takeWhile (· == c)).length).take (z.length-(((cds z).drop ((cds z).takeWhile (· == c)).length).reverse.takeWhile (· == c)).length-((cds z).takeWhile (· == c)).length)=_
   rw[dw]
   generalize hm:(cds z).dropWhile (· == c)=m
   rw[←dw m.reverse,List.drop_reverse,LN]
   congr 1
   have:=congrArg List.length (dw (cds z))
   rw[hm,Cr,cds_len]at this
   omega
  unfold Txt.stripChars Txt.stripBy
  rw[hg]
  split
  .rename_i hs
   rw[←key]
   unfold stripSame at hs
   rw[FZ,D3,D3]at hs
   unfold stripped
   rw[hs.2,hs.1,StrLaws.sub_whole]
  .exact key
 exact SC.stripChars (fun t' k=>⟨.str _,H,I.tok _,⟨_,by rw[e]⟩,q⟩) hz
end L2
namespace Rd
open PySem
theorem Kt {M:Model}{Γ:Ctx}{p:Pos}{t:Sem Fin}{fs:List Frame}{s s':Shared}{e:End}(h:Runs M Γ p t fs s e s'):s.toks<=s'.toks:=by
 induction h with
 |done|raise|yield=>exact Ai _
 |fresh _ ih=>exact Bz (GK _) ih
 |again _ _ ih|rule _ ih | «at» _ ih|load _ _ ih|update _ _ ih|loadIfAlive _ ih|point _ ih|alloc _ ih|ask _ ih|choose _ _ ih|os _ ih|handled _ ih|genState _ _ ih|stack _ ih|thread _ ih|newGen _ ih=>exact ih
 |callSusp _ ih=>exact ih
 |segSuspOut _ _ ih=>exact ih
 |resumeJustStarted _ _ _ ih|resumeThrowFresh _ _ ih|resumeRunning _ _ ih|resumeFinished _ _ ih=>exact ih
 |call _ _ i1 i2|segRet _ _ i1 i2|segGen _ _ i1 i2=>exact Bz i1 i2
 |resumeFresh _ _ _ _ i1 i2|resumeSuspended _ _ _ _ i1 i2|segSuspGen _ _ _ _ i1 i2=>exact Bz i1 i2
theorem PV {M:Model}{Γ:Ctx}{p:Pos}{g:Nat}{r:Resume}{s s':Shared}{res:GenResult}(h:Wakes M Γ p g r s res s'):s.toks<=s'.toks:=by
 unfold Wakes at h
 split at h
 .exact h.elim
 .split at h
  .obtain⟨e₁,s₁,h1,_,_,rfl⟩:=h;exact(show(s.setGen g GenState.running).toks<=s₁.toks from Kt h1)
  .obtain⟨_,rfl⟩:=h;exact Ai _
  .obtain⟨_,rfl⟩:=h;exact Ai _
 .obtain⟨e₁,s₁,h1,_,_,rfl⟩:=h;exact(show(s.setGen g GenState.running).toks<=s₁.toks from Kt h1)
 .obtain⟨_,rfl⟩:=h;exact Ai _
 .obtain⟨_,rfl⟩:=h;exact Ai _
theorem R1 {α:Type}{M:Model}{Γ:Ctx}{t:Sem α}{Q:α->Pos->Shared->Prop}{E:Value->Pos->Shared->Prop}(n:Nat)(p:Pos)(s:Shared)(hn:n<=s.toks)(h:Sem.wp M Γ t Q E p s) :
  Sem.wp M Γ t (fun a p' s'=>Q a p' s'/\n<=s'.toks) E p s:=by
 revert h
 induction t generalizing p s with
 |pure x=>exact fun h=>⟨h,hn⟩
 |raise v=>exact id
 |unsupported|finish|yield|fork|await|register=>exact id
 |rule _ k ih | «at» _ k ih|alloc _ k ih|loadIfAlive _ k ih|point _ k ih|ask k ih|os _ _ k ih|handled _ k ih|newGen _ k ih|stack k ih|thread k ih=>exact ih _ _ _ hn
 |fresh k ih=>exact ih _ _ _ (JW hn)
 |load a _ k ih|genState a k ih=>exact fun⟨o,ho,h⟩=>⟨o,ho,ih _ _ _ hn h⟩
 |update a _ f k ih|choose _ _ k ih=>exact fun⟨ha,h⟩=>⟨ha,ih _ _ _ hn h⟩
 |call c h g l k ih=>exact fun⟨r,s',hr,h⟩=>⟨r,s',hr,ih r _ _ (Bz hn (Kt hr)) h⟩
 |resume g r l k ih=>exact fun⟨res,s',hw,h⟩=>⟨res,s',hw,ih _ _ _ (Bz hn (PV hw)) h⟩
theorem wpAny_toks {α:Type}{M:Model}{A:Around}{t:Sem α}{Q:α->Shared->Prop}{E:Value->Shared->Prop}{s:Shared}{n:Nat}(hn:n<=s.toks)(h:wpAny M A t Q E s):wpAny M A t (fun a s'=>Q a s'/\n<=s'.toks) E s:=
 fun Γ p hΓ=>R1 n p s hn (h Γ p hΓ)
end Rd
namespace L2
open PySem PySem.Spec PyProof.Rows
def IH (X:Cx)(e:Expr)(t:TE):Prop:=
 ∀(pins:List (Addr×Obj)) (s:Shared) (σ:St) (H:Hp) (Q:VK),1<=s.toks->A1 X pins σ H s->t σ H Q->wpAny (model X.prog X.w) X.A (eval e X.env) (EP X pins σ Q) X.xe s
def JA (X:Cx)(es:List Expr)(t:TA):Prop:=
 ∀(pos:Pos) (pins:List (Addr×Obj)) (s:Shared) (σ:St) (H:Hp) (Q:List V->Hp->Prop),1<=s.toks->A1 X pins σ H s->t σ H Q->wpAny (model X.prog X.w) X.A (spliced (backTo pos (starEach es X.env))) (AP X pins σ Q) X.xe s
section
variable {X:Cx}{a b e o:Expr}{es rest:List Expr}{ta tb te to:TE}{t:TA}{pos:Pos}
theorem Tz (ha:PE X e te)(hr:JA X es t)(hs:starEach (e::es) X.env=(false,eval e X.env)::starEach es X.env:=by rfl):JA X (e::es) (Gs te t):=by
 intro pos pins s σ H Q hp I h
 rw[hs]
 show wpAny _ _ (spliced ((false,eval e X.env)::backTo pos (starEach es X.env))) _ _ s
 refine Calls.spliced_cons (Ak (Rd.wpAny_toks hp (ha pins s σ H _ I h)) fun u s1 zz=>?_)
 obtain⟨⟨x,H1,I1,r1,q1⟩,hp1⟩:=zz
 refine Ak (hr pos pins s1 σ H1 _ hp1 I1 q1) fun us s2 zz=>?_
 obtain⟨xs,H2,I2,r2,q2⟩:=zz
 exact⟨x::xs,H2,I2,.cons r1 r2,q2⟩
theorem Pe (ha:IH X e te)(hs:starEach [e] X.env=(false,eval e X.env)::starEach [] X.env:=by rfl):JA X [e] (Gs te FG):=by
 intro pos pins s σ H Q hp I h
 rw[hs]
 show wpAny _ _ (spliced ((false,eval e X.env)::backTo pos (starEach [] X.env))) _ _ s
 refine Calls.spliced_cons (Ak (ha pins s σ H _ hp I h) fun u s1 zz=>?_)
 obtain⟨x,H1,I1,r1,q1⟩:=zz
 exact Calls.spliced_nil ⟨[x],H1,I1,.cons r1 .nil,q1⟩
theorem UO {op:CmpOp}{r:R2}{c:Str}{j:Nat}{cp p1:Pos}(ho:Bw X (compareOp op) r)(ha:PE X a ta)(hm:behindInMarks op (.Constant (.str c) j cp)=false)(hb:IH X b tb) :
  PE X (.BoolOp .And [.Compare a [op] [.Constant (.str c) j cp] p1,b] pos) (Ka (Eo r ta (tC (.str c))) tb):=by
 intro pins s σ H Q I h
 have key:wpAny (model X.prog X.w) X.A (eval (.Compare a [op] [.Constant (.str c) j cp] p1) X.env) (fun v s'=>EP X pins σ (fun x H1=>∃c,x = .bl c/\if c=true then tb σ H1 Q else Q (.bl false) H1) v s'/\1<=s'.toks) X.xe s:=by
  refine wpAny_Compare1 (Ak (ha pins s σ H _ I h) fun v s1 zz=>?_) hm
  obtain⟨x,H1,I1,r1,q1⟩:=zz
  refine OL ?_
  refine Rd.wpAny_toks (s:={s1 with toks:=s1.toks+1}) (Nat.succ_le_succ (C0 _)) ?_
  exact ho pins _ σ H1 x (.str c) v _ _ (I1.tok _) r1 ⟨_,rfl⟩ q1
 refine BoolOp_and (Ak key fun v s1 zz=>?_)
 obtain⟨⟨x,H1,I1,r1,q1⟩,hp⟩:=zz
 obtain⟨c,rfl,q1⟩:=q1
 cases r1
 refine GT ?_
 cases c with
 |true=>exact BoolOp_one (hb pins s1 σ H1 Q hp I1 q1)
 |false=>exact⟨.bl false,H1,I1,rfl,q1⟩
theorem UU {CX:Dx}{k:Nat}{f:Addr}{fd:FuncData}{ps:List Str}{sp:Sp}{x:Str}{ds:List Value}{dvs:List V}{E:XK}{p:Pos}(F:AJ X.prog X.w X.K X.mg X.base CX k f fd ps sp)(hr:BR k X.A)(hg:Gl X x)(hm:X.mg x=some (.ref f))(hk:PySem.W.keepIn X.K (.ref f)=true)(hb:AL X.K fd ps ds)(hd:As dvs ds)(hx:Ff CX X E)
  (ha:JA X (e::es) t) (hdb:(x==("__debug__":Str))=false:=by decide) (he:starEach (e::es) X.env=(false,eval e X.env)::starEach es X.env:=by rfl) (hpl:(backTo pos (starEach es X.env)).any (·.1)=false:=by rfl) :
  IH X (.Call (.Name x p) (e::es) [] pos) (MQ sp dvs E t):=by
 intro pins s σ H Q hp I h
 refine Fs (EB I hg hm ?_ hdb)
 refine JR (h₀:=X.base) I.ok.mod.kin hk (Ak (ha pos pins s σ H _ hp I h) fun us s1 zz=>?_) he hpl
 obtain⟨vs,H1,I1,r,q⟩:=zz
 refine⟨I1.kIn,?_⟩
 exact LY F hr hb hd hx I1 r q
theorem Rm (x:Str)(c:Nat)(hc:c<256):cds (Txt.replace x ⟨#[c]⟩ ⟨#[]⟩)=(cds x).filter (· != c):=by
 have h:=Rd.split_is x ⟨#[c]⟩ (Ai _) (fun d hd=>by have e:d=c:=(by simpa[cds] using hd);omega)
 have hcd:cds ⟨#[c]⟩=[c]:=rfl
 rw[hcd]at h
 have e:cds (Txt.replace x ⟨#[c]⟩ ⟨#[]⟩)=((Txt.split x ⟨#[c]⟩).map cds).flatten:=by
  rw[←Kw]
  unfold Txt.replace Txt.split
  cases hf:(Builtin.Str.occurrences x ⟨#[c]⟩ 0 x.length (x.length+1)).isEmpty
  .have e1:(false||((⟨#[c]⟩:Str).length==0&&(⟨#[]⟩:Str).length==0))=false:=rfl
   rw[e1]
   simp only[HW,G6]
   rw[A9]
   .rfl
   .intro hk
    rw[OB,DZ,DZ]at hk
    have hne:Builtin.Str.occurrences x ⟨#[c]⟩ 0 x.length (x.length+1)≠[]:=fun z=>by rw[z]at hf;cases hf
    have k1:=Rd.kind_le (x:=x) (y:=⟨#[c]⟩) (fun d hd=>by have e:d=c:=(by simpa[cds] using hd);omega)
    have k2:=Rd.kind_pos x
    have hl:x.length<1:=by
     rcases hk with z|z
     .exact z
     .omega
    obtain⟨f,hG,_⟩:=StrLaws.occ_tight x ⟨#[c]⟩ (Ai _)
    cases hL:Builtin.Str.occurrences x ⟨#[c]⟩ 0 x.length (x.length+1) with
    |nil=>exact hne hL
    |
     cons i r=>
     rw[hL]at hG
     have h1:=hG.2.1.1
     have:(⟨#[c]⟩:Str).length=1:=rfl
     omega
  .simp only[Bool.true_or,F4]
   split
   .exact congrArg cds (show x=Txt.join "" [x] from rfl)
   .exact congrArg cds (show x=Txt.join "" [x] from rfl)
 rw[e,h.flat]
def O0 (c:Nat):V->List V->Hp->VK->Prop:=fun x xs H Q=>∃z:Str,x = .str z/\z.length<=1000000/\Q (.str (Ax ((cds z).filter (· != c)))) H
theorem Ua {c:Nat}{y w':Str}{j1 j2:Nat}{p1 p2 apos:Pos}(hy:y=⟨#[c]⟩)(hw:w'=⟨#[]⟩)(hc:c<256)(ho:PE X o to)
  (hbase:attributeBase o "replace" X.env (eval o X.env)=eval o X.env:=by rfl)
  (hfew:((backTo pos (starEach [.Constant (.str y) j1 p1,.Constant (.str w') j2 p2] X.env)).all (fun x=>!x.1)&&(backToKw pos (keywordEach [] X.env)).all (fun x=>x.1.isSome)
   && decide (([.Constant (.str y) j1 p1,.Constant (.str w') j2 p2]:List Expr).length+([]:List Keyword).length+(if([]:List Keyword).isEmpty then 0 else 1)<30))=true:=by rfl)
  (hline:(apos.endLine==pos.line)=true:=by rfl) :
  IH X (.Call (.Attribute o "replace" apos) [.Constant (.str y) j1 p1,.Constant (.str w') j2 p2] [] pos) (Lv X.K "str" (O0 c) to FG):=by
 intro pins s σ H Q hp I h
 refine wpAny_Call_method_late hbase hfew hline rfl (Ak (Rd.wpAny_toks hp (ho pins s σ H _ I h)) fun v s1 zz=>?_)
 obtain⟨⟨x,H1,I1,r1,ty,q1⟩,hp1⟩:=zz
 obtain⟨h1,h2⟩:=KU I1 r1 ty
 refine⟨"str","str.replace",F.plainAttrs_str,F.slot_str_replace,F.type_str_replace,h1,h2,?_⟩
 obtain⟨z,rfl,hz,q⟩:=(show O0 c x [] H1 Q from q1)
 obtain⟨t,rfl⟩:=r1
 refine Calls.callWith_builtin rfl (Calls.evalArgs_plain ?_)
 show wpAny _ _ (spliced ((false,eval (.Constant (.str y) j1 p1) X.env)::(false,eval (.Constant (.str w') j2 p2) X.env)::[])) _ _ _
 refine Calls.spliced_cons (OL (Calls.spliced_cons (OL (Calls.spliced_nil ?_))))
 subst hy hw
 show wpAny _ _ (call (.builtin "str.replace") [.str z t,.str ⟨#[c]⟩ s1.toks,.str ⟨#[]⟩ (s1.toks+1)]) _ _ {s1 with toks:=s1.toks+1+1}
 refine SC.replaceW (show s1.toks≠0 by omega) (show s1.toks+1≠0 by omega) (show s1.toks≠s1.toks+1 by omega) (by rw[G5];exact fun z=>by cases z) (by omega) (C0 _) fun t' k=>⟨.str _,H1,I1.tok _,⟨t',?_⟩,q⟩
 exact congrArg (fun y=>Value.str y t') (DF (by rw[Ba];exact Rm z c hc))
end
def Q2 (C:Addr):Sp:=fun vs H Q _=>∃(x dx:Addr) (v1 v2 v3 v4 v5 v6 v7:V),vs=[.ref x,v1,v2,v3,v4,v5,v6,v7]/\H x=some (.ins C dx [])/\∀H',(∀b o,H b=some o->b≠x->H' b=some o)->(∃dx,H' x=some (.ins C dx [("names",v1),("lows",v2),("highs",v3),("table",v4),("spots",v5),("term",v6),("path",v7)]))->Q .non H'
theorem T6 {l:List Nat}(h:l∈Dg):l.head?≠some 122:=by
 have e1:(cds "for").head?≠some 122:=by decide +kernel
 have e2:(cds "end").head?≠some 122:=by decide +kernel
 have e3:(cds "size").head?≠some 122:=by decide +kernel
 unfold Dg at h
 rcases AH.mp h with rfl|h
 .exact e1
 rcases AH.mp h with rfl|h
 .exact e2
 rcases AH.mp h with rfl|h
 .exact e3
 .cases h
theorem Mu {α:Type}[DecidableEq α]:∀{l k:List α},l.Nodup->(∀x∈l,x∈k)->l.length<=k.length
 |[],_,_,_=>C0 _
 |
  a::l,k,hn,hs=>by
  have ha:=hs a AR
  have h2:=FY.mp hn
  have:=Mu (l:=l) (k:=k.erase a) h2.2 fun x hx=>(List.mem_erase_of_ne (show x≠a from fun e=>h2.1 (by rw[←e];exact hx))).mpr (hs x (Bm _ hx))
  rw[List.length_erase_of_mem ha]at this
  have:0<k.length:=List.length_pos_of_mem ha
  simp only[AO]
  omega
theorem Fy {α:Type}(l:List α)(x:α)(m:List α){n:Int}(hn:n = -((m.length:Int)+1)):BH (l++x::m) n=some x:=by
 unfold BH DC
 have hl:(l++x::m).length=l.length+(m.length+1):=by rw[Ap];rfl
 rw[hl,A9 (by omega),Af (by omega)]
 show(l++x::m)[(n+((l.length+(m.length+1):Nat):Int)).toNat]?=some x
 rw[show(n+((l.length+(m.length+1):Nat):Int)).toNat=l.length by omega,DV (Ai _),Ey]
 rfl
theorem J0 (l m:List V)(hm:0<m.length){n:Int}(hn:n = -(m.length:Int)):CA (l++m) none (some n)=l:=by
 unfold CA
 have hl:(l++m).length=l.length+m.length:=Ap
 have e1:HT.sIx (l++m).length 0 none=0:=rfl
 have e2:HT.sIx (l++m).length (l++m).length (some n)=l.length:=by
  show(if n<0 then(n+((l++m).length:Int)).toNat else min n.toNat (l++m).length)=l.length
  rw[hl,Af (by omega)]
  omega
 rw[e1,e2,HQ,Nat.sub_zero,List.take_left']
 rfl
theorem KG {tt:TT}{ta tb:TS}{D:Cw}{σ:St}{H:Hp}(M:Hp->Prop)(hb:∀H',M H'->tb D σ H')(h:(∀H',M H'->tb D σ H')->Hr tt ta tb D σ H):Hr tt ta tb D σ H:=h hb
theorem ES {α:Type}{l:List α}{n:Nat}(h:l.length=n+1):∃p x,l=p++[x]/\p.length=n:=by
 have hne:l≠[]:=fun e=>by rw[e]at h;cases h
 exact⟨l.dropLast,l.getLast hne,(VS hne).symm,by rw[List.length_dropLast];omega⟩
theorem FB {H H2:Hp}{x dx C:Addr}(hx:H x=none)(hdx:H dx=none)(k:∀b o,(upd (upd H dx (.own x)) x (.ins C dx [])) b=some o->b≠x->H2 b=some o):A8 H H2:=fun b o e=>by
 have n1:=AG e hx
 have n2:=AG e hdx
 exact k b o (by rw[A7 n1,A7 n2];exact e) n1
theorem Nu (ns:List Int)(lo hi:Option Int):CA (ns.map V.int) lo hi=(Cn ns lo hi).map V.int:=by
 unfold CA Cn
 rw[Aq,LO,List.map_drop]
section
variable {X:Cx}{pins:List (Addr×Obj)}{σ:St}{H:Hp}{s:Shared}{h':Heap}
theorem A1.turnedL {t':Nat}{ch:List Addr}(I:A1 X pins σ H s)(k:∀b o,b∉ch->s.heap.get? b=some o->h'.get? b=some o)(hf:∀b∈ch,DO X pins H b):A1 X pins σ H {s with heap:=h',toks:=t'}:=by
 have nit:∀b u,H b=some u->b∉ch:=fun b u e z=>by rw[(hf b z).1]at e;cases e
 have hL:X.env.locals∉ch:=fun z=>(hf _ z).2.1 rfl
 refine I.step (g':=s.gens) (d':=s.drawn) (ch:=ch) (fun b hb=>?_) (fun b o _ _ hc e _=>k b o hc e) (fun b o _ _ hc e _=>⟨o.slots,k b o hc e⟩) (fun _ _ _ _ n=>n)
  (fun b o hc e=>⟨o,k b o hc e⟩) (fun _ _ e=>e) (fun _ _ _ e=>e) (fun b ps e=>⟨#[],by rw[e];simp⟩) (fun m hm=>?_) (fun b u e=>?_) I.bare
 .obtain⟨f0,f1,f2,f3,f4,f5⟩:=hf b hb
  exact⟨f3,f1,f4,f5⟩
 .obtain⟨o,es,ep,ho,r⟩:=hm
  exact⟨o,es,ep,k _ o hL ho,r⟩
 .refine(I.hok b u e).stay (fun c v hc q=>k c v ?_ q) (fun _ q=>q) fun _ _ q=>q
  rcases hc with z|z
  .rw[z];exact nit b u e
  .exact nit c _ z
end
end L2
namespace Rd
open PySem
open AutoSeq1 (wpAny_loadPart')
section
variable {prog:Program}{w:World}{A:Around}{E:Value->Shared->Prop}{s:Shared}
theorem Tc {T newId initId:String}{Bn Bi:Builtin}{args:List Value}{kw:List (Str×Value)}{S:Spec}{Q Q₁:Value->Shared->Prop}(ft:TypeCalled T newId initId)
  (hct:checkTypeCall T ⟨args,kw⟩=pure ()) (hcn:checkBuiltinCall newId ⟨.type T::args,kw⟩=pure ())
  (entryN:entryFor table newId=some Bn) (entryI:entryFor table initId=some Bi) (g:Meets (Bn ⟨.type T::args,kw⟩) S)
  (h:S A.in1 (wants Q₁ E) s)
  (hnext:∀obj s₁,Q₁ obj s₁->s₁.TypeIs obj T/\argsOk initId ⟨obj::args,kw⟩/\∃Si,Meets (Bi ⟨obj::args,kw⟩) Si/\Si A.in1 (wants (fun r s₂=>r = .none/\Q obj s₂) E) s₁) :
  wpAny (model prog w) A (call (.type T) args kw) Q E s:=by
 obtain⟨c,tl,hmro⟩:=ft.mro
 have hmade:=ft.made
 have hsub:=ft.sub
 refine Fp (codeAny_of_tree ?_)
 show wpAny _ _ (callAny (.type T) _) _ _ _
 refine B9 ⟨Code.quiet_builtin _ (by decide +kernel),codeAny_builtin F.entry_type_call ?_⟩
 rw[Around.under_plain (weight_type_call_type T args kw) (units_type_call_type T args kw)]
 have h1:=ft.notType
 have h2:=ft.canCreate
 repeat (any_goals (first|assumption|wp_step))
 refine Fq (K6 ft.plain entryN (wpAny_of_eq hcn (g prog w A.in1 _ s h))) fun r s₁ hr=>?_
 cases r with
 |error e=>exact hr
 |
  ok fl=>
  cases fl with
  |
   ret obj=>
   obtain⟨hT,hok,Si,gi,hsi⟩:=hnext _ _ hr
   have hli:=ft.init.lookup
   have hbi:=ft.init.bind obj
   repeat (any_goals (first|assumption|wp_step))
   refine Fq (K6 ft.init.plain entryI (ft.init.check _ _ _ _ _ _ _ _ hT hok (gi prog w A.in1 _ s₁ hsi))) fun r₂ s₂ hr₂=>?_
   cases r₂ with
   |error e=>exact hr₂
   |
    ok fl₂=>
    cases fl₂ with
    |
     ret r=>
     obtain⟨rfl,hq⟩:=hr₂
     repeat (any_goals (first|assumption|wp_step))
    |_=>exact hr₂.elim
  |_=>exact hr.elim
theorem Rf {T newId:String}{self:Value}{rest:List Value}{kw:List (Str×Value)}(hl:typeLookup (.type T) "__init__"=pure (some (.builtin "object.__init__")))
  (hm:Bind.madeBy (.type T)=pure (some newId)) (hne:(some newId != some "object.__new__")=true) (hr:rest≠[]) :
  Meets (Builtin.«object.__init__» ⟨self::rest,kw⟩) (fun _ R s=>s.TypeIs self T/\R (.ok (.ret .none)) s):=by
 refine Meets.of_wp fun prog w A R s hs=>?_
 obtain⟨hT,hq⟩:=hs
 cases rest with
 |nil=>exact absurd rfl hr
 |
  cons a rest=>
  repeat (any_goals (first|assumption|wp_step))
  exact⟨_,rfl,hq⟩
theorem Pk (l:Addr)(items:Array Value)(n:Nat)(dct:Option Addr)(sl:Array (Option Value))(t:Tok) :
  Meets (Builtin.«enumerate.__new__» ⟨[.type "enumerate",.ref l],[("start",.int 1 t)]⟩) (fun _ R s=>s.heap.get? l=some {cls:=.type "list",dict:=dct,data:=.seq items n,slots:=sl}/\
   R (.ok (.ret (.ref (s.heap.push {cls:=.type "list_iterator",data:=.fields #[.ref l,.int 0 0]}).objs.size)))
    {s with heap:=(s.heap.push {cls:=.type "list_iterator",data:=.fields #[.ref l,.int 0 0]}).push {cls:=.type "enumerate",data:=.fields #[.none,.bool false,.ref s.heap.objs.size,rawInt 1,.none,.none]}}):=
 .of_wp fun prog w A R s h=>by
  obtain⟨hp,g,d,tk,os⟩:=s;obtain⟨hl,h⟩:=h
  have hsub:=sub_enumerate
  have hL:Heap.IsList (Shared.heap ⟨hp,g,d,tk,os⟩) l items:=⟨_,hl,rfl,n,rfl⟩
  wp_walk using wpAny_loadPart' hl
  refine wpAny_stack_any fun st=>B9 ?_
  split
  .rename_i c _ _ _ _ _
   cases (c==Value.type "enumerate")
   .wp_walk using wpAny_loadPart' hl,K5 hL
    exact⟨_,rfl,h⟩
   .wp_walk using wpAny_loadPart' hl,K5 hL
    exact⟨_,rfl,h⟩
  .wp_walk using wpAny_loadPart' hl,K5 hL
   exact⟨_,rfl,h⟩
theorem Rq (a b c:Value):argsOk "object.__init__" ⟨[a,b],[("start",c)]⟩:=by
 unfold argsOk
 rw[signature?_of (id:="object.__init__") (n:=['_','_','t','i','n','i','_','_']) (o:=['t','c','e','j','b','o']) (by kernel_rfl) F.owner_object]
 kernel_rfl
theorem call_enum_start {l:Addr}{items:Array Value}{t:Tok}{Q:Value->Shared->Prop}(hL:s.heap.IsList l items)
  (h:∀h',IsEnum h' (s.heap.objs.size+1) s.heap.objs.size 1 .none->h'.IsListIter s.heap.objs.size l 0->h'.objs.size=s.heap.objs.size+2->
   (∀b o,s.heap.get? b=some o->h'.get? b=some o)->Q (.ref (s.heap.objs.size+1)) {s with heap:=h'}) :
  wpAny (model prog w) A (call (.type "enumerate") [.ref l] [("start",.int 1 t)]) Q E s:=by
 obtain⟨⟨c,dct,dt,sl⟩,hl,hc,n,hd⟩:=hL
 replace hc:c = .type "list":=hc
 replace hd:dt = .seq items n:=hd
 subst hc hd
 refine Tc (Q₁:=fun obj s₁=>s₁.TypeIs obj "enumerate"/\Q obj s₁) F.called_enumerate (by kernel_rfl) (by kernel_rfl) F.entry_enumerate_new F.entry_object_init (Pk l items n dct sl t) ⟨hl,?_⟩ fun obj s₁ hq=>⟨hq.1,Rq _ _ _,_,Rf F.called_enumerate.init.lookup F.called_enumerate.made (by decide) (D2 _ _),hq.1,rfl,hq.2⟩
 have hz:(s.heap.push {cls:=.type "list_iterator",data:=.fields #[.ref l,.int 0 0]}).objs.size=s.heap.objs.size+1:=HM ..
 show _/\_
 rw[hz]
 have he:IsEnum ((s.heap.push {cls:=.type "list_iterator",data:=.fields #[.ref l,.int 0 0]}).push
   {cls:=.type "enumerate",data:=.fields #[.none,.bool false,.ref s.heap.objs.size,rawInt 1,.none,.none]}) (s.heap.objs.size+1) s.heap.objs.size 1 .none:=by
  have:=CB (s.heap.push {cls:=.type "list_iterator",data:=.fields #[.ref l,.int 0 0]})
   (o:={cls:=.type "enumerate",data:=.fields #[.none,.bool false,.ref s.heap.objs.size,rawInt 1,.none,.none]}) rfl
  rw[hz]at this;exact this
 refine⟨⟨_,he,rfl⟩,h _ he ⟨_,Bc _ (CB _ rfl),rfl,rfl⟩ (by rw[HM,hz]) fun b o x=>Bc _ (Bc _ x)⟩
end
end Rd
namespace Rd
open PySem
open AutoSeq1 (wpAny_loadPart')
section
variable {prog:Program}{w:World}{A:Around}{E:Value->Shared->Prop}{s:Shared}
theorem UD {e it l:Addr}{i:Nat}{c:Int}{items:Array Value}{x old:Value}{Q:Value->Shared->Prop}
  (he:IsEnum s.heap e it c old) (hit:s.heap.IsListIter it l i) (hl:s.heap.IsList l items) (hx:items[i]?=some x) (hne:e≠it)
  (hQ:∀h',IsEnumOut h' e it (c+1) x s.heap.objs.size->h'.IsListIter it l (i+1)->
   h'.get? s.heap.objs.size=some {cls:=.type "tuple",data:=.seq #[.int c s.toks,x]}->h'.objs.size=s.heap.objs.size+1->
   (∀b o,b≠e->b≠it->s.heap.get? b=some o->h'.get? b=some o)->Q (.ref s.heap.objs.size) {s with heap:=h',toks:=s.toks+1}) :
  wpAny (model prog w) A (Builtin.«enumerate.__next__» ⟨[.ref e],[]⟩) (fun fin s'=>∃v,fin = .done (.ret v)/\Q v s') E s:=by
 obtain⟨hp,g,d,tk,os⟩:=s
 show wpAny _ _ (field (.ref e) 2>>=_) _ _ _
 refine Ah (F5 he rfl (x:=.ref it) rfl ?_)
 refine Ah (wpAny_nextOf_list_item hit hl hx fun h₁ hit₁ hs₁=>?_)
 replace hs₁:Heap.SameBut it hp h₁:=hs₁
 have he₁:IsEnum h₁ e it c old:=(hs₁.2 e hne).trans he
 show wpAny _ _ (field (.ref e) 3>>=_) _ _ ⟨h₁,g,d,tk,os⟩
 refine Ah (F5 he₁ rfl (x:=rawInt c) rfl ?_)
 show wpAny _ _ (field (.ref e) 4>>=_) _ _ ⟨h₁,g,d,tk,os⟩
 refine Ah (F5 he₁ rfl (x:=.none) rfl ?_)
 show wpAny _ _ (mkInt c>>=_) _ _ ⟨h₁,g,d,tk,os⟩
 refine Ah (wpAny_mkInt ?_)
 show wpAny _ _ (setField (.ref e) 3 (rawInt (c+1))>>=_) _ _ ⟨h₁,g,d,tk+1,os⟩
 refine Ah (K7 he₁ (by simp) fun h₂ he₂ hs₂=>?_)
 replace hs₂:Heap.SameBut e h₁ h₂:=hs₂
 replace he₂:IsEnum h₂ e it (c+1) old:=he₂
 show wpAny _ _ (setField (.ref e) 4 .none>>=_) _ _ ⟨h₂,g,d,tk+1,os⟩
 refine Ah (K7 he₂ (by simp) fun h₃ he₃ hs₃=>?_)
 replace hs₃:Heap.SameBut e h₂ h₃:=hs₃
 replace he₃:IsEnum h₃ e it (c+1) old:=he₃
 show wpAny _ _ (newTuple [.int c tk,x]>>=_) _ _ ⟨h₃,g,d,tk+1,os⟩
 refine Ah (wpAny_newTuple ?_)
 have he₄:IsEnum (h₃.push {cls:=.type "tuple",data:=.seq #[.int c tk,x]}) e it (c+1) old:=Bc _ he₃
 generalize hh₄:h₃.push {cls:=.type "tuple",data:=.seq #[.int c tk,x]}=h₄ at he₄
 have hsz:h₃.objs.size=hp.objs.size:=by rw[hs₃.1,hs₂.1,hs₁.1]
 have hel:e<hp.objs.size:=B1 he
 have ht₄:h₄.get? hp.objs.size=some {cls:=.type "tuple",data:=.seq #[.int c tk,x]}:=by rw[←hh₄,←hsz];exact CB _ rfl
 have hz₄:h₄.objs.size=hp.objs.size+1:=by rw[←hh₄,HM,hsz]
 have hk₄:∀b o,b≠e->b≠it->hp.get? b=some o->h₄.get? b=some o:=fun b o hbe hbi hb=>by
  rw[←hh₄];exact Bc _ (hs₃.extBut b o hbe (hs₂.extBut b o hbe (hs₁.extBut b o hbi hb)))
 have hit₄:h₄.IsListIter it l (i+1):=by
  rw[←hh₄];obtain⟨o,ho,r⟩:=(hit₁.extBut hs₂.extBut (Ne.symm hne)).extBut hs₃.extBut (Ne.symm hne);exact⟨o,Bc _ ho,r⟩
 show wpAny _ _ (Builtin.SmallTypes.ownedTupleIsFree (.ref e)>>=_) _ _ ⟨h₄,g,d,tk+1,os⟩
 rw[hsz]
 clear hh₄ he₃ hs₃ he₂ hs₂ he₁ hs₁ hit₁ hsz h₃ h₂ h₁
 refine Ah ?_
 .unfold Builtin.SmallTypes.ownedTupleIsFree
  refine Ah (F5 he₄ rfl (x:=.none) rfl (B9 ?_))
  simp only[F4]
  refine Ah (wpAny_rule ?_)
  refine Ah (F5 he₄ rfl (x:=old) rfl ?_)
  refine Ah (K7 he₄ (by simp) fun h₅ he₅ hs₅=>?_)
  replace hs₅:Heap.SameBut e h₄ h₅:=hs₅
  replace he₅:IsEnum h₅ e it (c+1) x:=he₅
  show wpAny _ _ (Builtin.SmallTypes.ownedTupleHandOut (.ref e) (.ref hp.objs.size)>>=_) _ _ ⟨h₅,g,d,tk+1,os⟩
  refine Ah ?_
  .unfold Builtin.SmallTypes.ownedTupleHandOut
   refine Ah (K7 he₅ (by simp) fun h₆ he₆ hs₆=>?_)
   replace hs₆:Heap.SameBut e h₅ h₆:=hs₆
   replace he₆:IsEnumOut h₆ e it (c+1) x hp.objs.size:=he₆
   refine K7 he₆ (by simp) fun h₇ he₇ hs₇=>?_
   replace hs₇:Heap.SameBut e h₆ h₇:=hs₇
   replace he₇:IsEnumOut h₇ e it (c+1) x hp.objs.size:=he₇
   refine Ah (wpAny_letGo (B9 ⟨_,rfl,hQ h₇ he₇ ?_ ?_ ?_ ?_⟩))
   .exact((hit₄.extBut hs₅.extBut (Ne.symm hne)).extBut hs₆.extBut (Ne.symm hne)).extBut hs₇.extBut (Ne.symm hne)
   .exact hs₇.extBut _ _ (FX hel) (hs₆.extBut _ _ (FX hel) (hs₅.extBut _ _ (FX hel) ht₄))
   .rw[hs₇.1,hs₆.1,hs₅.1,hz₄]
   .exact fun b o hbe hbi hb=>hs₇.extBut b o hbe (hs₆.extBut b o hbe (hs₅.extBut b o hbe (hk₄ b o hbe hbi hb)))
theorem enumC_next {e it l:Addr}{i:Nat}{c:Int}{items:Array Value}{x old:Value}{Q:Option Value->Shared->Prop}
  (he:IsEnum s.heap e it c old) (hit:s.heap.IsListIter it l i) (hl:s.heap.IsList l items) (hx:items[i]?=some x) (hne:e≠it)
  (hQ:∀h',IsEnumOut h' e it (c+1) x s.heap.objs.size->h'.IsListIter it l (i+1)->
   h'.get? s.heap.objs.size=some {cls:=.type "tuple",data:=.seq #[.int c s.toks,x]}->h'.objs.size=s.heap.objs.size+1->
   (∀b o,b≠e->b≠it->s.heap.get? b=some o->h'.get? b=some o)->Q (some (.ref s.heap.objs.size)) {s with heap:=h',toks:=s.toks+1}) :
  wpAny (model prog w) A (pyNext (.ref e)) Q E s:=by
 have hT:s.TypeIs (.ref e) "enumerate":=⟨_,he,rfl⟩
 unfold pyNext
 exact Ah (wpAny_attempt (wpAny_callSpecial?_slot (name:=Str.ofString "__next__") hT F.slot_enumerate_next
  (wpAny_call_entry F.slot_enumerate_next hT F.entry_enumerate_next
   (UD he hit hl hx hne fun h' a b c d k=>B9 (hQ h' a b c d k)) (F.args_enumerate_next_1 _))))
theorem enumC_end {e it l:Addr}{i:Nat}{c:Int}{items:Array Value}{old:Value}{Q:Option Value->Shared->Prop}(hh:A.handled=none)
  (he:IsEnum s.heap e it c old) (hit:s.heap.IsListIter it l i) (hl:s.heap.IsList l items) (hx:items[i]?=none)
  (hQ:∀h',Heap.ExtBut it s.heap h'->Q none {s with heap:=h'}):wpAny (model prog w) A (pyNext (.ref e)) Q E s:=by
 have hT:s.TypeIs (.ref e) "enumerate":=⟨_,he,rfl⟩
 unfold pyNext
 refine Ah (wpAny_attempt (wpAny_callSpecial?_slot (name:=Str.ofString "__next__") hT F.slot_enumerate_next
  (wpAny_call_entry F.slot_enumerate_next hT F.entry_enumerate_next ?_ (F.args_enumerate_next_1 _))))
 show wpAny _ _ (field (.ref e) 2>>=_) _ _ _
 refine Ah (F5 he rfl (x:=.ref it) rfl ?_)
 refine Ah (wpAny_nextOf_list_end hh hit hl hx fun h' x he' hx'=>?_)
 obtain⟨o,ho,hc⟩:=hx'
 refine Ah (wpAny_isInstance (T:="StopIteration") (b:=true) ⟨o,ho,hc⟩ isSubtype_stop ?_)
 exact B9 (hQ _ he')
end
section
open PyProof.Rows
variable {M:Model}{A:Around}{E:Value->Shared->Prop}{s:Shared}{env:Env}
theorem Vx {pos:Pos}{id:String}{first:List Value}{args:List (Bool×Sem Value)}{keywords:List (Option Str×Sem Value)}{Q:Value->Shared->Prop}
  (hplain:args.any (·.1)=false) (hkw:keywords.any (·.1.isNone)=false)
  (h:wpAny M A (evalArgs (.type id) true args keywords) (fun a s₁=>wpAny M A (call (.type id) (first++a.pos) a.kw) Q E s₁) E s) :
  wpAny M A (callWith pos (.type id) first args keywords) Q E s:=by
 unfold callWith
 refine Ah (HZ (Ct h (fun a s₁ h₁=>Ah (HX ?_)) fun _ _ x=>x))
 simp only[hplain,hkw,LG]
 refine Ah (B9 ?_)
 exact Ah (Ct h₁ (fun r s₂ hr=>Ah (HZ (wpAny_point (B9 hr)))) fun _ _ x=>x)
theorem callWith_kwT {pos:Pos}{id:String}{e:Expr}{rest:List Expr}{kws:List Keyword}{Q:Value->Shared->Prop}
  (h:wpAny M A (spliced (backTo pos (starEach (e::rest) env))) (fun vs s₁=>wpAny M A (evalAll ((backToKw pos (keywordEach kws env)).map (·.2)))
   (fun kvs s₂=>wpAny M A (call (.type id) vs (((backToKw pos (keywordEach kws env)).filterMap (·.1)).zip kvs)) Q E s₂) E s₁) E s)
  (he:backTo pos (starEach (e::rest) env)=(false,eval e env)::backTo pos (starEach rest env):=by rfl)
  (hplain:(backTo pos (starEach (e::rest) env)).any (·.1)=false:=by rfl)
  (hall:(backToKw pos (keywordEach kws env)).all (·.1.isSome)=true:=by rfl)
  (hkw:(backToKw pos (keywordEach kws env)).any (·.1.isNone)=false:=by rfl) :
  wpAny M A (callWith pos (.type id) [] (backTo pos (starEach (e::rest) env)) (backToKw pos (keywordEach kws env))) Q E s:=by
 refine Vx hplain hkw ?_
 rw[he]at h ⊢
 exact evalArgs_kwB hall h
end
end Rd
namespace L2
open PySem PySem.Spec PyProof.Rows
def Hv (K:Xa)(a:Addr):It:=
 ⟨fun i H=>∃xs x,A2 K H a xs/\xs[i]?=some x,fun i H v H'=>∃x T,(∀xs,A2 K H a xs->xs[i]?=some x)/\H T=none/\v = .ref T/\H'=upd H T (.tup [.int ((i:Int)+1),x]),fun i H=>∃xs,A2 K H a xs/\xs.length<=i⟩
theorem P0 {P:Program}{w:World}{K:Xa}{elts:List Expr}{x1:Nat}{pos:Pos}(a e it:Addr)(hei:e≠it):Gu P w K (.Tuple elts x1 pos) (Hv K a) [e,it] e (fun i h=>(∃old,IsEnum h e it ((i:Int)+1) old)/\h.IsListIter it a i) where
 mem:=by simp
 obj:=fun i h st b hb=>by
  obtain⟨⟨old,he⟩,hit⟩:=st
  rcases AH.mp hb with rfl|hb
  .exact⟨_,he,fun v z=>by cases z⟩
  .have e:b=it:=by simpa using hb
   subst e
   obtain⟨o,e,c,d⟩:=hit
   exact⟨o,e,fun v z=>by rw[d]at z;cases z⟩
 keep:=fun i h h' st k=>by
  obtain⟨⟨old,he⟩,hit⟩:=st
  exact⟨⟨old,k e (by simp) _ he⟩,hit.at fun o e=>k it (by simp) o e⟩
 item:=by
  intro X hP hw hK hc i pins s σ H E I hf st hg
  subst hP hw hK
  obtain⟨xs,x,hq,hx⟩:=hg
  obtain⟨its,rv,p,hz⟩:=I.list hq
  obtain⟨u,hu,ru⟩:=rv.get hx
  obtain⟨⟨old,he⟩,hit⟩:=st
  refine Rd.enumC_next he hit p.isList (x:=u) (by simpa using hu) hei fun h1 ho hit' hT hsz hk=>⟨_,rfl,?_⟩
  refine wpAny_letOwnedTupleGo_enum ho fun h2 he2 hs2=>?_
  have hTn:H s.heap.objs.size=none:=I.hok.fresh (Ai _)
  have helt:e<s.heap.objs.size:=B1 he
  have hilt:it<s.heap.objs.size:=by obtain⟨_,x,_⟩:=hit;exact B1 x
  have I1:A1 X pins σ (upd H s.heap.objs.size (.tup [.int ((i:Int)+1),x])) {s with heap:=s.heap.push {cls:=.type "tuple",data:=.seq #[.int ((i:Int)+1) s.toks,u]},toks:=s.toks+1}:=I.laid (t':=s.toks+1) (o:=.tup [.int ((i:Int)+1),x]) (fun b o e=>Bc _ e) (Ai _) ⟨AD rfl,[.int ((i:Int)+1) s.toks,u],.cons ⟨_,rfl⟩ (.cons ru .nil),Fg.new _ _⟩
  have I2:A1 X pins σ (upd H s.heap.objs.size (.tup [.int ((i:Int)+1),x])) {s with heap:=h2,toks:=s.toks+1}:=by
   refine A1.turnedL (s:={s with heap:=s.heap.push {cls:=.type "tuple",data:=.seq #[.int ((i:Int)+1) s.toks,u]},toks:=s.toks+1}) (h':=h2) (ch:=[e,it]) (t':=s.toks+1) I1 (fun b o hb q=>?_) (fun b hb=>?_)
   .have nbe:b≠e:=fun z=>hb (by simp[z])
    have nbi:b≠it:=fun z=>hb (by simp[z])
    show h2.get? b=some o
    rw[hs2.2 b nbe]
    rcases Heap.get?_push_cases q with⟨rfl,rfl⟩|q
    .exact hT
    .exact hk b o nbe nbi q
   .obtain⟨f0,f1,f2,f3,f4,f5⟩:=hf b hb
    have nb:b≠s.heap.objs.size:=by
     rcases AH.mp hb with rfl|hb
     .exact BL helt
     .have:b=it:=by simpa using hb
      subst this
      exact BL hilt
    exact⟨by rw[A7 nb];exact f0,f1,f2,f3,f4,f5⟩
  refine⟨.ref s.heap.objs.size,_,I2,rfl,⟨x,_,fun ys hy=>by rw[I.list_inj hy hq];exact hx,hTn,rfl,rfl⟩,⟨⟨_,by simpa using he2⟩,hit'.at fun o y=>(hs2.2 it hei.symm).trans y⟩,fun b hb=>?_⟩
  obtain⟨f0,f1,f2,f3,f4,f5⟩:=hf b hb
  have nb:b≠s.heap.objs.size:=by
   rcases AH.mp hb with rfl|hb
   .exact BL helt
   .have:b=it:=by simpa using hb
    subst this
    exact BL hilt
  rw[A7 nb]
  exact f0
 done:=by
  intro X hP hw hK hc i pins s σ H E I hf st hg
  subst hP hw hK
  obtain⟨xs,hq,hx⟩:=hg
  obtain⟨its,rv,p,hz⟩:=I.list hq
  obtain⟨⟨old,he⟩,hit⟩:=st
  have hl:=rv.length
  refine Rd.enumC_end (I.ok.hd hc) he hit p.isList (by simp;omega) fun h' eb=>⟨rfl,?_⟩
  exact I.turnedL (ch:=[e,it]) (t':=s.toks) (fun b o hb q=>eb b o (fun z=>hb (by simp[z])) q) hf
 self:=fun _ _ _ _ _ st h=>by
  obtain⟨⟨old,he⟩,_⟩:=st
  exact wpAny_pyIter_enum he h
def Pj (K:Xa)(ta:TA):TI:=fun σ H R=>ta σ H fun vs H1=>∃a:Addr,vs=[.ref a]/\(∃xs,A2 K H1 a xs)/\R (Hv K a) H1
theorem SS {X:Cx}{a:Expr}{ta:TA}{p pos kp ip:Pos}{elts:List Expr}{x1 j:Nat}{pos2:Pos}(hg:Gl X "enumerate")(hm:X.mg "enumerate"=none)(ha:PA X [a] ta)(hs:starEach [a] X.env=[(false,eval a X.env)]:=by rfl):PI X (.Tuple elts x1 pos2) (.Call (.Name "enumerate" p) [a] [⟨some "start",.Constant (.int 1) j ip,kp⟩] pos) (Pj X.K ta):=by
 intro pins s σ H R I h
 refine Fs (HI I hg hm boot_enumerate ?_)
 refine Rd.callWith_kwT (Ak (ha pos pins s σ H _ I h) fun us s1 zz=>?_) (by rw[hs];rfl) (by rw[hs];rfl)
 obtain⟨vs,H1,I1,r1,q1⟩:=zz
 refine PyProof.Rows.kws_cons (wpAny_Constant_int (PyProof.Rows.kws_nil ?_))
 obtain⟨l,rfl,⟨xs,hq⟩,q⟩:=q1
 cases r1 with
 |
  cons r rr=>
  cases rr
  cases r
  have I2:=I1.tok (s1.toks+1)
  obtain⟨its,rv,pl,hz⟩:=I2.list hq
  refine Rd.call_enum_start pl.isList fun h' he hit hsz hk=>?_
  refine wpAny_pyIter_enum he ?_
  refine⟨_,[s1.heap.objs.size+1,s1.heap.objs.size],_,_,H1,rfl,I2.kept (t':=s1.toks+1) hk,P0 l _ _ (FX (JQ _)),⟨⟨_,he⟩,hit⟩,fun b hb=>?_,q⟩
  rcases AH.mp hb with rfl|hb
  .exact I2.fpOk (GK _) (I2.hok.fresh (GK _))
  .have e:b=s1.heap.objs.size:=by simpa using hb
   subst e
   exact I2.fpOk (Ai _) (I2.hok.fresh (Ai _))
theorem Sq {K:Xa}{a:Addr}{xs:List V}{g:TG}{tb:TS}{D:Cw}{σ:St}{H:Hp}(Pv:Nat->St->Hp->Prop)(h0:Pv 0 σ H)(hl:∀i σ H,i<=xs.length->Pv i σ H->A2 K H a xs)
  (hs:∀i x T σ H,xs[i]?=some x->Pv i σ H->H T=none->g (.ref T) σ (upd H T (.tup [.int ((i:Int)+1),x])) fun σ2 H2=>tb {D with nx:=Pv (i+1),ct:=Pv (i+1),bk:=D.nx} σ2 H2) (hd:∀σ H,Pv xs.length σ H->D.nx σ H) :
  ∃W:Nat->Nat->St->Hp->Prop,(∃m,W 0 m σ H)/\∀i m σ H,W i m σ H->
   ((Hv K a).stop i H/\D.nx σ H)\/((Hv K a).go i H/\∃N:St->Hp->Prop,(∀σ' H',N σ' H'->∃m',m'<m/\W (i+1) m' σ' H')/\∀x H',(Hv K a).yld i H x H'->g x σ H' fun σ2 H2=>tb {D with nx:=N,ct:=N,bk:=D.nx} σ2 H2):=by
 refine⟨fun i m σ H=>m=xs.length-i/\i<=xs.length/\Pv i σ H,⟨xs.length,by simp,C0 _,h0⟩,?_⟩
 rintro i m σ H ⟨rfl,hi,p⟩
 have q:=hl i σ H hi p
 by_cases hlt:i<xs.length
 .refine .inr ⟨⟨xs,xs[i],q,BX hlt⟩,Pv (i+1),fun σ' H' p'=>⟨xs.length-(i+1),by omega,rfl,hlt,p'⟩,fun v H' y=>?_⟩
  obtain⟨x,T,hx,hT,rfl,rfl⟩:=y
  exact hs i x T σ H (hx xs q) p hT
 .have e:i=xs.length:=by omega
  subst e
  exact .inl ⟨⟨xs,q,Ai _⟩,hd σ H p⟩
theorem Qw {X:Cx}{pins:List (Addr×Obj)}{σ:St}{H:Hp}{s:Shared}{A:Around}{E:Value->Shared->Prop}{a:Addr}{kvs:List (B5×V)}{k:B5}{x:V}{u r:Value}{Q:Value->Shared->Prop}(I:A1 X pins σ H s)(e:H a=some (.dK kvs))(ry:Ay (kV k) u)(rx:Ay x r)(hz:kvs.length<=1000000)
  (h1:∀v w' s',Cy kvs k=some v->A1 X pins σ H s'->Ay v w'->Q w' s')
  (h2:Cy kvs k=none->∀s',A1 X pins σ (upd H a (.dK (EM kvs k x))) s'->Q r s'):wpAny (model X.prog X.w) A (call (.builtin "dict.setdefault") [.ref a,u,r]) Q E s:=by
 obtain⟨z,hd,vs,rel,dd⟩:=PM I.hok e
 have hl:(EM kvs k x).length<=sizeLine:=by have:=QC kvs k x;have:=F3;omega
 refine call_meetsIn VT dd.typeIs PySem.F.entry_dict_setdefault (PySem.F.args_dict_setdefault_3 _ _ _) (kt_meets_setdefault (Dq X.prog X.w) a (Jp ry) hd r)
  ⟨vs,dd,by rw[←rel.length];exact z,fun v hv=>?_,fun hn h' dd' hs=>?_⟩
 .have rl:=rel.val k
  rw[hv]at rl
  cases l:Cy kvs k with
  |none=>rw[l]at rl;exact rl.elim
  |some v0=>rw[l]at rl;exact h1 v0 v _ l (I.tok _) rl
 .have rl:=rel.val k
  rw[hn]at rl
  have he:∃q,h'.get? a=some q:=by obtain⟨q,_,_,hq,_⟩:=dd';exact⟨q,hq⟩
  cases l:Cy kvs k with
  |some v0=>rw[l]at rl;exact rl.elim
  |none=>exact h2 l _ (Pm I (by rw[e];exact True.intro) hs he (QR hl hd (rel.put k rx) dd'))
def So (td ty tx:TE):TE:=fun σ H Q=>td σ H fun x H1=>∃a,x = .ref a/\O6 H1 a/\ty σ H1 fun y H2=>tx σ H2 fun z H3=>∃kvs k,H3 a=some (.dK kvs)/\y=kV k/\kvs.length<=1000000/\
 (∀v,Cy kvs k=some v->Q v H3)/\(Cy kvs k=none->Q z (upd H3 a (.dK (EM kvs k z))))
theorem Qd {X:Cx}{o e f:Expr}{td ty tx:TE}{apos cpos:Pos}(ho:PE X o td)(he:PE X e ty)(hf:PE X f tx)(m:M2 X o "setdefault" apos e f cpos):PE X (.Call (.Attribute o "setdefault" apos) [e,f] [] cpos) (So td ty tx):=by
 intro pins s σ H Q I h
 refine wpAny_Call_method m.base m.few m.line PySem.F.plainAttrs_dict VT PySem.F.type_dict_setdefault (Ak (ho pins s σ H _ I h) fun u s1 zz=>?_)
 obtain⟨x,H1,I1,rx,a,ex,d,q1⟩:=zz
 subst ex
 obtain rfl:u=Value.ref a:=rx
 obtain⟨t1,t2,_⟩:=U0 I1 d
 refine⟨t1,t2,?_⟩
 rw[m.trees]
 refine Calls.callWith_builtin rfl (Calls.evalArgs_plain (Calls.spliced_cons (Ak (he pins s1 σ H1 _ I1 q1) fun iv s2 ⟨y,H2,I2,ry,q2⟩=>
  Calls.spliced_cons (Ak (hf pins s2 σ H2 _ I2 q2) fun fv s3 ⟨z,H3,I3,rz,kvs,k,ea,ey,hz,q3,q4⟩=>Calls.spliced_nil ?_))))
 subst ey
 exact Qw I3 ea ry rz hz (fun v w' s4 l I4 rw'=>⟨v,H3,I4,rw',q3 v l⟩) fun l s4 I4=>⟨z,_,I4,rz,q4 l⟩
def LA (P:Program)(w:World)(K:Xa)(a:Addr)(kvs:List (B5×V)):Prop:=
 (a==sysModules)=false/\∀h:Heap,K.In h->∃vs,KV kvs vs/\h.DictOf (Dq P w) a vs
def Tn (P:Program)(w:World)(K:Xa)(td ty:TE):TE:=fun σ H Q=>td σ H fun x H1=>ty σ H1 fun y H2=>∃a kvs k v,x = .ref a/\LA P w K a kvs/\y=kV k/\Cy kvs k=some v/\Q v H2
theorem Jn {X:Cx}{o i:Expr}{pos:Pos}{td ty:TE}(ho:PE X o td)(hi:PE X i ty)(hs:O3 i):PE X (.Subscript o i pos) (Tn X.prog X.w X.K td ty):=by
 intro pins s σ H Q I h
 refine Tg PySem.F.slot_dict_getitem.lookup hs (Ak (ho pins s σ H _ I h) fun u s1 zz=>?_)
 obtain⟨x,H1,I1,rx,q1⟩:=zz
 refine Ak (hi pins s1 σ H1 _ I1 q1) fun iv s2 zz=>?_
 obtain⟨y,H2,I2,ry,a,kvs,k,v,ex,g,ey,l,q2⟩:=zz
 subst ex ey
 obtain rfl:u=Value.ref a:=rx
 obtain⟨vs,rel,dd⟩:=g.2 s2.heap I2.kIn
 obtain⟨w',hw,rw'⟩:=El.some_of (v:=v) (o:=valueAt vs k) (by rw[←l];exact rel.val k)
 exact⟨dd.typeIs,wpAny_getItem_of (Jp ry) dd.mapOf hw ⟨v,H2,I2.tok _,rw',q2⟩⟩
theorem P5 {P:Program}{w:World}{K:Xa}{u:Addr}{ep:Nat}{x0 x1 x2 x3:Str}{y0 y1 y2 y3:Int}{h0 h1 h2 h3:Int}{t0 t1 t2 t3 s0 s1 s2 s3:Tok}
  (q:K.lookup u=some ⟨.type "dict",none,.dict #[⟨h0,.str x0 t0,.int y0 s0⟩,⟨h1,.str x1 t1,.int y1 s1⟩,⟨h2,.str x2 t2,.int y2 s2⟩,⟨h3,.str x3 t3,.int y3 s3⟩] ep,#[]⟩) (e0:h0=hashStr w x0) (e1:h1=hashStr w x1) (e2:h2=hashStr w x2) (e3:h3=hashStr w x3) (sm:(u==sysModules)=false)
  (nd:[x0,x1,x2,x3].Nodup):LA P w K u [(.inr x0,.int y0),(.inr x1,.int y1),(.inr x2,.int y2),(.inr x3,.int y3)]:=⟨sm,fun h X=>by
 subst e0 e1 e2 e3
 have is:∀(x:Str) (t:Tok),(Dq P w).is (.inr x) (.str x t)=true:=fun x t=>Jp (k:=.inr x) ⟨t,rfl⟩
 refine⟨[(.inr x0,.int y0 s0),(.inr x1,.int y1 s1),(.inr x2,.int y2 s2),(.inr x3,.int y3 s3)],.cons ⟨rfl,⟨_,rfl⟩⟩ (.cons ⟨rfl,⟨_,rfl⟩⟩ (.cons ⟨rfl,⟨_,rfl⟩⟩ (.cons ⟨rfl,⟨_,rfl⟩⟩ .nil))),_,_,_,X _ _ q,⟨rfl,rfl,rfl⟩,rfl,fun e he=>?_,.cons (is _ _) rfl (.cons (is _ _) rfl (.cons (is _ _) rfl (.cons (is _ _) rfl .nil))),?_⟩
 .simp only[List.mem_toArray,AH,CG,or_false]at he
  rcases he with rfl|rfl|rfl|rfl
  .exact⟨.inr x0,is _ _,rfl⟩
  .exact⟨.inr x1,is _ _,rfl⟩
  .exact⟨.inr x2,is _ _,rfl⟩
  .exact⟨.inr x3,is _ _,rfl⟩
 .simp only[C8,List.map_nil,FY,AH,CG,or_false,not_or,Sum.inr.injEq,OM,List.nodup_nil,and_true]at nd ⊢
  exact nd⟩
section
variable {X:Cx}
def JH (K:Xa)(neg:Bool):R2:=fun x y H Q=>∃p q xs,x = .ref p/\y = .ref q/\A2 K H p xs/\A2 K H q []/\Q (.bl (if neg then !xs.isEmpty else xs.isEmpty)) H
theorem Ov {neg:Bool}(hu:X.A.units+64<cLine):Bw X (compareOp (if neg then .NotEq else .Eq)) (JH X.K neg):=by
 intro pins s σ H x y v u Q I rx ry h
 obtain⟨p,q,xs,rfl,rfl,hp,hq,q'⟩:=h
 cases rx;cases ry
 have key:SeqAt.RcAt X.A s (.ref p) (.ref q) xs.isEmpty/\SeqAt.RcNeAt X.A s (.ref p) (.ref q) (!xs.isEmpty):=by
  obtain⟨its,rv,pl,_⟩:=I.list hp
  obtain⟨jts,rv',pl',_⟩:=I.list hq
  have l1:=rv.length
  have l2:0=jts.length:=rv'.length
  cases xs with
  |
   nil=>
   have l1:0=its.length:=l1
   have hsz:its.toArray.size=jts.toArray.size:=by rw[BD,BD];omega
   have a:=SeqAt.RcAt.lists (A:=X.A) (e:=fun _=>true) pl.isList pl'.isList hsz (by omega) (fun j u v=>absurd u (by rw[BD];omega))
   have b:=SeqAt.RcNeAt.lists (A:=X.A) (e:=fun _=>true) pl.isList pl'.isList hsz (by omega) (fun j u v=>absurd u (by rw[BD];omega))
   have e:its.toArray.size=0:=by rw[BD];omega
   rw[e]at a b
   exact⟨a,b⟩
  |
   cons x0 xs=>
   rw[AO]at l1
   have hne:(its.toArray.size != jts.toArray.size)=true:=by
    rw[BD,BD]
    simp only[Ez,ne_eq];omega
   exact⟨SeqAt.RcAt.lists_lengths pl.isList pl'.isList hne (by omega),SeqAt.RcNeAt.lists_lengths pl.isList pl'.isList hne (by omega)⟩
 cases neg with
 |false=>exact key.1 X.prog X.w X.xe _ ⟨.bl _,H,I,rfl,q'⟩
 |true=>exact key.2 X.prog X.w X.xe _ ⟨.bl _,H,I,rfl,q'⟩
theorem Jt (hu:X.A.units+64<cLine):Bw X (compareOp .Eq) (JH X.K false):=Ov (neg:=false) hu
theorem Hm (hu:X.A.units+64<cLine):Bw X (compareOp .NotEq) (JH X.K true):=Ov (neg:=true) hu
end
end L2
namespace Bd
end Bd
namespace L2
open PySem PySem.Spec PyProof.Rows Bd
section
variable {es:List Expr}{env:Env}{p:Pos}
theorem Do {c:Const}{n:Nat}:starEach (.Constant c n p::es) env=(false,eval (.Constant c n p) env)::starEach es env:=rfl
theorem EZ {x:Str}:starEach (.Name x p::es) env=(false,eval (.Name x p) env)::starEach es env:=rfl
theorem Li {a b:Expr}{o:Operator}:starEach (.BinOp a o b p::es) env=(false,eval (.BinOp a o b p) env)::starEach es env:=rfl
theorem Ls {f:Expr}{as:List Expr}{ks:List Keyword}:starEach (.Call f as ks p::es) env=(false,eval (.Call f as ks p) env)::starEach es env:=rfl
theorem FL {a b:Expr}:starEach (.Subscript a b p::es) env=(false,eval (.Subscript a b p) env)::starEach es env:=rfl
theorem Gj {as:List Expr}{n:Nat}:starEach (.Tuple as n p::es) env=(false,eval (.Tuple as n p) env)::starEach es env:=rfl
end
@[irreducible] def ED (X:Cx) (es:List Expr) (t:TA):Prop:=PA X es t
section
variable {X:Cx}{e:Expr}{es:List Expr}{te:TE}{t:TA}{pos:Pos}
theorem DD:ED X [] FG:=by unfold ED;exact A4
theorem B8 (ha:PE X e te)(hr:ED X es t)(hs:starEach (e::es) X.env=(false,eval e X.env)::starEach es X.env):ED X (e::es) (Gs te t):=by unfold ED at *;exact A0 ha hr hs
theorem MW (h:ED X es t):PE X (.List es pos) (KB t):=by unfold ED at h;exact Bl h
theorem E5 {x1:Nat}(h:ED X es t):PE X (.Tuple es x1 pos) (Ng t):=by unfold ED at h;exact CJ h
end
theorem NV {c:TT}{tb:TS}{D:Cw}{σ:St}{H:Hp}(k:Nat)(Pv:Nat->St->Hp->Prop)(h0:Pv 0 σ H)
  (hs:∀i σ H,i<=k->Pv i σ H->c σ H fun b H1=>if b=true then i<k/\tb {D with nx:=Pv (i+1),ct:=Pv (i+1),bk:=D.nx} σ H1 else D.nx σ H1)
  (mono:∀σ H Q Q',(∀b H1,Q b H1->Q' b H1)->c σ H Q->c σ H Q'):JC c tb D σ H:=by
 refine⟨fun m σ H=>∃i,i<=k/\m=k-i/\Pv i σ H,⟨_,0,C0 _,rfl,h0⟩,?_⟩
 rintro m σ H ⟨i,hi,rfl,p⟩
 refine mono σ H _ _ (fun b H1 q=>?_) (hs i σ H hi p)
 cases b with
 |true=>exact⟨Pv (i+1),fun σ' H' p'=>⟨k-(i+1),by have:=q.1;omega,i+1,by have:=q.1;omega,rfl,p'⟩,q.2⟩
 |false=>exact q
end L2
namespace Bd
end Bd
namespace L2
open PySem PySem.Spec PyProof.Rows
section
open Bd
theorem Qu {tt:TT}{ta tb:TS}{D:Cw}{σ:St}{H:Hp}(M:Hp->Prop)(ha:∀H',M H'->ta D σ H')(h:(∀H',M H'->ta D σ H')->Hr tt ta tb D σ H):Hr tt ta tb D σ H:=h ha
end
section
open Bd
end
def Jc (C:Addr)(fs:List Str):Sp:=fun as H Q _=>∃(x dx:Addr) (vs:List V),as = .ref x::vs/\vs.length=fs.length/\H x=some (.ins C dx [])/\∀H',(∀b o,H b=some o->b≠x->H' b=some o)->(∃dx,H' x=some (.ins C dx (fs.zip vs)))->Q .non H'
structure Cs where
 n:Addr
 v:Addr
 c:Addr
 j:Addr
end L2
namespace PySem
open Builtin
open AutoSeq1 (wpAny_loadPart')
end PySem
namespace L2
open PySem PySem.Spec PyProof.Rows
section
variable {X:Cx}
end
section
open Bd
theorem dS {x y:Str}(h:x≠y):decide (V.str x=V.str y)=false:=Bv fun e=>h (V.str.inj e)
theorem Rb {K:Xa}{a:Addr}{xs:List V}{ρ:List (Option Nat)}{g:TG}{tt:TT}{te:TE}{σ:St}{H:Hp}{Q:VK}(Pv:Nat->List V->Hp->Prop)(h0:Pv 0 [] H)(hlen:xs.length<=sizeLine)(hl:∀i ys H,i<=xs.length->Pv i ys H->A2 K H a xs/\ys.length<=i)
  (hs:∀i x ys H,xs[i]?=some x->Pv i ys H->g x (BE ρ σ) H fun σ2 H3=>IM ρ σ σ2/\tt σ2 H3 fun ok H4=>if ok=true then te σ2 H4 fun v H5=>Pv (i+1) (ys++[v]) H5 else Pv (i+1) ys H4)
  (hd:∀ys H,Pv xs.length ys H->∀p,H p=none->Q (.ref p) (upd H p (.lst ys))):FT ρ g tt te σ Q (FA K a) H:=by
 refine⟨fun i m ys H=>m=xs.length-i/\i<=xs.length/\Pv i ys H,⟨_,rfl,C0 _,h0⟩,?_⟩
 rintro i m ys H ⟨rfl,hi,p⟩
 obtain⟨hq,hy⟩:=hl i ys H hi p
 by_cases hlt:i<xs.length
 .refine .inr ⟨⟨xs,xs[i],hq,by simp[hlt]⟩,by omega,Pv (i+1),fun ys' H'' p'=>⟨xs.length-(i+1),by omega,rfl,hlt,p'⟩,fun x H' y=>?_⟩
  obtain⟨e,y2⟩:=y
  subst e
  exact hs i x ys _ (y2 xs hq) p
 .have e:i=xs.length:=by omega
  subst e
  exact .inl ⟨⟨xs,hq,Ai _⟩,by omega,hd ys H p⟩
end
section
open PySem.SeqAt
open PySem.AutoSeq1 (wpAny_loadPart')
open PySem.MeetsSeq PySem.MeetsSeq2 PySem.MeetsSeq3
end
section
variable {prog:Program}{w:World}{A:Around}{E:Value->Shared->Prop}{s:Shared}
end
section
variable {prog:Program}{w:World}{A:Around}{E:Value->Shared->Prop}{s:Shared}
end
end L2
namespace Fo
variable {W L:Type}
section
variable (hdr:Nat->Bool->W->L)(dl:Nat->Int->List (Int×Int)->L)
end
end Fo
namespace Fo
variable {W L:Type}
end Fo
namespace L2
open PySem PySem.Spec PyProof.Rows
def SD (t:TE):TE:=fun σ H Q=>t σ H fun v H1=>∃i:Int,v = .int i/\i.natAbs.log2<1920/\Q (.str (toString i)) H1
theorem Tj {X:Cx}{e:Expr}{t:TE}{pos:Pos}(h:PE X e t):PE X (.FormattedValue e (-1) none pos) (SD t):=by
 intro pins s σ H Q I hq
 refine FormattedValue_plain (Ak (h pins s σ H _ I hq) fun v s1 hx=>?_)
 obtain⟨x,H1,I1,r1,i,rfl,hi,q⟩:=hx
 obtain⟨t1,rfl⟩:=(show ∃t,v=Value.int i t from r1)
 exact formatField_int_small hi ⟨.str _,H1,I1.tok _,⟨_,rfl⟩,q⟩
def Oq (acc:Str)(t:TE)(k:Str->TE):TE:=fun σ H Q=>t σ H fun v H1=>∃y:Str,v = .str y/\(acc++y).length<=sizeLine/\k (acc++y) σ H1 Q
def RF (a b:TE):TE:=Oq Str.empty a fun x=>Oq x b fun y=>tC (.str y)
theorem R6 {X:Cx}{e1 e2:Expr}{a b:TE}{pos:Pos}(h1:PE X e1 a)(h2:PE X e2 b):PE X (.JoinedStr [e1,e2] pos) (RF a b):=by
 intro pins s σ H Q I hq
 refine JoinedStr_many (joinParts_cons (Ak (h1 pins s σ H _ I hq) fun v s1 hx=>?_))
 obtain⟨x,H1,I1,r1,y,rfl,hy,q1⟩:=hx
 obtain⟨t1,rfl⟩:=(show ∃t,v=Value.str y t from r1)
 refine⟨hy,joinParts_cons (Ak (h2 pins s1 σ H1 _ I1 q1) fun v2 s2 hx2=>?_)⟩
 obtain⟨x2,H2,I2,r2,y2,rfl,hy2,q2⟩:=hx2
 obtain⟨t2,rfl⟩:=(show ∃t,v2=Value.str y2 t from r2)
 exact⟨hy2,joinParts_nil ⟨.str _,H2,I2.tok _,⟨_,rfl⟩,q2⟩ hy2⟩
def AE {α:Type}(R:V->α->Prop)(xs:List V)(as:List α):Prop:=xs.length=as.length/\∀(i:Nat) (x:V) (a:α),xs[i]?=some x->as[i]?=some a->R x a
theorem AE.nil {α:Type}{R:V->α->Prop}:AE R [] []:=⟨rfl,fun i x a h=>by simp at h⟩
theorem AE.mono {α:Type}{R S:V->α->Prop}{xs:List V}{as:List α}(h:AE R xs as)(m:∀x a,R x a->S x a):AE S xs as:=⟨h.1,fun i x a p q=>m _ _ (h.2 i x a p q)⟩
theorem AE.get' {α:Type}{R:V->α->Prop}{xs:List V}{as:List α}{i:Nat}{x:V}(h:AE R xs as)(hx:xs[i]?=some x):∃a,as[i]?=some a/\R x a:=by
 have hi:i<as.length:=by rw[←h.1];exact(BJ.mp hx).1
 exact⟨_,BX hi,h.2 i x _ hx (BX hi)⟩
theorem AE.app {α:Type}{R:V->α->Prop}{xs ys:List V}{as bs:List α}(h:AE R xs as)(g:AE R ys bs):AE R (xs++ys) (as++bs):=by
 refine⟨by rw[Ap,Ap,h.1,g.1],fun i x a p q=>?_⟩
 by_cases l:i<xs.length
 .rw[DW l]at p
  rw[DW (by rw[←h.1];exact l)]at q
  exact h.2 i x a p q
 .rw[DV (by omega)]at p
  rw[DV (by have:=h.1;omega)]at q
  rw[h.1]at p
  exact g.2 _ x a p q
theorem AE.one {α:Type}{R:V->α->Prop}{x:V}{a:α}(h:R x a):AE R [x] [a]:=⟨rfl,fun i y b p q=>by
 cases i with
 |zero=>cases p;cases q;exact h
 |succ i=>simp at p⟩
theorem AE.snoc {α:Type}{R:V->α->Prop}{xs:List V}{as:List α}{x:V}{a:α}(h:AE R xs as)(g:R x a):AE R (xs++[x]) (as++[a]):=h.app (.one g)
theorem AE.cons {α:Type}{R:V->α->Prop}{xs:List V}{as:List α}{x:V}{a:α}(g:R x a)(h:AE R xs as):AE R (x::xs) (a::as):=AE.app (.one g) h
def TK (H H':Hp):Prop := ∀(b:Addr) (xs:List V),H b=some (.tup xs)->H' b=some (.tup xs)
theorem TK.trans {H H' H'':Hp}(a:TK H H')(b:TK H' H''):TK H H'':=fun x xs h=>b x xs (a x xs h)
theorem A8.tk {H H':Hp}(e:A8 H H'):TK H H':=fun b xs h=>e b _ h
theorem TK.upd {H:Hp}{l:Addr}{xs:List V}{o:HO}(hl:H l=some (.lst xs)):TK H (upd H l o):=fun b ys hb=>by
 rw[A7 (CL hb hl (by intro z;cases z))]
 exact hb
theorem MP (z:Str):∀(x:Str) (ys:List Str),cds (Txt.join z (x::ys))=cds x++(ys.map fun y=>cds z++cds y).flatten:=by
 intro x ys
 show cds (Builtin.Str.glued z (x::ys))=_
 rw[StrLaws.glued_eq_join]
 induction ys generalizing x with
 |nil=>simp[Str.join]
 |
  cons y r ih=>
  show cds (x++z++Str.join z (y::r))=_
  rw[B4,B4,ih]
  simp
theorem Lq {i:Int}(h:i<0):Str.ofString (toString i)="-"++Str.ofString (toString (0-i)):=by
 cases i with
 |ofNat n=>exact absurd h (by simp)
 |
  negSucc n=>
  have e:(0-Int.negSucc n)=((n+1:Nat):Int):=by omega
  rw[e]
  refine DF ?_
  rw[B4]
  show((Str.ofString ("-"++Nat.repr (n+1))).cps).toList=_
  have ap:∀a b:String,cds (Str.ofString (a++b))=cds (Str.ofString a)++cds (Str.ofString b):=fun a b=>by
   simp[cds,Str.ofString_eq_toList]
  exact ap "-" (Nat.repr (n+1))
theorem O2 {i:Int}(h0 : -999999999999999999<=i)(h1:i<=999999999999999999):(Str.ofString (toString i)).length<=19:=by
 by_cases c:i<0
 .rw[Lq c,←cds_len,B4,Ap,cds_len,cds_len]
  have:=OE (v:=0-i) (by omega) (k:=18) (by decide) (by show 0-i<10 ^ 18;omega)
  have e:("-":Str).length=1:=by decide +kernel
  omega
 .have:=OE (v:=i) (by omega) (k:=18) (by decide) (by show i<10 ^ 18;omega)
  omega
theorem Bh (x y:Str):(x++y).length=x.length+y.length:=by rw[←cds_len,B4,Ap,cds_len,cds_len]
theorem GY {i:Int}(h0 : -999999999999999999<=i)(h1:i<=999999999999999999):i.natAbs.log2<1920:=by
 by_cases z:i.natAbs=0
 .rw[z];decide
 .have:i.natAbs<2 ^ 64:=by omega
  have:=(Nat.log2_lt z).mpr this
  omega
theorem Qq {ys:List Str}{c:Nat}(h:∀y∈ys,y.length<=c):(ys.map (·.length)).sum<=c*ys.length:=by
 induction ys with
 |nil=>exact C0 _
 |
  cons y ys ih=>
  have h1:=ih fun z hz=>h z (Bm _ hz)
  have h2:=h y AR
  rw[C8,LP,AO,Nat.mul_succ]
  omega
theorem Nf (z:Str)(ys:List Str):(Txt.join z ys).length<=(ys.map (·.length)).sum+ys.length*z.length:=by
 show(Builtin.Str.glued z ys).length<=_
 rw[StrLaws.glued_eq_join]
 exact StrLaws.join_length_le z ys
def ME (t:TE):Prop := ∀(σ:St) (H:Hp) (Q Q':VK),(∀v H1,Q v H1->Q' v H1)->t σ H Q->t σ H Q'
def MT (t:TT):Prop := ∀σ H Q Q',(∀b H1,Q b H1->Q' b H1)->t σ H Q->t σ H Q'
def MA (t:TA):Prop := ∀σ H Q Q',(∀b H1,Q b H1->Q' b H1)->t σ H Q->t σ H Q'
def MR (r:R2):Prop := ∀(x y:V) (H:Hp) (Q Q':VK),(∀v H1,Q v H1->Q' v H1)->r x y H Q->r x y H Q'
def MB (r:List V->Hp->VK->Prop):Prop := ∀(vs:List V) (H:Hp) (Q Q':VK),(∀v H1,Q v H1->Q' v H1)->r vs H Q->r vs H Q'
theorem ME.var (i:Nat):ME (Ed i):=fun σ H Q Q' hq zz=>by obtain⟨v,h,k⟩:=zz;exact⟨v,h,hq _ _ k⟩
theorem ME.c (v:V):ME (tC v):=fun σ H Q Q' hq h=>hq _ _ h
theorem ME.op {r:R2}{a b:TE}(hr:MR r)(ha:ME a)(hb:ME b):ME (Eo r a b):=fun σ H Q Q' hq h=>ha _ _ _ _ (fun x H1 k=>hb _ _ _ _ (fun y H2 k=>hr _ _ _ _ _ hq k) k) h
theorem ME.lst {t:TA}(h:MA t):ME (KB t):=fun σ H Q Q' hq k=>h _ _ _ _ (fun xs H1 m=>⟨m.1,fun p hp=>hq _ _ (m.2 p hp)⟩) k
theorem ME.cb {r:List V->Hp->VK->Prop}{t:TA}(hr:MB r)(h:MA t):ME (Ih r t):=fun σ H Q Q' hq k=>h _ _ _ _ (fun xs H1 m=>hr _ _ _ _ hq m) k
theorem MA.nil:MA FG:=fun σ H Q Q' hq h=>hq _ _ h
theorem MA.cons {t:TE}{u:TA}(ht:ME t)(hu:MA u):MA (Gs t u):=fun σ H Q Q' hq h=>ht _ _ _ _ (fun x H1 k=>hu _ _ _ _ (fun xs H2 m=>hq _ _ m) k) h
theorem MT.test {t:TE}(h:ME t):MT (Ny t):=fun σ H Q Q' hq k=>h _ _ _ _ (fun x H1 ⟨b,e,m⟩=>⟨b,e,hq _ _ m⟩) k
theorem MR.i0 (g:Int->Int->V):MR (EC g):=fun x y H Q Q' hq zz=>by obtain⟨i,j,a,b,d⟩:=zz;exact⟨i,j,a,b,hq _ _ d⟩
theorem MB.len {P R:Hp->Addr->List V->Prop}:MB (fun xs H Q=>∃p ys,xs=[V.ref p]/\(P H p ys\/R H p ys)/\Q (V.int (ys.length:Int)) H):=fun vs H Q Q' hq zz=>by obtain⟨p,ys,a,b,c⟩:=zz;exact⟨p,ys,a,b,hq _ _ c⟩
theorem NG {v:V}{i:Nat}{b:TS}{D:Cw}{σ:St}{H:Hp}(h:b D (σ.set i (some v)) H):E7 (Gk (tC v) (Am i)) b D σ H:=h
end L2
namespace HT
open PySem PySem.Spec PyProof.Rows L2
section
variable {prog:Program}{w:World}{A:Around}{E:Value->Shared->Prop}{s:Shared}
end
end HT
namespace L2
open PySem PySem.Spec PyProof.Rows
def Ru (C:Addr):Sp:=fun vs H Q _=>∃(x dx l:Addr) (v1:V) (xs:List V),vs=[.ref x,v1,.ref l]/\H x=some (.ins C dx [])/\H l=some (.lst xs)/\xs.length<=1000/\∀(H':Hp) (dl:Addr),(∀b o,H b=some o->b≠x->H' b=some o)->(∃dx,H' x=some (.ins C dx [("size",v1),("deeds",.ref dl)]))->H' dl=some (.lst xs)->Q .non H'
set_option genInjectivity true in
inductive Tw where
 |n (i:Int)
 |v (z:Str)
 |c (z:Str) (sp:List (Str×Int))
 |j (z:Str) (l r:Tw)
def nS (i:Int):Str:=Str.ofString (toString i)
def AU (s:Str×Int):Str:=if s.1="" then nS s.2 else if s.2=0 then s.1 else if 0<s.2 then s.1++"+"++nS s.2 else s.1++nS s.2
def CS (s:Str×Int):Str:="["++AU s++"]"
def B3 (z:Str)(sp:List (Str×Int)):Str:=z++Txt.join "" (sp.map CS)
def Ei (b:Bool)(x:Str):Str:=if b=true then"("++x++")" else x
def hz (z:Str):Nat:=if z="*" then 2 else 1
namespace Tw
def hld:Tw->Nat
 |.j z _ _=>hz z
 |_=>3
def wr:Tw->Str
 |.n i=>nS i
 |.v z=>z
 |.c z sp=>B3 z sp
 |.j z l r=>Ei (decide (hld l<hz z)) (wr l)++z++Ei (decide (hld r<=hz z)) (wr r)
def sz:Tw->Nat
 |.j _ l r=>sz l+sz r
 |_=>1
end Tw
def Fi:List Str:=["+","-","*"]
def Eu (s:Str×Int):Prop:=s.1.length<=20/\-999999999999999999<=s.2/\s.2<=999999999999999999
def Tw.Ok:Tw->Prop
 |.n i=>0<=i/\i<=999999999999999999
 |.v z=>z.length<=20
 |.c z sp=>z.length<=20/\sp.length<=3/\∀s∈sp,Eu s
 |.j z l r=>z∈Fi/\Tw.Ok l/\Tw.Ok r
theorem Tw.sz_pos:∀t:Tw,1<=t.sz
 |.n _=>Ai _
 |.v _=>Ai _
 |.c _ _=>Ai _
 |.j _ l r=>Bz (Tw.sz_pos l) (OF _ _)
theorem IY {i:Int}(h0 : -999999999999999999<=i)(h1:i<=999999999999999999):(nS i).length<=19:=O2 h0 h1
theorem R7:("+":Str).length=1:=by decide +kernel
theorem ER {s:Str×Int}(h:Eu s):(AU s).length<=40:=by
 obtain⟨a,b,c⟩:=h
 have h1:=IY b c
 have h2:=R7
 unfold AU
 split
 .omega
 .split
  .omega
  .split
   .rw[Bh,Bh];omega
   .rw[Bh];omega
theorem Vj {s:Str×Int}(h:Eu s):(CS s).length<=42:=by
 have h1:=ER h
 have h2:("[":Str).length=1:=by decide +kernel
 have h3:("]":Str).length=1:=by decide +kernel
 unfold CS
 rw[Bh,Bh]
 omega
theorem U5:("":Str).length=0:=by decide +kernel
theorem MU {sp:List (Str×Int)}(hl:sp.length<=3)(h:∀s∈sp,Eu s):((sp.map CS).map (·.length)).sum+(sp.map CS).length*("":Str).length<=126:=by
 have h1:=Qq (ys:=sp.map CS) (c:=42) fun y hy=>by
  obtain⟨s,hs,rfl⟩:=CF.mp hy
  exact Vj (h s hs)
 rw[U5,Nat.mul_zero]
 rw[Aq]at h1
 omega
theorem Gz {z:Str}{sp:List (Str×Int)}(hz:z.length<=20)(hl:sp.length<=3)(h:∀s∈sp,Eu s):(B3 z sp).length<=146:=by
 have h1:=Nf "" (sp.map CS)
 have h2:=MU hl h
 unfold B3
 rw[Bh]
 omega
theorem Ib (b:Bool)(x:Str):(Ei b x).length<=x.length+2:=by
 have h2:("(":Str).length=1:=by decide +kernel
 have h3:(")":Str).length=1:=by decide +kernel
 unfold Ei
 split
 .rw[Bh,Bh];omega
 .omega
theorem NK {z:Str}(h:z∈Fi):z.length<=1:=by
 have:∀w∈Fi,w.length<=1:=by decide +kernel
 exact this z h
theorem Tw.wr_len:∀{t:Tw},t.Ok->t.wr.length+5<=200*t.sz
 |
  .n i,h=>by
  have:=IY (i:=i) (by have:=h.1;omega) h.2
  show(nS i).length+5<=200*1
  omega
 |
  .v z,h=>by
  have h:z.length<=20:=h
  show z.length+5<=200*1
  omega
 |
  .c z sp,h=>by
  have:=Gz h.1 h.2.1 h.2.2
  show(B3 z sp).length+5<=200*1
  omega
 |
  .j z l r,h=>by
  obtain⟨h0,h1,h2⟩:=h
  have a1:=Tw.wr_len h1
  have a2:=Tw.wr_len h2
  have a0:=NK h0
  have b1:=Ib (decide (hld l<hz z)) (wr l)
  have b2:=Ib (decide (hld r<=hz z)) (wr r)
  show(Ei (decide (hld l<hz z)) (wr l)++z++Ei (decide (hld r<=hz z)) (wr r)).length+5<=200*(sz l+sz r)
  rw[Bh,Bh]
  omega
theorem UV {s:Str×Int}(h1:¬s.1="")(h2:¬s.2=0):AU s=s.1++(if s.2<0 then("-":Str) else"+")++nS (if s.2<0 then -s.2 else s.2):=by
 unfold AU
 rw[A9 h1,A9 h2]
 by_cases c:s.2<0
 .rw[A9 (by omega),Af c,Af c]
  unfold nS
  rw[Lq c,show(0-s.2) = -s.2 by omega]
  exact DF (by rw[B4,B4,B4,B4,CQ])
 .rw[Af (by omega),A9 c,A9 c]
def C3 (H:Hp)(x:V)(s:Str×Int):Prop := ∃t,x = .ref t/\H t=some (.tup [.str s.1,.int s.2])
def EF (H:Hp)(p:Addr)(sp:List (Str×Int)):Prop := ∃xs,H p=some (.tup xs)/\AE (C3 H) xs sp
theorem C3.tk {H H':Hp}{x:V}{s:Str×Int}(k:TK H H')(h:C3 H x s):C3 H' x s:=by obtain⟨t,e,h⟩:=h;exact⟨t,e,k _ _ h⟩
theorem EF.tk {H H':Hp}{p:Addr}{sp:List (Str×Int)}(k:TK H H')(h:EF H p sp):EF H' p sp:=by obtain⟨xs,e,h⟩:=h;exact⟨xs,k _ _ e,h.mono fun _ _ z=>z.tk k⟩
def E2 (H:Hp):Tw->V->Prop
 |.n i,x=>∃t,x = .ref t/\H t=some (.tup [.str "n",.int i])
 |.v z,x=>∃t,x = .ref t/\H t=some (.tup [.str "v",.str z])
 |.c z sp,x=>∃t p,x = .ref t/\H t=some (.tup [.str "c",.str z,.ref p])/\EF H p sp
 |.j z l r,x=>∃t a b,x = .ref t/\H t=some (.tup [.str z,a,b])/\E2 H l a/\E2 H r b
theorem E2.tk {H H':Hp}(k:TK H H'):∀{t:Tw} {x:V},E2 H t x->E2 H' t x
 |.n i,x,h=>by obtain⟨t,e,h⟩:=h;exact⟨t,e,k _ _ h⟩
 |.v z,x,h=>by obtain⟨t,e,h⟩:=h;exact⟨t,e,k _ _ h⟩
 |.c z sp,x,h=>by obtain⟨t,p,e,h,g⟩:=h;exact⟨t,p,e,k _ _ h,g.tk k⟩
 |.j z l r,x,h=>by obtain⟨t,a,b,e,h,g1,g2⟩:=h;exact⟨t,a,b,e,k _ _ h,E2.tk k g1,E2.tk k g2⟩
def Bs (c:Cs)(H:Hp):Tw->V->Prop
 |.n i,x=>∃t dx,x = .ref t/\H t=some (.ins c.n dx [("n",.int i)])
 |.v z,x=>∃t dx,x = .ref t/\H t=some (.ins c.v dx [("name",.str z)])
 |.c z sp,x=>∃t dx p,x = .ref t/\H t=some (.ins c.c dx [("table",.str z),("spots",.ref p)])/\EF H p sp
 |.j z l r,x=>∃t dx a b,x = .ref t/\H t=some (.ins c.j dx [("sign",.str z),("left",a),("right",b)])/\Bs c H l a/\Bs c H r b
theorem Bs.over {c:Cs}{H H':Hp}(e:A8 H H'):∀{t:Tw} {x:V},Bs c H t x->Bs c H' t x
 |.n i,x,h=>by obtain⟨t,dx,r,h⟩:=h;exact⟨t,dx,r,e _ _ h⟩
 |.v z,x,h=>by obtain⟨t,dx,r,h⟩:=h;exact⟨t,dx,r,e _ _ h⟩
 |.c z sp,x,h=>by obtain⟨t,dx,p,r,h,g⟩:=h;exact⟨t,dx,p,r,e _ _ h,g.tk (A8.tk e)⟩
 |.j z l r,x,h=>by obtain⟨t,dx,a,b,r,h,g1,g2⟩:=h;exact⟨t,dx,a,b,r,e _ _ h,Bs.over e g1,Bs.over e g2⟩
def Dh (H:Hp)(x:V)(t:Tw):Prop := ∃p y,x = .ref p/\H p=some (.tup [.str t.wr,.int (t.hld:Int),y])/\E2 H t y
theorem Dh.tk {H H':Hp}{x:V}{t:Tw}(k:TK H H')(h:Dh H x t):Dh H' x t:=by obtain⟨p,y,e,h,g⟩:=h;exact⟨p,y,e,k _ _ h,g.tk k⟩
def Ux:Sp:=fun vs H Q _=>∃(x:V) (s:Str×Int),vs=[x]/\C3 H x s/\Eu s/\Q (.str (AU s)) H
def T8:Sp:=fun vs H Q _=>∃(z:Str) (x y:V) (l r:Tw),vs=[.str z,x,y]/\z∈Fi/\Dh H x l/\Dh H y r/\l.Ok/\r.Ok/\l.sz+r.sz<=100/\∀(v:V) (H':Hp),A8 H H'->Dh H' v (.j z l r)->Q v H'
structure EV (H:Hp)(xs:List V)(ts:List Tw)(N:Nat):Prop where
 at':AE (Dh H) xs ts
 ok:∀t∈ts,t.Ok
 sum:(ts.map Tw.sz).sum<=N
theorem EV.len {H:Hp}{xs:List V}{ts:List Tw}{N:Nat}(h:EV H xs ts N):xs.length<=N:=by
 rw[h.at'.1]
 have:∀l:List Tw,l.length<=(l.map Tw.sz).sum:=fun l=>by
  induction l with
  |nil=>exact Ai _
  |cons t l ih=>have:=t.sz_pos;rw[C8,LP,AO];omega
 exact Bz (this ts) h.sum
theorem EV.push {H:Hp}{xs:List V}{ts:List Tw}{N:Nat}{x:V}{t:Tw}(h:EV H xs ts N)(hx:Dh H x t)(ht:t.Ok){M:Nat}(hM:N+t.sz<=M):EV H (xs++[x]) (ts++[t]) M:=⟨h.at'.snoc hx,fun u hu=>by
 rcases BI.mp hu with z|z
 .exact h.ok u z
 .rw[Ce.mp z];exact ht,by
 have:=h.sum
 rw[AW,List.sum_append]
 show _+(t.sz+0)<=M
 omega⟩
theorem EV.pop {H:Hp}{xs:List V}{ts:List Tw}{N:Nat}(h:EV H xs ts N)(hl:0<xs.length):∃ys x us t M,xs=ys++[x]/\ts=us++[t]/\EV H ys us M/\Dh H x t/\t.Ok/\M+t.sz<=N:=by
 obtain⟨n,hn⟩:∃n,xs.length=n+1:=⟨xs.length-1,by omega⟩
 obtain⟨ys,x,rfl,yl⟩:=ES hn
 obtain⟨us,t,rfl,ul⟩:=ES (h.at'.1.symm.trans hn)
 have hs:=h.sum
 rw[AW,List.sum_append]at hs
 have hs:(us.map Tw.sz).sum+(t.sz+0)<=N:=hs
 refine⟨ys,x,us,t,(us.map Tw.sz).sum,rfl,rfl,⟨⟨by omega,fun i x' t' a b=>?_⟩,fun u hu=>h.ok u (FW _ hu),Ai _⟩,?_,h.ok t (by simp),by omega⟩
 .exact h.at'.2 i x' t' (by rw[DW (BJ.mp a).1];exact a) (by rw[DW (BJ.mp b).1];exact b)
 .exact h.at'.2 ys.length x t (by rw[DV (Ai _),Ey];rfl) (by rw[yl,←ul,DV (Ai _),Ey];rfl)
theorem BU {ys:List V}{x:V}:(ys++[x])[(ys++[x]).length-1]?=some x/\(ys++[x]).dropLast=ys:=by
 refine⟨?_,List.dropLast_concat⟩
 rw[Ap,Bk,Nat.add_sub_cancel,DV (Ai _),Ey]
 rfl
theorem My (c:Int){far:Int}(h:far=999999999999999999) : -999999999999999999<=Fc c far/\Fc c far<=999999999999999999:=by
 subst h
 unfold Fc
 split
 .have:=BY (c/3) (show(7:Int)≠0 by decide)
  have:=Cd (c/3) (show(0:Int)<7 by decide)
  omega
 .have:=BY (c/3) (show(2*999999999999999999+1:Int)≠0 by decide)
  have:=Cd (c/3) (show(0:Int)<2*999999999999999999+1 by decide)
  omega
theorem NB {i:Int}(h0:0<=i)(h1:i<3):∃c:Nat,BH (cds (Str.ofString "+-*")) i=some c/\(⟨#[c]⟩:Str)∈Fi:=by
 have:i=0\/i=1\/i=2:=by omega
 rcases this with rfl|rfl|rfl
 .exact⟨43,by decide +kernel,by decide +kernel⟩
 .exact⟨45,by decide +kernel,by decide +kernel⟩
 .exact⟨42,by decide +kernel,by decide +kernel⟩
theorem Nw {xs:List Int}{w:List Nat}(he:xs.getD 0 0%2=0)(k:Int):(Br xs w k).head?=w.head?:=by
 unfold Br Gg
 rw[Af he]
 have h0:=BY (C6 xs+3*k) (show(8:Int)≠0 by decide)
 obtain⟨m,hm⟩:∃m,(1+(C6 xs+3*k)%8).toNat=m+1:=⟨((C6 xs+3*k)%8).toNat,by omega⟩
 rw[hm]
 cases w with
 |nil=>rfl
 |cons _ _=>rfl
theorem Of {xs:List Int}{w:List Nat}(wl:w.length=8)(he:xs.getD 0 0%2=0)(k:Int):(Br xs w k).length=(1+(C6 xs+3*k)%8).toNat:=by
 unfold Br Gg
 rw[Af he,BA,wl]
 have h0:=BY (C6 xs+3*k) (show(8:Int)≠0 by decide)
 have h1:=Cd (C6 xs+3*k) (show(0:Int)<8 by decide)
 omega
theorem PB {xs:List Int}{w:List Nat}(he:¬xs.getD 0 0%2=0)(j k:Int):(Br xs w j).length=(Br xs w k).length:=by
 unfold Br FD
 rw[A9 he,A9 he]
 simp only[Ap,Bk]
theorem Nz {xs:List Int}{w:List Nat}(wl:w.length=8)(he:¬xs.getD 0 0%2=0)(k:Int):(Br xs w k)[(Ci xs).toNat]?=some (Du (xs.getD (2+Ci xs).toNat 0+k)):=by
 unfold Br FD
 have hl:=wl
 obtain⟨a0,a1⟩:=IP xs
 obtain⟨_,l1⟩:=Hc xs
 rw[A9 he,CQ,DV (by rw[BA];omega),BA,hl]
 rw[show(Ci xs).toNat-min (Ci xs).toNat 8=0 by omega]
 rfl
theorem NH {xs:List Int}{w:List Nat}(wl:w.length=8){j k:Nat}(hj:j<8)(hk:k<8)(h:j≠k):Br xs w (j:Int)≠Br xs w (k:Int):=fun e=>by
 by_cases he:xs.getD 0 0%2=0
 .have:=congrArg List.length e
  rw[Of wl he,Of wl he]at this
  omega
 .have:=congrArg (fun l:List Nat=>l[(Ci xs).toNat]?) e
  rw[Nz wl he,Nz wl he]at this
  have:=BQ this
  unfold Du at this
  omega
theorem O8 {xs:List Int}{w:List Nat}(wl:w.length=8){j k:Int}(hr:Br xs w j∈Dg):[122,122]++Br xs w j≠Br xs w k:=fun e=>by
 by_cases he:xs.getD 0 0%2=0
 .have:=congrArg List.head? e
  rw[Nw he]at this
  have h2:=Nw (w:=w) he j
  rw[←this]at h2
  exact T6 hr h2
 .have:=congrArg List.length e
  rw[Ap,PB he j k]at this
  simp at this
theorem OO {xs:List Int}{w:List Nat}(wl:w.length=8){j k:Nat}(hj:j<8)(hk:k<8)(h:j≠k):D7 xs w (j:Int)≠D7 xs w (k:Int):=fun e=>by
 unfold D7 at e
 by_cases c1:Br xs w (j:Int)∈Dg<;>by_cases c2:Br xs w (k:Int)∈Dg
 .rw[Af c1,Af c2]at e
  exact NH wl hj hk h (List.append_cancel_left e)
 .rw[Af c1,A9 c2]at e
  exact O8 wl c1 e
 .rw[A9 c1,Af c2]at e
  exact O8 wl c2 e.symm
 .rw[A9 c1,A9 c2]at e
  exact NH wl hj hk h e
theorem SZ {xs:List Int}{w:List Nat}(wl:w.length=8):((List.range 8).map fun k:Nat=>Ax (D7 xs w (k:Int))).Nodup:=by
 rw[List.nodup_iff_pairwise_ne,List.pairwise_map]
 refine(List.pairwise_lt_range (n:=8)).imp_of_mem fun{i j} hi hj h=>?_
 have hi:=JP.mp hi
 have hj:=JP.mp hj
 intro e
 have:=congrArg cds e
 rw[Ba,Ba]at this
 exact OO wl (by omega) (by omega) (by omega) this
end L2
namespace Rd
open PySem L2
set_option genInjectivity true in
inductive Tk where
 |s (c:Nat)
 |t (w:Tw)
set_option genInjectivity true in
inductive Ex where
 |lf (t:Tw)
 |br (e:Ex)
 |jn (c:Nat) (l r:Ex)
def st (c:Nat):Nat:=if c=40 then 0 else if c=42 then 2 else 1
def sg (c:Nat):Str:=⟨#[c]⟩
namespace Ex
def tk:Ex->List Tk
 |lf t=>[.t t]
 |br e=>.s 40::(e.tk++[.s 41])
 |jn c l r=>l.tk ++ .s c::r.tk
def hd:Ex->Nat
 |lf _=>3
 |br _=>3
 |jn c _ _=>st c
def sh:Ex->Tw
 |lf t=>t
 |br e=>e.sh
 |jn c l r=>.j (sg c) l.sh r.sh
def Ok:Ex->Prop
 |lf _=>True
 |br e=>e.Ok
 |jn c l r=>(c=43\/c=45\/c=42)/\l.Ok/\r.Ok/\st c<=l.hd/\st c<r.hd
theorem hd_pos:∀{e:Ex},e.Ok->1<=e.hd
 |lf _,_=>by show 1<=3;decide
 |br _,_=>by show 1<=3;decide
 |
  jn c l r,h=>by
  show 1<=st c
  rcases h.1 with rfl|rfl|rfl<;>decide
end Ex
def jw (k:Nat):List Nat->List Tw->List Tw×List Nat
 |[],T=>(T,[])
 |c::S,r::l::T=>if k<=st c then jw k S (.j (sg c) l r::T) else(r::l::T,c::S)
 |c::S,T=>(T,c::S)
theorem jw_no {k c:Nat}{S:List Nat}{T:List Tw}(h:st c<k):jw k (c::S) T=(T,c::S):=by
 match T with
 |[]=>rfl
 |[_]=>rfl
 |r::l::T=>show(if k<=st c then _ else _)=_;exact A9 (by omega)
theorem jw_yes {k c:Nat}{S:List Nat}{l r:Tw}{T:List Tw}(h:k<=st c):jw k (c::S) (r::l::T)=jw k S (.j (sg c) l r::T):=by
 show(if k<=st c then _ else _)=_;exact Af h
structure Sta where
 T:List Tw
 S:List Nat
 due:Bool
def step (x:Sta):Tk->Option Sta
 |.t w=>if x.due then some ⟨w::x.T,x.S,false⟩ else none
 |
  .s c=>if c=40 then(if x.due then some ⟨x.T,40::x.S,true⟩ else none)
  else if x.due then none
  else if c=41 then match (jw 1 x.S x.T).2 with
   |[]=>none
   |_::S=>some ⟨(jw 1 x.S x.T).1,S,false⟩
  else some ⟨(jw (st c) x.S x.T).1,c::(jw (st c) x.S x.T).2,true⟩
def run:List Tk->Sta->Option Sta
 |[],x=>some x
 |
  k::ks,x=>match step x k with
  |some y=>run ks y
  |none=>none
theorem Le {a b:List Tk}{x y:Sta}(h:run a x=some y):run (a++b) x=run b y:=by
 induction a generalizing x with
 |nil=>cases h;rfl
 |
  cons k ks ih=>
  rw[F1,run]
  rw[run]at h
  cases hs:step x k with
  |none=>rw[hs]at h;cases h
  |some z=>rw[hs]at h;exact ih h
def Ld (S:List Nat)(k:Nat):Prop := ∀c S',S=c::S'->st c<k
theorem PZ {S:List Nat}{k:Nat}{T:List Tw}(h:Ld S k):jw k S T=(T,S):=by
 cases S with
 |nil=>rfl
 |cons c S=>exact jw_no (h c S rfl)
theorem J8:∀{e:Ex} {T:List Tw} {S:List Nat},e.Ok->Ld S e.hd->∃T' S',run e.tk ⟨T,S,true⟩=some ⟨T',S',false⟩/\∀k,k<=e.hd->jw k S' T'=jw k S (e.sh::T)
 |.lf t,T,S,_,_=>⟨t::T,S,rfl,fun _ _=>rfl⟩
 |
  .br e,T,S,ok,hl=>by
  obtain⟨T',S',h1,h2⟩:=J8 (e:=e) (T:=T) (S:=40::S) ok (fun c S' h=>by cases h;have:=Ex.hd_pos (e:=e) ok;show 0<e.hd;omega)
  refine⟨e.sh::T,S,?_,fun _ _=>rfl⟩
  have j:jw 1 S' T'=(e.sh::T,40::S):=by
   rw[h2 1 (Ex.hd_pos ok)];exact jw_no (by decide)
  show run (e.tk++[.s 41]) ⟨T,40::S,true⟩=_
  rw[Le h1,run,step,A9 (by decide)]
  simp only[HW,G6,F4]
  rw[j]
  rfl
 |
  .jn c l r,T,S,ok,hl=>by
  obtain⟨hc,okl,okr,k1,k2⟩:=ok
  have hl:Ld S (st c):=hl
  obtain⟨T1,S1,h1,h2⟩:=J8 (e:=l) (T:=T) (S:=S) okl (fun c' S' h=>by have:=hl c' S' h;omega)
  obtain⟨T2,S2,g1,g2⟩:=J8 (e:=r) (T:=l.sh::T) (S:=c::S) okr (fun c' S' h=>by cases h;exact k2)
  have j:jw (st c) S1 T1=(l.sh::T,S):=by rw[h2 _ k1];exact PZ hl
  have n1:c≠40:=by omega
  have n2:c≠41:=by omega
  refine⟨T2,S2,?_,fun k hk=>?_⟩
  .show run (l.tk ++ .s c::r.tk) ⟨T,S,true⟩=_
   rw[Le h1,run,step,A9 n1]
   simp only[HW,G6]
   rw[A9 n2,j]
   exact g1
  .have hk:k<=st c:=hk
   rw[g2 k (by omega),jw_yes hk];rfl
theorem Ql {e:Ex}(ok:e.Ok):∃T' S',run e.tk ⟨[],[],true⟩=some ⟨T',S',false⟩/\jw 1 S' T'=([e.sh],[]):=by
 obtain⟨T',S',h1,h2⟩:=J8 (e:=e) (T:=[]) (S:=[]) ok (fun c S' h=>by cases h)
 exact⟨T',S',h1,h2 1 (Ex.hd_pos ok)⟩
end Rd
namespace Rd
open PySem L2
def sg5:List Nat:=[43,45,42,40,41]
def ins (b:Bool)(c:Nat):Bool:=decide (c=91)||(b&&decide (c≠93))
def scan:Bool->List Nat->Nat
 |_,[]=>0
 |b,c::l=>if b=true\/c∉sg5 then 1+scan (ins b c) l else 0
def pass:Bool->List Nat->Option Bool
 |b,[]=>some b
 |b,c::l=>if b=true\/c∉sg5 then pass (ins b c) l else none
theorem Lz {b c:Bool}{x y:List Nat}(h:pass b x=some c):pass b (x++y)=pass c y:=by
 induction x generalizing b with
 |nil=>cases h;rfl
 |
  cons a x ih=>
  rw[F1,pass]
  rw[pass]at h
  split
  .rename_i hc;rw[Af hc]at h;exact ih h
  .rename_i hc;rw[A9 hc]at h;cases h
theorem QS {b c:Bool}{x y:List Nat}(h:pass b x=some c):scan b (x++y)=x.length+scan c y:=by
 induction x generalizing b with
 |nil=>cases h;exact(Nat.zero_add _).symm
 |
  cons a x ih=>
  rw[F1,scan]
  rw[pass]at h
  split
  .rename_i hc
   rw[Af hc]at h
   rw[ih h,AO]
   omega
  .rename_i hc;rw[A9 hc]at h;cases h
def pend:List Nat->Nat
 |[]=>0
 |c::l=>if c∈sg5 then 1 else scan false (c::l)
def NM (l:List Nat):Prop := ∀c r,l=c::r->c∈sg5
theorem RN {l:List Nat}(h:NM l):scan false l=0:=by
 cases l with
 |nil=>rfl
 |
  cons c l=>
  rw[scan,A9]
  intro z
  rcases z with z|z
  .cases z
  .exact z (h c l rfl)
structure FQ (w:List Nat):Prop where
 pass:pass false w=some false
 head:∃c r,w=c::r/\c∉sg5
theorem FQ.pend {w l:List Nat}(h:FQ w)(hs:NM l):Rd.pend (w++l)=w.length:=by
 obtain⟨c,r,e,hc⟩:=h.head
 have h1:=QS (y:=l) h.pass
 rw[RN hs,Nat.add_zero]at h1
 rw[←h1,e,F1,Rd.pend,A9 hc]
theorem Rv {w:List Nat}(h:∀c∈w,(48<=c/\c<=57)\/(97<=c/\c<=122)):Rd.pass false w=some false:=by
 induction w with
 |nil=>rfl
 |
  cons c w ih=>
  have hc:=h c AR
  have n5:c∉sg5:=fun z=>by
   unfold sg5 at z
   simp only[AH,CG,or_false]at z
   omega
  rw[Rd.pass,Af (.inr n5)]
  have e:ins false c=false:=by
   unfold ins
   rw[Bool.false_and,LG]
   exact Bv (by omega)
  rw[e]
  exact ih fun d hd=>h d (Bm _ hd)
theorem M0 {w:List Nat}(h:93∉w):Rd.pass true w=some true:=by
 induction w with
 |nil=>rfl
 |
  cons c w ih=>
  rw[Rd.pass,Af (.inl rfl)]
  have e:ins true c=true:=by
   unfold ins
   rw[Bool.true_and,OB]
   exact .inr (B7 fun z=>h (z▸AR))
  rw[e]
  exact ih fun z=>h (Bm _ z)
theorem O4 {w:List Nat}(h:∀c∈w,(48<=c/\c<=57)\/(97<=c/\c<=122))(hl:1<=w.length):FQ w:=by
 refine⟨Rv h,?_⟩
 cases w with
 |nil=>exact absurd hl (by decide)
 |
  cons c w=>
  refine⟨c,w,rfl,fun z=>?_⟩
  have hc:=h c AR
  unfold sg5 at z
  simp only[AH,CG,or_false]at z
  omega
theorem NY {w:List Nat}(h:Bg w):FQ w:=O4 (fun c hc=>.inr ((GZ c).mp (h.2.2.1 c hc))) h.1
theorem RI {w:List Nat}(h:Ca w):FQ w:=O4 (fun c hc=>.inl (h.2.2.2 c hc)) h.1
theorem Ud:∀m:Nat,0<m->((Nat.toDigits 10 m).map Char.toNat).head?≠some 48:=by
 intro m
 induction m using Nat.strongRecOn with
 |
  _ m ih=>
  intro hm
  by_cases h:m<10
  .rw[Nat.toDigits_of_lt_base h]
   have:∀d:Nat,d<10->0<d->(Nat.digitChar d).toNat≠48:=by decide
   exact fun z=>this m h hm (BQ z)
  .have hm2:m%10<10:=Nat.mod_lt m (by decide)
   have t:Nat.toDigits 10 (m/10)++Nat.toDigits 10 (m%10)=Nat.toDigits 10 (10*(m/10)+m%10):=Nat.toDigits_append_toDigits (by decide) (by omega) hm2
   rw[Nat.div_add_mod]at t
   rw[←t,AW]
   have ih1:=ih (m/10) (by omega) (by omega)
   cases hd:(Nat.toDigits 10 (m/10)).map Char.toNat with
   |
    nil=>
    have h:=toDigits_len_ge 10 (m/10)
    rw[JX.mp hd]at h
    exact absurd h (by decide)
   |cons c r=>rw[hd]at ih1;exact ih1
theorem nS_good {i:Int}(h0:0<=i)(h1:i<=999999999999999999):Ca (cds (nS i))/\Ea (cds (nS i))=i:=by
 have hl:=OE (v:=i) h0 (k:=18) (by decide) (by show i<10 ^ 18;omega)
 obtain⟨m,rfl⟩:=Int.eq_ofNat_of_zero_le h0
 have e:cds (nS ((m:Nat):Int))=(Nat.toDigits 10 m).map Char.toNat:=PySem.W.KIN.signs_num m
 have hlen:(cds (nS ((m:Nat):Int))).length<=18:=by rw[cds_len];exact hl
 refine⟨⟨?_,hlen,?_,?_⟩,?_⟩
 .rw[e,Aq];exact toDigits_len_ge 10 m
 .rw[e]
  intro⟨a,b⟩
  by_cases hm:0<m
  .exact Ud m hm a
  .have:m=0:=by omega
   subst this
   exact absurd b (by decide)
 .intro c hc
  rw[e]at hc
  obtain⟨ch,hch,e2⟩:=CF.mp hc
  have r:=PyProof.Rows.digit_range (Nat.isDigit_of_mem_toDigits (by decide) (by decide) hch)
  rw[←e2]
  exact r
 .unfold Ea
  rw[e,PySem.W.KIN.val_back]
def SpN (s:Str×Int):Prop:=(s.1=""\/Bg (cds s.1))/\Eu s
theorem bef_app {c:Nat}{x y:List Nat}(h:c∉x):Cc c (x++c::y)=x/\CI c (x++c::y)=y:=by
 have e:(x++c::y).idxOf c=x.length:=by
  refine Ly (by rw[DV (Ai _),Ey];rfl) fun k hk z=>h (by rw[DW hk]at z;exact CC z)
 unfold Cc CI
 rw[e]
 refine⟨GO,?_⟩
 rw[←HR,JV]
 rfl
theorem name_no {w:List Nat}(h:Bg w){c:Nat}(hc:¬(97<=c/\c<=122)):c∉w:=fun z=>hc ((GZ c).mp (h.2.2.1 c z))
theorem DT {w:List Nat}(h:Ca w){c:Nat}(hc:¬(48<=c/\c<=57)):c∉w:=fun z=>hc (h.2.2.2 c z)
theorem Kn {i:Int}(h:i<0):cds (nS i)=45::cds (nS (0-i)):=by
 unfold nS
 rw[Lq h,B4]
 rfl
theorem num_name {w:List Nat}(h:Ca w):¬Bg w:=fun z=>by
 cases w with
 |nil=>exact absurd h.1 (by decide)
 |
  cons a r=>
  have h1:=(GZ a).mp (z.2.2.1 a AR)
  have h2:=h.2.2.2 a AR
  omega
theorem spot_read {s:Str×Int}(h:SpN s):E3 (cds (AU s))=some (cds s.1,s.2):=by
 obtain⟨hn,_,b0,b1⟩:=h
 unfold AU
 by_cases e0:s.1=""
 .rw[Af e0]
  have c0:cds s.1=[]:=by rw[e0];rfl
  rw[c0]
  by_cases hs:s.2<0
  .rw[Kn hs]
   obtain⟨g,d⟩:=nS_good (i:=0-s.2) (by omega) (by omega)
   generalize cds (nS (0-s.2))=w at g d
   have m45:(45:Nat)∈45::w:=AR
   have n43:(43:Nat)∉45::w:=fun z=>by
    rcases AH.mp z with z|z
    .cases z
    .exact DT g (by omega) z
   have ba:=bef_app (c:=45) (x:=[]) (y:=w) (by simp)
   unfold E3
   rw[A9 (Jb m45 (by omega)),A9 (Jx m45 (by omega)),A9 n43,Af m45]
   rw[List.nil_append]at ba
   rw[ba.1,ba.2,Af g,Af (.inr ⟨rfl,by omega⟩),d]
   congr 2
   omega
  .obtain⟨g,d⟩:=nS_good (i:=s.2) (by omega) (by omega)
   unfold E3
   rw[A9 (num_name g),Af g,d]
 .have hn:Bg (cds s.1):=hn.resolve_left e0
  rw[A9 e0]
  by_cases e1:s.2=0
  .rw[Af e1]
   unfold E3
   rw[Af hn,e1]
  .rw[A9 e1]
   by_cases e2:0<s.2
   .rw[Af e2,B4,B4]
    obtain⟨g,d⟩:=nS_good (i:=s.2) (by omega) (by omega)
    have ec:cds ("+":Str)=[43]:=by decide +kernel
    rw[ec,CQ]
    show E3 (cds s.1++43::cds (nS s.2))=_
    have ba:=bef_app (c:=43) (x:=cds s.1) (y:=cds (nS s.2)) (name_no hn (by omega))
    have m:(43:Nat)∈cds s.1++43::cds (nS s.2):=Cp _ AR
    unfold E3
    rw[A9 (Jb m (by omega)),A9 (Jx m (by omega)),Af m,ba.1,ba.2,Af ⟨g,hn⟩,d]
   .rw[A9 e2,B4,Kn (by omega)]
    obtain⟨g,d⟩:=nS_good (i:=0-s.2) (by omega) (by omega)
    have ba:=bef_app (c:=45) (x:=cds s.1) (y:=cds (nS (0-s.2))) (name_no hn (by omega))
    have m:(45:Nat)∈cds s.1++45::cds (nS (0-s.2)):=Cp _ AR
    have n43:(43:Nat)∉cds s.1++45::cds (nS (0-s.2)):=fun z=>by
     rcases BI.mp z with z|z
     .exact name_no hn (by omega) z
     .rcases AH.mp z with z|z
      .cases z
      .exact DT g (by omega) z
    unfold E3
    rw[A9 (Jb m (by omega)),A9 (Jx m (by omega)),A9 n43,Af m,ba.1,ba.2,Af g,Af (.inl hn),d]
    congr 2
    omega
theorem spot_free {s:Str×Int}(h:SpN s){c:Nat}(hc:¬(97<=c/\c<=122)/\¬(48<=c/\c<=57)/\c≠43/\c≠45):c∉cds (AU s):=by
 obtain⟨hn,_,b0,b1⟩:=h
 have kn:c∉cds (nS s.2):=by
  by_cases hs:s.2<0
  .rw[Kn hs]
   obtain⟨g,d⟩:=nS_good (i:=0-s.2) (by omega) (by omega)
   intro z
   rcases AH.mp z with z|z
   .exact hc.2.2.2 z
   .exact DT g hc.2.1 z
  .obtain⟨g,d⟩:=nS_good (i:=s.2) (by omega) (by omega)
   exact DT g hc.2.1
 have ks:c∉cds s.1:=by
  rcases hn with e|e
  .rw[e]
   show c∉[]
   simp
  .exact name_no e hc.1
 unfold AU
 split
 .exact kn
 .split
  .exact ks
  .split
   .rw[B4,B4]
    have ec:cds ("+":Str)=[43]:=by decide +kernel
    rw[ec]
    intro z
    rcases BI.mp z with z|z
    .rcases BI.mp z with z|z
     .exact ks z
     .exact hc.2.2.1 (Ce.mp z)
    .exact kn z
   .rw[B4]
    intro z
    rcases BI.mp z with z|z
    .exact ks z
    .exact kn z
def inner:List (List Nat)->List Nat
 |[]=>[]
 |[a]=>a
 |a::b::l=>a++([93,91]++inner (b::l))
theorem Me:∀{sp:List (Str×Int)},sp≠[]->((sp.map CS).map cds).flatten=91::(inner (sp.map fun s=>cds (AU s))++[93])
 |[],h=>absurd rfl h
 |
  [s],_=>by
  show cds (CS s)++[]=91::(cds (AU s)++[93])
  rw[DU]
  unfold CS
  rw[B4,B4]
  rfl
 |
  s::s2::sp,_=>by
  have ih:=Me (sp:=s2::sp) (D2 _ _)
  show cds (CS s)++(((s2::sp).map CS).map cds).flatten=91::((cds (AU s)++([93,91]++inner ((s2::sp).map fun s=>cds (AU s))))++[93])
  rw[ih]
  unfold CS
  rw[B4,B4]
  show[91]++cds (AU s)++[93]++_=_
  simp
theorem inner_split:∀{l:List (List Nat)},l≠[]->(∀a∈l,93∉a)->IsSplit [93,91] (inner l) l
 |[],h,_=>absurd rfl h
 |[a],_,h=>.one' (h a AR)
 |a::b::l,_,h=>.cut' (h a AR) (inner_split (D2 _ _) fun c hc=>h c (Bm _ hc))
theorem cel_cds {z:Str}{sp:List (Str×Int)}(hs:sp≠[]):cds (B3 z sp)=cds z++91::(inner (sp.map fun s=>cds (AU s))++[93]):=by
 unfold B3
 rw[B4,Kw,Me hs]
theorem Qb {z:Str}{sp:List (Str×Int)}(hz:Bg (cds z))(hs:sp≠[])(h:∀s∈sp,SpN s):FQ (cds (B3 z sp)):=by
 have hw:=NY hz
 obtain⟨c,r,e,hc⟩:=hw.head
 refine⟨?_,c,r++91::(inner (sp.map fun s=>cds (AU s))++[93]),by rw[cel_cds hs,e];rfl,hc⟩
 have key:∀{l:List (List Nat)},(∀a∈l,93∉a)->Rd.pass true (inner l)=some true:=fun{l} hl=>by
  induction l with
  |nil=>rfl
  |
   cons a l ih=>
   cases l with
   |nil=>exact M0 (hl a AR)
   |
    cons b l=>
    show Rd.pass true (a++([93,91]++inner (b::l)))=_
    rw[Lz (M0 (hl a AR))]
    exact ih fun c hc=>hl c (Bm _ hc)
 rw[cel_cds hs,Lz hw.pass]
 show Rd.pass true (inner (sp.map fun s=>cds (AU s))++[93])=some false
 rw[Lz (key fun a ha=>?_)]
 .rfl
 .obtain⟨s,hs',rfl⟩:=CF.mp ha
  exact spot_free (h s hs') (by omega)
end Rd
namespace Rd
open PySem L2
def Tk.txt:Tk->Str
 |.s c=>⟨#[c]⟩
 |.t (.n i)=>nS i
 |.t (.v z)=>z
 |.t (.c z sp)=>B3 z sp
 |.t (.j z _ _)=>z
def Tk.Ok:Tk->Prop
 |.s c=>c∈sg5
 |.t (.n i)=>0<=i/\i<=999999999999999999
 |.t (.v z)=>Bg (cds z)
 |.t (.c z sp)=>Bg (cds z)/\sp≠[]/\sp.length<=3/\∀s∈sp,SpN s
 |.t (.j _ _ _)=>False
def PtAt (c:Cs)(H:Hp)(v:V):Tk->Prop
 |.s a=>v = .str ⟨#[a]⟩
 |.t w=>Bs c H w v
theorem PtAt.over {c:Cs}{H H':Hp}(e:A8 H H'){v:V}{k:Tk}(h:PtAt c H v k):PtAt c H' v k:=by
 cases k with
 |s a=>exact h
 |t w=>exact Bs.over e h
theorem Tk.whole {w:Tw}(h:(Tk.t w).Ok):FQ (cds (Tk.t w).txt):=by
 cases w with
 |n i=>exact RI (nS_good h.1 h.2).1
 |v z=>exact NY h
 |c z sp=>exact Qb h.1 h.2.1 h.2.2.2
 |j _ _ _=>exact h.elim
def Dj:List Tk->Prop
 |.t _ :: .t w::l=>False
 |_::l=>Dj l
 |[]=>True
def txts (ks:List Tk):List Nat:=(ks.map fun k=>cds k.txt).flatten
theorem not_sign {z:Str}{c:Nat}{r:List Nat}(e:cds z=c::r)(hc:c∉sg5):(!(Builtin.Str.occurrences (Str.ofString "+-*()") z 0 (Str.ofString "+-*()").length 1).isEmpty)=false:=by
 rw[Bool.eq_false_iff]
 intro h
 obtain⟨i,h1,h2⟩:=(StrLaws.found_iff _ _).mp h
 rw[StrLaws.subAt_eq,D3]at h2
 have e2:(Str.ofString "+-*()").cps.toList=sg5:=by decide +kernel
 have e3:z.cps.toList=c::r:=e
 rw[e2,e3]at h2
 have h3:c∈(sg5.drop i).take z.length:=by rw[h2];exact AR
 exact hc (GN (Fn h3))
theorem is_sign {c:Nat}(hc:c∈sg5):(!(Builtin.Str.occurrences (Str.ofString "+-*()") ⟨#[c]⟩ 0 (Str.ofString "+-*()").length 1).isEmpty)=true:=by
 rw[IS]
 have e2:cds (Str.ofString "+-*()")=sg5:=by decide +kernel
 rw[e2]
 exact B7 hc
def spPend:Sp:=fun vs H Q _=>∃(z:Str) (i:Nat),vs=[.str z,.int (i:Int)]/\i<(cds z).length/\z.length<=100000/\Q (.int ((i+pend ((cds z).drop i):Nat):Int)) H
def spCellOf (c:Cs):Sp:=fun vs H Q _=>∃(z:Str) (sp:List (Str×Int)),vs=[.str (B3 z sp)]/\(Tk.t (.c z sp)).Ok/\∀(x:V) (H':Hp),A8 H H'->Bs c H' (.c z sp) x->Q x H'
def spPartOf (c:Cs):Sp:=fun vs H Q _=>∃k:Tk,vs=[.str k.txt]/\k.Ok/\∀(x:V) (H':Hp),A8 H H'->PtAt c H' x k->Q x H'
def spPartsOf (c:Cs):Sp:=fun vs H Q _=>∃(z:Str) (ks:List Tk),vs=[.str z]/\cds z=txts ks/\z.length<=100000/\(∀k∈ks,k.Ok)/\Dj ks/\∀(l:Addr) (xs:List V) (H':Hp),A8 H H'->H l=none->H' l=some (.lst xs)->AE (PtAt c H') xs ks->Q (.ref l) H'
def nb (S:List Nat):Nat:=(S.filter (· != 40)).length
theorem nb_cons {a:Nat}{S:List Nat}(h:a≠40):nb (a::S)=nb S+1:=by
 unfold nb
 rw[F2,Af (by simpa using h)]
 rfl
theorem V7 {S:List Nat}:nb (40::S)=nb S:=rfl
theorem Lm (k:Nat)(hk:1<=k):∀{S:List Nat} {T:List Tw},nb S<T.length->nb (jw k S T).2<(jw k S T).1.length/\T.length+nb (jw k S T).2=(jw k S T).1.length+nb S
 |[],T,h=>⟨by cases T<;>exact h,by cases T<;>rfl⟩
 |
  a::S,T,h=>by
  by_cases c:k<=st a
  .have n40:a≠40:=fun z=>by subst z;exact absurd c (by show ¬k<=0;omega)
   rw[nb_cons n40]at h ⊢
   match T,h with
   |
    r::l::T,h=>
    rw[jw_yes c]
    have:=Lm k hk (S:=S) (T:=.j (sg a) l r::T) (by rw[AO];rw[AO,AO]at h;omega)
    rw[AO]at this
    rw[AO,AO]
    omega
   |[_],h=>exact absurd h (by rw[Bk];omega)
   |[],h=>exact absurd h (by rw[JU];omega)
  .rw[jw_no (by omega)]
   exact⟨h,rfl⟩
def B2 (l r:Addr)(H H':Hp):Prop := ∀b o,H b=some o->b≠l->b≠r->H' b=some o
def spJoinW (c:Cs):Sp:=fun vs H Q _=>∃(l r:Addr) (ts ss:List V) (T:List Tw) (S:List Nat) (k:Nat),vs=[.ref l,.ref r,.int (k:Int)]/\l≠r/\1<=k/\H l=some (.lst ts)/\H r=some (.lst ss)/\AE (fun v t=>Bs c H t v) ts T.reverse/\ss=S.reverse.map (fun a=>V.str (sg a))/\(∀a∈S,a∈sg5/\a≠41)/\nb S<T.length/\T.length<=1000/\
 ∀(ts' ss':List V) (H':Hp),B2 l r H H'->H' l=some (.lst ts')->H' r=some (.lst ss')->AE (fun v t=>Bs c H' t v) ts' (jw k S T).1.reverse->ss'=(jw k S T).2.reverse.map (fun a=>V.str (sg a))->Q .non H'
def spTermOf (c:Cs):Sp:=fun vs H Q _=>∃(l:Addr) (xs:List V) (ks:List Tk) (T:List Tw) (S:List Nat) (t:Tw),vs=[.ref l]/\H l=some (.lst xs)/\AE (PtAt c H) xs ks/\xs.length<=1000/\(∀k∈ks,k.Ok)/\run ks ⟨[],[],true⟩=some ⟨T,S,false⟩/\jw 1 S T=([t],[])/\∀(x:V) (H':Hp),A8 H H'->Bs c H' t x->Q x H'
theorem cut_last {α:Type}(l:List α)(c:α):Cn (l++[c]) none (some (-1))=l:=by
 unfold Cn
 have e:HT.sIx (l++[c]).length (l++[c]).length (some (-1))=l.length:=by
  unfold HT.sIx
  rw[Ap,Bk]
  dsimp only
  split<;>omega
 rw[HT.sIx_none,e,HQ,Nat.sub_zero,GO]
theorem pend_cons {k:Tk}{l:List Tk}(ok:k.Ok)(okl:∀x∈l,x.Ok)(ad:Dj (k::l)):pend (cds k.txt++txts l)=(cds k.txt).length/\1<=(cds k.txt).length:=by
 cases k with
 |
  s c=>
  refine⟨?_,Ai _⟩
  show pend (c::txts l)=1
  rw[pend,Af (show c∈sg5 from ok)]
 |
  t w=>
  have hw:=Tk.whole ok
  obtain⟨c,r,e,_⟩:=hw.head
  refine⟨hw.pend fun d r' e'=>?_,by rw[e,AO];omega⟩
  cases l with
  |nil=>cases e'
  |
   cons k' l=>
   cases k' with
   |
    s c'=>
    have e2:c'::txts l=d::r':=e'
    injection e2 with e3 _
    rw[←e3]
    exact okl (.s c') AR
   |t w'=>exact ad.elim
theorem Mt {k:Tk}{l:List Tk}(ad:Dj (k::l)):Dj l:=by
 cases k with
 |s c=>exact ad
 |
  t w=>
  cases l with
  |nil=>exact True.intro
  |
   cons k' l=>
   cases k' with
   |s c'=>exact ad
   |t w'=>exact ad.elim
theorem adj_drop:∀{ks:List Tk} (j:Nat),Dj ks->Dj (ks.drop j)
 |_,0,h=>h
 |[],_+1,h=>h
 |_::_,j+1,h=>adj_drop j (Mt h)
theorem txts_cons (k:Tk)(l:List Tk):txts (k::l)=cds k.txt++txts l:=rfl
theorem PtAt.some {c:Cs}{H:Hp}{v:V}{k:Tk}(ok:k.Ok)(h:PtAt c H v k):v≠.non:=by
 intro e
 subst e
 cases k with
 |s a=>cases h
 |
  t w=>
  cases w with
  |n i=>obtain⟨_,_,e,_⟩:=h;cases e
  |v z=>obtain⟨_,_,e,_⟩:=h;cases e
  |c z sp=>obtain⟨_,_,_,e,_⟩:=h;cases e
  |j _ _ _=>exact ok
def NL (H H':Hp):Prop := ∀b o,H b=some o->(∀xs,o≠.lst xs)->H' b=some o
theorem NL.of {H H':Hp}(e:A8 H H'):NL H H':=fun b o h _=>e b o h
theorem NL.trans {H H1 H2:Hp}(a:NL H H1)(b:NL H1 H2):NL H H2:=fun c o h n=>b c o (a c o h n) n
theorem NL.upd {H:Hp}{l:Addr}{xs ys:List V}(h:H l=some (.lst xs)):NL H (upd H l (.lst ys)):=fun b o e n=>by
 rw[A7 (fun z=>by rw[z,h]at e;exact n xs (BQ e).symm)]
 exact e
theorem NL.tk {H H':Hp}(e:NL H H'):TK H H':=fun p xs h=>e _ _ h (fun _ z=>nomatch z)
theorem tb_nl {c:Cs}{H H':Hp}(e:NL H H'):∀{t:Tw} {x:V},Bs c H t x->Bs c H' t x
 |.n i,x,h=>by obtain⟨t,dx,r,h⟩:=h;exact⟨t,dx,r,e _ _ h (fun _ z=>nomatch z)⟩
 |.v z,x,h=>by obtain⟨t,dx,r,h⟩:=h;exact⟨t,dx,r,e _ _ h (fun _ z=>nomatch z)⟩
 |.c z sp,x,h=>by obtain⟨t,dx,p,r,h,g⟩:=h;exact⟨t,dx,p,r,e _ _ h (fun _ z=>nomatch z),g.tk e.tk⟩
 |.j z l r,x,h=>by obtain⟨t,dx,a,b,r,h,g1,g2⟩:=h;exact⟨t,dx,a,b,r,e _ _ h (fun _ z=>nomatch z),tb_nl e g1,tb_nl e g2⟩
theorem PtAt.nl {c:Cs}{H H':Hp}(e:NL H H'){v:V}{k:Tk}(h:PtAt c H v k):PtAt c H' v k:=by
 cases k with
 |s a=>exact h
 |t w=>exact tb_nl e h
def strV:List (B5×V):=[(.inr "(",.int 0),(.inr "+",.int 1),(.inr "-",.int 1),(.inr "*",.int 2)]
theorem st_val {a:Nat}(h:a∈sg5/\a≠41):Cy strV (.inr (sg a))=some (.int (st a:Int)):=by
 obtain⟨h5,n⟩:=h
 unfold sg5 at h5
 simp only[AH,CG,or_false]at h5
 rcases h5 with rfl|rfl|rfl|rfl|rfl
 .decide +kernel
 .decide +kernel
 .decide +kernel
 .decide +kernel
 .exact absurd rfl n
theorem all2_pop {β:Type}{R:V->β->Prop}{xs:List V}{ys:List β}{y:β}(h:AE R xs (ys++[y])):∃xs' x,xs=xs'++[x]/\AE R xs' ys/\R x y:=by
 have hl:=h.1
 rw[Ap,Bk]at hl
 obtain⟨us,x,rfl,ul⟩:=ES hl
 refine⟨us,x,rfl,⟨ul,fun i a b ha hb=>?_⟩,?_⟩
 .exact h.2 i a b (by rw[DW (BJ.mp ha).1];exact ha) (by rw[DW (BJ.mp hb).1];exact hb)
 .exact h.2 us.length x y (by rw[DV (Ai _),Ey];rfl) (by rw[ul,DV (Ai _),Ey];rfl)
theorem Mo:∀{a b:List Tk} {x y:Sta},run (a++b) x=some y->∃z,run a x=some z/\run b z=some y
 |[],b,x,y,h=>⟨x,rfl,h⟩
 |
  k::a,b,x,y,h=>by
  rw[F1,run]at h
  cases hs:step x k with
  |none=>rw[hs]at h;cases h
  |
   some z=>
   rw[hs]at h
   obtain⟨u,h1,h2⟩:=Mo (a:=a) h
   exact⟨u,by rw[run,hs];exact h1,h2⟩
theorem run_at {ks:List Tk}{x y:Sta}{i:Nat}{k:Tk}(h:run ks x=some y)(hk:ks[i]?=some k):∃z u,run (ks.take i) x=some z/\step z k=some u/\run (ks.take (i+1)) x=some u:=by
 have hi:=(BJ.mp hk).1
 have e:ks=ks.take i++(k::ks.drop (i+1)):=by
  have h2:=G3 hi
  rw[BX hi]at hk
  rw[BQ hk]at h2
  rw[←h2,LL]
 rw[e]at h
 obtain⟨z,h1,h2⟩:=Mo h
 rw[run]at h2
 cases hs:step z k with
 |none=>rw[hs]at h2;cases h2
 |
  some u=>
  refine⟨z,u,h1,hs,?_⟩
  rw[DE hk,Le h1,run,hs]
  rfl
theorem LC (k:Nat):∀{S:List Nat} {T:List Tw},∀c∈(jw k S T).2,c∈S
 |[],T,c,h=>by cases T<;>exact h
 |
  a::S,T,c,h=>by
  match T with
  |[]=>exact h
  |[_]=>exact h
  |
   r::l::T=>
   by_cases hk:k<=st a
   .rw[jw_yes hk]at h
    exact Bm _ (LC k c h)
   .rw[jw_no (by omega)]at h
    exact h
theorem Nc (k:Nat)(hk:1<=k):∀{S:List Nat} {T:List Tw} {d:Nat} {S':List Nat},nb S<T.length->(jw k S T).2=d::S'->st d<k
 |[],T,d,S',_,h=>by cases T<;>cases h
 |
  a::S,T,d,S',hn,h=>by
  by_cases c:k<=st a
  .have n40:a≠40:=fun z=>by subst z;exact absurd c (by show ¬k<=0;omega)
   rw[nb_cons n40]at hn
   match T,hn with
   |
    r::l::T,hn=>
    rw[jw_yes c]at h
    exact Nc k hk (by rw[AO];rw[AO,AO]at hn;omega) h
   |[_],hn=>exact absurd hn (by rw[Bk];omega)
   |[],hn=>exact absurd hn (by rw[JU];omega)
  .rw[jw_no (by omega)]at h
   have h:a::S=d::S':=h
   injection h with e _
   rw[←e]
   omega
theorem RG {d:Nat}(h:st d<1):d=40:=GQ fun n=>by
 unfold st at h
 rw[A9 n]at h
 split at h<;>omega
structure Wt (x:Sta):Prop where
 sg:∀c∈x.S,c∈sg5/\c≠41
 nb:nb x.S+(if x.due then 0 else 1)=x.T.length
theorem Wt.step {x y:Sta}{k:Tk}(w:Wt x)(ok:k.Ok)(h:Rd.step x k=some y):Wt y:=by
 obtain⟨T,S,due⟩:=x
 have wn:=w.nb
 cases k with
 |
  t t=>
  cases due with
  |false=>cases h
  |
   true=>
   have h:some (⟨t::T,S,false⟩:Sta)=some y:=h
   cases h
   exact⟨w.sg,by have:Rd.nb S+0=T.length:=wn;show Rd.nb S+1=T.length+1;omega⟩
 |
  s c=>
  have ok:c∈sg5:=ok
  rw[Rd.step]at h
  by_cases c40:c=40
  .subst c40
   rw[Af rfl]at h
   cases due with
   |false=>cases h
   |
    true=>
    have h:some (⟨T,40::S,true⟩:Sta)=some y:=h
    cases h
    refine⟨fun d hd=>?_,wn⟩
    rcases AH.mp hd with rfl|z
    .exact⟨by decide,by decide⟩
    .exact w.sg d z
  .rw[A9 c40]at h
   cases due with
   |true=>cases h
   |
    false=>
    have wn:Rd.nb S+1=T.length:=wn
    rw[A9 (show ¬(Sta.due ⟨T,S,false⟩=true) from BM)]at h
    by_cases c41:c=41
    .rw[Af c41]at h
     have j:=Lm 1 (Ai _) (S:=S) (T:=T) (by omega)
     cases hs:(jw 1 S T).2 with
     |nil=>simp only[hs]at h;cases h
     |
      cons d S'=>
      simp only[hs]at h
      cases h
      rw[hs]at j
      refine⟨fun e he=>w.sg e (LC 1 e (by rw[hs];exact Bm _ he)),?_⟩
      have e:=RG (Nc 1 (Ai _) (by omega) hs)
      subst e
      rw[V7]at j
      show Rd.nb S'+1=(jw 1 S T).1.length
      omega
    .rw[A9 c41]at h
     cases h
     have j:=Lm (st c) (by unfold st;rw[A9 c40];split<;>decide) (S:=S) (T:=T) (by omega)
     refine⟨fun e he=>?_,?_⟩
     .rcases AH.mp he with rfl|z
      .exact⟨ok,c41⟩
      .exact w.sg e (LC _ e z)
     .show Rd.nb (c::(jw (st c) S T).2)+0=(jw (st c) S T).1.length
      rw[nb_cons c40]
      omega
theorem jw_len (k:Nat):∀{S:List Nat} {T:List Tw},(jw k S T).1.length<=T.length
 |[],T=>by cases T<;>exact Ai _
 |
  a::S,T=>by
  match T with
  |[]=>exact Ai _
  |[_]=>exact Ai _
  |
   r::l::T=>
   by_cases hk:k<=st a
   .rw[jw_yes hk]
    have:=jw_len k (S:=S) (T:=.j (sg a) l r::T)
    rw[AO]at this ⊢
    rw[AO]
    omega
   .rw[jw_no (by omega)]
    exact Ai _
theorem jw_len2 (k:Nat):∀{S:List Nat} {T:List Tw},(jw k S T).2.length<=S.length
 |[],T=>by cases T<;>exact Ai _
 |
  a::S,T=>by
  match T with
  |[]=>exact Ai _
  |[_]=>exact Ai _
  |
   r::l::T=>
   by_cases hk:k<=st a
   .rw[jw_yes hk,AO]
    have:=jw_len2 k (S:=S) (T:=.j (sg a) l r::T)
    omega
   .rw[jw_no (by omega)]
    exact Ai _
def bare (l:List Nat):List Nat:=stp 32 (if 59∈l then Cc 59 l else l)
def spBare:Sp:=fun vs H Q _=>∃z:Str,vs=[.str z]/\z.length<=100000/\∀H',A8 H H'->Q (.str (Ax (bare (cds z)))) H'
def spWords:Sp:=fun vs H Q _=>∃z:Str,vs=[.str z]/\z.length<=100000/\∀(l:Addr) (H':Hp) (ps:List Str),A8 H H'->IsSplit [32] (cds z) (ps.map cds)->H' l=some (.lst ((ps.filter fun y:Str=>decide (y≠Str.ofString "")).map V.str))->Q (.ref l) H'
theorem split_many {y l:List Nat}{ps:List (List Nat)}(hy:1<=y.length)(h:IsSplit y l ps):ps.length<=l.length+1:=by
 induction h with
 |one _=>rw[Bk];omega
 |cut _ _ ih=>rw[AO,Ap,Ap];omega
def KS (C:Addr)(H:Hp)(d:Addr)(nm:List Str):Prop := ∃(dx:Addr) (fs:List (Str×V)) (n:Addr),H d=some (.ins C dx fs)/\fs.lookup (Str.ofString "names")=some (V.ref n)/\H n=some (.lst (nm.map V.str))
def knw (nm:List Str)(s:Str×Int):Bool:=decide (s.1=Str.ofString "")||decide (s.1∈nm)
def spKnown (C:Addr):Sp:=fun vs H Q _=>∃(d p:Addr) (nm:List Str) (sp:List (Str×Int)),vs=[.ref d,.ref p]/\KS C H d nm/\EF H p sp/\sp.length<=1000/\∀H',A8 H H'->Q (.bl (sp.all (knw nm))) H'
end Rd
namespace Pw
variable {T S:Type}
inductive Rr (T S:Type) where
 |opn (t:T):Rr T S
 |row (s:S):Rr T S
 |fin:Rr T S
abbrev Rw (T S:Type):=List (Nat×Rr T S)
end Pw
namespace L2
open PySem PySem.Spec PyProof.Rows
structure Al where
 nm:Str
 lo:Str×Int
 hi:Str×Int
def Al.Ok (t:Al):Prop:=t.nm.length<=20/\Eu t.lo/\Eu t.hi
structure Dw where
 loops:List Al
 tbl:Str
 sp:List (Str×Int)
 tm:Tw
 path:List Int
def Dw.txt (D:Dw):Str:=B3 D.tbl D.sp++" = "++D.tm.wr
def He (t:Al):Str:="for "++t.nm++" "++AU t.lo++" "++AU t.hi
def J3:Pw.Rr Al Str->Str
 |.opn t=>He t
 |.row s=>s
 |.fin=>"end"
theorem SR {t:Al}(h:t.Ok):(He t).length<=200:=by
 obtain⟨h1,h2,h3⟩:=h
 have h2:=ER h2
 have h3:=ER h3
 have e:("for ":Str).length=4:=by decide +kernel
 have e2:(" ":Str).length=1:=by decide +kernel
 unfold He
 rw[Bh,Bh,Bh,Bh,Bh]
 omega
def DI (H:Hp)(x:V)(t:Al):Prop := ∃(p:Addr) (a b:V),x = .ref p/\H p=some (.tup [.str t.nm,a,b])/\C3 H a t.lo/\C3 H b t.hi
theorem DI.tk {H H':Hp}{x:V}{t:Al}(k:TK H H')(h:DI H x t):DI H' x t:=by obtain⟨p,a,b,e,h,g1,g2⟩:=h;exact⟨p,a,b,e,k _ _ h,g1.tk k,g2.tk k⟩
def Fh (H:Hp)(o:Addr)(ts:List Al):Prop := ∃xs,H o=some (.lst xs)/\AE (DI H) xs ts
theorem Fh.over {H H':Hp}{o:Addr}{ts:List Al}(e:A8 H H')(h:Fh H o ts):Fh H' o ts:=by obtain⟨xs,h,g⟩:=h;exact⟨xs,e _ _ h,g.mono fun _ _ z=>z.tk (A8.tk e)⟩
def Il (H:Hp)(o:Addr)(x:V)(D:Dw):Prop := ∃(p ps pt:Addr) (sh:V),x = .ref p/\H p=some (.tup [.ref o,.str D.tbl,.ref ps,sh,.ref pt,.str D.txt])/\Fh H o D.loops/\EF H ps D.sp/\E2 H D.tm sh/\H pt=some (.tup (D.path.map V.int))
def EJ (H:Hp)(x:V)(D:Dw):Prop := ∃o,Il H o x D
theorem EJ.over {H H':Hp}{x:V}{D:Dw}(e:A8 H H')(h:EJ H x D):EJ H' x D:=by obtain⟨o,p,ps,pt,sh,r,h0,h1,h2,h3,h4⟩:=h;exact⟨o,p,ps,pt,sh,r,e _ _ h0,h1.over e,h2.tk (A8.tk e),h3.tk (A8.tk e),e _ _ h4⟩
def Eb (C:Addr)(c:Cs)(H:Hp)(x:V)(D:Dw):Prop := ∃(p dx nm lo hi ps pt:Addr) (ob:V) (ls hs:List V),x = .ref p/\H p=some (.ins C dx [("names",.ref nm),("lows",.ref lo),("highs",.ref hi),("table",.str D.tbl),("spots",.ref ps),("term",ob),("path",.ref pt)])/\H nm=some (.tup (D.loops.map fun t=>V.str t.nm))/\H lo=some (.tup ls)/\AE (fun v t=>C3 H v (Al.lo t)) ls D.loops/\H hi=some (.tup hs)/\AE (fun v t=>C3 H v (Al.hi t)) hs D.loops/\EF H ps D.sp/\Bs c H D.tm ob/\H pt=some (.tup (D.path.map V.int))
theorem Eb.over {C:Addr}{c:Cs}{H H':Hp}{x:V}{D:Dw}(e:A8 H H')(h:Eb C c H x D):Eb C c H' x D:=by
 obtain⟨p,dx,nm,lo,hi,ps,pt,ob,ls,hs,rfl,h0,h1,h2,h3,h4,h5,h6,h7,h8⟩:=h
 exact⟨p,dx,nm,lo,hi,ps,pt,ob,ls,hs,rfl,e _ _ h0,e _ _ h1,e _ _ h2,h3.mono fun _ _ z=>z.tk (A8.tk e),e _ _ h4,h5.mono fun _ _ z=>z.tk (A8.tk e),h6.tk (A8.tk e),h7.over e,e _ _ h8⟩
def RD (C:Addr)(c:Cs)(H:Hp)(l:Addr)(Ds:List Dw):Prop := ∃xs,H l=some (.lst xs)/\AE (Eb C c H) xs Ds
def Nx (CP C:Addr)(c:Cs)(H:Hp)(v:V)(n:Int)(Ds:List Dw):Prop := ∃(x dx dl:Addr),v = .ref x/\H x=some (.ins CP dx [("size",.int n),("deeds",.ref dl)])/\RD C c H dl Ds
def wo2 (H:Hp)(a b:Addr):Hp:=fun x=>if x=a\/x=b then none else H x
theorem BV {H:Hp}{a b:Addr}:A8 (wo2 H a b) H:=fun x o h=>by
 unfold wo2 at h
 split at h
 .cases h
 .exact h
theorem L5 {H H':Hp}{a b:Addr}(e:A8 H H'):A8 (wo2 H a b) (wo2 H' a b):=fun x o h=>by
 unfold wo2 at h ⊢
 split at h
 .cases h
 .rename_i c;rw[A9 c];exact e x o h
theorem Ku {H:Hp}{a b:Addr}{o:HO}:wo2 (upd H a o) a b=wo2 H a b:=by
 funext x
 unfold wo2
 by_cases c:x=a\/x=b
 .rw[Af c,Af c]
 .rw[A9 c,A9 c,A7 fun z=>c (.inl z)]
theorem KI {H:Hp}{a b:Addr}{o:HO}:wo2 (upd H b o) a b=wo2 H a b:=by
 funext x
 unfold wo2
 by_cases c:x=a\/x=b
 .rw[Af c,Af c]
 .rw[A9 c,A9 c,A7 fun z=>c (.inr z)]
theorem G9 {H:Hp}{a b x:Addr}{o:HO}(h:H x=some o)(h1:x≠a)(h2:x≠b):wo2 H a b x=some o:=by
 unfold wo2
 rw[A9 (fun z=>z.elim h1 h2)]
 exact h
theorem T7 (z:Str)(l:List Str):CZ (.str z) (l.map V.str)=decide (z∈l):=by
 unfold CZ
 induction l with
 |nil=>rfl
 |
  cons y l ih=>
  rw[C8,HP,ih]
  have e:Et (.str y) (.str z)=decide (z=y):=by
   show(y==z)=_
   rw[DJ]
   simp only[D3,DZ]
   exact⟨fun e=>e.symm,fun e=>e.symm⟩
  rw[e,DJ]
  simp
def HJ (H:Hp)(x:V)(p:Nat×Pw.Rr Al Str):Prop := ∃t,x = .ref t/\H t=some (.tup [.int (p.1:Int),.str (J3 p.2)])
theorem HJ.tk {H H':Hp}{x:V}{p:Nat×Pw.Rr Al Str}(k:TK H H')(h:HJ H x p):HJ H' x p:=by obtain⟨t,e,h⟩:=h;exact⟨t,e,k _ _ h⟩
structure BP (H0 H:Hp)(rl dl o pt:Addr)(la:V)(ts:List Al)(path:List Int)(R:Pw.Rw Al Str)(Ds:List Dw)(tl:Al):Prop where
 same:A8 H0 H
 op:Fh (wo2 H rl dl) o ts
 pa:wo2 H rl dl pt=some (.lst (path.map V.int))
 la:DI H la tl
 rows:∃xs,H rl=some (.lst xs)/\AE (HJ H) xs R
 deeds:∃ys,H dl=some (.lst ys)/\AE (EJ (wo2 H rl dl)) ys Ds
 rne:rl≠dl
 h0r:H0 rl=none
 h0d:H0 dl=none
theorem BP.over {H0 H H':Hp}{rl dl o pt:Addr}{la:V}{ts:List Al}{path:List Int}{R:Pw.Rw Al Str}{Ds:List Dw}{tl:Al}(h:BP H0 H rl dl o pt la ts path R Ds tl)(e:A8 H H'):BP H0 H' rl dl o pt la ts path R Ds tl:=by
 obtain⟨xs,hx,ax⟩:=h.rows
 obtain⟨ys,hy,ay⟩:=h.deeds
 exact⟨h.same.trans e,h.op.over (L5 e),L5 e _ _ h.pa,h.la.tk (A8.tk e),⟨xs,e _ _ hx,ax.mono fun _ _ z=>z.tk (A8.tk e)⟩,⟨ys,e _ _ hy,ay.mono fun _ _ z=>z.over (L5 e)⟩,h.rne,h.h0r,h.h0d⟩
theorem BP.row {H0 H:Hp}{rl dl o pt:Addr}{la:V}{ts:List Al}{path:List Int}{R:Pw.Rw Al Str}{Ds:List Dw}{tl:Al}(h:BP H0 H rl dl o pt la ts path R Ds tl){t:Addr}{xs:List V}{p:Nat×Pw.Rr Al Str}(hx:H rl=some (.lst xs))(ht:H t=some (.tup [.int (p.1:Int),.str (J3 p.2)])):BP H0 (upd H rl (.lst (xs++[.ref t]))) rl dl o pt la ts path (R++[p]) Ds tl:=by
 obtain⟨xs',hx',ax⟩:=h.rows
 obtain⟨ys,hy,ay⟩:=h.deeds
 rw[hx]at hx'
 cases hx'
 have tk:TK H (upd H rl (.lst (xs++[.ref t]))):=TK.upd hx
 exact⟨fun b o hb=>by rw[A7 (AG hb h.h0r)];exact h.same _ _ hb,by rw[Ku];exact h.op,by rw[Ku];exact h.pa,h.la.tk tk,⟨_,A5,(ax.mono fun _ _ z=>z.tk tk).snoc ⟨t,rfl,tk _ _ ht⟩⟩,⟨ys,by rw[A7 h.rne.symm];exact hy,by rw[Ku];exact ay⟩,h.rne,h.h0r,h.h0d⟩
theorem BP.deed {H0 H:Hp}{rl dl o pt:Addr}{la:V}{ts:List Al}{path:List Int}{R:Pw.Rw Al Str}{Ds:List Dw}{tl:Al}(h:BP H0 H rl dl o pt la ts path R Ds tl){x:V}{ys:List V}{D:Dw}(hy:H dl=some (.lst ys))(hD:EJ (wo2 H rl dl) x D):BP H0 (upd H dl (.lst (ys++[x]))) rl dl o pt la ts path R (Ds++[D]) tl:=by
 obtain⟨xs,hx,ax⟩:=h.rows
 obtain⟨ys',hy',ay⟩:=h.deeds
 rw[hy]at hy'
 cases hy'
 have tk:TK H (upd H dl (.lst (ys++[x]))):=TK.upd hy
 exact⟨fun b o hb=>by rw[A7 (AG hb h.h0d)];exact h.same _ _ hb,by rw[KI];exact h.op,by rw[KI];exact h.pa,h.la.tk tk,⟨xs,by rw[A7 h.rne];exact hx,ax.mono fun _ _ z=>z.tk tk⟩,⟨_,A5,by rw[KI];exact ay.snoc hD⟩,h.rne,h.h0r,h.h0d⟩
theorem BP.newO {H0 H:Hp}{rl dl o pt:Addr}{la:V}{ts:List Al}{path:List Int}{R:Pw.Rw Al Str}{Ds:List Dw}{tl:Al}(h:BP H0 H rl dl o pt la ts path R Ds tl){p:Addr}{vs:List V}{ts':List Al}(hp:H p=none)(hv:AE (DI H) vs ts'):BP H0 (upd H p (.lst vs)) rl dl p pt la ts' path R Ds tl:=by
 have e:=Ab hp (.lst vs)
 have n:=h.over e
 obtain⟨xs,hx,_⟩:=h.rows
 obtain⟨ys,hy,_⟩:=h.deeds
 have n1:=(AG hx hp).symm
 have n2:=(AG hy hp).symm
 refine⟨n.same,⟨vs,G9 A5 n1 n2,hv.mono fun v t z=>?_⟩,n.pa,n.la,n.rows,n.deeds,n.rne,n.h0r,n.h0d⟩
 obtain⟨q,a,b,rfl,h0,⟨qa,rfl,ha⟩,⟨qb,rfl,hb⟩⟩:=z
 have g:∀{c:Addr} {zs:List V},H c=some (.tup zs)->wo2 (upd H p (.lst vs)) rl dl c=some (.tup zs):=fun{c zs} hc=>G9 (e _ _ hc) (CL hc hx (by intro z;cases z)) (CL hc hy (by intro z;cases z))
 exact⟨q,.ref qa,.ref qb,rfl,g h0,⟨qa,rfl,g ha⟩,⟨qb,rfl,g hb⟩⟩
theorem BP.newP {H0 H:Hp}{rl dl o pt:Addr}{la:V}{ts:List Al}{path path':List Int}{R:Pw.Rw Al Str}{Ds:List Dw}{tl:Al}(h:BP H0 H rl dl o pt la ts path R Ds tl){p:Addr}(hp:H p=none):BP H0 (upd H p (.lst (path'.map V.int))) rl dl o p la ts path' R Ds tl:=by
 have n:=h.over (Ab hp (.lst (path'.map V.int)))
 obtain⟨xs,hx,_⟩:=h.rows
 obtain⟨ys,hy,_⟩:=h.deeds
 exact⟨n.same,n.op,G9 A5 (AG hx hp).symm (AG hy hp).symm,n.la,n.rows,n.deeds,n.rne,n.h0r,n.h0d⟩
theorem Il.wo2' {H:Hp}{rl dl o:Addr}{x:V}{D:Dw}{xs ys:List V}{ts:List Al}(h:Il H o x D)(hx:H rl=some (.lst xs))(hy:H dl=some (.lst ys))(op:Fh (L2.wo2 H rl dl) o ts)(eL:D.loops=ts):EJ (L2.wo2 H rl dl) x D:=by
 obtain⟨p,ps,pt,sh,rfl,h0,_,h2,h3,h4⟩:=h
 have tk:TK H (L2.wo2 H rl dl):=fun b zs hb=>G9 hb (CL hb hx (by intro z;cases z)) (CL hb hy (by intro z;cases z))
 exact⟨o,p,ps,pt,sh,rfl,tk _ _ h0,by rw[eL];exact op,h2.tk tk,h3.tk tk,tk _ _ h4⟩
theorem BP.start {H:Hp}{o pt rl dl q1 q2 la:Addr}(h1:H o=none)(h2:(upd H o (.lst [])) pt=none)(h3:(upd (upd H o (.lst [])) pt (.lst [.int 0])) rl=none)
  (h4:(upd (upd (upd H o (.lst [])) pt (.lst [.int 0])) rl (.lst [])) dl=none)
  (h5:(upd (upd (upd (upd H o (.lst [])) pt (.lst [.int 0])) rl (.lst [])) dl (.lst [])) q1=none)
  (h6:(upd (upd (upd (upd (upd H o (.lst [])) pt (.lst [.int 0])) rl (.lst [])) dl (.lst [])) q1 (.tup [.str (Str.ofString ""),.int 0])) q2=none)
  (h7:(upd (upd (upd (upd (upd (upd H o (.lst [])) pt (.lst [.int 0])) rl (.lst [])) dl (.lst [])) q1 (.tup [.str (Str.ofString ""),.int 0])) q2 (.tup [.str (Str.ofString ""),.int 0])) la=none) :
  BP H (upd (upd (upd (upd (upd (upd (upd H o (.lst [])) pt (.lst [.int 0])) rl (.lst [])) dl (.lst [])) q1 (.tup [.str (Str.ofString ""),.int 0])) q2 (.tup [.str (Str.ofString ""),.int 0])) la (.tup [.str (Str.ofString ""),.ref q1,.ref q2])) rl dl o pt (.ref la) [] [0] [] [] ⟨"",("",0),("",0)⟩:=by
 have s1:=Ab h1 (.lst [])
 have s2:=Ab h2 (.lst [.int 0])
 have s3:=Ab h3 (.lst [])
 have s4:=Ab h4 (.lst [])
 have s5:=Ab h5 (.tup [.str (Str.ofString ""),.int 0])
 have s6:=Ab h6 (.tup [.str (Str.ofString ""),.int 0])
 have s7:=Ab h7 (.tup [.str (Str.ofString ""),.ref q1,.ref q2])
 have a1:(upd H o (.lst [])) o=some (.lst []):=A5
 have b1:=s2 _ _ a1
 have b2:(upd (upd H o (.lst [])) pt (.lst [.int 0])) pt=some (.lst [.int 0]):=A5
 have c3:(upd (upd (upd H o (.lst [])) pt (.lst [.int 0])) rl (.lst [])) rl=some (.lst []):=A5
 have nOr:o≠rl:=AG b1 h3
 have nPr:pt≠rl:=AG b2 h3
 have nOd:o≠dl:=AG (s3 _ _ b1) h4
 have nPd:pt≠dl:=AG (s3 _ _ b2) h4
 have nrd:rl≠dl:=AG c3 h4
 have t:=((s4.trans s5).trans s6).trans s7
 have t5:=(s5.trans s6).trans s7
 refine⟨((s1.trans s2).trans s3).trans t,⟨[],G9 (t _ _ (s3 _ _ b1)) nOr nOd,.nil⟩,G9 (t _ _ (s3 _ _ b2)) nPr nPd,⟨la,.ref q1,.ref q2,rfl,A5,⟨q1,rfl,s7 _ _ (s6 _ _ A5)⟩,⟨q2,rfl,s7 _ _ A5⟩⟩,⟨[],t _ _ c3,.nil⟩,⟨[],t5 _ _ A5,.nil⟩,nrd,(s1.trans s2).free h3,((s1.trans s2).trans s3).free h4⟩
section
variable {X:Cx}
def Qm:V->V->Hp->VK->Prop:=fun o i H Q=>∃p xs v,o = .ref p/\i = .int (-1)/\H p=some (.lst (xs++[v]))/\Q v H
theorem NC:MI X Qm:=by
 intro pins s σ H o i ov iv Q I ro ri h
 obtain⟨p,xs,z,rfl,rfl,hp,q⟩:=h
 cases ro
 obtain⟨t,rfl⟩:=ri
 obtain⟨its,r,pl,hz⟩:=I.list (A2.of hp)
 obtain⟨j,h1,h2,h3,h4,h5⟩:=Jv (KD xs z)
 obtain⟨w,ew,rw'⟩:=r.get h2
 have hl:=r.length
 have hn:=FF
 have fin:EP X pins σ Q w s:=⟨z,H,I,rw',q⟩
 have hj:((-1:Int)+(its.toArray.size:Int)).toNat=j:=by
  rw[LW (by omega) h4]at h1
  rw[BD,←hl]
  exact BQ h1
 exact wpAny_getItem_list_neg pl.isList (by omega) (by rw[BD]<;>omega) (by omega) (by rw[hj];simpa using ew) fin
end
theorem SK (n:Nat):DC (n+1) (-1)=some n:=by
 unfold DC
 rw[A9 (by decide),Af (by omega)]
 congr 1
 omega
end L2
namespace Rd
open PySem L2
structure Dr where
 sz:Option Int
 dd:List Dw
 lp:List Al
 pa:List Int
 la:Int
structure Da where
 d:Addr
 dx:Addr
 dl:Addr
 tl:Addr
 nl:Addr
 ll:Addr
 hl:Addr
 pl:Addr
def Da.own (A:Da)(b:Addr):Prop:=b=A.d\/b=A.dl\/b=A.tl\/b=A.nl\/b=A.ll\/b=A.hl\/b=A.pl
def szV:Option Int->V
 |none=>.non
 |some n=>.int n
def Da.fs (A:Da)(v:V):List (Str×V):=[("size",v),("deeds",.ref A.dl),("tables",.ref A.tl),("names",.ref A.nl),("lows",.ref A.ll),("highs",.ref A.hl),("path",.ref A.pl)]
def Ob:HO->Prop
 |.tup _=>True
 |.ins _ _ fs=>fs.lookup (Str.ofString "size")=none
 |_=>False
def Kp (H H':Hp):Prop := ∀b o,H b=some o->Ob o->H' b=some o
theorem Kp.trans {H H1 H2:Hp}(a:Kp H H1)(b:Kp H1 H2):Kp H H2:=fun c o h n=>b c o (a c o h n) n
theorem Kp.lst {H:Hp}{l:Addr}{xs ys:List V}(h:H l=some (.lst xs)):Kp H (upd H l (.lst ys)):=fun b o e n=>by
 rw[A7 (fun z=>by rw[z,h]at e;cases e;exact n)]
 exact e
theorem Kp.tk {H H':Hp}(e:Kp H H'):TK H H':=fun p xs h=>e _ _ h True.intro
theorem tb_kp {c:Cs}{H H':Hp}(e:Kp H H'):∀{t:Tw} {x:V},Bs c H t x->Bs c H' t x
 |.n i,x,h=>let ⟨t,dx,r,h⟩:=h;⟨t,dx,r,e _ _ h (by show List.lookup _ _=none;rfl)⟩
 |.v z,x,h=>let ⟨t,dx,r,h⟩:=h;⟨t,dx,r,e _ _ h (by show List.lookup _ _=none;rfl)⟩
 |.c z sp,x,h=>let ⟨t,dx,p,r,h,g⟩:=h;⟨t,dx,p,r,e _ _ h (by show List.lookup _ _=none;rfl),g.tk e.tk⟩
 |.j z l r,x,h=>let ⟨t,dx,a,b,r,h,g1,g2⟩:=h;⟨t,dx,a,b,r,e _ _ h (by show List.lookup _ _=none;rfl),tb_kp e g1,tb_kp e g2⟩
theorem PtAt.kp {c:Cs}{H H':Hp}(e:Kp H H'){v:V}{k:Tk}(h:PtAt c H v k):PtAt c H' v k:=by
 cases k with
 |s a=>exact h
 |t w=>exact tb_kp e h
theorem Hk {C:Addr}{c:Cs}{H H':Hp}{x:V}{D:Dw}(e:Kp H H')(h:Eb C c H x D):Eb C c H' x D:=by
 obtain⟨p,dx,nm,lo,hi,ps,pt,ob,ls,hs,rfl,h0,h1,h2,h3,h4,h5,h6,h7,h8⟩:=h
 exact⟨p,dx,nm,lo,hi,ps,pt,ob,ls,hs,rfl,e _ _ h0 (by show List.lookup _ _=none;rfl),e _ _ h1 True.intro,e _ _ h2 True.intro,h3.mono fun _ _ z=>z.tk e.tk,e _ _ h4 True.intro,h5.mono fun _ _ z=>z.tk e.tk,h6.tk e.tk,tb_kp e h7,e _ _ h8 True.intro⟩
def tbK (tb:List (Str×Nat)):List (B5×V):=tb.map fun p=>(.inr p.1,.int (p.2:Int))
structure DrAt (CD C:Addr)(c:Cs)(f:Str->Nat)(H:Hp)(A:Da)(D:Dr):Prop where
 o:H A.d=some (.ins CD A.dx (A.fs (szV D.sz)))
 dd:∃xs,H A.dl=some (.lst xs)/\AE (Eb C c H) xs D.dd
 tb:∃tb,H A.tl=some (.dK (tbK tb))/\(∀p∈tb,p.2=f p.1)/\tb.length<=2000*D.dd.length
 nm:H A.nl=some (.lst (D.lp.map fun t=>V.str t.nm))
 lo:∃xs,H A.ll=some (.lst xs)/\AE (fun v t=>C3 H v (Al.lo t)) xs D.lp
 hi:∃xs,H A.hl=some (.lst xs)/\AE (fun v t=>C3 H v (Al.hi t)) xs D.lp
 pa:H A.pl=some (.lst ((D.pa++[D.la]).map V.int))
 nd:[A.dl,A.nl,A.ll,A.hl,A.pl].Nodup
 pl:D.pa.length=D.lp.length
def Out (A:Da)(H H':Hp):Prop := ∀b o,H b=some o->¬A.own b->H' b=some o
theorem Out.of {A:Da}{H H':Hp}(e:A8 H H'):Out A H H':=fun b o h _=>e b o h
theorem Out.trans {A:Da}{H H1 H2:Hp}(a:Out A H H1)(b:Out A H1 H2):Out A H H2:=fun c o h n=>b c o (a c o h n) n
theorem Out.put {A:Da}{H:Hp}{l:Addr}{u:HO}(h:A.own l):Out A H (upd H l u):=fun b o e n=>by
 rw[A7 (show b≠l from fun z=>n (by rw[z];exact h))]
 exact e
theorem DrAt.over {CD C:Addr}{c:Cs}{f:Str->Nat}{H H':Hp}{A:Da}{D:Dr}(e:A8 H H')(h:DrAt CD C c f H A D):DrAt CD C c f H' A D:=by
 obtain⟨xs,d1,d2⟩:=h.dd
 obtain⟨tb,t1,t2⟩:=h.tb
 obtain⟨ls,l1,l2⟩:=h.lo
 obtain⟨hs,h1,h2⟩:=h.hi
 exact⟨e _ _ h.o,⟨xs,e _ _ d1,d2.mono fun _ _ z=>z.over e⟩,⟨tb,e _ _ t1,t2⟩,e _ _ h.nm,⟨ls,e _ _ l1,l2.mono fun _ _ z=>z.tk (A8.tk e)⟩,⟨hs,e _ _ h1,h2.mono fun _ _ z=>z.tk (A8.tk e)⟩,e _ _ h.pa,h.nd,h.pl⟩
theorem DrAt.not_own {CD C:Addr}{c:Cs}{f:Str->Nat}{H:Hp}{A:Da}{D:Dr}(h:DrAt CD C c f H A D){b:Addr}{o:HO}(e:H b=some o)(ob:Ob o):¬A.own b:=by
 obtain⟨xs,d1,d2⟩:=h.dd
 obtain⟨tb,t1,t2⟩:=h.tb
 obtain⟨ls,l1,l2⟩:=h.lo
 obtain⟨hs,h1,h2⟩:=h.hi
 have key:∀{a:Addr} {u:HO},H a=some u->¬Ob u->b≠a:=fun{a u} ea nu z=>by
  rw[z,ea]at e
  exact nu (BQ e▸ob)
 rintro (z|z|z|z|z|z|z)
 .exact key h.o (fun z=>by have z:List.lookup _ _=none:=z;exact absurd z (by show ¬some _=none;exact fun y=>nomatch y)) z
 .exact key d1 (fun z=>z) z
 .exact key t1 (fun z=>z) z
 .exact key h.nm (fun z=>z) z
 .exact key l1 (fun z=>z) z
 .exact key h1 (fun z=>z) z
 .exact key h.pa (fun z=>z) z
theorem DrAt.kp {CD C:Addr}{c:Cs}{f:Str->Nat}{H H':Hp}{A:Da}{D:Dr}(h:DrAt CD C c f H A D)(e:Out A H H'):Kp H H':=fun b o hb ob=>e b o hb (h.not_own hb ob)
def DrAt.drn {CD C:Addr}{c:Cs}{f:Str->Nat}{H:Hp}{A:Da}{D:Dr}(h:DrAt CD C c f H A D):KS CD H A.d (D.lp.map (·.nm)):=⟨A.dx,_,A.nl,h.o,rfl,by rw[JY];exact h.nm⟩
def D0:Dr:=⟨none,[],[],[],0⟩
def spDrI (CD C:Addr)(c:Cs):Sp:=fun vs H Q _=>∃(x dx:Addr),vs=[.ref x]/\H x=some (.ins CD dx [])/\∀(H':Hp) (A:Da),A.d=x->(∀b o,H b=some o->b≠x->H' b=some o)->(∀b,A.own b->b≠x->H b=none)->(∀f,DrAt CD C c f H' A D0)->Q .non H'
def L7 (nm:List Str):Tk->Prop
 |.t (.v z)=>z∈nm
 |.t (.c _ sp)=>sp.all (knw nm)=true
 |_=>True
def spNamesK (CD:Addr)(c:Cs):Sp:=fun vs H Q _=>∃(d l:Addr) (nm:List Str) (xs:List V) (ks:List Tk),vs=[.ref d,.ref l]/\KS CD H d nm/\H l=some (.lst xs)/\AE (PtAt c H) xs ks/\(∀k∈ks,k.Ok)/\(∀k∈ks,L7 nm k)/\∀H',A8 H H'->Q (.bl true) H'
def Ki (f:Str->Nat):Tk->Prop
 |.t (.c z sp)=>f z=sp.length
 |_=>True
def spTabs (CD:Addr)(c:Cs):Sp:=fun vs H Q _=>∃(d l dx t:Addr) (fs:List (Str×V)) (xs:List V) (ks:List Tk) (f:Str->Nat) (tb:List (Str×Nat)),vs=[.ref d,.ref l]/\H d=some (.ins CD dx fs)/\fs.lookup (Str.ofString "tables")=some (.ref t)/\H t=some (.dK (tbK tb))/\(∀p∈tb,p.2=f p.1)/\tb.length+ks.length<=100000/\H l=some (.lst xs)/\AE (PtAt c H) xs ks/\(∀k∈ks,k.Ok)/\(∀k∈ks,Ki f k)/\
 ∀(H':Hp) (tb':List (Str×Nat)),(∀b o,H b=some o->b≠t->H' b=some o)->H' t=some (.dK (tbK tb'))->(∀p∈tb',p.2=f p.1)->tb'.length<=tb.length+ks.length->Q (.bl true) H'
theorem tb_val {tb:List (Str×Nat)}{f:Str->Nat}(h:∀p∈tb,p.2=f p.1){z:Str}{v:V}(e:Cy (tbK tb) (.inr z)=some v):v = .int (f z:Int):=by
 unfold Cy tbK at e
 cases hf:(tb.map fun p=>((.inr p.1:B5),V.int (p.2:Int))).find? (fun kv=>decide (kv.1=(.inr z:B5))) with
 |none=>rw[hf]at e;cases e
 |
  some q=>
  rw[hf]at e
  obtain⟨p,hp,e2⟩:=CF.mp (List.mem_of_find?_eq_some hf)
  have e3:q.1=(.inr z:B5):=by have:=List.find?_some hf;exact HY this
  subst e2
  have e4:p.1=z:=Sum.inr.inj e3
  have e5:V.int (p.2:Int)=v:=BQ e
  rw[←e5,h p hp,e4]
theorem tb_put {tb:List (Str×Nat)}{f:Str->Nat}(h:∀p∈tb,p.2=f p.1){z:Str}(e:Cy (tbK tb) (.inr z)=none):∃tb',EM (tbK tb) (.inr z) (.int (f z:Int))=tbK tb'/\(∀p∈tb',p.2=f p.1)/\tb'.length=tb.length+1:=by
 refine⟨tb++[(z,f z)],?_,fun p hp=>?_,by rw[Ap];rfl⟩
 .have hn:(tbK tb).find? (fun kv=>decide (kv.1=(.inr z:B5)))=none:=by
   unfold Cy at e
   cases hf:(tbK tb).find? (fun kv=>decide (kv.1=(.inr z:B5))) with
   |none=>rfl
   |some q=>rw[hf]at e;cases e
  have hany:(tbK tb).any (fun kv=>decide (kv.1=(.inr z:B5)))=false:=by
   rw[List.any_eq_false]
   exact List.find?_eq_none.mp hn
  unfold EM
  rw[hany]
  unfold tbK
  rw[AW]
  rfl
 .rcases BI.mp hp with hp|hp
  .exact h p hp
  .rw[Ce.mp hp]
theorem flat_strs (nm:List Str):(nm.map V.str).all E8=true:=by
 rw[G1]
 intro x hx
 obtain⟨z,_,rfl⟩:=CF.mp hx
 rfl
theorem in_strs (nm:List Str)(z:Str):CZ (.str z) (nm.map V.str)=decide (z∈nm):=by
 induction nm with
 |nil=>rfl
 |
  cons a l ih=>
  have e:CZ (.str z) ((a::l).map V.str)=(decide (a=z)||CZ (.str z) (l.map V.str)):=rfl
  rw[e,ih,←Bool.decide_or]
  exact decide_eq_decide.mpr (by rw[AH];exact⟨fun h=>h.elim (fun h=>.inl h.symm) .inr,fun h=>h.elim (fun h=>.inl h.symm) .inr⟩)
theorem put2 {H:Hp}{l x:Addr}{u v w:HO}(hl:H l=none)(hx:H x=some u):l≠x/\(upd (upd H l v) x w) l=some v/\∀b o,H b=some o->b≠x->(upd (upd H l v) x w) b=some o:=by
 have n:l≠x:=fun e=>by rw[e,hx]at hl;cases hl
 refine⟨n,by rw[A7 n];exact A5,fun b o e nb=>?_⟩
 rw[A7 nb,A7 (AG e hl)]
 exact e
def SW (D:Dr)(t:Al):Dr:=⟨D.sz,D.dd,D.lp++[t],D.pa++[D.la],0⟩
def VO (D:Dr)(tb:Str)(sp:List (Str×Int))(t:Tw):Dr:=⟨D.sz,D.dd++[⟨D.lp,tb,sp,t,D.pa++[D.la]⟩],D.lp,D.pa,D.la+1⟩
theorem cel_no {z:Str}{sp:List (Str×Int)}(ok:(Tk.t (.c z sp)).Ok){c:Nat}(hc:¬(97<=c/\c<=122)/\¬(48<=c/\c<=57)/\c≠43/\c≠45/\c≠91/\c≠93:=by omega):c∉cds (B3 z sp):=by
 obtain⟨hz,hne,_,hsp⟩:=ok
 have key:∀{l:List (List Nat)},(∀a∈l,c∉a)->c∉inner l:=fun{l} hl=>by
  induction l with
  |nil=>intro z;cases z
  |
   cons a l ih=>
   cases l with
   |nil=>exact hl a AR
   |
    cons b l=>
    intro z
    have z:c∈a++([93,91]++inner (b::l)):=z
    rcases BI.mp z with z|z
    .exact hl a AR z
    .rcases BI.mp z with z|z
     .simp only[AH,CG,or_false]at z
      omega
     .exact ih (fun x hx=>hl x (Bm _ hx)) z
 rw[cel_cds hne]
 intro z
 rcases BI.mp z with z|z
 .exact name_no hz hc.1 z
 .rcases AH.mp z with z|z
  .omega
  .rcases BI.mp z with z|z
   .refine key (fun a ha=>?_) z
    obtain⟨s,hs,rfl⟩:=CF.mp ha
    exact spot_free (hsp s hs) ⟨hc.1,hc.2.1,hc.2.2.1,hc.2.2.2.1⟩
   .have:=Ce.mp z
    omega
theorem map_cds_inj:∀{a b:List Str},a.map cds=b.map cds->a=b
 |[],[],_=>rfl
 |[],_::_,h=>nomatch h
 |_::_,[],h=>nomatch h
 |
  x::a,y::b,h=>by
  rw[C8,C8]at h
  injection h with h1 h2
  rw[DF h1,map_cds_inj h2]
theorem U9 (c:Nat)(l:List Nat):(stp c l).length<=l.length:=by
 unfold stp
 rw[JZ]
 have h1:=(List.dropWhile_sublist (· == c) (l:=(l.dropWhile (· == c)).reverse)).length_le
 have h2:=(List.dropWhile_sublist (· == c) (l:=l)).length_le
 rw[JZ]at h1
 omega
theorem bare_len (l:List Nat):(bare l).length<=l.length:=by
 unfold bare
 have h:=U9 32 (if 59∈l then Cc 59 l else l)
 split at h
 .unfold Cc at h ⊢
  rename_i hc
  rw[Af hc]
  rw[BA]at h
  omega
 .rename_i hc
  rw[A9 hc]
  exact h
theorem set_last (xs:List V)(v w:V):(xs++[v]).set xs.length w=xs++[w]:=by
 rw[List.set_append_right _ _ (Ai _),Ey]
 rfl
theorem ix_end (xs:List V)(v:V):DC (xs++[v]).length (-1)=some xs.length:=by
 rw[Ap]
 exact SK _
section
variable {CD C:Addr}{c:Cs}{f:Str->Nat}{H H':Hp}{A:Da}{D:Dr}
theorem DrAt.ne (h:DrAt CD C c f H A D):A.nl≠A.d/\A.ll≠A.d/\A.hl≠A.d/\A.pl≠A.d/\A.dl≠A.d/\A.tl≠A.d/\A.nl≠A.tl/\A.ll≠A.tl/\A.hl≠A.tl/\A.pl≠A.tl/\A.dl≠A.tl:=by
 obtain⟨xs,d1,d2⟩:=h.dd
 obtain⟨tb,t1,t2⟩:=h.tb
 obtain⟨ls,l1,l2⟩:=h.lo
 obtain⟨hs,h1,h2⟩:=h.hi
 exact⟨CL h.nm h.o (by intro z;cases z),CL l1 h.o (by intro z;cases z),CL h1 h.o (by intro z;cases z),CL h.pa h.o (by intro z;cases z),CL d1 h.o (by intro z;cases z),CL t1 h.o (by intro z;cases z),CL h.nm t1 (by intro z;cases z),CL l1 t1 (by intro z;cases z),CL h1 t1 (by intro z;cases z),CL h.pa t1 (by intro z;cases z),CL d1 t1 (by intro z;cases z)⟩
theorem DrAt.nds (h:DrAt CD C c f H A D):(A.dl≠A.nl/\A.dl≠A.ll/\A.dl≠A.hl/\A.dl≠A.pl)/\(A.nl≠A.ll/\A.nl≠A.hl/\A.nl≠A.pl)/\(A.ll≠A.hl/\A.ll≠A.pl)/\A.hl≠A.pl:=by
 have:=h.nd
 simp only[FY,AH,CG,or_false,not_or,List.nodup_nil,OM,and_true]at this
 exact this
theorem DrAt.size (h:DrAt CD C c f H A D)(n:Int):Out A H (upd H A.d (.ins CD A.dx (Aa "size" (.int n) (A.fs (szV D.sz)))))/\DrAt CD C c f (upd H A.d (.ins CD A.dx (Aa "size" (.int n) (A.fs (szV D.sz))))) A ⟨some n,D.dd,D.lp,D.pa,D.la⟩:=by
 have out:Out A H (upd H A.d (.ins CD A.dx (Aa "size" (.int n) (A.fs (szV D.sz))))):=Out.put (.inl rfl)
 have kp:=h.kp out
 obtain⟨n1,n2,n3,n4,n5,n6,_⟩:=h.ne
 obtain⟨xs,d1,d2⟩:=h.dd
 obtain⟨tb,t1,t2⟩:=h.tb
 obtain⟨ls,l1,l2⟩:=h.lo
 obtain⟨hs,h1,h2⟩:=h.hi
 exact⟨out,A5,⟨xs,by rw[A7 n5];exact d1,d2.mono fun _ _ z=>Hk kp z⟩,⟨tb,by rw[A7 n6];exact t1,t2⟩,by rw[A7 n1];exact h.nm,⟨ls,by rw[A7 n2];exact l1,l2.mono fun _ _ z=>z.tk kp.tk⟩,⟨hs,by rw[A7 n3];exact h1,h2.mono fun _ _ z=>z.tk kp.tk⟩,by rw[A7 n4];exact h.pa,h.nd,h.pl⟩
def four (H:Hp)(A:Da)(a b c d:List V):Hp:=upd (upd (upd (upd H A.nl (.lst a)) A.ll (.lst b)) A.hl (.lst c)) A.pl (.lst d)
theorem DrAt.four (h:DrAt CD C c f H A D){lp:List Al}{pa:List Int}{la:Int}{ls hs:List V}(hl:AE (fun v t=>C3 H v (Al.lo t)) ls lp)(hh:AE (fun v t=>C3 H v (Al.hi t)) hs lp)(pl:pa.length=lp.length) :
  Out A H (Rd.four H A (lp.map fun t=>V.str t.nm) ls hs ((pa++[la]).map V.int))/\DrAt CD C c f (Rd.four H A (lp.map fun t=>V.str t.nm) ls hs ((pa++[la]).map V.int)) A ⟨D.sz,D.dd,lp,pa,la⟩:=by
 have out:Out A H (Rd.four H A (lp.map fun t=>V.str t.nm) ls hs ((pa++[la]).map V.int)):=(((Out.put (.inr (.inr (.inr (.inl rfl))))).trans (Out.put (.inr (.inr (.inr (.inr (.inl rfl))))))).trans (Out.put (.inr (.inr (.inr (.inr (.inr (.inl rfl)))))))).trans (Out.put (.inr (.inr (.inr (.inr (.inr (.inr rfl)))))))
 have kp:=h.kp out
 obtain⟨n1,n2,n3,n4,n5,n6,m1,m2,m3,m4,m5⟩:=h.ne
 obtain⟨⟨a1,a2,a3,a4⟩,⟨b1,b2,b3⟩,⟨c1,c2⟩,e1⟩:=h.nds
 obtain⟨xs,d1,d2⟩:=h.dd
 obtain⟨tb,t1,t2⟩:=h.tb
 refine⟨out,?_,⟨xs,?_,d2.mono fun _ _ z=>Hk kp z⟩,⟨tb,?_,t2⟩,?_,⟨ls,?_,hl.mono fun _ _ z=>z.tk kp.tk⟩,⟨hs,?_,hh.mono fun _ _ z=>z.tk kp.tk⟩,A5,h.nd,pl⟩
 .unfold Rd.four;rw[A7 (Ne.symm n4),A7 (Ne.symm n3),A7 (Ne.symm n2),A7 (Ne.symm n1)];exact h.o
 .unfold Rd.four;rw[A7 a4,A7 a3,A7 a2,A7 a1];exact d1
 .unfold Rd.four;rw[A7 (Ne.symm m4),A7 (Ne.symm m3),A7 (Ne.symm m2),A7 (Ne.symm m1)];exact t1
 .unfold Rd.four;rw[A7 b3,A7 b2,A7 b1];exact A5
 .unfold Rd.four;rw[A7 c2,A7 c1];exact A5
 .unfold Rd.four;rw[A7 e1];exact A5
theorem DrAt.deed {H0:Hp}(h:DrAt CD C c f H0 A D){tb:List (Str×Nat)}{xs:List V}{x:V}{W:Dw}(o:H A.d=some (.ins CD A.dx (A.fs (szV D.sz))))(nm:H A.nl=some (.lst (D.lp.map fun t=>V.str t.nm))){ls hs:List V}(l1:H A.ll=some (.lst ls))(l2:AE (fun v t=>C3 H v (Al.lo t)) ls D.lp)(h1:H A.hl=some (.lst hs))(h2:AE (fun v t=>C3 H v (Al.hi t)) hs D.lp)(pa:H A.pl=some (.lst (D.pa.map V.int++[.int D.la])))
  (hd:H A.dl=some (.lst xs)) (pd:AE (Eb C c H) xs D.dd) (hx:Eb C c H x W) (ht:H A.tl=some (.dK (tbK tb))) (hf:∀p∈tb,p.2=f p.1) (hl:tb.length<=2000*(D.dd.length+1)) :
  Out A H (upd (upd H A.dl (.lst (xs++[x]))) A.pl (.lst (D.pa.map V.int++[.int (D.la+1)])))/\DrAt CD C c f (upd (upd H A.dl (.lst (xs++[x]))) A.pl (.lst (D.pa.map V.int++[.int (D.la+1)]))) A ⟨D.sz,D.dd++[W],D.lp,D.pa,D.la+1⟩:=by
 have out:Out A H (upd (upd H A.dl (.lst (xs++[x]))) A.pl (.lst (D.pa.map V.int++[.int (D.la+1)]))):=(Out.put (.inr (.inl rfl))).trans (Out.put (.inr (.inr (.inr (.inr (.inr (.inr rfl)))))))
 obtain⟨n1,n2,n3,n4,n5,n6,m1,m2,m3,m4,m5⟩:=h.ne
 obtain⟨⟨a1,a2,a3,a4⟩,⟨b1,b2,b3⟩,⟨c1,c2⟩,e1⟩:=h.nds
 have kp:Kp H (upd (upd H A.dl (.lst (xs++[x]))) A.pl (.lst (D.pa.map V.int++[.int (D.la+1)]))):=(Kp.lst hd).trans (Kp.lst ((A7 (Ne.symm a4)).trans pa))
 refine⟨out,?_,⟨xs++[x],?_,(pd.mono fun _ _ z=>Hk kp z).snoc (Hk kp hx)⟩,⟨tb,?_,hf,by rw[Ap];exact hl⟩,?_,⟨ls,?_,l2.mono fun _ _ z=>z.tk kp.tk⟩,⟨hs,?_,h2.mono fun _ _ z=>z.tk kp.tk⟩,?_,h.nd,h.pl⟩
 .rw[A7 (Ne.symm n4),A7 (Ne.symm n5)];exact o
 .rw[A7 a4];exact A5
 .rw[A7 (Ne.symm m4),A7 (Ne.symm m5)];exact ht
 .rw[A7 b3,A7 (Ne.symm a1)];exact nm
 .rw[A7 c2,A7 (Ne.symm a2)];exact l1
 .rw[A7 e1,A7 (Ne.symm a3)];exact h1
 .rw[A5]
  show _=some (HO.lst ((D.pa++[D.la+1]).map V.int))
  rw[AW]
  rfl
theorem DrAt.tabs (h:DrAt CD C c f H A D)(e:∀b o,H b=some o->b≠A.tl->H' b=some o):Kp H H'/\Out A H H'/\H' A.d=some (.ins CD A.dx (A.fs (szV D.sz)))/\(∃xs,H' A.dl=some (.lst xs)/\AE (Eb C c H') xs D.dd)/\H' A.nl=some (.lst (D.lp.map fun t=>V.str t.nm))/\(∃xs,H' A.ll=some (.lst xs)/\AE (fun v t=>C3 H' v (Al.lo t)) xs D.lp)/\(∃xs,H' A.hl=some (.lst xs)/\AE (fun v t=>C3 H' v (Al.hi t)) xs D.lp)/\H' A.pl=some (.lst ((D.pa++[D.la]).map V.int)):=by
 have out:Out A H H':=fun b o hb n=>e b o hb (fun z=>n (.inr (.inr (.inl z))))
 have kp:=h.kp out
 obtain⟨n1,n2,n3,n4,n5,n6,m1,m2,m3,m4,m5⟩:=h.ne
 obtain⟨xs,d1,d2⟩:=h.dd
 obtain⟨ls,l1,l2⟩:=h.lo
 obtain⟨hs,h1,h2⟩:=h.hi
 exact⟨kp,out,e _ _ h.o (Ne.symm n6),⟨xs,e _ _ d1 m5,d2.mono fun _ _ z=>Hk kp z⟩,e _ _ h.nm m1,⟨ls,e _ _ l1 m2,l2.mono fun _ _ z=>z.tk kp.tk⟩,⟨hs,e _ _ h1 m3,h2.mono fun _ _ z=>z.tk kp.tk⟩,e _ _ h.pa m4⟩
end
set_option genInjectivity true in
inductive Rk where
 |sz (n:Int)
 |opn (t:Al)
 |fin
 |ded (tb:Str) (sp:List (Str×Int)) (ks:List Tk) (t:Tw)
def EN (f:Str->Nat)(D D':Dr):Rk->Prop
 |.sz n=>D.sz=none/\2<=n/\n<=999999999999999999/\D'=⟨some n,D.dd,D.lp,D.pa,D.la⟩
 |.opn t=>D.sz≠none/\D.lp.length<3/\Bg (cds t.nm)/\t.nm∉D.lp.map (·.nm)/\SpN t.lo/\SpN t.hi/\knw (D.lp.map (·.nm)) t.lo=true/\knw (D.lp.map (·.nm)) t.hi=true/\D'=SW D t
 |.fin=>D.sz≠none/\∃(lp:List Al) (t:Al) (pa:List Int) (m:Int),D.lp=lp++[t]/\D.pa=pa++[m]/\D.la≠0/\D'=⟨D.sz,D.dd,lp,pa,m+1⟩
 |.ded tb sp ks t=>D.sz≠none/\D.dd.length<6/\(Tk.t (.c tb sp)).Ok/\(∀k∈ks,k.Ok)/\Dj ks/\ks.length<=999/\(∃T S,run ks ⟨[],[],true⟩=some ⟨T,S,false⟩/\jw 1 S T=([t],[]))/\(∀k∈Tk.t (.c tb sp)::ks,L7 (D.lp.map (·.nm)) k)/\(∀k∈Tk.t (.c tb sp)::ks,Ki f k)/\D'=VO D tb sp t
def dedT (tb:Str)(sp:List (Str×Int))(ks:List Tk):List Nat:=cds (B3 tb sp)++61::txts ks
def spSizeT (CD C:Addr)(c:Cs):Sp:=fun vs H Q _=>∃(f:Str->Nat) (A:Da) (D D':Dr) (w:Addr) (n:Int),vs=[.ref A.d,.ref w]/\DrAt CD C c f H A D/\H w=some (.lst [.str "size",.str (nS n)])/\EN f D D' (.sz n)/\∀H',Out A H H'->DrAt CD C c f H' A D'->Q (.bl true) H'
def spLoopT (CD C:Addr)(c:Cs):Sp:=fun vs H Q _=>∃(f:Str->Nat) (A:Da) (D D':Dr) (w:Addr) (t:Al),vs=[.ref A.d,.ref w]/\DrAt CD C c f H A D/\H w=some (.lst [.str "for",.str t.nm,.str (AU t.lo),.str (AU t.hi)])/\EN f D D' (.opn t)/\∀H',Out A H H'->DrAt CD C c f H' A D'->Q (.bl true) H'
def spEndT (CD C:Addr)(c:Cs):Sp:=fun vs H Q _=>∃(f:Str->Nat) (A:Da) (D D':Dr) (w:Addr),vs=[.ref A.d,.ref w]/\DrAt CD C c f H A D/\H w=some (.lst [.str "end"])/\EN f D D' .fin/\∀H',Out A H H'->DrAt CD C c f H' A D'->Q (.bl true) H'
def spDeedT (CD C:Addr)(c:Cs):Sp:=fun vs H Q _=>∃(f:Str->Nat) (A:Da) (D D':Dr) (z:Str) (tb:Str) (sp:List (Str×Int)) (ks:List Tk) (t:Tw),vs=[.ref A.d,.str z]/\DrAt CD C c f H A D/\cds z=dedT tb sp ks/\z.length<=100000/\EN f D D' (.ded tb sp ks t)/\∀H',Out A H H'->DrAt CD C c f H' A D'->Q (.bl true) H'
def Wds (l:List Nat)(ws:List Str):Prop := ∃ps:List Str,IsSplit [32] l (ps.map cds)/\ps.filter (fun y:Str=>decide (y≠Str.ofString ""))=ws
theorem Wds.at {l:List Nat}{ws ps:List Str}(h:Wds l ws)(s:IsSplit [32] l (ps.map cds)):ps.filter (fun y:Str=>decide (y≠Str.ofString ""))=ws:=by
 obtain⟨p0,s0,e⟩:=h
 have:ps=p0:=map_cds_inj (s.fn s0)
 rw[this]
 exact e
def FE (l:List Nat):Rk->Prop
 |.sz n=>Wds l ["size",nS n]
 |.opn t=>Wds l ["for",t.nm,AU t.lo,AU t.hi]
 |.fin=>Wds l ["end"]
 |.ded tb sp ks _=>(∃w ws,Wds l (w::ws)/\w≠"for"/\w≠"end"/\w≠"size")/\l.filter (·≠32)=dedT tb sp ks
def spTaken (CD C:Addr)(c:Cs):Sp:=fun vs H Q _=>∃(f:Str->Nat) (A:Da) (D D':Dr) (z:Str) (r:Rk),vs=[.ref A.d,.str z]/\DrAt CD C c f H A D/\z.length<=100000/\FE (cds z) r/\EN f D D' r/\∀H',Out A H H'->DrAt CD C c f H' A D'->Q (.bl true) H'
inductive Rds (f:Str->Nat):List Str->Dr->Dr->Prop
 |nil {D}:Rds f [] D D
 |no {z zs D E}:bare (cds z)=[]->Rds f zs D E->Rds f (z::zs) D E
 |row {z zs D D' E r}:bare (cds z)≠[]->FE (bare (cds z)) r->EN f D D' r->Rds f zs D' E->Rds f (z::zs) D E
theorem Rds.six {f:Str->Nat}{zs:List Str}{D E:Dr}(h:Rds f zs D E):D.dd.length<=6->E.dd.length<=6:=by
 induction h with
 |nil=>exact id
 |no _ _ ih=>exact ih
 |
  @row z zs D D' E r _ _ hs _ ih=>
  intro h6
  refine ih ?_
  cases r with
  |sz n=>obtain⟨_,_,_,rfl⟩:=hs;exact h6
  |opn t=>obtain⟨_,_,_,_,_,_,_,_,rfl⟩:=hs;exact h6
  |fin=>obtain⟨_,_,_,_,_,_,_,_,rfl⟩:=hs;exact h6
  |
   ded tb sp ks t=>
   obtain⟨_,h,_,_,_,_,_,_,_,rfl⟩:=hs
   show(D.dd++[_]).length<=6
   rw[Ap,Bk]
   omega
end Rd
namespace Rd
open PySem L2
def tf (ns:List Str)(z:Str):Nat:=(ns.idxOf z+1)/2
structure Lk (nms ns:List Str)(k:Tk):Prop where
 ok:k.Ok
 kn:L7 nms k
 tb:Ki (tf ns) k
def Ex.txt:Ex->Str
 |.lf t=>(Tk.t t).txt
 |.br e=>"("++e.txt++")"
 |.jn c l r=>l.txt++sg c++r.txt
theorem Ot (a b:List Tk):txts (a++b)=txts a++txts b:=by
 unfold txts
 rw[AW,List.flatten_append]
theorem Nd (k:Tk):txts [k]=cds k.txt:=by rw[txts_cons];exact DU _
theorem Ex.txt_tk:∀e:Ex,cds e.txt=txts e.tk
 |.lf t=>(Nd _).symm
 |
  .br e=>by
  show cds ("("++e.txt++")")=txts (.s 40::(e.tk++[.s 41]))
  rw[B4,B4,Ex.txt_tk e,txts_cons,Ot,Nd]
  have e1:cds ("(":Str)=[40]:=by decide +kernel
  have e2:cds (")":Str)=[41]:=by decide +kernel
  rw[e1,e2,CQ]
  rfl
 |
  .jn c l r=>by
  show cds (l.txt++sg c++r.txt)=txts (l.tk ++ .s c::r.tk)
  rw[B4,B4,Ex.txt_tk l,Ex.txt_tk r,Ot,txts_cons,CQ]
  rfl
def Ex.lv:Ex->Nat
 |.lf _=>1
 |.br e=>e.lv
 |.jn _ l r=>l.lv+r.lv
structure EH (nms ns:List Str)(e:Ex):Prop where
 ok:e.Ok
 lk:∀k∈e.tk,Lk nms ns k
 ln:e.tk.length+5<=8*e.lv
theorem TR {c:Nat}{b:List Tk}(k:Tk)(h:Dj b):Dj (k :: .s c::b):=by
 cases k<;>exact h
theorem L8 {c:Nat}{b:List Tk}(hb:Dj b):∀{a:List Tk},Dj a->Dj (a ++ .s c::b)
 |[],_=>hb
 |[k],_=>TR k hb
 |
  k::k2::a,h=>by
  have ih:=L8 (c:=c) hb (Mt h)
  cases k with
  |s d=>exact ih
  |
   t w=>
   cases k2 with
   |s d=>exact ih
   |t w2=>exact h.elim
theorem Ex.adj:∀e:Ex,Dj e.tk
 |.lf t=>True.intro
 |.br e=>L8 (b:=[]) (show Dj [] from True.intro) (Ex.adj e)
 |.jn c l r=>L8 (Ex.adj r) (Ex.adj l)
theorem Tk.len {k:Tk}(ok:k.Ok):(cds k.txt).length<=150:=by
 cases k with
 |s c=>show 1<=150;decide
 |
  t w=>
  cases w with
  |n i=>have:=(nS_good ok.1 ok.2).1.2.1;exact Bz this (by decide)
  |v z=>exact Bz ok.2.1 (by decide)
  |
   c z sp=>
   have h1:=ok.1.2.1
   rw[cds_len]at h1
   have:=Gz (z:=z) (sp:=sp) (by omega) ok.2.2.1 fun s hs=>(ok.2.2.2 s hs).2
   rw[cds_len]
   exact Bz this (by decide)
  |j _ _ _=>exact ok.elim
theorem Od:∀{ks:List Tk},(∀k∈ks,k.Ok)->(txts ks).length<=150*ks.length
 |[],_=>Ai _
 |
  k::ks,h=>by
  have h1:=Tk.len (h k AR)
  have h2:=Od (ks:=ks) fun x hx=>h x (Bm _ hx)
  rw[txts_cons,Ap,AO]
  omega
theorem EH.len {nms ns:List Str}{e:Ex}(h:EH nms ns e):e.txt.length<=1200*e.lv:=by
 have:=Od (ks:=e.tk) fun k hk=>(h.lk k hk).ok
 rw[←Ex.txt_tk,cds_len]at this
 have:=h.ln
 omega
def KnAt (H:Hp)(l:Addr)(nms:List Str):Prop:=H l=some (.lst ((("":Str)::nms).map V.str))/\nms.length<=3/\∀z∈nms,Bg (cds z)
def Es (H:Hp)(l:Addr)(ns:List Str):Prop:=H l=some (.lst (ns.map V.str))/\ns.length=8/\ns.Nodup/\∀z∈ns,Bg (cds z)
theorem KnAt.over {H H':Hp}{l:Addr}{nms:List Str}(e:A8 H H')(h:KnAt H l nms):KnAt H' l nms:=⟨e _ _ h.1,h.2⟩
theorem Es.over {H H':Hp}{l:Addr}{ns:List Str}(e:A8 H H')(h:Es H l ns):Es H' l ns:=⟨e _ _ h.1,h.2⟩
theorem strs_at {zs:List Str}{i:Int}(h0:0<=i)(h1:i<(zs.length:Int)):∃z:Str,BH (zs.map V.str) i=some (.str z)/\zs[i.toNat]?=some z:=by
 obtain⟨k,rfl⟩:∃k:Nat,i=(k:Int):=⟨i.toNat,by omega⟩
 have hk:k<zs.length:=by omega
 exact⟨zs[k],Ge (by rw[CO,BX hk];rfl),by rw[HN];exact BX hk⟩
theorem idx_nodup {ns:List Str}{j:Nat}{z:Str}(nd:ns.Nodup)(h:ns[j]?=some z):ns.idxOf z=j:=by
 obtain⟨hj,e⟩:=BJ.mp h
 rw[←e]
 exact List.Nodup.idxOf_getElem nd j hj
theorem spn_of {nms:List Str}{z:Str}{n:Int}(h:∀z∈nms,Bg (cds z))(hz:z∈("":Str)::nms)(n0 : -999999999999999999<=n)(n1:n<=999999999999999999):SpN (z,n)/\knw nms (z,n)=true:=by
 rcases AH.mp hz with rfl|hz
 .exact⟨⟨.inl rfl,(by show(Str.ofString "").length<=20;decide +kernel),n0,n1⟩,rfl⟩
 .have hk:=h z hz
  refine⟨⟨.inr hk,?_,n0,n1⟩,?_⟩
  .have:=hk.2.1
   rw[cds_len]at this
   exact Bz this (by decide)
  .unfold knw
   rw[B7 hz,LQ]
theorem mem_behind {nms:List Str}{z:Str}{i:Int}(h:1<=i)(e:(("":Str)::nms)[i.toNat]?=some z):z∈nms:=by
 obtain⟨k,rfl⟩:∃k:Nat,i=((k+1:Nat):Int):=⟨i.toNat-1,by omega⟩
 rw[HN,List.getElem?_cons_succ]at e
 exact CC e
theorem MH (x:Int):97<=Du x/\Du x<=122:=by
 unfold Du
 have h0:=BY x (show(26:Int)≠0 by decide)
 have h1:=Cd x (show(0:Int)<26 by decide)
 omega
theorem nameW_abc (xs:List Int):∀c∈EK xs,97<=c/\c<=122:=fun c hc=>by
 unfold EK at hc
 obtain⟨x,_,rfl⟩:=CF.mp hc
 exact MH x
theorem Tp {xs:List Int}{w:List Nat}(wl:w.length=8)(wb:∀c∈w,97<=c/\c<=122)(k:Int):1<=(Br xs w k).length/\(Br xs w k).length<=8/\∀c∈Br xs w k,97<=c/\c<=122:=by
 obtain⟨lb0,lb1⟩:=Hc xs
 obtain⟨ab0,ab1⟩:=IP xs
 unfold Br
 split
 .unfold Gg
  have b0:=BY (C6 xs+3*k) (show(8:Int)≠0 by decide)
  have b1:=Cd (C6 xs+3*k) (show(0:Int)<8 by decide)
  rw[BA,wl]
  exact⟨by omega,by omega,fun c hc=>wb c (Fn hc)⟩
 .unfold FD
  rw[Ap,Ap,Bk,BA,BA,Cr,wl]
  refine⟨by omega,by omega,fun c hc=>?_⟩
  rcases BI.mp hc with hc|hc
  .rcases BI.mp hc with hc|hc
   .exact wb c (Fn hc)
   .rw[Ce.mp hc];exact MH _
  .exact wb c (GN (Fn hc))
theorem nameC_ok {xs:List Int}{w:List Nat}(wl:w.length=8)(wb:∀c∈w,97<=c/\c<=122)(k:Int):Bg (D7 xs w k):=by
 obtain⟨h1,h2,h3⟩:=Tp (xs:=xs) wl wb k
 unfold D7
 split
 .rename_i h
  have:∀r∈Dg,Bg ([122,122]++r):=by decide +kernel
  exact this _ h
 .rename_i h
  exact⟨h1,h2,fun c hc=>(GZ c).mpr (h3 c hc),h⟩
def spNames23:Sp:=fun vs H Q _=>∃(c:Int),vs=[.int c,.int 8]/\∀(l:Addr) (H':Hp) (ns:List Str),A8 H H'->Es H' l ns->Q (.ref l) H'
def spSpot23:Sp:=fun vs H Q _=>∃(x y:Int) (kl:Addr) (nms:List Str),vs=[.int x,.int y,.ref kl]/\0<=x/\x<2147483647/\0<=y/\y<2147483647/\KnAt H kl nms/\∀(r:V) (H':Hp) (s:Str×Int),A8 H H'->C3 H' r s->SpN s->knw nms s=true->Q r H'
def spCell23:Sp:=fun vs H Q _=>∃(rx kl nl:Addr) (xs:List Int) (nms ns:List Str),vs=[.ref rx,.ref kl,.ref nl]/\H rx=some (.lst (xs.map V.int))/\xs.length=5/\(∀x∈xs,0<=x/\x<2147483647)/\KnAt H kl nms/\Es H nl ns/\∀(r p:Addr) (H':Hp) (z:Str) (sp:List (Str×Int)),A8 H H'->H' r=some (.tup [.str z,.ref p,.str (B3 z sp)])->EF H' p sp->Lk nms ns (.t (.c z sp))->Q (.ref r) H'
def spLeaf23:Sp:=fun vs H Q _=>∃(c:Int) (kl nl:Addr) (nms ns:List Str),vs=[.int c,.ref kl,.ref nl]/\KnAt H kl nms/\Es H nl ns/\∀(x:V) (H':Hp) (t:Tw),A8 H H'->(∃p y,x = .ref p/\H' p=some (.tup [.str (Tk.t t).txt,.int 3,y])/\E2 H' t y)->Lk nms ns (.t t)->Q x H'
def VE (n:Nat)(l l':List Nat):Prop:=l'=l\/∃k,n<=k/\k<=l.length/\l'=l.take k++32::l.drop k
section
variable {H H':Hp}{nms ns:List Str}{xs:List V}{es:List Ex}{N:Nat}
end
theorem QT {nms ns:List Str}{ch:Nat}{l r l' r':Ex}(hc:ch=43\/ch=45\/ch=42)(okl:EH nms ns l)(okr:EH nms ns r)(hl:(l'=l/\st ch<=l.hd)\/l' = .br l)(hr:(r'=r/\st ch<r.hd)\/r' = .br r):EH nms ns (.jn ch l' r')/\(Ex.jn ch l' r').lv=l.lv+r.lv:=by
 have s3:st ch<3:=by rcases hc with rfl|rfl|rfl<;>decide
 have sgk:∀c,c∈sg5->Lk nms ns (.s c):=fun c hc=>⟨hc,True.intro,True.intro⟩
 have brk:∀{e:Ex},EH nms ns e->(∀k∈(Ex.br e).tk,Lk nms ns k):=fun{e} h k hk=>by
  have hk:k∈Tk.s 40::(e.tk++[.s 41]):=hk
  rcases AH.mp hk with rfl|hk
  .exact sgk 40 (by decide)
  .rcases BI.mp hk with hk|hk
   .exact h.lk k hk
   .rw[Ce.mp hk];exact sgk 41 (by decide)
 have brl:∀e:Ex,(Ex.br e).tk.length=e.tk.length+2:=fun e=>by
  show(Tk.s 40::(e.tk++[.s 41])).length=_
  rw[AO,Ap]
  rfl
 have key:∀{e e':Ex},EH nms ns e->(e'=e\/e' = .br e)->e'.Ok/\(∀k∈e'.tk,Lk nms ns k)/\e'.tk.length<=e.tk.length+2/\e'.lv=e.lv:=fun{e e'} h he=>by
  rcases he with rfl|rfl
  .exact⟨h.ok,h.lk,OF _ _,rfl⟩
  .exact⟨h.ok,brk h,Nat.le_of_eq (brl e),rfl⟩
 obtain⟨a1,a2,a3,a4⟩:=key okl (hl.imp And.left id)
 obtain⟨b1,b2,b3,b4⟩:=key okr (hr.imp And.left id)
 have hL:st ch<=l'.hd:=by rcases hl with⟨rfl,h⟩|rfl;exact h;exact FV s3
 have hR:st ch<r'.hd:=by rcases hr with⟨rfl,h⟩|rfl;exact h;exact s3
 have lvE:(Ex.jn ch l' r').lv=l.lv+r.lv:=by show l'.lv+r'.lv=_;rw[a4,b4]
 refine⟨⟨⟨hc,a1,b1,hL,hR⟩,fun k hk=>?_,?_⟩,lvE⟩
 .have hk:k∈l'.tk ++ .s ch::r'.tk:=hk
  rcases BI.mp hk with hk|hk
  .exact a2 k hk
  .rcases AH.mp hk with rfl|hk
   .exact sgk ch (by rcases hc with rfl|rfl|rfl<;>decide)
   .exact b2 k hk
 .have h1:=okl.ln
  have h2:=okr.ln
  rw[lvE]
  show(l'.tk ++ .s ch::r'.tk).length+5<=_
  rw[Ap,AO]
  omega
theorem MJ:∀{rows:List Str},rows≠[]->(∀z∈rows,10∉cds z)->IsSplit [10] (cds (Txt.join "\n" rows)) (rows.map cds)
 |[],h,_=>absurd rfl h
 |
  [z],_,h=>by
  rw[MP]
  show IsSplit [10] (cds z++[]) [cds z]
  rw[DU]
  exact .one' (h z AR)
 |
  z::z2::rows,_,h=>by
  have ih:=MJ (rows:=z2::rows) (D2 _ _) fun y hy=>h y (Bm _ hy)
  rw[MP]at ih ⊢
  have e:cds ("\n":Str)=[10]:=by decide +kernel
  rw[C8,OD,e,CQ]
  exact .cut' (h z AR) (by rw[e]at ih;exact ih)
theorem Mm:∀l:List Nat,∃ps:List (List Nat),IsSplit [32] l (l.takeWhile (· != 32)::ps)
 |[]=>⟨[],.one' (fun h=>nomatch h)⟩
 |
  c::l=>by
  obtain⟨ps,h⟩:=Mm l
  by_cases hc:c=32
  .subst hc
   exact⟨_,.cut' (p:=[]) (fun h=>nomatch h) h⟩
  .rw[HV,Af (Ez.mpr hc)]
   generalize hp:l.takeWhile (· != 32)::ps=qs at h
   have n32:32∉l.takeWhile (· != 32):=fun z=>by
    have:=G1.mp (List.all_takeWhile (p:=(· != 32)) (l:=l)) 32 z
    exact absurd rfl (Ez.mp this)
   cases h with
   |
    one _=>
    injection hp with e1 e2
    subst e2
    rw[e1]at n32 ⊢
    exact⟨[],.one' (fun z=>(AH.mp z).elim (fun y=>hc y.symm) n32)⟩
   |
    cut hf ht=>
    injection hp with e1 e2
    subst e2
    rw[e1]at n32 ⊢
    exact⟨_,.cut' (p:=c::_) (fun z=>(AH.mp z).elim (fun y=>hc y.symm) n32) ht⟩
theorem Rl {l:List Nat}{c:Nat}{r:List Nat}(e:l=c::r)(hc:c≠32):∃ws,Wds l (Ax (l.takeWhile (· != 32))::ws):=by
 obtain⟨ps,h⟩:=Mm l
 have e1:l.takeWhile (· != 32)≠[]:=by rw[e,HV,Af (Ez.mpr hc)];exact D2 _ _
 refine⟨(ps.map Ax).filter (fun y:Str=>decide (y≠Str.ofString "")),(Ax (l.takeWhile (· != 32)))::ps.map Ax,?_,?_⟩
 .have:((Ax (l.takeWhile (· != 32)))::ps.map Ax).map cds=l.takeWhile (· != 32)::ps:=by
   rw[C8,JY,Ba]
   congr 1
   exact(List.map_congr_left fun x _=>Ba x).trans (List.map_id _)
  rw[this]
  exact h
 .have hne:Ax (l.takeWhile (· != 32))≠Str.ofString "":=fun z=>e1 (by have z:=congrArg cds z;rw[Ba]at z;exact z)
  rw[F2,Af (B7 hne)]
theorem U2 (l:List Nat):(l.dropWhile (· == 32)).filter (· != 32)=l.filter (· != 32):=by
 induction l with
 |nil=>rfl
 |
  cons c l ih=>
  rw[GP]
  split
  .rename_i h
   rw[ih,F2,A9]
   simpa using h
  .rfl
theorem Pl {c:Nat}{x r:List Nat}(hc:c≠32)(hx:32∉x)(hn:r.filter (· != 32)≠[]):∃r',stp 32 (c::x++r)=c::x++r'/\r'.filter (· != 32)=r.filter (· != 32):=by
 have h1:(c::x++r).dropWhile (· == 32)=c::x++r:=by
  rw[F1,GP,A9]
  simpa using hc
 have h2:(c::x++r).reverse.dropWhile (· == 32)=r.reverse.dropWhile (· == 32)++(c::x).reverse:=by
  rw[OG]
  have key:∀{a b:List Nat},a.filter (· != 32)≠[]->(a++b).dropWhile (· == 32)=a.dropWhile (· == 32)++b:=fun{a b} h=>by
   induction a with
   |nil=>exact absurd rfl h
   |
    cons d a ih=>
    rw[F1,GP,GP]
    split
    .rename_i hd
     refine ih ?_
     rw[F2,A9 (by simpa using hd)]at h
     exact h
    .rfl
  refine key ?_
  rw[OH]
  simpa using hn
 refine⟨(r.reverse.dropWhile (· == 32)).reverse,?_,?_⟩
 .unfold stp
  rw[h1,h2,OG,LN]
 .rw[OH,U2,OH,LN]
theorem Sl (l:List Nat):l.filter (fun c=>decide (c≠32))=l.filter (· != 32):=by
 congr 1
 funext c
 by_cases h:c=32
 .rw[h];rfl
 .rw[B7 h]
  exact(Ez.mpr h).symm
theorem Nv {l:List Nat}(h:32∉l):l.filter (· != 32)=l:=OC.mpr fun c hc=>Ez.mpr fun z=>h (z▸hc)
theorem MO {l:List Nat}(h:59∉l):bare l=stp 32 l:=by unfold bare;rw[A9 h]
def Hw (tb:Str)(sp:List (Str×Int))(ks:List Tk)(l:List Nat):Prop := ∃r,l=cds tb++r/\r.filter (· != 32)=91::(inner (sp.map fun s=>cds (AU s))++[93])++61::txts ks/\10∉r/\59∉r
theorem TM {tb:Str}{sp:List (Str×Int)}{ks:List Tk}{l:List Nat}(ok:(Tk.t (.c tb sp)).Ok)(h:Hw tb sp ks l)(t:Tw):bare l≠[]/\FE (bare l) (.ded tb sp ks t)/\10∉l:=by
 obtain⟨r,rfl,hf,h10,h59⟩:=h
 have hz:=ok.1
 have n59:59∉cds tb++r:=fun z=>(BI.mp z).elim (name_no hz (by omega)) h59
 have n10:10∉cds tb++r:=fun z=>(BI.mp z).elim (name_no hz (by omega)) h10
 have n32:32∉cds tb:=name_no hz (by omega)
 obtain⟨c,x,ex⟩:∃c x,cds tb=c::x:=by
  cases e:cds tb with
  |nil=>have:=hz.1;rw[e]at this;exact absurd this (by decide)
  |cons c x=>exact⟨c,x,rfl⟩
 have hc:c≠32:=fun z=>n32 (by rw[ex,z];exact AR)
 have hx:32∉x:=fun z=>n32 (by rw[ex];exact Bm _ z)
 obtain⟨r',e1,e2⟩:=Pl (r:=r) hc hx (by rw[hf];exact D2 _ _)
 rw[←ex]at e1
 have hb:bare (cds tb++r)=cds tb++r':=(MO n59).trans e1
 rw[hb]
 refine⟨by rw[ex];exact D2 _ _,⟨?_,?_⟩,n10⟩
 .obtain⟨ws,hw⟩:=Rl (l:=cds tb++r') (by rw[ex];rfl) hc
  have key:∀{a b:List Nat},32∉a->(a++b).takeWhile (· != 32)=a++b.takeWhile (· != 32):=fun{a b} h=>by
   induction a with
   |nil=>rfl
   |
    cons d a ih=>
    rw[F1,HV,Af (Ez.mpr (show d≠32 from fun z=>h (by rw[z];exact AR))),ih fun z=>h (Bm _ z)]
    rfl
  rw[key n32]at hw
  have hres:cds tb++r'.takeWhile (· != 32)∉Dg:=by
   cases r' with
   |nil=>rw[hf]at e2;exact absurd e2 (by intro z;cases z)
   |
    cons d r''=>
    by_cases hd:d=32
    .rw[HV,A9 (by simpa using hd),DU]
     exact hz.2.2.2
    .rw[F2,Af (Ez.mpr hd),hf]at e2
     injection e2 with e3 _
     intro z
     have m91:(91:Nat)∈cds tb++(d::r'').takeWhile (· != 32):=by
      rw[HV,Af (Ez.mpr hd),e3]
      exact Cp _ AR
     generalize cds tb++(d::r'').takeWhile (· != 32)=u at z m91
     unfold Dg at z
     simp only[AH,CG,or_false]at z
     rcases z with rfl|rfl|rfl
     .exact absurd m91 (by decide +kernel)
     .exact absurd m91 (by decide +kernel)
     .exact absurd m91 (by decide +kernel)
  have nr:∀u:Str,cds u∈Dg->Ax (cds tb++r'.takeWhile (· != 32))≠u:=fun u hu z=>by
   have z:=congrArg cds z
   rw[Ba]at z
   exact hres (z▸hu)
  exact⟨_,ws,hw,nr "for" (by decide +kernel),nr "end" (by decide +kernel),nr "size" (by decide +kernel)⟩
 .rw[Sl,G4,Nv n32,e2,hf]
  unfold dedT
  rw[cel_cds ok.2.1,CQ]
theorem SU {l:List Nat}{c d:Nat}{r s:List Nat}(e1:l=c::r)(e2:l=s++[d])(hc:c≠32)(hd:d≠32):stp 32 l=l:=by
 unfold stp
 have h1:l.dropWhile (· == 32)=l:=by rw[e1,GP,A9 (by simpa using hc)]
 have h2:l.reverse.dropWhile (· == 32)=l.reverse:=by rw[e2,OG,List.reverse_singleton,List.singleton_append,GP,A9 (by simpa using hd)]
 rw[h1,h2,LN]
theorem Q9 {l:List Nat}(h:l≠[])(n:32∉l):∃s d,l=s++[d]/\d≠32:=by
 refine⟨l.dropLast,l.getLast h,(VS h).symm,fun z=>n ?_⟩
 rw[←z]
 exact List.getLast_mem h
def wj:List (List Nat)->List Nat
 |[]=>[]
 |[a]=>a
 |a::b::l=>a++([32]++wj (b::l))
theorem Lw:∀{ws:List (List Nat)},ws≠[]->(∀w∈ws,32∉w)->IsSplit [32] (wj ws) ws
 |[],h,_=>absurd rfl h
 |[a],_,h=>.one' (h a AR)
 |a::b::l,_,h=>.cut' (h a AR) (Lw (D2 _ _) fun w hw=>h w (Bm _ hw))
theorem HC {c:Nat}(hc:c≠32):∀{ws:List (List Nat)},(∀w∈ws,c∉w)->c∉wj ws
 |[],_=>fun z=>nomatch z
 |[a],h=>h a AR
 |
  a::b::l,h=>fun z=>by
  have z:c∈a++([32]++wj (b::l)):=z
  rcases BI.mp z with z|z
  .exact h a AR z
  .rcases BI.mp z with z|z
   .exact hc (Ce.mp z)
   .exact HC hc (ws:=b::l) (fun w hw=>h w (Bm _ hw)) z
theorem Np:∀{ws:List (List Nat)},ws≠[]->(∀w∈ws,32∉w/\w≠[])->∃s d,wj ws=s++[d]/\d≠32
 |[],h,_=>absurd rfl h
 |[a],_,h=>Q9 (h a AR).2 (h a AR).1
 |
  a::b::l,_,h=>by
  obtain⟨s,d,e,hd⟩:=Np (ws:=b::l) (D2 _ _) fun w hw=>h w (Bm _ hw)
  refine⟨a++([32]++s),d,?_,hd⟩
  show a++([32]++wj (b::l))=_
  rw[e]
  simp
theorem TQ:∀{ws:List (List Nat)},ws≠[]->(∀w∈ws,32∉w/\w≠[])->∃c r,wj ws=c::r/\c≠32
 |[],h,_=>absurd rfl h
 |
  a::l,_,h=>by
  obtain⟨h1,h2⟩:=h a AR
  cases a with
  |nil=>exact absurd rfl h2
  |
   cons c a=>
   refine⟨c,?_⟩
   cases l with
   |nil=>exact⟨a,rfl,fun z=>h1 (z▸AR)⟩
   |cons b l=>exact⟨_,rfl,fun z=>h1 (z▸AR)⟩
theorem Kd {ws:List Str}(hn:ws≠[])(h:∀w∈ws,cds w≠[]/\32∉cds w/\59∉cds w/\10∉cds w):bare (wj (ws.map cds))≠[]/\Wds (bare (wj (ws.map cds))) ws/\10∉wj (ws.map cds):=by
 have hm:ws.map cds≠[]:=fun z=>hn (JX.mp z)
 have h2:∀w∈ws.map cds,32∉w/\w≠[]:=fun w hw=>by
  obtain⟨z,hz,rfl⟩:=CF.mp hw
  exact⟨(h z hz).2.1,(h z hz).1⟩
 have n59:59∉wj (ws.map cds):=HC (by decide) fun w hw=>by
  obtain⟨z,hz,rfl⟩:=CF.mp hw
  exact(h z hz).2.2.1
 have n10:10∉wj (ws.map cds):=HC (by decide) fun w hw=>by
  obtain⟨z,hz,rfl⟩:=CF.mp hw
  exact(h z hz).2.2.2
 obtain⟨c,r,e1,hc⟩:=TQ hm h2
 obtain⟨s,d,e2,hd⟩:=Np hm h2
 have hb:bare (wj (ws.map cds))=wj (ws.map cds):=(MO n59).trans (SU e1 e2 hc hd)
 rw[hb]
 refine⟨by rw[e1];exact D2 _ _,⟨ws,Lw hm fun w hw=>(h2 w hw).1,?_⟩,n10⟩
 exact OC.mpr fun z hz=>B7 fun y=>(h z hz).1 (by rw[y];rfl)
theorem Qv {s:Str×Int}(h:SpN s):cds (AU s)≠[]:=fun z=>by
 have:=spot_read h
 rw[z]at this
 have e:E3 []=none:=by decide +kernel
 rw[e]at this
 cases this
theorem Jr {s:Str×Int}(h:SpN s):cds (AU s)≠[]/\32∉cds (AU s)/\59∉cds (AU s)/\10∉cds (AU s):=⟨Qv h,spot_free h (by omega),spot_free h (by omega),spot_free h (by omega)⟩
theorem MM {z:Str}(h:Bg (cds z)):cds z≠[]/\32∉cds z/\59∉cds z/\10∉cds z:=⟨fun e=>by have:=h.1;rw[e]at this;exact absurd this (by decide),name_no h (by omega),name_no h (by omega),name_no h (by omega)⟩
theorem UB {t:Al}(hn:Bg (cds t.nm))(hl:SpN t.lo)(hh:SpN t.hi){l:List Nat}(e:l=wj ((["for",t.nm,AU t.lo,AU t.hi]:List Str).map cds)):bare l≠[]/\FE (bare l) (.opn t)/\10∉l:=by
 subst e
 refine Kd (D2 _ _) fun w hw=>?_
 simp only[AH,CG,or_false]at hw
 rcases hw with rfl|rfl|rfl|rfl
 .decide +kernel
 .exact MM hn
 .exact Jr hl
 .exact Jr hh
theorem Rc:bare (cds "end")≠[]/\FE (bare (cds "end")) .fin/\10∉cds "end":=Kd (ws:=["end"]) (D2 _ _) fun w hw=>by
 rw[Ce.mp hw]
 decide +kernel
theorem Pc {n:Int}(h0:0<=n)(h1:n<=999999999999999999){l:List Nat}(e:l=wj ((["size",nS n]:List Str).map cds)):bare l≠[]/\FE (bare l) (.sz n)/\10∉l:=by
 subst e
 obtain⟨g,_⟩:=nS_good h0 h1
 refine Kd (D2 _ _) fun w hw=>?_
 simp only[AH,CG,or_false]at hw
 rcases hw with rfl|rfl
 .decide +kernel
 .exact⟨fun e=>by have:=g.1;rw[e]at this;exact absurd this (by decide),DT g (by omega),DT g (by omega),DT g (by omega)⟩
theorem TJ {k:Tk}(ok:k.Ok){c:Nat}(hc:c=10\/c=32\/c=59):c∉cds k.txt:=by
 cases k with
 |
  s d=>
  intro z
  have z:c∈[d]:=z
  have ok:d∈sg5:=ok
  rw[←Ce.mp z]at ok
  unfold sg5 at ok
  simp only[AH,CG,or_false]at ok
  omega
 |
  t w=>
  cases w with
  |n i=>exact DT (nS_good ok.1 ok.2).1 (by omega)
  |v z=>exact name_no ok (by omega)
  |c z sp=>exact cel_no ok (by omega)
  |j _ _ _=>exact ok.elim
theorem KF {c:Nat}(hc:c=10\/c=32\/c=59):∀{ks:List Tk},(∀k∈ks,k.Ok)->c∉txts ks
 |[],_=>fun z=>nomatch z
 |
  k::ks,h=>fun z=>by
  rw[txts_cons]at z
  rcases BI.mp z with z|z
  .exact TJ (h k AR) hc z
  .exact KF hc (ks:=ks) (fun x hx=>h x (Bm _ hx)) z
theorem Vp {tb:Str}{sp:List (Str×Int)}{ks:List Tk}(ok:(Tk.t (.c tb sp)).Ok)(h:∀k∈ks,k.Ok):Hw tb sp ks (dedT tb sp ks):=by
 have fr:∀{c:Nat},(c=10\/c=32\/c=59)->c∉91::(inner (sp.map fun s=>cds (AU s))++[93])++61::txts ks:=fun{c} hc z=>by
  rcases BI.mp z with z|z
  .have h1:=cel_no ok (c:=c) (by omega)
   rw[cel_cds ok.2.1]at h1
   exact h1 (Cp _ z)
  .rcases AH.mp z with z|z
   .omega
   .exact KF hc h z
 refine⟨91::(inner (sp.map fun s=>cds (AU s))++[93])++61::txts ks,?_,Nv (fr (.inr (.inl rfl))),fr (.inl rfl),fr (.inr (.inr rfl))⟩
 unfold dedT
 rw[cel_cds ok.2.1,CQ]
theorem MD {tb:Str}{sp:List (Str×Int)}{ks:List Tk}{l l':List Nat}(h:Hw tb sp ks l)(b:VE (cds tb).length l l'):Hw tb sp ks l':=by
 rcases b with rfl|⟨k,h1,h2,rfl⟩
 .exact h
 .obtain⟨r,rfl,hf,n10,n59⟩:=h
  refine⟨r.take (k-(cds tb).length)++32::r.drop (k-(cds tb).length),?_,?_,?_,?_⟩
  .rw[List.take_append,List.drop_append,G2 h1,List.drop_of_length_le h1,CQ]
   rfl
  .rw[G4,F2,A9 (by decide),←G4,LL]
   exact hf
  .intro z
   rcases BI.mp z with z|z
   .exact n10 (Fn z)
   .rcases AH.mp z with z|z
    .cases z
    .exact n10 (GN z)
  .intro z
   rcases BI.mp z with z|z
   .exact n59 (Fn z)
   .rcases AH.mp z with z|z
    .cases z
    .exact n59 (GN z)
theorem spn9:SpN ("",0)/\SpN ("",9):=⟨⟨.inl rfl,by decide +kernel,by decide,by decide⟩,⟨.inl rfl,by decide +kernel,by decide,by decide⟩⟩
end Rd
namespace Rd
open PySem L2
def Twk (nms ns:List Str):Tw->Prop
 |.j z l r=>z∈Fi/\Twk nms ns l/\Twk nms ns r
 |.n i=>Lk nms ns (.t (.n i))
 |.v z=>Lk nms ns (.t (.v z))
 |.c z sp=>Lk nms ns (.t (.c z sp))
theorem Lk.tok {nms ns:List Str}{t:Tw}(h:Lk nms ns (.t t)):Tw.Ok t:=by
 have ok:=h.ok
 cases t with
 |n i=>exact ok
 |v z=>have:=ok.2.1;rw[cds_len]at this;exact Bz this (by decide)
 |c z sp=>exact⟨by have:=ok.1.2.1;rw[cds_len]at this;exact Bz this (by decide),ok.2.2.1,fun s hs=>(ok.2.2.2 s hs).2⟩
 |j z l r=>exact ok.elim
theorem Twk.ok {nms ns:List Str}:∀{t:Tw},Twk nms ns t->Tw.Ok t
 |.n i,h=>Lk.tok (t:=.n i) h
 |.v z,h=>Lk.tok (t:=.v z) h
 |.c z sp,h=>Lk.tok (t:=.c z sp) h
 |.j z l r,h=>⟨h.1,Twk.ok h.2.1,Twk.ok h.2.2⟩
theorem Lk.twk {nms ns:List Str}{t:Tw}(h:Lk nms ns (.t t)):Twk nms ns t:=by
 cases t with
 |j z l r=>exact h.ok.elim
 |n i=>exact h
 |v z=>exact h
 |c z sp=>exact h
def Dv (z:Str):Nat:=if z="*" then 42 else if z="-" then 45 else 43
def DL (b:Bool)(e:Ex):Ex:=if b=true then .br e else e
def BN:Tw->Ex
 |.j z l r=>.jn (Dv z) (DL (decide (l.hld<hz z)) (BN l)) (DL (decide (r.hld<=hz z)) (BN r))
 |.n i=>.lf (.n i)
 |.v z=>.lf (.v z)
 |.c z sp=>.lf (.c z sp)
theorem Qg {z:Str}(h:z∈Fi):sg (Dv z)=z/\st (Dv z)=hz z/\(Dv z=43\/Dv z=45\/Dv z=42):=by
 have:∀w∈Fi,sg (Dv w)=w/\st (Dv w)=hz w/\(Dv w=43\/Dv w=45\/Dv w=42):=by decide +kernel
 exact this z h
theorem IB (b:Bool)(e:Ex):(DL b e).txt=Ei b e.txt/\(DL b e).sh=e.sh:=by
 cases b<;>exact⟨rfl,rfl⟩
theorem Lp {nms ns:List Str}{t:Tw}(h:Lk nms ns (.t t)):EH nms ns (.lf t):=⟨True.intro,fun k hk=>by rw[Ce.mp hk];exact h,by show 1+5<=8*1;decide⟩
theorem Fb {nms ns:List Str}:∀{t:Tw},Twk nms ns t->EH nms ns (BN t)/\(BN t).lv=t.sz/\(BN t).txt=t.wr/\(BN t).sh=t/\(BN t).hd=t.hld
 |.n i,h=>⟨Lp h,rfl,rfl,rfl,rfl⟩
 |.v z,h=>⟨Lp h,rfl,rfl,rfl,rfl⟩
 |.c z sp,h=>⟨Lp h,rfl,rfl,rfl,rfl⟩
 |
  .j z l r,h=>by
  obtain⟨hz3,hl,hr⟩:=h
  obtain⟨s1,s2,s3⟩:=Qg hz3
  obtain⟨a1,a2,a3,a4,a5⟩:=Fb hl
  obtain⟨b1,b2,b3,b4,b5⟩:=Fb hr
  have k1:∀{b:Bool} {e:Ex},DL b e=e/\b=false\/DL b e = .br e:=fun{b e}=>by
   cases b
   .exact .inl ⟨rfl,rfl⟩
   .exact .inr rfl
  obtain⟨j1,j2⟩:=QT (nms:=nms) (ns:=ns) (ch:=Dv z) (l':=DL (decide (l.hld<hz z)) (BN l)) (r':=DL (decide (r.hld<=hz z)) (BN r)) s3 a1 b1
   (k1.imp (fun h=>⟨h.1,by have:=of_decide_eq_false h.2;omega⟩) id) (k1.imp (fun h=>⟨h.1,by have:=of_decide_eq_false h.2;omega⟩) id)
  refine⟨j1,?_,?_,?_,s2⟩
  .exact j2.trans (by rw[a2,b2];rfl)
  .show(DL _ (BN l)).txt++sg (Dv z)++(DL _ (BN r)).txt=_
   rw[(IB _ _).1,(IB _ _).1,s1,a3,b3]
   rfl
  .show Tw.j (sg (Dv z)) (DL _ (BN l)).sh (DL _ (BN r)).sh=_
   rw[(IB _ _).2,(IB _ _).2,s1,a4,b4]
theorem leaf_tp {nms ns:List Str}{H:Hp}{x:V}{t:Tw}(lk:Lk nms ns (.t t))(h:∃p y,x = .ref p/\H p=some (.tup [.str (Tk.t t).txt,.int 3,y])/\E2 H t y):Dh H x t/\t.sz=1:=by
 cases t with
 |j z l r=>exact lk.ok.elim
 |n i=>exact⟨h,rfl⟩
 |v z=>exact⟨h,rfl⟩
 |c z sp=>exact⟨h,rfl⟩
structure StK (H:Hp)(nms ns:List Str)(xs:List V)(ts:List Tw)(N:Nat):Prop where
 at':AE (Dh H) xs ts
 ok:∀t∈ts,Twk nms ns t
 sum:(ts.map Tw.sz).sum<=N
section
variable {H H':Hp}{nms ns:List Str}{xs:List V}{ts:List Tw}{N:Nat}
theorem StK.tk (k:TK H H')(h:StK H nms ns xs ts N):StK H' nms ns xs ts N:=⟨h.at'.mono fun _ _ z=>z.tk k,h.ok,h.sum⟩
theorem StK.old (h:StK H nms ns xs ts N):EV H xs ts N:=⟨h.at',fun t ht=>(h.ok t ht).ok,h.sum⟩
theorem StK.len (h:StK H nms ns xs ts N):xs.length<=N:=h.old.len
theorem StK.push {x:V}{t:Tw}(h:StK H nms ns xs ts N)(hx:Dh H x t)(ht:Twk nms ns t){M:Nat}(hM:N+t.sz<=M):StK H nms ns (xs++[x]) (ts++[t]) M:=by
 refine⟨h.at'.snoc hx,fun u hu=>?_,(h.old.push hx ht.ok hM).sum⟩
 rcases BI.mp hu with z|z
 .exact h.ok u z
 .rw[Ce.mp z];exact ht
theorem StK.pop (h:StK H nms ns xs ts N)(hl:0<xs.length):∃ys x us t M,xs=ys++[x]/\ts=us++[t]/\StK H nms ns ys us M/\Dh H x t/\Twk nms ns t/\M+t.sz<=N:=by
 obtain⟨ys,x,us,t,M,rfl,rfl,s,hx,_,hM⟩:=h.old.pop hl
 exact⟨ys,x,us,t,M,rfl,rfl,⟨s.at',fun u hu=>h.ok u (FW _ hu),s.sum⟩,hx,h.ok t (by simp),hM⟩
end
def spTerm28:Sp:=fun vs H Q _=>∃(c:Int) (kl nl:Addr) (nms ns:List Str),vs=[.int c,.ref kl,.ref nl]/\KnAt H kl nms/\Es H nl ns/\∀(x:V) (H':Hp) (t:Tw),A8 H H'->Dh H' x t->Twk nms ns t->t.sz<=5->Q x H'
structure IZ (nms:List Str)(t:Al):Prop where
 nm:Bg (cds t.nm)
 nw:t.nm∉nms
 lo:SpN t.lo
 hi:SpN t.hi
 kl:knw nms t.lo=true
 kh:knw nms t.hi=true
theorem IZ.ok {nms:List Str}{t:Al}(h:IZ nms t):t.Ok:=⟨by have:=h.nm.2.1;rw[cds_len]at this;exact Bz this (by decide),h.lo.2,h.hi.2⟩
def lnm (ts:List Al):List Str:=ts.map Al.nm
def Lg (ts:List Al):Prop:=ts.length<=3/\∀t∈ts,Bg (cds t.nm)/\SpN t.lo/\SpN t.hi
def spLoop28:Sp:=fun vs H Q _=>∃(c:Int) (nl o:Addr) (la:V) (ns:List Str) (ts:List Al) (tl:Al),vs=[.int c,.ref nl,.ref o,la]/\Es H nl ns/\Fh H o ts/\ts.length<=2/\Lg ts/\DI H la tl/\SpN tl.lo/\SpN tl.hi/\∀(r:V) (H':Hp) (t:Al),A8 H H'->DI H' r t->IZ (lnm ts) t->Q r H'
structure Dk (ns:List Str)(D:Dw):Prop where
 c:Lk (lnm D.loops) ns (.t (.c D.tbl D.sp))
 t:Twk (lnm D.loops) ns D.tm
 s:D.tm.sz<=5
def spDeed28:Sp:=fun vs H Q _=>∃(c:Int) (o pt nl:Addr) (ns:List Str) (ts:List Al) (path:List Int),vs=[.int c,.ref o,.ref pt,.ref nl]/\Es H nl ns/\Fh H o ts/\Lg ts/\H pt=some (.lst (path.map V.int))/\path.length=ts.length+1/\∀(r:V) (H':Hp) (D:Dw),A8 H H'->Il H' o r D->Dk ns D->D.loops=ts->D.path=path->Q r H'
theorem mr_eqE (K:Xa)(n:Bool):MR (JH K n):=fun x y H Q Q' hq zz=>by obtain⟨p,q,xs,a,b,c,d,e⟩:=zz;exact⟨p,q,xs,a,b,c,d,hq _ _ e⟩
def rkS:Rk->Str
 |.sz n=>"size "++nS n
 |.opn t=>He t
 |.fin=>"end"
 |.ded tb sp _ t=>B3 tb sp++" = "++t.wr
inductive Stps (f:Str->Nat):Dr->List Rk->Dr->Prop
 |nil {D}:Stps f D [] D
 |cons {D D' E k ks}:EN f D D' k->Stps f D' ks E->Stps f D (k::ks) E
theorem Stps.snoc {f:Str->Nat}{D E F:Dr}{ks:List Rk}{k:Rk}(h:Stps f D ks E)(s:EN f E F k):Stps f D (ks++[k]) F:=by
 induction h with
 |nil=>exact .cons s .nil
 |cons a _ ih=>exact .cons a (ih s)
theorem Stps.take {f:Str->Nat}{D E:Dr}{ks:List Rk}(h:Stps f D ks E)(n:Nat):∃F,Stps f D (ks.take n) F:=by
 induction h generalizing n with
 |nil=>exact⟨_,by rw[List.take_nil];exact .nil⟩
 |
  cons a _ ih=>
  cases n with
  |zero=>exact⟨_,.nil⟩
  |succ n=>obtain⟨F,hF⟩:=ih n;exact⟨F,.cons a hF⟩
def Dk.rk (D:Dw):Rk:=.ded D.tbl D.sp (BN D.tm).tk D.tm
theorem Dk.stp {ns:List Str}{D:Dw}(h:Dk ns D){n:Int}{Ds:List Dw}{pa:List Int}{la:Int}(d6:Ds.length<6)(hp:D.path=pa++[la]):EN (tf ns) ⟨some n,Ds,D.loops,pa,la⟩ ⟨some n,Ds++[D],D.loops,pa,la+1⟩ (Dk.rk D):=by
 obtain⟨e1,e2,e3,e4,e5⟩:=Fb h.t
 have lk:∀k∈Tk.t (.c D.tbl D.sp)::(BN D.tm).tk,Lk (lnm D.loops) ns k:=fun k hk=>by
  rcases AH.mp hk with rfl|hk
  .exact h.c
  .exact e1.lk k hk
 obtain⟨T,S,r1,r2⟩:=Ql e1.ok
 rw[e4]at r2
 refine⟨(fun z=>nomatch z),d6,h.c.ok,fun k hk=>(e1.lk k hk).ok,Ex.adj _,?_,⟨T,S,r1,r2⟩,fun k hk=>(lk k hk).kn,fun k hk=>(lk k hk).tb,?_⟩
 .have:=e1.ln
  have:=h.s
  omega
 .show _=Dr.mk _ (Ds++[_]) _ _ _
  rw[←hp]
theorem JI {ns nms:List Str}{t:Tw}(h:Twk nms ns t):cds t.wr=txts (BN t).tk:=by
 obtain⟨e1,e2,e3,e4,e5⟩:=Fb h
 rw[←e3]
 exact Ex.txt_tk _
def Rok (ns:List Str):Rk->Prop
 |.sz n=>2<=n/\n<=999999999999999999
 |.opn t=>Bg (cds t.nm)/\SpN t.lo/\SpN t.hi
 |.fin=>True
 |.ded tb sp ks t=>∃nms,Lk nms ns (.t (.c tb sp))/\Twk nms ns t/\ks=(BN t).tk/\t.sz<=5
theorem Dk.rok {ns:List Str}{D:Dw}(h:Dk ns D):Rok ns (Dk.rk D):=⟨lnm D.loops,h.c,h.t,rfl,h.s⟩
structure Rn (ns:List Str)(R:Pw.Rw Al Str)(ts:List Al)(path:List Int)(Ds:List Dw)(ks:List Rk)(pa:List Int)(la:Int):Prop where
 tx:R.map (fun p=>J3 p.2)=ks.map rkS
 pe:path=pa++[la]
 st:∀n:Int,Stps (tf ns) ⟨some n,[],[],[],0⟩ ks ⟨some n,Ds,ts,pa,la⟩
 ok:∀k∈ks,Rok ns k
 p0:(∀x∈pa,0<=x)/\0<=la
 l6:Ds.length<=5\/0<la
 nm:Lg ts
 pl:pa.length=ts.length
 dn:0<la->Ds≠[]
theorem Rn.start (ns:List Str):Rn ns [] [] [0] [] [] [] 0:=⟨rfl,rfl,fun _=>.nil,(fun _ h=>nomatch h),⟨(fun _ h=>nomatch h),Int.le_refl _⟩,.inl (by decide),⟨C0 _,(fun _ h=>nomatch h)⟩,rfl,(fun h=>absurd h (by decide))⟩
section
variable {ns:List Str}{R:Pw.Rw Al Str}{ts:List Al}{path:List Int}{Ds:List Dw}{ks:List Rk}{pa:List Int}{la:Int}
theorem mem_snoc {α:Type}{P:α->Prop}{l:List α}{a:α}(h:∀x∈l,P x)(ha:P a):∀x∈l++[a],P x:=fun x hx=>by
 rcases BI.mp hx with hx|hx
 .exact h x hx
 .rw[Ce.mp hx];exact ha
theorem Rn.opn (h:Rn ns R ts path Ds ks pa la){t:Al}(hl:ts.length<3)(ht:IZ (lnm ts) t)(d5:Ds.length<=5)(d:Nat):Rn ns (R++[(d,.opn t)]) (ts++[t]) (path++[0]) Ds (ks++[.opn t]) (pa++[la]) 0:=by
 refine⟨by rw[AW,AW,h.tx];rfl,by rw[h.pe],fun n=>(h.st n).snoc ⟨(fun z=>nomatch z),hl,ht.nm,ht.nw,ht.lo,ht.hi,ht.kl,ht.kh,rfl⟩,mem_snoc h.ok ⟨ht.nm,ht.lo,ht.hi⟩,⟨mem_snoc h.p0.1 h.p0.2,Int.le_refl _⟩,.inl d5,⟨by rw[Ap,Bk];omega,mem_snoc h.nm.2 ⟨ht.nm,ht.lo,ht.hi⟩⟩,by rw[Ap,Ap,h.pl];rfl,(fun h=>absurd h (by decide))⟩
theorem Rn.ded (h:Rn ns R ts path Ds ks pa la){D:Dw}(hD:Dk ns D)(hl:D.loops=ts)(hp:D.path=path)(d5:Ds.length<=5)(d:Nat):Rn ns (R++[(d,.row D.txt)]) ts (pa++[la+1]) (Ds++[D]) (ks++[Dk.rk D]) pa (la+1):=by
 have h2:=h.p0.2
 subst hl
 refine⟨by rw[AW,AW,h.tx];rfl,rfl,fun n=>(h.st n).snoc (hD.stp (by omega) (by rw[hp,h.pe])),mem_snoc h.ok hD.rok,⟨h.p0.1,by omega⟩,.inr (by omega),h.nm,h.pl,fun _=>by simp⟩
theorem Rn.fin {t:Al}{m:Int}(h:Rn ns R (ts++[t]) path Ds ks (pa++[m]) la)(l0:la≠0)(d:Nat):Rn ns (R++[(d,.fin)]) ts (pa++[m+1]) Ds (ks++[.fin]) pa (m+1):=by
 have h2:=h.p0.2
 have hm:0<=m:=h.p0.1 m (by simp)
 refine⟨by rw[AW,AW,h.tx];rfl,rfl,fun n=>(h.st n).snoc ⟨(fun z=>nomatch z),ts,t,pa,m,rfl,rfl,l0,rfl⟩,mem_snoc h.ok True.intro,⟨fun x hx=>h.p0.1 x (FW _ hx),by omega⟩,?_,⟨?_,fun x hx=>h.nm.2 x (FW _ hx)⟩,?_,fun _=>h.dn (by omega)⟩
 .exact .inr (by omega)
 .have:=h.nm.1
  rw[Ap]at this
  omega
 .have:=h.pl
  rw[Ap,Ap]at this
  exact Nat.add_right_cancel this
theorem Rn.len (h:Rn ns R ts path Ds ks pa la):path.length=ts.length+1:=by
 rw[h.pe,Ap,h.pl]
 rfl
end
end Rd
namespace EX
open PySem PySem.Spec PyProof.Rows
def BW (h:Heap)(e:Addr)(C:Value)(d:Option Addr)(tb:Value):Prop := ∃oe vs,h.get? e=some oe/\oe.cls=C/\oe.dict=d/\oe.data = .fields vs/\vs[1]?=some tb
def Fd (h:Heap)(T:Addr)(fl:Value):Prop := ∃oT ts,h.get? T=some oT/\oT.data = .fields ts/\ts[3]?=some fl
def DR (fs ch:List Addr)(h h':Heap):Prop := ∀b o,h.get? b=some o->b∉ch->(b∉fs->h'.get? b=some o)/\∃sl,h'.get? b=some {o with slots:=sl}
theorem DR.mono {fs fs' ch ch':List Addr}{h h1:Heap}(a:DR fs ch h h1)(f:∀b∈fs,b∈fs')(c:∀b∈ch,b∈ch'):DR fs' ch' h h1:=fun x o e hc=>
 let ⟨p,q⟩:=a x o e fun z=>hc (c x z)
 ⟨fun hf=>p fun z=>hf (f x z),q⟩
section
variable {M:Model}{A:Around}{E:Value->Shared->Prop}{s:Shared}
theorem M5 {base h:Heap}{l:List Env}{b:Addr}{o:Obj}{vs:Array Value}(hl:h.FunFrames base l)(ho:h.get? b=some o)(hd:o.data = .fields vs):b∉l.filterMap (·.frame):=fun hm=>by
 obtain⟨_,o',ho',hn⟩:=hl.mem hm
 rw[ho]at ho'
 cases ho'
 exact hn vs hd
theorem MF {base:Heap}{env:Env}{outer:List Env}{L e:Addr}{C:Value}{d:Option Addr}{head tb:Value}{hadNext:Bool}{Q:Unit->Shared->Prop}
  (hfr:A.frames=some (env::outer)) (hl:s.heap.FunFrames base (env::outer)) (hf:env.frame=some L) (hx:BW s.heap e C d tb)
  (h:∀h' T,s.heap.objs.size<=T->DR ((env::outer).filterMap (·.frame)) [e] s.heap h'->BW h' e C d (.ref T)->Fd h' T (rawInt L)->T≠e->Q () {s with heap:=h'}) :
  wpAny M A (do let a ←frameOf env;let pl ←entryPlaceOf L hadNext;let b ←EntryCells.newEntry head a .none (rawInt L) .none pl;setField (.ref e) 1 b) Q E s:=by
 obtain⟨oe,vs,he,hc,hdc,hd,h1⟩:=hx
 have hsz:1<vs.size:=(K0.mp h1).1
 have hne:=M5 hl he hd
 refine Ah (wpAny_frameOf_fun hfr hl hf fun h₁ hs₁=>?_)
 refine Ah (wpAny_entryPlaceOf fun pl hpl=>?_)
 unfold EntryCells.newEntry newFields
 refine Ah (wpAny_newObj_type ?_ (hpl.sizeOk5 _ _ _ _ _))
 have he₁:h₁.get? e=some oe:=(hs₁.2.1 e hne).trans he
 generalize hob:({cls:=.type "traceback",dict:=none,data:=.fields ([head,.ref L,.none,rawInt L,.none]++(if pl.isEmpty then List.replicate 6 Value.none else pl)).toArray}:Obj)=ob
 have hobd:ob.data = .fields ([head,.ref L,.none,rawInt L,.none]++(if pl.isEmpty then List.replicate 6 Value.none else pl)).toArray:=by rw[←hob]
 have he₂:=Bc (h:=h₁) ob he₁
 have nf:ob.isFreed=false:=Obj.isFreed_of_fields hobd
 refine wpAny_setField he₂ hd hsz ?_
 have hTe:h₁.objs.size≠e:=FX (B1 he₁)
 have hd₃:=Obj.data_mapFields hd (·.setIfInBounds 1 (Value.ref h₁.objs.size))
 refine h _ h₁.objs.size (by rw[hs₁.1];exact Ai _) (fun b o hb hc=>?_) ?_ ?_ hTe
 .have hbe:b≠e:=fun z=>hc (by rw[z];exact Ce.mpr rfl)
  rw[Fl _ _ (Ne.symm hbe)]
  refine⟨fun hn=>Bc _ ((hs₁.2.1 b hn).trans hb),?_⟩
  obtain⟨sl,q⟩:=hs₁.2.2 b o hb
  exact⟨sl,Bc _ q⟩
 .exact⟨_,_,JT _ he₂ (Obj.isFreed_of_fields hd₃),by rw[Obj.cls_mapFields];exact hc,by obtain⟨c0,d0,dt,sl⟩:=oe;cases dt<;>exact hdc,hd₃,by simp[hsz]⟩
 .refine⟨ob,_,?_,hobd,by simp⟩
  rw[Fl _ _ (Ne.symm hTe)]
  exact CB h₁ nf
theorem NU {base:Heap}{env:Env}{outer:List Env}{L e:Addr}{C:Value}{d:Option Addr}{Q:Unit->Shared->Prop}
  (hfr:A.frames=some (env::outer)) (hl:s.heap.FunFrames base (env::outer)) (hf:env.frame=some L) (hx:BW s.heap e C d .none)
  (h:∀h' T,s.heap.objs.size<=T->DR ((env::outer).filterMap (·.frame)) [e] s.heap h'->BW h' e C d (.ref T)->Fd h' T (rawInt L)->T≠e->Q () {s with heap:=h'}) :
  wpAny M A (noteFrame (.ref e) env) Q E s:=by
 obtain⟨oe,vs,he,hc,hdc,hd,h1⟩:=id hx
 unfold noteFrame
 simp only[hf]
 refine Ah (F5 he hd h1 ?_)
 rw[A9 (by decide)]
 exact MF hfr hl hf hx h
theorem U1 {base:Heap}{env:Env}{outer:List Env}{L e T0:Addr}{C:Value}{d:Option Addr}{Q:Unit->Shared->Prop}
  (hfr:A.frames=some (env::outer)) (hl:s.heap.FunFrames base (env::outer)) (hf:env.frame=some L) (hx:BW s.heap e C d (.ref T0)) (ht:Fd s.heap T0 .none) (hne:T0≠e)
  (h:∀h' T,s.heap.objs.size<=T->DR ((env::outer).filterMap (·.frame)) [e,T0] s.heap h'->BW h' e C d (.ref T)->Fd h' T (rawInt L)->T≠e->Q () {s with heap:=h'}) :
  wpAny M A (noteFrame (.ref e) env) Q E s:=by
 obtain⟨oe,vs,he,hc,hdc,hd,h1⟩:=id hx
 obtain⟨oT,ts,hT,hdT,h3⟩:=ht
 unfold noteFrame
 simp only[hf]
 refine Ah (F5 he hd h1 ?_)
 rw[Af (show(Value.ref T0 != Value.none)=true from by simp)]
 refine Ah (F5 hT hdT h3 ?_)
 rw[A9 (show ¬((Value.none==rawInt L)=true) from by simp[rawInt])]
 refine Ah (wpAny_setField hT hdT (K0.mp h3).1 ?_)
 have other:∀b,b≠T0->(s.heap.update T0 (Obj.mapFields (·.setIfInBounds 3 Value.none))).get? b=s.heap.get? b:=fun b hb=>Fl _ _ (Ne.symm hb)
 have hTf:=M5 hl hT hdT
 refine MF (s:={s with heap:=s.heap.update T0 (Obj.mapFields (·.setIfInBounds 3 Value.none))}) hfr (hl.of_keeps fun b o hb hnf=>⟨o,(other b fun q=>by rw[q,hT]at hb;cases hb;exact hnf ts hdT).trans hb,rfl⟩) hf ⟨oe,vs,(other e (Ne.symm hne)).trans he,hc,hdc,hd,h1⟩ fun h' T hT0 hb hx' ht' hTe=>?_
 have hTn:s.heap.objs.size<=T:=by simpa[Heap.size_update] using hT0
 refine h h' T hTn (fun b o q hc=>?_) hx' ht' hTe
 have hbe:b∉[e]:=fun z=>hc (AH.mpr (.inl (Ce.mp z)))
 have hbT:b≠T0:=fun z=>hc (by rw[z];exact Bm _ AR)
 exact hb b o ((other b hbT).trans q) hbe
theorem Jy {e T:Addr}{C:Value}{d:Option Addr}{fl:Value}{Q:Unit->Shared->Prop}(hx:BW s.heap e C d (.ref T))(ht:Fd s.heap T fl)(hne:T≠e)
  (h:∀h',DR [] [T] s.heap h'->BW h' e C d (.ref T)->Fd h' T .none->Q () {s with heap:=h'}):wpAny M A (setFlight (.ref e) none) Q E s:=by
 obtain⟨oe,vs,he,hc,hdc,hd,h1⟩:=id hx
 obtain⟨oT,ts,hT,hdT,h3⟩:=ht
 have hsz:3<ts.size:=(K0.mp h3).1
 have other:∀b,b≠T->(s.heap.update T (Obj.mapFields (·.setIfInBounds 3 Value.none))).get? b=s.heap.get? b:=fun b hb=>Fl _ _ (Ne.symm hb)
 refine wpAny_setFlight_none he hd h1 hT hdT hsz (h _ (fun b o q hc=>?_) ⟨oe,vs,(other e (Ne.symm hne)).trans he,hc,hdc,hd,h1⟩ ⟨_,_,JT _ hT (Obj.isFreed_of_fields (Obj.data_mapFields hdT _)),Obj.data_mapFields hdT _,by simp[hsz]⟩)
 have hbT:b≠T:=fun z=>hc (by rw[z];exact AR)
 exact⟨fun _=>(other b hbT).trans q,o.slots,(other b hbT).trans q⟩
theorem P1 {e:Addr}{C:Value}{d:Option Addr}{Q:Unit->Shared->Prop}(hx:BW s.heap e C d .none)(h:Q () s):wpAny M A (setFlight (.ref e) none) Q E s:=by
 obtain⟨oe,vs,he,hc,hdc,hd,h1⟩:=id hx
 unfold setFlight
 refine Ah (F5 he hd h1 ?_)
 rw[A9 (by decide)]
 exact B9 h
end
end EX
namespace EX
open PySem PySem.Spec PyProof.Rows
def HE (h:Heap)(C:Addr)(bm:List Value):Prop := ∃nm q N bs hdct sn sub ab col dd k0 k1 k2 k3 k5 newId,h.get? C=some (excClassObj nm q C N bs bm hdct sn sub ab col dd k0 k1 k2 k3 k5 newId)
section
variable {M:Model}{A:Around}{E:Value->Shared->Prop}{s:Shared}{env:Env}
theorem Vv {x:Sem Value}{Q:Flow->Shared->Prop}(hh:A.handled=none)
  (h:wpAny M A x (fun v s₁=>∃e d C bm,v = .ref e/\HE s₁.heap C bm/\bm.contains (.type "BaseException")=true/\BW s₁.heap e (.ref C) d .none/\E (.ref e) s₁) E s) :
  wpAny M A (raiseStmt env (some x) none) Q E s:=by
 unfold raiseStmt
 refine Ah (Ct h (fun v s₁ h₁=>?_) fun _ _ x=>x)
 obtain⟨e,d,C,bm,rfl,⟨nm,q,N,bs,hdct,sn,sub,ab,col,dd,k0,k1,k2,k3,k5,newId,hC⟩,hbase,hx,hE⟩:=h₁
 have hcB:(Value.ref C::bm).contains (.type "BaseException")=true:=by rw[List.contains_cons,hbase,LQ]
 obtain⟨⟨c0,d0,dt,sl⟩,vs,he,hc,hdc,hd,h1⟩:=id hx
 obtain rfl:c0 = .ref C:=hc
 obtain rfl:dt = .fields vs:=hd
 obtain⟨hp,g,dr,tk,os⟩:=s₁
 repeat (first|with_reducible refine GX he ?_|with_reducible refine GX hC ?_|(with_reducible refine LX hC ?_;rw[hcB])|(refine Ah (P1 hx ?_))|wp_step)
 exact wpAny_raiseNew_none hh hE
theorem QP {e:Expr}{pos:Pos}{Q:Flow->Shared->Prop}(hh:A.handled=none)
  (h:wpAny M A (eval e env) (fun v s₁=>∃a d C bm,v = .ref a/\HE s₁.heap C bm/\bm.contains (.type "BaseException")=true/\BW s₁.heap a (.ref C) d .none/\E (.ref a) s₁) E s) :
  wpAny M A (exec (.Raise (some e) none pos) env) Q E s:=by
 rw[arm_exec_Raise]
 simp only[evalOpt,Option.map]
 refine Ah (HX (Vv hh (Ah (Ct h (fun v s₁ h₁=>Ah (HX (B9 h₁))) fun _ _ x=>x))))
theorem S4 {h:Heap}{g:Array GenState}{dr:Drawn}{t:Nat}{os:OsState}{e C D:Addr}{bm bd:List Value}{d:Option Addr}{tb:Value}{Q:Bool->Shared->Prop}
  (kC:HE h C bm) (kD:HE h D bd) (hD:bd.contains (.type "BaseException")=true) (hx:BW h e (.ref C) d tb)
  (hq:Q ((Value.ref C::bm).contains (.ref D)) ⟨h,g,dr,t,os⟩):wpAny M A (excMatches (.ref e) (.ref D)) Q E ⟨h,g,dr,t,os⟩:=by
 obtain⟨nm,q,N,bs,hdct,sn,sub,ab,col,dd,k0,k1,k2,k3,k5,newId,hC⟩:=kC
 obtain⟨nm',q',N',bs',hdct',sn',sub',ab',col',dd',k0',k1',k2',k3',k5',newId',hDc⟩:=kD
 obtain⟨oe,vs,he,hcls,hdc,hd,h1⟩:=hx
 have hcB:(Value.ref D::bd).contains (.type "BaseException")=true:=by rw[List.contains_cons,hD,LQ]
 have f:=tc_notTuple
 unfold excMatches
 generalize hb:(Value.ref C::bm).contains (.ref D)=b at hq
 repeat (any_goals (first|assumption|(with_reducible refine GX he ?_;rw[hcls])|with_reducible refine GX hDc ?_|(with_reducible refine LX hDc ?_;rw[hcB])|(with_reducible refine LX hC ?_;rw[hb])|wp_step))
 cases b<;>(wp_walk;exact hq)
end
end EX
namespace EX
open PySem PySem.Spec PySem.Calls PyProof.Rows
def OP (x:Addr)(R:Result->Shared->Prop)(r:Result)(s':Shared):Prop:=match r with
 |.ok (.ret v)=>v = .none/\R (.ok (.ret (.ref x))) s'
 |.ok _=>False
 |.error e=>R (.error e) s'
abbrev FI (C t:Addr):Obj:={cls:=.ref C,data:=.fields #[.ref t,.none,.none,.none,.bool false,.none]}
abbrev Gf (vs:List Value):Obj:={cls:=.type "tuple",data:=.seq vs.toArray}
section
variable {prog:Program}{w:World}{A:Around}{h:Heap}{g:Array GenState}{d:Drawn}{t:Nat}{os:OsState}{R:Result->Shared->Prop}
variable {nm q:Str}{C N:Addr}{bs bm bmB:List Value}{hdct:Bool}{sn:List Str}{sub:List Value}{ab:Bool}{col:Option Bool}{dd:Option Addr}{k0 k1 k2 k3 k5:Option Value}{B newId initId:String}
end
end EX
namespace EX
open PySem PySem.Spec PySem.Calls PyProof.Rows PySem.W PySem.Builtin PySem.Builtin.ObjectAttr
section
variable {prog:Program}{w:World}{A:Around}{E:Value->Shared->Prop}{s:Shared}{K:Frag}{x C:Addr}{ox:Obj}{od:Option Obj}{name:Str}{expr:Bool}
theorem VG:builtinKind "BaseException.__getattribute__"=some .slot:=by decide +kernel
theorem RB:splitId "BaseException.__getattribute__"=some ("BaseException","__getattribute__"):=by decide +kernel
abbrev bmVE:List Value:=[.type "ValueError",.type "Exception",.type "BaseException",.type "object"]
def KM:List Value->List Value
 |.ref _::r=>KM r
 |l=>l
theorem LZ (self:Value):∀{l:List Value},KM l=bmVE->refuseLoop self "__setattr__" l=pure ()
 |[],e=>by cases e
 |.ref c::r,e=>by rw[refuseLoop_ref];exact LZ self (l:=r) e
 |.type n::r,e=>by rw[show Value.type n::r=bmVE from e];exact F.store_ValueError.passes self
 |.none::r,e=>by cases e
 |.bool _::r,e=>by cases e
 |.int _ _::r,e=>by cases e
 |.float _ _::r,e=>by cases e
 |.str _ _::r,e=>by cases e
 |.bytes _ _::r,e=>by cases e
 |.builtin _::r,e=>by cases e
def mroTail (K:Frag)(C:Addr):Bool:=(clsIn K C).any fun cd=>KM cd.mro==bmVE
def ClsT (h:Heap)(C N:Addr)(bm:List Value):Prop := ∃nm q bs hdct sn sub ab col dd k0 k1 k2 k3 k5,h.get? C=some (excClassObj nm q C N bs bm hdct sn sub ab col dd k0 k1 k2 k3 k5 "ValueError.__new__")/\OwnTail h bmVE bm
theorem ClsT.at {h:Heap}{C N:Addr}{bm:List Value}(x:ClsT h C N bm):HE h C bm:=by
 obtain⟨nm,q,bs,hdct,sn,sub,ab,col,dd,k0,k1,k2,k3,k5,e,_⟩:=x
 exact⟨nm,q,N,bs,hdct,sn,sub,ab,col,dd,k0,k1,k2,k3,k5,_,e⟩
structure XC (K:Frag)(C:Addr):Prop where
 ga:findIn K (.ref C) "__getattribute__"=some (some (.builtin "BaseException.__getattribute__"))
 gh:findIn K (.ref C) "__getattr__"=some none
 be:mroIn K C (.type "BaseException")=some true
 sa:findIn K (.ref C) "__setattr__"=some (some (.builtin "object.__setattr__"))
 hd:hasDictIn K C=true
 mt:mroTail K C=true
 ob:mroIn K C (.type "object")=some true
 ct:∃N bm,∀h,K.In h->ClsT h C N bm
theorem Rj {v:Value}{Q:Value->Shared->Prop}(X:K.In s.heap)(I:InstAt s.heap x ox C od)(c:XC K C)
  (hf:findObj K C od name=some (.value v)) (hh:handedIn v=true) (h:Q v {s with toks:=s.toks+1}):wpAny (model prog w) A (getAttr (.ref x) name expr) Q E s:=by
 obtain⟨hp,g,d,t,os⟩:=s
 have L0:=I.type (M:=model prog w)
 have L1:=looks_findIn (M:=model prog w) X c.ga
 have L2:=looks_findIn (M:=model prog w) X c.gh
 have L3:=looks_find (M:=model prog w) X I hf
 have hx2:(Value.builtin "BaseException.__getattribute__"==Value.builtin "object.__getattribute__")=false:=by decide +kernel
 have hx1:(onTheHeap (Value.ref C)&&Value.builtin "BaseException.__getattribute__"==Value.builtin "object.__getattribute__")=false:=by rw[hx2];rfl
 have hx0:(expr&&onTheHeap (Value.builtin "BaseException.__getattribute__"))=false:=by cases expr<;>rfl
 unfold getAttr getAttrBy
 refine Ah (wpAny_mkText (HZ (Ah (L0.at (Ah (L1.at ?_))))))
 dsimp only
 rw[hx1]
 simp only[HW,G6]
 unfold getAttrByItsOwn hookBefore
 rw[Af (show onTheHeap (Value.ref C)=true from rfl)]
 refine Ah (L2.at ?_)
 refine Ah (wpAny_attempt ?_)
 refine HZ ?_
 unfold callGetattribute
 rw[hx0]
 simp only[HW,G6]
 unfold boundAndCalled
 rw[F.attr_ValueError.ga.bind]
 refine Ah (B9 ?_)
 have sub:Looks (model prog w) hp (isInstance (.ref x) (.type "BaseException")) true:=L0.andThen (looks_mroIn X c.be)
 refine Fp (K6 F.attr_ValueError.ga.plain F.entry_bexc_ga (@check_slot (model prog w) _ _ ⟨hp,g,d,t+1,os⟩ "BaseException.__getattribute__" "BaseException" "__getattribute__" (.ref x) [.str name t] [] _ VG RB sub (F.args_bexc_ga (.ref x) (.str name t)) ?_))
 unfold Builtin.«object.__getattribute__»
 refine Ah (B9 ?_)
 refine Ah (B9 ?_)
 refine Ah (L0.at (Ah (L3.at ?_)))
 refine B9 ?_
 show wpAny _ _ (handedOut v) _ _ _
 rw[handedOut_of hh]
 exact B9 h
theorem Up {v:Value}{Q:Unit->Shared->Prop}(X:K.In s.heap)(hx:s.heap.get? x=some ox)(hcl:ox.cls = .ref C)(hno:notCls ox=true)(hdn:ox.dict=none)(c:XC K C)(ha:findIn K (.ref C) name=some none)
  (hq:∀h' tk',(∀b o,b≠x->s.heap.get? b=some o->h'.get? b=some o)->h'.get? x=some {cls:=ox.cls,dict:=some s.heap.objs.size,data:=ox.data,slots:=ox.slots}->h'.Ns1 s.heap.objs.size (fun y=>if y=name then some v else none)->
   Q () {s with heap:=h',toks:=tk'}):wpAny (model prog w) A (setAttr (.ref x) name v) Q E s:=by
 obtain⟨h,g,d,t,os⟩:=s
 have I:InstAt h x ox C none:=⟨hx,hcl,hno,by rw[hdn];exact True.intro⟩
 have SF:=F.store_ValueError
 have L0:=I.type (M:=model prog w)
 have L1:=looks_findIn (M:=model prog w) X c.sa
 have L2:=looks_findIn (M:=model prog w) X ha
 obtain⟨cd,hc,ho⟩:=any_some c.mt
 obtain⟨cd',hc',hd'⟩:=any_some c.hd
 obtain rfl:cd=cd':=BQ (hc.symm.trans hc')
 have hm:Looks (model prog w) h (mroOf (.ref C)) cd.mro:=(looks_clsIn X hc).andThen .now
 have sub:Looks (model prog w) h (isInstance (.ref x) (.type "object")) true:=L0.andThen (looks_mroIn X c.ob)
 unfold setAttr callSpecial? specialOf
 refine Ah (wpAny_mkText (Ah (Ah (Ah (L0.at (L1.at ?_))))))
 refine HZ ?_
 rw[SF.slot.bind]
 refine Ah (B9 (Ah ?_))
 refine Fp (K6 SF.slot.plain SF.entry (@check_slot (model prog w) _ _ ⟨h,g,d,t+1,os⟩ "object.__setattr__" "object" "__setattr__" (.ref x) [.str name t,v] [] _ SF.kind SF.split sub (SF.args (.ref x) (.str name t) v) ?_))
 show wpAny _ _ (Builtin.«object.__setattr__» ⟨[.ref x,.str name t,v],[]⟩) _ _ _
 rw[osa_eq,refuse_eq]
 refine Ah (Ah (L0.at (Ah (hm.at ?_))))
 rw[LZ _ (D3.mp ho)]
 refine B9 (Ah (L0.at (Ah (L2.at (Ah (B9 ?_))))))
 dsimp only
 obtain⟨oc,odi,oda,osl⟩:=ox
 obtain rfl:oc = .ref C:=hcl
 obtain rfl:odi=none:=hdn
 have hx:h.get? x=some ⟨.ref C,none,oda,osl⟩:=hx
 unfold storeInOwnDict
 refine Ah (B9 ?_)
 rw[A9 (by simp)]
 refine Ah ?_
 unfold ownDictForStores instanceDict
 refine Ah (wpAny_loadPart hx ?_)
 dsimp only
 refine Ah ((looks_clsIn X hc).at ?_)
 rw[hd']
 simp only[Bool.not_true,HW,G6]
 rw[A9 (by simp[typeHasDict])]
 have hx₁:(h.push {cls:=.type "dict",data:=.dict #[]}).get? x=some ⟨.ref C,none,oda,osl⟩:=Bc _ hx
 have hxs:x≠h.objs.size:=BL (B1 hx)
 have fin:wpAny (model prog w) A.in1 (storeInDict h.objs.size (.str name t) name v) (fun fin s'=>match fin with
   |Fin.done (Flow.ret _)=>Q () s'
   |_=>False) (fun e s'=>E e s') ⟨(h.push {cls:=.type "dict",data:=.dict #[]}).update x fun o=>{cls:=o.cls,dict:=some h.objs.size,data:=o.data,slots:=o.slots},g,d,t+1,os⟩:=by
  have hgd:((h.push {cls:=.type "dict",data:=.dict #[]}).update x fun o=>{cls:=o.cls,dict:=some h.objs.size,data:=o.data,slots:=o.slots}).get? h.objs.size=some {cls:=.type "dict",data:=.dict #[]}:=
   (Heap.get?_update_ne _ _ _ _ hxs.symm).trans (Heap.get?_push_at rfl rfl)
  have hnd:((h.push {cls:=.type "dict",data:=.dict #[]}).update x fun o=>{cls:=o.cls,dict:=some h.objs.size,data:=o.data,slots:=o.slots}).Ns h.objs.size (fun _=>none):=
   ⟨_,#[],_,hgd,rfl,fun e he=>absurd he (by simp),fun _=>rfl⟩
  unfold storeInDict newKeyGuard
  refine Ah (B9 (Ah (wpAny_nsSet1 (Heap.Ns1.of_empty hnd) fun h' hn' hs=>?_)))
  obtain⟨oD,esD,epD,hoD,hdD,hcD⟩:=hn'.count (Within.cons name v Within.nil)
  refine Ah (wpAny_lookBehind hoD (by rw[hdD];exact pastItsLine_dict (Bz hcD (by rw[AO,JU,F3];omega))) ?_)
  refine B9 (hq h' _ (fun b ob hbx hb=>(hs.2 b (BL (B1 hb))).trans ((Heap.get?_update_ne _ _ _ _ hbx).trans (Bc _ hb))) ?_ hn')
  refine(hs.2 x hxs).trans (JT _ hx₁ ?_)
  have hfr:=(Heap.get?_some_iff.mp hx).2
  cases oda<;>first|rfl|exact hfr
 have fin2:=Ct fin (Q':=fun fin s'=>match fin with
   |
    Fin.done f=>(match (Except.ok f:Result) with
    |Except.ok (Flow.ret v)=>wpAny (model prog w) A (pure (some v)) (fun a s'=>wpAny (model prog w) A (match a with|some val=>pure PUnit.unit|x=>unsupported "internal:no-__setattr__") Q E s') E s'
    |Except.ok a=>False
    |Except.error e=>E e s')
   |
    Fin.again c'=>c'.quiet=true/\codeAny (model prog w) A c' (fun r s'=>match r with
    |Except.ok (Flow.ret v)=>wpAny (model prog w) A (pure (some v)) (fun a s'=>wpAny (model prog w) A (match a with|some val=>pure PUnit.unit|x=>unsupported "internal:no-__setattr__") Q E s') E s'
    |Except.ok a=>False
    |Except.error e=>E e s') s') (fun fin s' z=>by
  rcases fin with(_|_|_|_)|_<;>first|exact B9 (B9 z)|exact z.elim) fun _ _ z=>z
 have hno':∀c,oda≠.cls c:=fun c z=>by rw[z]at hno;cases hno
 split
 .exact absurd rfl (hno' _)
 .refine Ah (wpAny_alloc' ?_)
  refine Ah (wpAny_update' hx₁ ?_)
  refine B9 ?_
  exact fin2
theorem Sf {v:Value}{vs:Array Value}{R:Result->Shared->Prop}(X:K.In s.heap)(hx:s.heap.get? x=some ox)(hcl:ox.cls = .ref C)(hd:ox.data = .fields vs){t0:Addr}(h0:vs[0]?=some (.ref t0))(c:XC K C)
  (hq:∀h',(∀b o,b≠x->s.heap.get? b=some o->h'.get? b=some o)->h'.get? x=some {cls:=ox.cls,dict:=ox.dict,data:=.fields (vs.setIfInBounds 0 (.ref s.heap.objs.size)),slots:=ox.slots}->R (.ok (.ret .none)) {s with heap:=h'}) :
  codeAny (model prog w) A (.call (.builtin "ValueError.__init__") ⟨[.ref x,v],[]⟩) R s:=by
 obtain⟨h,g,d,t,os⟩:=s
 obtain⟨oc,odi,oda,osl⟩:=ox
 obtain rfl:oc = .ref C:=hcl
 obtain rfl:oda = .fields vs:=hd
 have hx:h.get? x=some ⟨.ref C,odi,.fields vs,osl⟩:=hx
 have L0:Looks (model prog w) h (typeOf (.ref x)) (.ref C):=(Looks.ld hx).andThen .now
 obtain⟨N,bm,ct⟩:=c.ct
 obtain⟨nm,q,bs,hdct,sn,sub,ab,col,dd,k0,k1,k2,k3,k5,hC,T⟩:=ct h X
 refine K6 F.excBase_ValueError.init.plain F.excBase_ValueError.initEntry (wpAny_check_init_subT F.excBase_ValueError T hC hx rfl ?_)
 have hz:0<vs.size:=(K0.mp h0).1
 wp_walk
 rw[h0]
 refine B9 ?_
 dsimp only
 have hx1:(h.push {cls:=Value.type "tuple",data:=Data.seq #[v]}).get? x=some ⟨.ref C,odi,.fields vs,osl⟩:=Bc _ hx
 refine Ah (wpAny_setField hx1 rfl hz ?_)
 refine wpAny_letGo (B9 ?_)
 refine hq _ (fun b o hb e=>?_) ?_
 .rw[Fl _ _ (Ne.symm hb)]
  exact Bc _ e
 .rw[JT _ hx1 rfl]
  rfl
end
end EX
namespace EX
open PySem PySem.Spec PySem.Calls PyProof.Rows PySem.W PySem.Builtin PySem.Builtin.ObjectAttr
section
variable {prog:Program}{w:World}{A:Around}{E:Value->Shared->Prop}{s:Shared}{K:Frag}{x C:Addr}{ox:Obj}{od:Option Obj}
end
end EX
namespace EX
open PySem PySem.Spec PyProof.Rows
theorem BW.one {h:Heap}{a:Addr}{C C':Addr}{d d':Option Addr}{t t':Value}(x:BW h a (.ref C) d t)(y:BW h a (.ref C') d' t'):C'=C/\d'=d:=by
 obtain⟨oe,vs,h0,h1,h2,_⟩:=x
 obtain⟨oe',vs',g0,g1,g2,_⟩:=y
 rw[h0]at g0
 cases g0
 exact⟨Value.ref.inj (g1.symm.trans h1),g2.symm.trans h2⟩
theorem DR.then {fs ch:List Addr}{h h1 h2:Heap}{T:Addr}(a:DR fs ch h h1)(hT:h.objs.size<=T)(b:DR [] [T] h1 h2):DR fs ch h h2:=fun x o e hc=>by
 obtain⟨p,sl,q⟩:=a x o e hc
 have nT:x∉[T]:=fun z=>absurd (B1 e) (by rw[Ce.mp z];exact Nat.not_lt.mpr hT)
 exact⟨fun hf=>(b x o (p hf) nT).1 (by simp),(b x _ q nT).2⟩
theorem BW.there {h:Heap}{a:Addr}{C:Value}{d:Option Addr}{t:Value}(x:BW h a C d t):∃u,h.get? a=some u:=by obtain⟨oe,_,e,_⟩:=x;exact⟨oe,e⟩
end EX
namespace L2
open PySem PySem.Spec PyProof.Rows EX
def F9 (h:Heap)(a:Addr)(C:Value)(d:Option Addr):Prop := ∃oe vs t0,h.get? a=some oe/\oe.cls=C/\oe.dict=d/\oe.data = .fields vs/\vs[0]?=some (.ref t0)/\vs[1]?=some .none
theorem F9.at {h:Heap}{a:Addr}{C:Value}{d:Option Addr}(x:F9 h a C d):BW h a C d .none:=by obtain⟨oe,vs,_,h0,h1,h2,h3,_,h5⟩:=x;exact⟨oe,vs,h0,h1,h2,h3,h5⟩
def D9 (a C:Addr)(d:Option Addr):HO:=.ext fun h=>F9 h a (.ref C) d
def CY (a C:Addr)(d:Option Addr):HO:=.ext fun h=>∃tb,BW h a (.ref C) d tb
section
variable {P:Program}{w:World}{H:Hp}{h:Heap}{a C:Addr}{d:Option Addr}
theorem K8 (x:F9 h a (.ref C) d):Bp P w H h a (D9 a C d):=by
 obtain⟨oe,vs,t0,h0,h1⟩:=x
 exact⟨⟨oe,vs,t0,h0,h1⟩,⟨oe,h0⟩,fun g1 g2 ⟨oe',vs',t0',z0,z⟩ k=>⟨oe',vs',t0',k _ z0,z⟩⟩
theorem JO {tb:Value}(x:BW h a (.ref C) d tb):Bp P w H h a (CY a C d):=by
 obtain⟨oe,vs,h0,h1⟩:=x
 exact⟨⟨tb,oe,vs,h0,h1⟩,⟨oe,h0⟩,fun g1 g2 ⟨tb',oe',vs',z0,z⟩ k=>⟨tb',oe',vs',k _ z0,z⟩⟩
theorem Gc (x:Bf P w H h)(e:H a=some (D9 a C d)):F9 h a (.ref C) d:=(show Bp P w H h a (D9 a C d) from x a _ e).1
theorem L4 (x:Bf P w H h)(e:H a=some (CY a C d)):∃tb,BW h a (.ref C) d tb:=(show Bp P w H h a (CY a C d) from x a _ e).1
end
theorem Lf {H:Hp}{a:Addr}{o:HO}(h:H a=some o):upd H a o=H:=by
 funext b
 unfold upd
 split
 .rename_i e;rw[e,h]
 .rfl
def GA (P:Program)(w:World):Dx:=fun outer H s E e s'=>∃(a C:Addr) (d:Option Addr) (T:Addr) (H':Hp),e = .ref a/\s'.os=s.os/\AllBare s'.gens/\Un (Dd outer) [] H H' s.heap s'.heap/\Bf P w H' s'.heap/\H' a=some (CY a C d)/\
 BW s'.heap a (.ref C) d (.ref T)/\Fd s'.heap T .none/\T≠a/\H' T=none/\s.heap.objs.size<=T/\E (.ref a) none H'
section
variable {X:Cx}{pins:List (Addr×Obj)}{σ:St}{H:Hp}{s:Shared}{a C:Addr}{d:Option Addr}
def Kl (X:Cx)(pins:List (Addr×Obj))(H:Hp)(T:Addr):Prop:=H T=none/\X.s₀.heap.objs.size<=T/\T≠X.env.locals/\(∀x c,X.env.cells.lookup x=some c->c≠T)/\∀p∈X.pn++pins,p.1≠T
theorem A1.tok_new (I:A1 X pins σ H s){T:Addr}(hT:s.heap.objs.size<=T):Kl X pins H T:=
 ⟨I.hok.fresh hT,Bz I.sz hT,FX (C7 I.lt hT),fun x c e z=>by
  obtain⟨v,o,ho,_⟩:=I.cell x c e
  exact absurd (B1 ho) (by rw[z];exact Nat.not_lt.mpr hT),fun p hp z=>by
  have:=(I.pin p hp).1
  exact absurd (B1 this) (by rw[z];exact Nat.not_lt.mpr hT)⟩
theorem A1.fly {ch:List Addr}{h':Heap}{o:HO}{φ:Heap->Prop}(I:A1 X pins σ H s)(hb:DR (Dd X.stack) (a::ch) s.heap h')(ha:H a=some (.ext φ))(new:Bp X.prog X.w (upd H a o) h' a o)(ho:∃u,h'.get? a=some u)
  (hch:∀b∈ch,Kl X pins H b):A1 X pins σ (upd H a o) {s with heap:=h'}:=by
 have nea:∀b,H b=none->b≠a:=fun b n z=>by rw[z,ha]at n;cases n
 have nof:∀b u,H b=some u->(∀ψ,u≠.ext ψ)->b≠a:=fun b u e n z=>by rw[z,ha]at e;cases e;exact n φ rfl
 refine I.call' (s':={s with heap:=h'}) (ch:=ch) rfl ⟨fun b ob q n hf hc=>?_,fun b ob q n hf hc=>?_,fun b ob q n hc=>?_,fun b ob q hc=>?_,fun b xs q=>?_,fun b ob u q=>?_,fun b ps q=>⟨#[],?_⟩⟩ (fun b u e=>?_) I.bare fun b hm=>?_
 .exact(hb b ob q fun z=>(AH.mp z).elim (nea b n) hc).1 hf
 .exact(hb b ob q fun z=>(AH.mp z).elim (nea b n) hc).2
 .rw[A7 (nea b n)];exact n
 .by_cases z:b=a
  .rw[z];exact ho
  .obtain⟨_,sl,q'⟩:=hb b ob q fun y=>(AH.mp y).elim z hc
   exact⟨_,q'⟩
 .rw[A7 (nof b _ q fun ψ y=>by cases y)];exact q
 .rw[A7 (nof b _ q fun ψ y=>by cases y)];exact q
 .rw[A7 (nof b _ q fun ψ y=>by cases y),q];simp
 .by_cases z:b=a
  .subst z;rw[A5]at e;cases e;exact new
  .rw[A7 z]at e
   have kp:∀c v,H c≠none->c≠a->s.heap.get? c=some v->h'.get? c=some v:=fun c v n1 n2 q=>
    (hb c v q fun y=>(AH.mp y).elim n2 fun m=>n1 (hch c m).1).1 fun m=>n1 (I.stkFree c m)
   refine(I.hok b u e).stay (fun c v hc q=>?_) (fun c q=>?_) fun c xs q=>?_
   .rcases hc with rfl|hc
    .exact kp c v (by rw[e];simp) z q
    .exact kp c v (by rw[hc];simp) (nof c _ hc fun ψ y=>by cases y) q
   .rw[A7 (nof c _ q fun ψ y=>by cases y)];exact q
   .rw[A7 (nof c _ q fun ψ y=>by cases y)];exact q
 .obtain⟨_,h2,h3,h4,h5⟩:=hch b hm
  exact⟨.inr h2,h3,h4,h5⟩
end
section
variable {X:Cx}
def KR (X:Cx)(Ek:St->XK):Prop := ∀(pins:List (Addr×Obj)) (σ:St) (H:Hp) (s:Shared) (a C:Addr) (d:Option Addr),A1 X pins σ H s->H a=some (D9 a C d)->Ek σ (.ref a) none (upd H a (CY a C d))->X.xe (.ref a) s
def Mq (X:Cx)(Ek:St->XK):Prop := ∀(pins:List (Addr×Obj)) (σ:St) (H:Hp) (s:Shared) (e:Value) (s':Shared),A1 X pins σ H s->GA X.prog X.w X.stack H s (Ek σ) e s'->X.xe e s'
variable {P:Program}{w:World}{K:Xa}{mg:Str->Option Value}{base:Heap}{N:List Str}{qual:Str}{scope:Scope}{f:Addr}{cd:Value}{A:Around}{outer:List Env}{s₀:Shared}{H₀:Hp}{E:XK}
theorem Nm:KR (F7 (GA P w) P w K mg base N qual scope f cd A outer s₀ H₀ E) (fun _=>E):=by
 intro pins σ H s a C d I ha hE
 have x:=Gc I.hok ha
 show wpAny _ _ (leaving _ (.ref a)) _ _ s
 unfold leaving
 refine Ah (NU (base:=base) (L:=s₀.heap.objs.size) I.ok.frames I.stack rfl x.at fun h1 T hT b1 x1 t1 ne=>?_)
 refine Jy (s:={s with heap:=h1}) x1 t1 ne fun h2 b2 x2 t2=>?_
 have J:=I.fly (o:=CY a C d) (ch:=[]) (h':=h2) (b1.then hT b2) ha (JO x2) x2.there (fun b z=>absurd z (by simp))
 exact⟨a,C,d,T,_,rfl,J.os,J.bare,J.base,J.hok,A5,x2,t2,ne,by rw[A7 ne];exact I.hok.fresh hT,Bz I.sz hT,hE⟩
end
section
variable {P:Program}{w:World}{K:Xa}{mg:Str->Option Value}{base:Heap}
theorem AM.okX {x qual:Str}{st:Stmt}{f:Addr}{fd:FuncData}{N ps:List Str}{k:Nat}{sp:Sp}(F:AM K x qual st f fd)(S:AQ N ps (AB st))(len:∀vs H Q E,sp vs H Q E->vs.length=ps.length)
  (hbody:∀(cdv:Value) (A:Around) (outer:List Env) (s:Shared) (H:Hp) (vs:List V) (Q:VK) (E:XK),BR k (A.deeper (envOfC qual (AB st) s.heap.objs.size f cdv))->sp vs H Q E->
   ∃t,CV (F7 (GA P w) P w K mg base N qual (AB st) f cdv A outer s H E) (FN st) t/\t {nx:=fun _ H'=>Q .non H',rt:=Q} (start N vs) H):AJ P w K mg base (GA P w) (k+1) f fd ps sp:=by
 obtain⟨oc,od,kV,doc,pm,an,cdv,ct,osl,rfl,lk,hcd⟩:=F.ex
 exact MG lk hcd S len fun A outer s H vs Q E hr hsp=>hbody cdv A outer s H vs Q E hr hsp
end
section
variable {X:Cx}{Ek:St->XK}{e:Expr}{te:TE}{pos:Pos}
def Q8 (K:Xa)(Ek:St->XK)(te:TE):TS:=fun _ σ H=>te σ H fun v H1=>∃a C d,v = .ref a/\H1 a=some (D9 a C d)/\XC K C/\Ek σ (.ref a) none (upd H1 a (CY a C d))
theorem Ma (hc:X.calm=true)(hr:KR X Ek)(he:PE X e te):PS X (.Raise (some e) none pos) (Q8 X.K Ek te):=by
 intro pins s σ H D I h
 refine QP (I.ok.hd hc) (Ak (he pins s σ H _ I h) fun u s1 q=>?_)
 obtain⟨v,H1,I1,r,a,C,d,rfl,ha,xc,q⟩:=q
 obtain rfl:u = .ref a:=r
 obtain⟨N,bm,ct⟩:=xc.ct
 have c1:=ct _ I1.kIn
 obtain⟨_,_,_,_,_,_,_,_,_,_,_,_,_,_,_,T⟩:=id c1
 exact⟨a,d,C,bm,rfl,c1.at,T.hasType (by decide),(Gc I1.hok ha).at,hr pins σ H1 s1 a C d I1 ha q⟩
end
end L2
namespace EX
open PySem PySem.Spec PyProof.Rows
theorem ClsT.base {h:Heap}{C N:Addr}{bm:List Value}(x:ClsT h C N bm):bm.contains (.type "BaseException")=true:=by
 obtain⟨_,_,_,_,_,_,_,_,_,_,_,_,_,_,_,T⟩:=x
 exact T.hasType (by decide)
end EX
namespace L2
open PySem PySem.Spec PyProof.Rows EX
abbrev Cx.tried (X:Cx)(pn:List (Addr×Obj))(xe:Value->Shared->Prop):Cx:={X with pn:=pn,xe:=xe}
abbrev Cx.held (X:Cx)(a:Addr):Cx:={X with A:=X.A.mark (some (.ref a)),calm:=false,xe:=fun _ _=>False}
section
variable {X:Cx}{pins pins':List (Addr×Obj)}{σ:St}{H:Hp}{s:Shared}{a:Addr}{xe:Value->Shared->Prop}{pn:List (Addr×Obj)}
theorem Cx.Ok.tried (ok:X.Ok):(X.tried pn xe).Ok:=⟨ok.mod,ok.kind,ok.glob,ok.blt,ok.above,ok.inj,ok.has,ok.cab,ok.hd,ok.frames,ok.stk,ok.exf,ok.bs,ok.bsz,ok.noex,ok.exfs,ok.funs,ok.frf⟩
theorem Cx.Ok.untried (ok:(X.tried pn xe).Ok):X.Ok:=⟨ok.mod,ok.kind,ok.glob,ok.blt,ok.above,ok.inj,ok.has,ok.cab,ok.hd,ok.frames,ok.stk,ok.exf,ok.bs,ok.bsz,ok.noex,ok.exfs,ok.funs,ok.frf⟩
theorem Cx.Ok.held (ok:X.Ok):(X.held a).Ok:=⟨ok.mod,ok.kind,ok.glob,ok.blt,ok.above,ok.inj,ok.has,ok.cab,(fun z=>nomatch z),ok.frames,ok.stk,ok.exf,ok.bs,ok.bsz,ok.noex,ok.exfs,ok.funs,ok.frf⟩
theorem A1.tried (I:A1 X pins σ H s):A1 (X.tried (X.pn++pins) xe) [] σ H s:=⟨I.ok.tried,I.os,I.bare,I.base,I.loc,I.cell,I.free,I.freeC,fun p hp=>I.pin p (by simpa using hp),I.hok,I.len⟩
theorem A1.untried (I:A1 (X.tried (X.pn++pins) xe) pins' σ H s):A1 X pins σ H s:=⟨I.ok.untried,I.os,I.bare,I.base,I.loc,I.cell,I.free,I.freeC,fun p hp=>I.pin p (FW _ hp),I.hok,I.len⟩
theorem A1.held (I:A1 X pins σ H s):A1 (X.held a) pins σ H s:=⟨I.ok.held,I.os,I.bare,I.base,I.loc,I.cell,I.free,I.freeC,I.pin,I.hok,I.len⟩
theorem A1.unheld (ok:X.Ok)(I:A1 (X.held a) pins σ H s):A1 X pins σ H s:=⟨ok,I.os,I.bare,I.base,I.loc,I.cell,I.free,I.freeC,I.pin,I.hok,I.len⟩
theorem SP.untried {D:Cw}{f:Flow}{s':Shared}(h:SP (X.tried (X.pn++pins) xe) pins' D f s'):SP X pins D f s':=by
 cases f with
 |next=>obtain⟨σ',H',I,q⟩:=h;exact⟨σ',H',I.untried,q⟩
 |brk=>obtain⟨σ',H',I,q⟩:=h;exact⟨σ',H',I.untried,q⟩
 |cont=>obtain⟨σ',H',I,q⟩:=h;exact⟨σ',H',I.untried,q⟩
 |ret u=>obtain⟨v,σ',H',I,r,q⟩:=h;exact⟨v,σ',H',I.untried,r,q⟩
end
def PH (X:Cx)(hs:List ExceptHandler)(th:Addr->Addr->Option Addr->TS):Prop:=
 ∀(pins:List (Addr×Obj)) (s:Shared) (σ:St) (H:Hp) (D:Cw) (a C:Addr) (d:Option Addr) (T:Addr),A1 X pins σ H s->H a=some (CY a C d)->BW s.heap a (.ref C) d (.ref T)->Fd s.heap T .none->T≠a->Kl X pins H T->
  th a C d D σ H->wpAny (model X.prog X.w) X.A (handleBy (.ref a) X.env hs) (SP X pins D) X.xe s
section
variable {X:Cx}{x n:Str}{np pos:Pos}{Dc:Addr}{b₀:Stmt}{suite:List Stmt}{rest:List ExceptHandler}{ts:Addr->TS}{th:Addr->Addr->Option Addr->TS}
end
def PC (tb:(St->XK)->TS)(th:Addr->Addr->Option Addr->TS):TS:=fun D σ H=>tb (fun σ' v _ H'=>∃a C d,v = .ref a/\H' a=some (CY a C d)/\th a C d D σ' H') D σ H
theorem Sj {X:Cx}{body:List Stmt}{h₀:ExceptHandler}{hs:List ExceptHandler}{pos:Pos}{tb:(St->XK)->TS}{th:Addr->Addr->Option Addr->TS}
  (hb:∀pn xe Ek,Mq (X.tried pn xe) Ek->KR (X.tried pn xe) Ek->CV (X.tried pn xe) body (tb Ek)) (hh:PH X (h₀::hs) th) (hst:X.stack=X.env::X.outer:=by rfl) (hfr:X.env.frame=some X.env.locals:=by rfl) :
  PS X (.Try body (h₀::hs) [] [] pos) (PC tb th):=by
 intro pins s σ H D I h
 rw[arm_exec_Try]
 refine Ah (HX (wpAny_tryStmt_except ?_))
 refine Ct (hb (X.pn++pins) (fun e s₁=>wpAny (model X.prog X.w) X.A (noteFrame e X.env) (fun _ s₂=>wpAny (model X.prog X.w) X.A (setFlight e none) (fun _ s₃=>wpAny (model X.prog X.w) X.A (handleBy e X.env (h₀::hs)) (SP X pins D) X.xe s₃) X.xe s₂) X.xe s₁)
  (fun σ' v _ H'=>∃a C d,v = .ref a/\H' a=some (CY a C d)/\th a C d D σ' H') ?_ ?_ [] s σ H D I.tried h) (fun f s1 q=>?_) (fun _ _ z=>z)
 .intro pins' σ' H1 s1 e s' I1 hc
  obtain⟨a,C,d,T0,H',rfl,os,bare,un,hok,ha,x0,t0,ne0,hT0,sT0,a',C',d',ea,ha',hth⟩:=hc
  obtain rfl:a=a':=Value.ref.inj ea
  have J1:A1 X pins σ' H1 s1:=I1.untried
  have J:=J1.call' (ch:=[]) os un hok bare (fun b z=>absurd z (by simp))
  obtain⟨tb',y⟩:=L4 J.hok ha'
  obtain⟨rfl,rfl⟩:=BW.one x0 y
  have tk:=J1.tok_new sT0
  refine U1 (base:=X.base) (L:=X.env.locals) (env:=X.env) (outer:=X.outer) (by rw[←hst];exact J.ok.frames) (by rw[←hst];exact J.stack) hfr x0 t0 ne0 fun h1 T hT b1 x1 t1 ne=>?_
  refine Jy (s:={s' with heap:=h1}) x1 t1 ne fun h2 b2 x2 t2=>?_
  rw[←hst]at b1
  have J2:=J.fly (o:=CY a C' d') (ch:=[T0]) (h':=h2) (b1.then hT b2) ha (JO x2) x2.there (fun b z=>by rw[Ce.mp z];exact⟨hT0,tk.2⟩)
  rw[Lf ha]at J2
  exact hh pins _ σ' H' D a C' d' T J2 ha x2 t2 ne (J.tok_new hT) hth
 .intro pins' σ' H1 s1 a C d I1 ha hE
  obtain⟨a',C',d',ea,ha',hth⟩:=hE
  obtain rfl:a=a':=Value.ref.inj ea
  have J:A1 X pins σ' H1 s1:=I1.untried
  have x:=Gc J.hok ha
  refine NU (base:=X.base) (L:=X.env.locals) (env:=X.env) (outer:=X.outer) (by rw[←hst];exact J.ok.frames) (by rw[←hst];exact J.stack) hfr x.at fun h1 T hT b1 x1 t1 ne=>?_
  refine Jy (s:={s1 with heap:=h1}) x1 t1 ne fun h2 b2 x2 t2=>?_
  rw[←hst]at b1
  have J2:=J.fly (o:=CY a C d) (ch:=[]) (h':=h2) (b1.then hT b2) ha (JO x2) x2.there (fun b z=>absurd z (by simp))
  obtain⟨tb',y⟩:=L4 J2.hok ha'
  obtain⟨rfl,rfl⟩:=BW.one x2 y
  have tk:=J.tok_new hT
  exact hh pins _ σ' _ D a C' d' T J2 ha' x2 t2 ne ⟨by rw[A7 ne];exact tk.1,tk.2⟩ hth
 .have q:=q.untried
  cases f with
  |next=>exact K4 q
  |_=>exact q
section
variable {X:Cx}{k:Nat}{f C:Addr}{fd:FuncData}{ps:List Str}{sp:Sp}{dvs:List V}{ds:List Value}{Ek:St->XK}{x:Str}{p pos:Pos}{e:Expr}{es:List Expr}{t:TA}
def Pd (sp:Sp)(dvs:List V)(Ek:St->XK)(t:TA):TE:=fun σ H Q=>t σ H fun vs H1=>sp (vs++dvs) H1 Q (Ek σ)
theorem QG (F:AJ X.prog X.w X.K X.mg X.base (GA X.prog X.w) k f fd ps sp)(hr:BR k X.A)(hg:Gl X x)(hm:X.mg x=some (.ref f))(hk:PySem.W.keepIn X.K (.ref f)=true)(hb:AL X.K fd ps ds)(hd:As dvs ds)(hx:Mq X Ek)
  (ha:PA X (e::es) t) (hdb:(x==("__debug__":Str))=false:=by decide) (he:starEach (e::es) X.env=(false,eval e X.env)::starEach es X.env:=by rfl) (hpl:(backTo pos (starEach es X.env)).any (·.1)=false:=by rfl) :
  PE X (.Call (.Name x p) (e::es) [] pos) (Pd sp dvs Ek t):=by
 intro pins s σ H Q I h
 refine Fs (EB I hg hm ?_ hdb)
 refine JR (h₀:=X.base) I.ok.mod.kin hk (Ak (ha pos pins s σ H _ I h) fun us s1 zz=>?_) he hpl
 obtain⟨vs,H1,I1,r,q⟩:=zz
 refine⟨I1.kIn,?_⟩
 have r2:As (vs++dvs) (us++ds):=r.append hd
 have hl:(us++ds).length=ps.length:=by rw[←r2.length];exact F.len _ _ _ _ q
 refine Fp (Fq (F.run X.A X.stack s1 H1 ⟨us,[]⟩ (us++ds) (vs++dvs) Q (Ek σ) hr I1.env0 (hb s1 us I1.kIn hl) r2 q) fun r s' hq=>?_)
 cases r with
 |error e=>exact hx pins σ H1 s1 e s' I1 hq
 |
  ok fl=>
  cases fl with
  |ret u=>exact I1.after hq
  |next=>exact False.elim hq
  |brk=>exact False.elim hq
  |cont=>exact False.elim hq
end
end L2
namespace EX
open PySem PySem.Spec PySem.Calls PyProof.Rows PySem.W
section
variable {prog:Program}{w:World}{A:Around}{h:Heap}{g:Array GenState}{d:Drawn}{t:Nat}{os:OsState}{R:Result->Shared->Prop}{C N:Addr}{bm:List Value}
theorem S7 {E:Value->Shared->Prop}{rest:List Value}{f:Addr}{Q:PySem.Fin->Shared->Prop}(ct:ClsT h C N bm)(hL:Looks (model prog w) h (typeLookup (.ref C) "__init__") (some (.ref f)))
  (hB:∀self,Looks (model prog w) h (bindSpecial (.ref f) self) (.ref f,[self]))
  (hq:wpAny (model prog w) A (call (.ref f) (.ref (h.objs.size+1)::rest)) (fun v s'=>v = .none/\Q (.done (.ret (.ref (h.objs.size+1)))) s') E ⟨(h.push (Gf rest)).push (FI C h.objs.size),g,d,t,os⟩) (hrest:rest.length<=sizeLine) :
  wpAny (model prog w) A (Builtin.«type.__call__» ⟨.ref C::rest,[]⟩) Q E ⟨h,g,d,t,os⟩:=by
 obtain⟨nm,q,bs,hdct,sn,sub,ab,col,dd,k0,k1,k2,k3,k5,hC,T⟩:=ct
 repeat (first|with_reducible refine GX hC ?_|with_reducible refine wpAny_madeBy_exc hC ?_|wp_step)
 refine codeAny_call_builtin_code (Code.quiet_builtin _ F.excBase_ValueError.quiet) (wpAny_check_new_subT F.excBase_ValueError T hC ?_)
 refine codeAny_exc_new_subT F.excBase_ValueError T hC ?_ hrest
 show wpAny _ _ _ _ _ _
 have k:∀b o,h.get? b=some o->((h.push (Gf rest)).push (FI C h.objs.size)).get? b=some o:=fun b o e=>Bc _ (Bc _ e)
 have hC₁:=k _ _ hC
 have hget:((h.push (Gf rest)).push (FI C h.objs.size)).get? (h.objs.size+1)=some (FI C h.objs.size):=by heap_get
 have hcC:(Value.ref C::bm).contains (.ref C)=true:=by simp
 unfold isInstance
 repeat (first|with_reducible refine GX hget ?_|(with_reducible refine LX hC₁ ?_;rw[hcC])|wp_step)
 show wpAny _ _ (typeLookup (.ref C) _) _ _ _
 refine(hL.keeps k).at ?_
 refine HZ (Ah (((hB _).keeps k).at ?_))
 refine Ah (Ct hq (fun v s' hv=>?_) fun _ _ z=>z)
 obtain⟨rfl,hv⟩:=hv
 wp_walk
 exact hv
theorem Uo {rest:List Value}{f:Addr}(ct:ClsT h C N bm)(hL:Looks (model prog w) h (typeLookup (.ref C) "__init__") (some (.ref f)))(hB:∀self,Looks (model prog w) h (bindSpecial (.ref f) self) (.ref f,[self]))
  (hq:codeAny (model prog w) (A.under (.builtin "type.__call__" ⟨.ref C::rest,[]⟩)) (.call (.ref f) ⟨.ref (h.objs.size+1)::rest,[]⟩) (OP (h.objs.size+1) R) ⟨(h.push (Gf rest)).push (FI C h.objs.size),g,d,t,os⟩) (hrest:rest.length<=sizeLine) :
  codeAny (model prog w) A (.call (.ref C) ⟨rest,[]⟩) R ⟨h,g,d,t,os⟩:=by
 have f1:=tc_lookup
 have f2:=tc_bind (.ref C)
 obtain⟨nm,q,bs,hdct,sn,sub,ab,col,dd,k0,k1,k2,k3,k5,hC,T⟩:=id ct
 have hT:(⟨h,g,d,t,os⟩:Shared).TypeIs (.ref C) "type":=⟨_,hC,rfl⟩
 refine codeAny_of_tree ?_
 show wpAny _ _ (callAny (.ref C) _) _ _ _
 repeat (any_goals (first|assumption|with_reducible refine GX hC ?_|wp_step))
 refine⟨rfl,?_⟩
 refine codeAny_call_builtin_at (Code.quiet_builtin _ (by decide +kernel)) entry_typeCall (wpAny_check_type_call_sub hC (S7 ct hL hB (Fp (Fq hq fun r s' z=>?_)) hrest))
 rcases r with e|(v|_|_|_)<;>first|exact z|exact z.elim
end
end EX
namespace L2
open PySem PySem.Spec PyProof.Rows
section
open EX
section
variable {X:Cx}{pins:List (Addr×Obj)}{σ:St}{H:Hp}{s:Shared}{M:Model}{A:Around}{E:Value->Shared->Prop}
theorem UT {i:Nat}{n:Str}{v:V}{Q:Unit->Shared->Prop}(I:A1 X pins σ H s)(hN:X.N.Nodup)(hi:X.N[i]?=some n)(hl:X.env.scope.names.lookup n=some .local)(hv:σ[i]?=some (some v))
  (h:∀s',A1 X pins (σ.set i none) H s'->Q () s'):wpAny M A (unbindName X.env n) Q E s:=by
 obtain⟨m,hn,hloc⟩:=id I.loc
 have hcls:(X.env.scope.kind == .class||(X.env.scope.kind == .module&&X.env.locals != X.env.globals))=false:=by rw[I.ok.kind];rfl
 have cne:=I.cne
 obtain⟨u,r,q⟩:=hloc i n v hi hv (.inl hl)
 have hk:X.env.kindOf n=some .local:=hl
 rcases q with⟨_,hm⟩|⟨hk2|hk2,_⟩
 rotate_left
 .rw[hk]at hk2;cases hk2
 .rw[hk]at hk2;cases hk2
 obtain⟨oL,_,_,hoL,_⟩:=id hn
 refine wpAny_unbindName_local hk hn hm hcls fun h' u' hn' hs=>h _ ⟨I.ok,I.os,I.bare,⟨fun b o e n hb hx=>?_,fun b o e n hb hx=>?_,I.base.free,fun b o e hx=>?_,I.base.tups,I.base.frzs,I.base.tbls⟩,⟨_,hn',fun j y v' e1 e2 e3=>?_⟩,fun y c e=>?_,I.free,I.freeC,fun p hp=>?_,fun b ob e=>?_,by simpa using I.len⟩
 .exact(hs.2 b (BL (C7 (B1 e) I.ok.above))).trans (I.base.keep b o e n hb hx)
 .obtain⟨sl,e1⟩:=I.base.slot b o e n hb hx
  exact⟨sl,(hs.2 b (BL (C7 (B1 e) I.ok.above))).trans e1⟩
 .obtain⟨o',e1⟩:=I.base.there b o e hx
  exact⟨o',(hs.2 b (BL (C7 (B1 e) I.ok.above))).trans e1⟩
 .have hiσ:i<σ.length:=by rw[I.len];exact(BJ.mp hi).1
  by_cases hj:j=i
  .subst hj
   rw[LF hiσ]at e2
   cases e2
  .rw[Oz (Ne.symm hj)]at e2
   obtain⟨u',r',q⟩:=hloc j y v' e1 e2 e3
   refine⟨u',r',?_⟩
   rcases q with⟨k,e⟩|⟨k,c,e,z⟩
   .refine .inl ⟨k,?_⟩
    have:y≠n:=fun e=>hj (Ks hN e1 (e▸hi))
    simp[this,e]
   .exact .inr ⟨k,c,e,z.sameBut hs (cne y c e)⟩
 .obtain⟨w',z⟩:=I.cell y c e
  exact⟨w',z.sameBut hs (cne y c e)⟩
 .obtain⟨e,n,ne,nf,d⟩:=I.pin p hp
  exact⟨(hs.2 p.1 ne).trans e,n,ne,nf,d⟩
 .refine(I.hok b ob e).stay (fun c w' hc q=>(hs.2 c ?_).trans q) (fun _ q=>q) fun _ _ q=>q
  rintro rfl
  rcases hc with rfl|hc
  .rw[I.free]at e;cases e
  .rw[I.free]at hc;cases hc
end
def M8 (i:Nat)(D:Cw):Cw:={nx:=fun σ H=>D.nx (σ.set i none) H,rt:=D.rt,bk:=fun σ H=>D.bk (σ.set i none) H,ct:=fun σ H=>D.ct (σ.set i none) H}
def R8 (K:Xa)(i:Nat)(Dc:Addr)(ts:Addr->TS)(th:Addr->Addr->Option Addr->TS):Addr->Addr->Option Addr->TS:=fun a C d D σ H=>
 ∃N bm b,(∀h,K.In h->ClsT h C N bm)/\(Value.ref C::bm).contains (.ref Dc)=b/\if b=true then ts a (M8 i D) (σ.set i (some (.ref a))) H else th a C d D σ H
section
variable {X:Cx}{x n:Str}{np pos:Pos}{Dc:Addr}{b₀:Stmt}{suite:List Stmt}{rest:List ExceptHandler}{ts:Addr->TS}{th:Addr->Addr->Option Addr->TS}{i:Nat}
theorem U3 {pins:List (Addr×Obj)}{D:Cw}{f:Flow}{s:Shared}{a:Addr}(ok:X.Ok)(hN:X.N.Nodup)(hi:X.N[i]?=some n)(hl:X.env.scope.names.lookup n=some .local)(q:SP (X.held a) pins (M8 i D) f s) :
  wpAny (model X.prog X.w) X.A (do bindName X.env n .none;unbindBehindTheSuite X.env n pos) (fun _ s₅=>SP X pins D f s₅) X.xe s:=by
 have go:∀{σ:St} {H:Hp} {Q:Unit->Shared->Prop},A1 (X.held a) pins σ H s->(∀s',A1 X pins (σ.set i none) H s'->Q () s')->wpAny (model X.prog X.w) X.A (do bindName X.env n .none;unbindBehindTheSuite X.env n pos) Q X.xe s:=by
  intro σ H Q I hq
  have I:=I.unheld ok
  have hiσ:i<σ.length:=by rw[I.len];exact(BJ.mp hi).1
  refine Ah (wpAny_bindName (Gb (v:=.non) I hN hi (.inl hl) rfl (fun s5 I5=>?_) (.inr hl)))
  unfold unbindBehindTheSuite
  refine wpAny_onRaise (UT (v:=.non) I5 hN hi hl (LF hiσ) fun s6 I6=>hq s6 ?_)
  rw[List.set_set]at I6
  exact I6
 cases f with
 |next=>obtain⟨σ',H',I,q⟩:=q;exact go I fun s' I'=>⟨_,_,I',q⟩
 |brk=>obtain⟨σ',H',I,q⟩:=q;exact go I fun s' I'=>⟨_,_,I',q⟩
 |cont=>obtain⟨σ',H',I,q⟩:=q;exact go I fun s' I'=>⟨_,_,I',q⟩
 |ret u=>obtain⟨v,σ',H',I,r,q⟩:=q;exact go I fun s' I'=>⟨v,_,_,I',r,q⟩
theorem Sh (hN:X.N.Nodup)(hi:X.N[i]?=some n)(hl:X.env.scope.names.lookup n=some .local)(hg:Gl X x)(hm:X.mg x=some (.ref Dc))(xd:XC X.K Dc)(hs:∀a,CV (X.held a) (b₀::suite) (ts a))(hr:PH X rest th)(hdb:(x==("__debug__":Str))=false:=by decide) :
  PH X (.ExceptHandler (some (.Name x np)) (some n) (b₀::suite) pos::rest) (R8 X.K i Dc ts th):=by
 intro pins s σ H D a C d T I ha hx ht hne hT h
 obtain⟨N,bm,b,ct,hb,h⟩:=h
 obtain⟨N',bd,cd⟩:=xd.ct
 have I':A1 (X.held a) pins σ H s:=I.held
 refine wpAny_handleBy_cons (codeAny_handlers_test (EB I' hg hm ?_ hdb)) (by intro q;cases q)
 obtain⟨hp,g,dr,t,os⟩:=s
 refine S4 (ct hp I.kIn).at (cd hp I.kIn).at (cd hp I.kIn).base hx ?_
 rw[hb]
 cases b with
 |
  false=>
  rw[A9 (by simp)]at h
  exact hr pins _ σ H D a C d T I ha hx ht hne hT h
 |
  true=>
  rw[Af rfl]at h
  refine codeAny_handlers_suite_as (Jy hx ht hne fun h2 b2 x2 t2=>?_)
  have J:=I.fly (o:=CY a C d) (ch:=[T]) (h':=h2) (b2.mono (fun b z=>by cases z) fun b z=>Bm _ z) ha (JO x2) x2.there (fun b z=>by rw[Ce.mp z];exact hT)
  rw[Lf ha]at J
  refine Gb (X:=X.held a) (v:=.ref a) J.held hN hi (.inl hl) rfl (fun s3 I3=>?_) (.inr hl)
  exact Ct (hs a pins _ _ H _ I3 h) (fun f s4 q=>U3 I.ok hN hi hl q) fun _ _ z=>z.elim
end
section
variable {X:Cx}{k:Nat}{f C:Addr}{fd:FuncData}{ps:List Str}{sp:Sp}{CX:Dx}{E:XK}{x:Str}{p pos:Pos}{e:Expr}{es:List Expr}{t:TA}
structure MS (K:Xa)(C f:Addr):Prop where
 xc:XC K C
 init:PySem.W.findIn K (.ref C) "__init__"=some (some (.ref f))
 fn:PySem.W.isFn K (.ref f)=true
 kp:PySem.W.keepIn K (.ref C)=true
structure RT (K:Xa)(C:Addr):Prop where
 xc:XC K C
 init:PySem.W.findIn K (.ref C) "__init__"=some (some (.builtin "ValueError.__init__"))
 kp:PySem.W.keepIn K (.ref C)=true
def Sx (C:Addr)(sp:Sp)(E:XK)(t:TA):TE:=fun σ H Q=>t σ H fun vs H1=>vs.length<=1000/\∀a,H1 a=none->sp (.ref a::vs) (upd H1 a (D9 a C none)) (fun v H2=>v = .non/\Q (.ref a) H2) E
theorem Nk (M:MS X.K C f)(F:AJ X.prog X.w X.K X.mg X.base CX k f fd ps sp)(hr:BR (k+1) X.A)(hg:Gl X x)(hm:X.mg x=some (.ref C))(hb:AL X.K fd ps [])(hx:Ff CX X E)
  (ha:PA X (e::es) t) (hdb:(x==("__debug__":Str))=false:=by decide) (he:starEach (e::es) X.env=(false,eval e X.env)::starEach es X.env:=by rfl) (hpl:(backTo pos (starEach es X.env)).any (·.1)=false:=by rfl) :
  PE X (.Call (.Name x p) (e::es) [] pos) (Sx C sp E t):=by
 intro pins s σ H Q I h
 refine Fs (EB I hg hm ?_ hdb)
 refine JR (h₀:=X.base) I.ok.mod.kin M.kp (Ak (ha pos pins s σ H _ I h) fun us s1 zz=>?_) he hpl
 obtain⟨vs,H1,I1,r,l10,q⟩:=zz
 refine⟨I1.kIn,?_⟩
 obtain⟨hp,g,d,tk,os⟩:=s1
 have hq:=q (hp.objs.size+1) (I1.hok.fresh (GK _))
 have nx:F9 ((hp.push (Gf us)).push (FI C hp.objs.size)) (hp.objs.size+1) (.ref C) none:=⟨_,_,_,by heap_get,rfl,rfl,rfl,rfl,rfl⟩
 have I2:=I1.laid (h':=(hp.push (Gf us)).push (FI C hp.objs.size)) (t':=tk) (o:=D9 (hp.objs.size+1) C none) (fun b o e=>Bc _ (Bc _ e)) (GK _) (K8 nx)
 have r2:As (V.ref (hp.objs.size+1)::vs) (Value.ref (hp.objs.size+1)::us):=.cons rfl r
 have hl:(Value.ref (hp.objs.size+1)::us).length=ps.length:=by rw[←r2.length];exact F.len _ _ _ _ hq
 have hb':=hb _ (Value.ref (hp.objs.size+1)::us) I2.kIn (by rw[DU];exact hl)
 rw[DU]at hb'
 obtain⟨N,bm,ct⟩:=M.xc.ct
 refine Fp (Uo (ct hp I1.kIn) (PySem.W.looks_findIn I1.kIn M.init) (fun self=>PySem.W.bind_fn I1.kIn self (D3.mp M.fn)) (Fq (F.run _ X.stack _ _ ⟨Value.ref (hp.objs.size+1)::us,[]⟩ (Value.ref (hp.objs.size+1)::us) _ _ E (hr.make C us []) (I2.env0.make C us []) hb' r2 hq) fun r s' hq'=>?_) (by show us.length<=sizeLine;rw[←r.length,F3];omega))
 cases r with
 |error e=>exact hx pins σ _ _ e s' I2 hq'
 |
  ok fl=>
  cases fl with
  |
   ret u=>
   obtain⟨v,H',I3,rv,ev,q3⟩:=I2.after hq'
   subst ev
   exact⟨rv,⟨V.ref (hp.objs.size+1),H',I3,rfl,q3⟩⟩
  |next=>exact False.elim hq'
  |brk=>exact False.elim hq'
  |cont=>exact False.elim hq'
end
end
section
open EX
structure XI (K:Xa)(C:Addr):Prop where
 xc:XC K C
 ca:PySem.W.findIn K (.ref C) "__class__"=some (some (.builtin "object.__class__"))
 cg:PySem.W.specialIn K (.builtin "object.__class__") "__get__"=some (some (.builtin "getset_descriptor.__get__"))
 ck:PySem.W.takesIn K (.builtin "object.__class__")=some true
def Ja (H:Hp)(a C:Addr)(d:Option Addr):Prop:=(H a=some (D9 a C d)\/H a=some (CY a C d))/\(d=none\/∃dx fs,d=some dx/\H dx=some (.xd fs))
theorem Ja.at {P:Program}{w:World}{H:Hp}{h:Heap}{a C:Addr}{d:Option Addr}(x:Ja H a C d)(ok:Bf P w H h):∃tb,BW h a (.ref C) d tb:=by
 rcases x.1 with e|e
 .exact⟨_,(Gc ok e).at⟩
 .exact L4 ok e
section
variable {X:Cx}{e o:Expr}{ta tv:TE}{f x:Str}{pos pos' p apos:Pos}
def U6 (K:Xa)(ta:TE)(f:Str):TE:=fun σ H Q=>ta σ H fun x H1=>∃a C dx fs v,x = .ref a/\Ja H1 a C (some dx)/\H1 dx=some (.xd fs)/\XC K C/\Bx K C f/\fs.lookup f=some v/\Q v H1
theorem OT (he:PE X e ta)(hb:attributeBase e f X.env (eval e X.env)=eval e X.env):PE X (.Attribute e f pos) (U6 X.K ta f):=by
 intro pins s σ H Q I h
 refine Oc hb (Ak (he pins s σ H _ I h) fun u s1 zz=>?_)
 obtain⟨x,H1,I1,rx,a,C,dx,fs,v,ex,hx,hd,c,n,l,q⟩:=zz
 subst ex
 obtain rfl:u=Value.ref a:=rx
 obtain⟨tb,oe,vs,h0,h1,h2,h3,_⟩:=hx.at I1.hok
 obtain⟨mA,ns,rl⟩:=(show Bp X.prog X.w H1 s1.heap dx (.xd fs) from I1.hok dx _ hd)
 obtain⟨od,ho,hl⟩:=M3 ns
 have J:PySem.W.InstAt s1.heap a oe C (some od):=⟨h0,h1,by unfold PySem.W.notCls;rw[h3],by rw[h2];exact ho⟩
 obtain⟨u,hu,ru⟩:=El.some_of (v:=v) (o:=mA f) (by rw[←l];exact rl f)
 exact Rj I1.kIn J c (PySem.W.findObj_own c.hd n rfl (by rw[hl,hu])) (NF ru) ⟨v,H1,I1.tok _,ru,q⟩
def UX (K:Xa)(ta tv:TE)(f:Str):TS:=fun D σ H=>tv σ H fun y H1=>ta σ H1 fun x H2=>∃a C,x = .ref a/\H2 a=some (D9 a C none)/\XC K C/\Bx K C f/\
 ∀dx,H2 dx=none->dx≠a->D.nx σ (upd (upd H2 dx (.xd [(f,y)])) a (D9 a C (some dx)))
theorem Pq (ha:PE X o ta)(hv:PE X e tv)(hs:swapsWith e (some (.Attribute o f pos')) pos.line X.env=pure false):PS X (.Assign [.Attribute o f pos'] e pos) (UX X.K ta tv f):=by
 intro pins s σ H D I h
 refine VU (Ak (hv pins s σ H _ I h) fun u s1 zz=>?_) hs
 obtain⟨y,H1,I1,ry,q⟩:=zz
 refine Ak (ha pins s1 σ H1 _ I1 q) fun ov s2 zz=>?_
 obtain⟨x,H2,I2,rx,a,C,ex,hx,c,n,q2⟩:=zz
 subst ex
 obtain rfl:ov=Value.ref a:=rx
 obtain⟨oe,vs,t0,h0,h1,h2,h3,h4,h5⟩:=Gc I2.hok hx
 refine Up I2.kIn h0 h1 (by unfold PySem.W.notCls;rw[h3]) h2 c n fun h' tk' kp hx' ns=>?_
 have fr:H2 s2.heap.objs.size=none:=I2.hok.fresh (Ai _)
 have ne:s2.heap.objs.size≠a:=FX (B1 h0)
 have q3:=q2 s2.heap.objs.size fr ne
 have nw:F9 h' a (.ref C) (some s2.heap.objs.size):=⟨_,vs,t0,hx',h1,rfl,h3,h4,h5⟩
 refine⟨σ,_,?_,q3⟩
 have nof:∀b v,H2 b=some v->(∀ψ,v≠.ext ψ)->b≠a:=fun b v e n z=>by rw[z,hx]at e;cases e;exact n _ rfl
 have nod:∀b v,H2 b=some v->b≠s2.heap.objs.size:=fun b v e z=>by rw[z,fr]at e;cases e
 have nob:∀b v,s2.heap.get? b=some v->b≠s2.heap.objs.size:=fun b v e=>BL (B1 e)
 have none_a:∀b,H2 b=none->b≠a:=fun b e z=>by rw[z,hx]at e;cases e
 refine I2.un (t':=tk') ⟨fun b ob q n _ _=>kp b ob (none_a b n) q,fun b ob q n _ _=>⟨ob.slots,kp b ob (none_a b n) q⟩,fun b ob q n _=>?_,fun b ob q _=>?_,fun b xs q=>?_,fun b ob v q=>?_,fun b ps q=>⟨#[],?_⟩⟩ fun b v e=>?_
 .rw[A7 (none_a b n),A7 (nob b _ q)];exact n
 .by_cases z:b=a
  .rw[z];exact⟨_,hx'⟩
  .exact⟨ob,kp b ob z q⟩
 .rw[A7 (nof b _ q fun ψ z=>by cases z),A7 (nod b _ q)];exact q
 .rw[A7 (nof b _ q fun ψ z=>by cases z),A7 (nod b _ q)];exact q
 .rw[A7 (nof b _ q fun ψ z=>by cases z),A7 (nod b _ q),q];simp
 .by_cases z:b=a
  .subst z;rw[A5]at e;cases e;exact K8 nw
  .rw[A7 z]at e
   by_cases z2:b=s2.heap.objs.size
   .subst z2
    rw[A5]at e
    cases e
    refine⟨_,ns,fun g=>?_⟩
    by_cases hg:g=f
    .subst hg
     rw[Af rfl]
     simp only[List.lookup,beq_self_eq_true]
     exact ry
    .rw[A9 hg]
     have hb:(g==f)=false:=G5.mpr hg
     simp only[List.lookup,hb]
     trivial
   .rw[A7 z2]at e
    refine(I2.hok b v e).stay (fun c o hc q=>kp c o ?_ q) (fun c q=>?_) fun c xs q=>?_
    .rcases hc with rfl|hc
     .exact z
     .exact nof c _ hc fun ψ y=>by cases y
    .rw[A7 (nof c _ q fun ψ y=>by cases y),A7 (nod c _ q)];exact q
    .rw[A7 (nof c _ q fun ψ y=>by cases y),A7 (nod c _ q)];exact q
def TZ (K:Xa)(t:TA):TE:=fun σ H Q=>t σ H fun vs H1=>∃a C d v,vs=[.ref a,v]/\H1 a=some (D9 a C d)/\XC K C/\Q .non H1
structure XB (K:Xa)(D:Addr):Prop where
 ga:PySem.W.specialIn K (.ref D) "__getattribute__"=some (some (.builtin "type.__getattribute__"))
 rd:PySem.W.readsIn K D (.type "type")=true
 fc:PySem.W.findCls K (.ref D) (.type "type") "__init__"=some (.val (.builtin "ValueError.__init__"))
theorem Qh {D:Addr}{es:List Expr}{t:TA}{pl:Sem Bool}(hg:Gl X x)(hm:X.mg x=some (.ref D))(c:XB X.K D)(ha:PA X (e::es) t)(hdb:(x==("__debug__":Str))=false:=by decide)
  (hst:starEach (e::es) X.env=(false,eval e X.env)::starEach es X.env:=by rfl) (hpl:(backTo pos (starEach es X.env)).any (·.1)=false:=by rfl)
  (ht:eval (.Call (.Attribute (.Name x p) "__init__" apos) (e::es) [] pos) X.env=(do
   let ov ←eval (.Name x p) X.env
   standAt apos.atName
   let (f,first) ←holding [ov] (getMethod ov "__init__" pl)
   callWith pos f first (backTo pos (starEach (e::es) X.env)) (backToKw pos (keywordEach [] X.env))):=by rfl) :
  PE X (.Call (.Attribute (.Name x p) "__init__" apos) (e::es) [] pos) (TZ X.K t):=by
 intro pins s σ H Q I h
 refine PySem.W.methodCall_KW (pl:=pl) (EB I hg hm ?_ hdb) ht
 refine PySem.W.method_cls I.kIn c.ga ?_
 refine PySem.W.cls_value I.kIn c.rd c.fc rfl ?_
 have I0:A1 X pins σ H {s with toks:=s.toks+1}:=I.tok _
 refine VR (Ak (ha pos pins _ σ H _ I0 h) fun us s1 zz=>?_) hst hpl
 obtain⟨vs,H1,I1,r1,a,C,d,v,ev,hx,xc,q1⟩:=zz
 subst ev
 obtain⟨u1,r1',rfl,ra,rr⟩:∃u1 r1',us=u1::r1'/\Ay (.ref a) u1/\As [v] r1':=by cases r1 with|cons a b=>exact⟨_,_,rfl,a,b⟩
 obtain⟨u2,rfl,rv⟩:=E4 rr
 obtain rfl:u1 = .ref a:=ra
 obtain⟨oe,vs,t0,h0,h1,h2,h3,h4,h5⟩:=Gc I1.hok hx
 refine Fp (Sf I1.kIn h0 h1 h3 h4 xc fun h' kp hx'=>?_)
 have nw:F9 h' a (.ref C) d:=⟨_,_,_,hx',h1,h2,rfl,by
  have hz:0<vs.size:=(K0.mp h4).1
  simp[hz];rfl,by
  rw[Array.getElem?_setIfInBounds_ne (by decide)];exact h5⟩
 have J:=I1.write (x:=a) (e:=a) (o:=D9 a C d) (h':=h') (t':=s1.toks) (by rw[hx];exact True.intro) (.inl rfl) kp ⟨_,hx'⟩ (K8 nw)
 rw[Lf hx]at J
 exact⟨.non,H1,J,rfl,q1⟩
end
end
section
open EX
section
variable {P:Program}{w:World}{K:Xa}{mg:Str->Option Value}{base:Heap}
end
section
variable {X:Cx}{k:Nat}{f:Addr}{fd:FuncData}{ps:List Str}{sp:Sp}{x:Str}{p pos:Pos}{e:Expr}{es:List Expr}{t:TA}
end
end
section
open EX
def Jw (K:Xa)(C:Addr)(own:List Addr):Bool:=match K.lookup C with
 |
  some ⟨.type "type",_,.cls cd,sl⟩=>(match cd.mro,sl.toList with
  |.ref C'::bm,[_,_,_,_,some (.builtin n),_]=>C'==C&&n=="ValueError.__new__"&&!cd.hasDel&&bm==own.map Value.ref++bmVE&&PySem.W.tailIn K bmVE bm
  |_,_=>false)
 |_=>false
theorem Gr {K:Xa}{C:Addr}{own:List Addr}(q:Jw K C own=true):∃N,∀h,K.In h->ClsT h C N (own.map Value.ref++bmVE):=by
 unfold Jw at q
 split at q
 .rename_i dd cd sl ho
  split at q
  .rename_i C' bm k0 k1 k2 k3 n k5 hm hs
   simp only[FZ,D3,Bool.not_eq_true']at q
   obtain⟨⟨⟨⟨rfl,rfl⟩,hdel⟩,hb⟩,ht⟩:=q
   obtain⟨nm,bs,mro,ns,qn,hd,sn,sub,ab,col,del⟩:=cd
   dsimp only at hm hdel
   subst hm hdel
   have hsl:sl = #[k0,k1,k2,k3,some (.builtin "ValueError.__new__"),k5]:=by
    obtain⟨l⟩:=sl
    simp only at hs
    rw[hs]
   subst hsl
   rw[←hb]
   exact⟨ns,fun h X=>⟨nm,qn,bs,hd,sn,sub,ab,col,dd,k0,k1,k2,k3,k5,X _ _ ho,PySem.W.tail_of_in X ht⟩⟩
  .cases q
 .cases q
def SN:Addr->Addr->Option Addr->TS:=fun _ _ _ _ _ _=>False
theorem P7 {X:Cx}:PH X [] SN:=fun _ _ _ _ _ _ _ _ _ _ _ _ _ _ _ h=>h.elim
theorem RZ {C:Addr}{own:List Addr}{D:Addr}:(Value.ref C::(own.map Value.ref++bmVE)).contains (.ref D)=decide (D=C\/D∈own):=by
 rw[DJ,List.contains_iff_mem,decide_eq_true_iff]
 simp[bmVE]
end
end L2
namespace Rd
open PySem PySem.Spec L2 EX
theorem tx_nt:(Str.empty++("no program's text, by row ":Str)).length<=30:=by decide +kernel
theorem ln_nt {x y:Str}{n:Nat}(hx:x.length<=30)(hy:y.length<=n)(hn:n<=15000013):(x++y).length<=sizeLine:=by
 rw[Bh,F3]
 omega
theorem same_put {H H1:Hp}{a:Addr}{o:HO}(e:A8 H H1)(h:H a=none):A8 H (upd H1 a o):=fun b ob hb=>by
 rw[A7 (AG hb h)]
 exact e b ob hb
def spNTi (C:Addr):Sp:=fun vs H Q _=>∃(a:Addr) (n:Int),vs=[.ref a,.int n]/\H a=some (D9 a C none)/\0<=n/\n<=1000000/\∀dx,H dx=none->dx≠a->Q .non (upd (upd H dx (.xd [("line",.int n)])) a (D9 a C (some dx)))
def Whl (D:Dr):Prop:=D.sz≠none/\D.dd≠[]/\D.lp=[]
def spReadX (CP C CX:Addr)(c:Cs):Sp:=fun vs H Q E=>∃(f:Str->Nat) (z:Str) (rows:List Str) (D:Dr),vs=[.str z]/\z.length<=900000/\IsSplit [10] (cds z) (rows.map cds)/\rows.length<=1000/\(∀y∈rows,y.length<=100000)/\Rds f rows D0 D/\
 (Whl D->∀(n:Int) (v:V) (H':Hp),D.sz=some n->A8 H H'->Nx CP C c H' v n D.dd->Q v H')/\
 (¬Whl D->∀(x dx:Addr) (H':Hp),A8 H H'->H' x=some (CY x CX (some dx))->H' dx=some (.xd [("line",.int ((rows.length:Nat)+1:Int))])->E (.ref x) none H')
def spProg28 (K:Xa):Sp:=fun vs H Q _=>∃(cl nl:Addr) (cs:List Int) (ns:List Str),vs=[.ref cl,.ref nl]/\A2 K H cl (cs.map V.int)/\cs.length<=63/\Es H nl ns/\∀(t rl dl:Addr) (H':Hp) (xs ys:List V) (R:Pw.Rw Al Str) (Ds:List Dw) (ks:List Rk) (la:Int),A8 H H'->H' t=some (.tup [.ref rl,.ref dl])->H' rl=some (.lst xs)->AE (HJ H') xs R->H' dl=some (.lst ys)->AE (EJ H') ys Ds->Rn ns R [] [la] Ds ks [] la->Ds≠[]->R.length<=70->Q (.ref t) H'
def rkW:Rk->List Str
 |.sz n=>["size",nS n]
 |.opn t=>["for",t.nm,AU t.lo,AU t.hi]
 |.fin=>["end"]
 |.ded tb sp _ t=>[B3 tb sp,"=",t.wr]
theorem IT (k:Rk):cds (rkS k)=wj ((rkW k).map cds):=by
 have b:cds (" ":Str)=[32]:=by decide +kernel
 cases k with
 |
  sz n=>
  show cds ("size "++nS n)=cds "size"++([32]++cds (nS n))
  rw[B4,←CQ]
  congr 1
 |
  opn t=>
  show cds ("for "++t.nm++" "++AU t.lo++" "++AU t.hi)=cds "for"++([32]++(cds t.nm++([32]++(cds (AU t.lo)++([32]++cds (AU t.hi))))))
  have e:cds ("for ":Str)=cds "for"++[32]:=by decide +kernel
  rw[B4,B4,B4,B4,B4,b,e]
  simp only[CQ]
 |fin=>rfl
 |
  ded tb sp ks t=>
  show cds (B3 tb sp++" = "++t.wr)=cds (B3 tb sp)++([32]++(cds "="++([32]++cds t.wr)))
  have e:cds (" = ":Str)=[32]++(cds "="++[32]):=by decide +kernel
  rw[B4,B4,e]
  simp only[CQ]
theorem Kc {nms ns:List Str}{t:Tw}(h:Twk nms ns t){c:Nat}(hc:c=10\/c=32\/c=59):c∉cds t.wr:=by
 rw[JI h]
 exact KF hc fun k hk=>((Fb h).1.lk k hk).ok
theorem PP {nms ns:List Str}{t:Tw}(h:Twk nms ns t):cds t.wr≠[]:=by
 rw[JI h]
 obtain⟨e1,_⟩:=Fb h
 intro z
 cases hk:(BN t).tk with
 |
  nil=>
  have:∀e:Ex,e.tk≠[]:=fun e=>by
   cases e with
   |lf t=>exact D2 _ _
   |br e=>exact D2 _ _
   |jn c l r=>show l.tk++_≠[];simp
  exact this _ hk
 |
  cons k l=>
  rw[hk,txts_cons]at z
  have h1:=(List.append_eq_nil_iff.mp z).1
  have ok:=(e1.lk k (by rw[hk];exact AR)).ok
  cases k with
  |s c=>cases h1
  |
   t w=>
   obtain⟨c,r,e,_⟩:=(Tk.whole ok).head
   rw[e]at h1
   cases h1
theorem R0 {ns:List Str}{k:Rk}(h:Rok ns k):∀w∈rkW k,cds w≠[]/\32∉cds w/\59∉cds w/\10∉cds w:=by
 intro w hw
 cases k with
 |
  sz n=>
  obtain⟨g,_⟩:=nS_good (i:=n) (by have:=h.1;omega) h.2
  simp only[rkW,AH,CG,or_false]at hw
  rcases hw with rfl|rfl
  .decide +kernel
  .exact⟨fun e=>by have:=g.1;rw[e]at this;exact absurd this (by decide),DT g (by omega),DT g (by omega),DT g (by omega)⟩
 |
  opn t=>
  simp only[rkW,AH,CG,or_false]at hw
  rcases hw with rfl|rfl|rfl|rfl
  .decide +kernel
  .exact MM h.1
  .exact Jr h.2.1
  .exact Jr h.2.2
 |
  fin=>
  simp only[rkW,AH,CG,or_false]at hw
  subst hw
  decide +kernel
 |
  ded tb sp ks t=>
  obtain⟨nms,lk,tk,_,_⟩:=h
  simp only[rkW,AH,CG,or_false]at hw
  rcases hw with rfl|rfl|rfl
  .refine⟨fun e=>?_,cel_no lk.ok,cel_no lk.ok,cel_no lk.ok⟩
   have:=lk.ok.1.1
   rw[cel_cds lk.ok.2.1]at e
   have e:=(List.append_eq_nil_iff.mp e).1
   rw[e]at this
   exact absurd this (by decide)
  .decide +kernel
  .exact⟨PP tk,Kc tk (.inr (.inl rfl)),Kc tk (.inr (.inr rfl)),Kc tk (.inl rfl)⟩
theorem RX (k:Rk):rkW k≠[]:=by cases k<;>exact D2 _ _
theorem rk_split {ns:List Str}{k:Rk}(h:Rok ns k):IsSplit [32] (cds (rkS k)) ((rkW k).map cds):=by
 rw[IT]
 refine Lw (fun z=>RX k (JX.mp z)) fun w hw=>?_
 obtain⟨z,hz,rfl⟩:=CF.mp hw
 exact(R0 h z hz).2.1
theorem UP {ns nms:List Str}{tb:Str}{sp:List (Str×Int)}{t:Tw}(lk:Lk nms ns (.t (.c tb sp)))(tk:Twk nms ns t):Hw tb sp (BN t).tk (cds (B3 tb sp++" = "++t.wr)):=by
 have e:cds (" = ":Str)=[32,61,32]:=by decide +kernel
 have d0:=Vp (ks:=(BN t).tk) lk.ok fun k hk=>((Fb tk).1.lk k hk).ok
 have e0:cds (B3 tb sp++" = "++t.wr)=(dedT tb sp (BN t).tk).take (cds (B3 tb sp)).length++32::(61::32::txts (BN t).tk):=by
  rw[B4,B4,e,JI tk]
  unfold dedT
  rw[GO,CQ]
  rfl
 have cl:=congrArg List.length (cel_cds (z:=tb) lk.ok.2.1)
 rw[Ap]at cl
 have b1:=MD d0 (l':=(dedT tb sp (BN t).tk).take (cds (B3 tb sp)).length++32::(dedT tb sp (BN t).tk).drop (cds (B3 tb sp)).length) (.inr ⟨_,by omega,by unfold dedT;rw[Ap];omega,rfl⟩)
 have e1:(dedT tb sp (BN t).tk).take (cds (B3 tb sp)).length++32::(dedT tb sp (BN t).tk).drop (cds (B3 tb sp)).length=cds (B3 tb sp)++[32,61]++txts (BN t).tk:=by
  unfold dedT
  rw[GO,JV,CQ]
  rfl
 rw[e1]at b1
 refine MD b1 (.inr ⟨(cds (B3 tb sp)++[32,61]).length,by rw[Ap];omega,by rw[Ap (as:=cds (B3 tb sp)++[32,61])];exact OF _ _,?_⟩)
 rw[GO,JV,B4,B4,e,JI tk]
 simp only[CQ,F1,List.nil_append]
theorem rk_row {ns:List Str}{k:Rk}(h:Rok ns k):bare (cds (rkS k))≠[]/\FE (bare (cds (rkS k))) k/\10∉cds (rkS k):=by
 cases k with
 |sz n=>exact Pc (by have:=h.1;omega) h.2 (IT (.sz n))
 |opn t=>exact UB h.1 h.2.1 h.2.2 (IT (.opn t))
 |fin=>exact Rc
 |
  ded tb sp ks t=>
  obtain⟨nms,lk,tk,rfl,_⟩:=h
  exact TM lk.ok (UP lk tk) t
theorem rk_len {ns:List Str}{k:Rk}(h:Rok ns k):(rkS k).length<=7000:=by
 cases k with
 |
  sz n=>
  obtain⟨g,_⟩:=nS_good (i:=n) (by have:=h.1;omega) h.2
  have e:("size ":Str).length=5:=by decide +kernel
  have:=g.2.1
  rw[cds_len]at this
  show("size "++nS n).length<=7000
  rw[Bh]
  omega
 |
  opn t=>
  have hn:=h.1.2.1
  rw[cds_len]at hn
  have:=SR (t:=t) ⟨by omega,h.2.1.2,h.2.2.2⟩
  show(He t).length<=7000
  omega
 |fin=>show("end":Str).length<=7000;decide +kernel
 |
  ded tb sp ks t=>
  obtain⟨nms,lk,tk,rfl,hs⟩:=h
  have e:(" = ":Str).length=3:=by decide +kernel
  have h1:=Tk.len lk.ok
  obtain⟨e1,e2,e3,_⟩:=Fb tk
  have h2:=e1.len
  rw[e3,e2]at h2
  have h1:(B3 tb sp).length<=150:=by rw[←cds_len];exact h1
  show(B3 tb sp++" = "++t.wr).length<=7000
  rw[Bh,Bh]
  omega
theorem Rds.app {f:Str->Nat}{a b:List Str}{D E F:Dr}(h:Rds f a D E)(g:Rds f b E F):Rds f (a++b) D F:=by
 induction h with
 |nil=>exact g
 |no hb _ ih=>exact .no hb (ih g)
 |row h1 h2 h3 _ ih=>exact .row h1 h2 h3 (ih g)
theorem rds_no {f:Str->Nat}{D:Dr}:∀{a:List Str},(∀z∈a,bare (cds z)=[])->Rds f a D D
 |[],_=>.nil
 |z::a,h=>.no (h z AR) (rds_no fun y hy=>h y (Bm _ hy))
theorem stps_rds {f:Str->Nat}{ns:List Str}{D E:Dr}{ks:List Rk}(h:Stps f D ks E):(∀k∈ks,Rok ns k)->Rds f (ks.map rkS) D E:=by
 induction h with
 |nil=>exact fun _=>.nil
 |cons s _ ih=>exact fun ok=>.row (rk_row (ok _ AR)).1 (rk_row (ok _ AR)).2.1 s (ih fun k hk=>ok k (Bm _ hk))
theorem cut_le (ns:List Int):(Cn ns (some 4) (some 59)).length<=ns.length:=by
 unfold Cn
 rw[BA,Cr]
 omega
theorem pick4 {i:Int}(h0:0<=i)(h1:i<4):∃u:Str,BH [V.str "",V.str "   ",V.str "; end",V.str " ;"] i=some (.str u)/\bare (cds u)=[]/\10∉cds u/\u.length<=10:=by
 have:i=0\/i=1\/i=2\/i=3:=by omega
 rcases this with rfl|rfl|rfl|rfl
 .exact⟨"",rfl,by decide +kernel,by decide +kernel,by decide +kernel⟩
 .exact⟨"   ",rfl,by decide +kernel,by decide +kernel,by decide +kernel⟩
 .exact⟨"; end",rfl,by decide +kernel,by decide +kernel,by decide +kernel⟩
 .exact⟨" ;",rfl,by decide +kernel,by decide +kernel,by decide +kernel⟩
theorem lines_split {Ln:List Str}(h:∀y∈Ln,10∉cds y):∃rows:List Str,IsSplit [10] (cds (Txt.join "\n" Ln)) (rows.map cds)/\rows.length=(if Ln.length>1 then Ln.length else 1)/\(∀f D E,Rds f Ln D E->Rds f rows D E)/\∀y∈rows,y∈Ln\/y="":=by
 cases Ln with
 |
  nil=>
  refine⟨[""],.one' (fun z=>nomatch z),rfl,fun f D E hR=>?_,fun y hy=>.inr (Ce.mp hy)⟩
  exact .no (by decide +kernel) hR
 |
  cons z l=>
  refine⟨z::l,MJ (D2 _ _) h,?_,fun _ _ _ hR=>hR,fun y hy=>.inl hy⟩
  rw[AO]
  split<;>omega
theorem sum_le {n:Nat}:∀{l:List Str},(∀y∈l,y.length<=n)->(l.map (·.length)).sum<=n*l.length
 |[],_=>Ai _
 |
  y::l,h=>by
  have h1:=h y AR
  have h2:=sum_le (l:=l) fun z hz=>h z (Bm _ hz)
  rw[C8,LP,AO,Nat.mul_succ]
  omega
def isD:Rk->Bool
 |.ded _ _ _ _=>true
 |_=>false
theorem NZ {c:Nat}:∀{ws:List (List Nat)} {w:List Nat},w∈ws->c∈w->c∈wj ws
 |[a],w,hw,hc=>by rw[Ce.mp hw]at hc;exact hc
 |
  a::b::l,w,hw,hc=>by
  show c∈a++([32]++wj (b::l))
  rcases AH.mp hw with rfl|hw
  .exact FW _ hc
  .exact Cp _ (Cp _ (NZ (ws:=b::l) hw hc))
theorem rk_eq {ns:List Str}{k:Rk}(h:Rok ns k):61∈cds (rkS k)↔isD k=true:=by
 rw[IT]
 cases k with
 |
  sz n=>
  obtain⟨g,_⟩:=nS_good (i:=n) (by have:=h.1;omega) h.2
  refine⟨fun z=>absurd z (HC (by decide) fun w hw=>?_),fun z=>nomatch z⟩
  obtain⟨y,hy,rfl⟩:=CF.mp hw
  simp only[rkW,AH,CG,or_false]at hy
  rcases hy with rfl|rfl
  .decide +kernel
  .exact DT g (by omega)
 |
  opn t=>
  refine⟨fun z=>absurd z (HC (by decide) fun w hw=>?_),fun z=>nomatch z⟩
  obtain⟨y,hy,rfl⟩:=CF.mp hw
  simp only[rkW,AH,CG,or_false]at hy
  rcases hy with rfl|rfl|rfl|rfl
  .decide +kernel
  .exact name_no h.1 (by omega)
  .exact spot_free h.2.1 (by omega)
  .exact spot_free h.2.2 (by omega)
 |fin=>exact⟨fun z=>absurd z (by decide +kernel),fun z=>nomatch z⟩
 |ded tb sp ks t=>exact⟨fun _=>rfl,fun _=>NZ (w:=cds "=") (Bm _ AR) (by decide +kernel)⟩
theorem stps_dd {f:Str->Nat}{D E:Dr}{ks:List Rk}(h:Stps f D ks E):E.dd.length=D.dd.length+(ks.filter isD).length:=by
 induction h with
 |nil=>rfl
 |
  @cons D D' E k ks s _ ih=>
  rw[ih]
  cases k with
  |sz n=>obtain⟨_,_,_,rfl⟩:=s;rfl
  |opn t=>obtain⟨_,_,_,_,_,_,_,_,rfl⟩:=s;rfl
  |fin=>obtain⟨_,_,_,_,_,_,_,_,rfl⟩:=s;rfl
  |
   ded tb sp es t=>
   obtain⟨_,_,_,_,_,_,_,_,_,rfl⟩:=s
   show(D.dd++[_]).length+_=_+((Rk.ded tb sp es t)::ks.filter isD).length
   rw[Ap,Bk,AO]
   omega
theorem stps_sz {f:Str->Nat}{n:Int}{E:Dr}{ks:List Rk}(h0:2<=n)(h1:n<=999999999999999999)(h:Stps f ⟨some n,[],[],[],0⟩ ks E):Stps f D0 (.sz n::ks) E:=.cons ⟨rfl,h0,h1,rfl⟩ h
theorem stps_sm {f:Str->Nat}{D E:Dr}{ks:List Rk}(h:Stps f D ks E):D.sz≠none->E.sz≠none:=by
 induction h with
 |nil=>exact id
 |
  @cons D D' E k ks s _ ih=>
  intro hn
  refine ih ?_
  cases k with
  |sz n=>obtain⟨_,_,_,rfl⟩:=s;exact fun z=>nomatch z
  |opn t=>obtain⟨_,_,_,_,_,_,_,_,rfl⟩:=s;exact hn
  |fin=>obtain⟨_,_,_,_,_,_,_,_,rfl⟩:=s;exact hn
  |ded tb sp es t=>obtain⟨_,_,_,_,_,_,_,_,_,rfl⟩:=s;exact hn
def spOpened:Sp:=fun vs H Q _=>∃(f:Str->Nat) (l:Addr) (ks:List Rk) (D:Dr) (ns:List Str),vs=[.ref l]/\H l=some (.lst ((ks.map rkS).map V.str))/\Stps f D0 ks D/\(∀k∈ks,Rok ns k)/\ks.length<=100/\∀(r:Addr) (H':Hp),A8 H H'->H' r=some (.lst ((lnm D.lp).map V.str))->Q (.ref r) H'
end Rd
namespace L2
open PySem PySem.Spec PyProof.Rows
section
variable {X:Cx}{pins:List (Addr×Obj)}{s:Shared}{σ:St}{H:Hp}
end
end L2
namespace PySem
open Builtin
open AutoSeq1 (wpAny_loadPart')
end PySem
namespace L2
open PySem PySem.Spec PyProof.Rows
end L2
namespace Fo
variable {W:Type}
end Fo
namespace PySem
open PySem.Spec PyProof.Rows
open AutoSeq1 (wpAny_loadPart')
end PySem
namespace L2
open PySem PySem.Spec PyProof.Rows
end L2
namespace HU
open PySem PySem.Spec
section
variable {prog:Program}{w:World}{A:Around}{E:Value->Shared->Prop}{s:Shared}
end
end HU
namespace L2
open PySem PySem.Spec PyProof.Rows
end L2
namespace Fw
open PySem L2 EX
def AX (i:Nat):Stmt:=PySem.Challenge.pw_furrow_k28_what_lacks_at_the_end.main.body.getD i (.Pass ⟨0,0,0,0⟩)
abbrev J7:Stmt:=F8 (AX 12) 0
abbrev Ia:Stmt:=F8 (AX 3) 0
abbrev Ie:Stmt:=F8 (AX 4) 0
abbrev J9:Stmt:=F8 (AX 5) 0
abbrev JG:Stmt:=F8 (AX 6) 0
abbrev Im:Stmt:=F8 (AX 8) 0
abbrev Jq:Stmt:=F8 (AX 9) 0
abbrev Hh:Stmt:=AX 19
abbrev IF:Stmt:=AX 20
abbrev IG:Stmt:=AX 21
abbrev J5:Stmt:=AX 23
abbrev Jk:Stmt:=AX 24
abbrev JF:Stmt:=AX 22
abbrev Jz:Stmt:=AX 25
abbrev Hl:Stmt:=AX 26
abbrev Jj:Stmt:=AX 45
abbrev Gv:Stmt:=AX 47
abbrev Ju:Stmt:=AX 46
abbrev Iy:Stmt:=AX 44
abbrev Jg:Stmt:=AX 49
abbrev Ik:Stmt:=AX 48
abbrev J6:Stmt:=F8 (AX 34) 0
abbrev Hb:Stmt:=AX 42
abbrev JN:Stmt:=AX 41
abbrev Jh:Stmt:=AX 43
abbrev Ii:Stmt:=AX 40
abbrev IE:Stmt:=AX 37
abbrev Iu:Stmt:=AX 38
abbrev JL:Stmt:=AX 39
abbrev Ij:Stmt:=AX 36
abbrev II:Stmt:=AX 35
abbrev Iz:Stmt:=AX 51
abbrev IK:Stmt:=AX 52
abbrev Jf:Stmt:=AX 53
abbrev Ht:Stmt:=AX 54
abbrev JM:Stmt:=AX 55
abbrev Js:Stmt:=AX 56
abbrev Io:Stmt:=AX 57
abbrev G8:Stmt:=AX 58
abbrev JK:Stmt:=AX 59
abbrev Je:Stmt:=AX 60
abbrev J4:Stmt:=AX 61
abbrev GB:Stmt:=AX 62
abbrev Hi:Stmt:=AX 63
abbrev IA:Stmt:=AX 64
abbrev IQ:Stmt:=AX 65
abbrev Ga:Stmt:=AX 66
theorem AY {N P:List Str}{sc:Scope}(a:sc.kind = .function:=by rfl)(b:sc.isCoroutine=false:=by rfl)(c:sc.isGenerator=false:=by rfl)(d:N.Nodup:=by decide +kernel)(e:N.take P.length=P:=by rfl)(f:∀x∈P,sc.names.lookup x=some .local\/sc.names.lookup x=some .cell:=by decide +kernel)(g:∀y∈sc.names,y.2≠.free:=by decide +kernel):AQ N P sc:=⟨a,b,c,d,e,f,g⟩
theorem Tu:AQ ["self","line"] ["self","line"] (AB J7):=AY
theorem RQ:AQ ["self","n"] ["self","n"] (AB Ia):=AY
theorem TY:AQ ["self","name"] ["self","name"] (AB Ie):=AY
theorem Vk:AQ ["self","table","spots"] ["self","table","spots"] (AB J9):=AY
theorem Qt:AQ ["self","sign","left","right"] ["self","sign","left","right"] (AB JG):=AY
theorem Vn:AQ ["self","names","lows","highs","table","spots","term","path"] ["self","names","lows","highs","table","spots","term","path"] (AB Im):=AY
theorem Tv:AQ ["self","size","deeds"] ["self","size","deeds"] (AB Jq):=AY
theorem Ss:AQ ["text","signs"] ["text","signs"] (AB Hh):=AY
theorem RK:AQ ["text"] ["text"] (AB IF):=AY
theorem VD:AQ ["text"] ["text"] (AB IG):=AY
theorem M7:AQ ["parts","number"] ["parts"] (AB J5):=AY
theorem NQ:AQ ["parts","number"] ["parts"] (AB Jk):=AY
theorem Oo:AQ ["text","number"] ["text"] (AB JF):=AY
theorem UJ:AQ ["row"] ["row"] (AB Jz):=AY
theorem SM:AQ ["row"] ["row"] (AB Hl):=AY
theorem Ic:AQ ["text","at","inside"] ["text","at"] (AB Jj):=AY
theorem KA:AQ ["text","parts","spots"] ["text"] (AB Gv):=AY
theorem NW:AQ ["text","number"] ["text"] (AB Ju):=AY
theorem GF:AQ ["text","parts","at","end","part"] ["text"] (AB Iy):=AY
theorem Lr:AQ ["terms","signs","least","right","left"] ["terms","signs","least"] (AB Jg):=AY
theorem FK:AQ ["parts","terms","signs","due","part"] ["parts"] (AB Ik):=AY
theorem QJ:AQ ["self"] ["self"] (AB J6):=AY
theorem RO:AQ ["draft","spots"] ["draft","spots"] (AB Hb):=AY
theorem Na:AQ ["draft","parts","part"] ["draft","parts"] (AB JN):=AY
theorem KP:AQ ["draft","parts","part","many"] ["draft","parts"] (AB Jh):=AY
theorem Ha:AQ ["draft","row","halves","cell","parts","term"] ["draft","row"] (AB Ii):=AY
theorem Mf:AQ ["draft","words","size"] ["draft","words"] (AB IE):=AY
theorem Kv:AQ ["draft","words","low","high"] ["draft","words"] (AB Iu):=AY
theorem Sy:AQ ["draft","words"] ["draft","words"] (AB JL):=AY
theorem NI:AQ ["draft","row","words"] ["draft","row"] (AB Ij):=AY
theorem GH:AQ ["text","rows","draft","line","row","bare"] ["text"] (AB II):=AY
theorem TF:AQ ["_law_script","_law_k"] ["_law_script","_law_k"] (AB Iz):=AY
theorem OV:AQ ["_law_found"] ["_law_found"] (AB IK):=AY
theorem Hs:AQ ["_law_cell_here","_law_many","_law_found","_law_number_here","_law_k"] ["_law_cell_here","_law_many"] (AB Jf):=AY
theorem DH:AQ ["_law_cell_here","_law_many","_law_letters","_law_xs","_law_word","_law_long","_law_at","_law_found","_law_k","_law_sign","_law_name"] ["_law_cell_here","_law_many"] (AB Ht):=AY
theorem V5:AQ ["_law_cell_here","_law_far"] ["_law_cell_here","_law_far"] (AB JM):=AY
theorem TN:AQ ["_law_spot_here"] ["_law_spot_here"] (AB Js):=AY
theorem KL:AQ ["_law_one","_law_other","_law_known","_law_n"] ["_law_one","_law_other","_law_known"] (AB Io):=AY
theorem Ig:AQ ["_law_xs","_law_known","_law_names_here","_law_many","_law_table","_law_spots"] ["_law_xs","_law_known","_law_names_here"] (AB G8):=AY
theorem Hd:AQ ["_law_cell_here","_law_known","_law_names_here","_law_xs","_law_n","_law_name","_law_one"] ["_law_cell_here","_law_known","_law_names_here"] (AB JK):=AY
theorem Gy:AQ ["_law_sign","_law_left","_law_right","_law_hold","_law_one","_law_other"] ["_law_sign","_law_left","_law_right"] (AB Je):=AY
theorem Fj:AQ ["_law_cell_here","_law_known","_law_names_here","_law_xs","_law_stack","_law_x","_law_right","_law_left"] ["_law_cell_here","_law_known","_law_names_here"] (AB J4):=AY
theorem Hf:AQ ["_law_cell_here","_law_names_here","_law_opened_here","_law_last","_law_xs","_law_known","_law_rest","_law_low"] ["_law_cell_here","_law_names_here","_law_opened_here","_law_last"] (AB GB):=AY
theorem GC:AQ ["_law_cell_here","_law_opened_here","_law_path","_law_names_here","_law_known","_law_table","_law_spots","_law_text","_law_term_here"] ["_law_cell_here","_law_opened_here","_law_path","_law_names_here"] (AB Hi):=AY
theorem CU:AQ ["_law_cells","_law_names_here","_law_opened_here","_law_path","_law_rows","_law_deeds","_law_last","_law_cell_here","_law_loop_here","_law_text"] ["_law_cells","_law_names_here"] (AB IA):=AY
theorem IW:AQ ["_law_texts","_law_found","_law_text","_law_words"] ["_law_texts"] (AB IQ):=AY
theorem Dt:AQ ["_law_script","_law_names_here","_law_rows","_law_deeds","_law_lines","_law_many","_law_good","_law_cell_here","_law_k","_law_line","_law_found","e"] ["_law_script"] (AB Ga):=AY
theorem Sz:CM (DG [(".0",.local),("sign",.local),("signs",.free)]) (AB Hh)  ["text","signs"] ["sign","signs"] [none,some 1]=true:=by decide +kernel
theorem Py:(["sign","signs"]:List Str).Nodup:=by decide +kernel
theorem Uy:CM (DG [(".0",.local),("word",.local)]) (AB Hl)  ["row"] ["word"] [none]=true:=by decide +kernel
theorem Uw:(["word"]:List Str).Nodup:=by decide +kernel
theorem Q6:CM (DG [(".0",.local),("inner",.local),("spot_of",.globalImplicit)]) (AB Gv)  ["text","parts","spots"] ["inner"] [none]=true:=by decide +kernel
theorem Rg:(["inner"]:List Str).Nodup:=by decide +kernel
theorem Uu:CM (DG [(".0",.local),("spot",.local)]) (AB Gv)  ["text","parts","spots"] ["spot"] [none]=true:=by decide +kernel
theorem Sd:(["spot"]:List Str).Nodup:=by decide +kernel
theorem Ro:CM (DG [(".0",.local),("spot",.local),("draft",.free)]) (AB Hb)  ["draft","spots"] ["spot","draft"] [none,some 0]=true:=by decide +kernel
theorem Vo:(["spot","draft"]:List Str).Nodup:=by decide +kernel
theorem QA:CM (DG [(".0",.local),("_law_x",.local),("_law_letters",.free)]) (AB Ht)  ["_law_cell_here","_law_many","_law_letters","_law_xs","_law_word","_law_long","_law_at","_law_found","_law_k","_law_sign","_law_name"] ["_law_x","_law_letters"] [none,some 2]=true:=by decide +kernel
theorem Va:(["_law_x","_law_letters"]:List Str).Nodup:=by decide +kernel
theorem Sk:CM (DG [(".0",.local),("_law_k",.local),("_law_spot",.globalImplicit),("_law_known",.free),("_law_xs",.free)]) (AB G8)  ["_law_xs","_law_known","_law_names_here","_law_many","_law_table","_law_spots"] ["_law_k","_law_known","_law_xs"] [none,some 1,some 0]=true:=by decide +kernel
theorem Qr:(["_law_k","_law_known","_law_xs"]:List Str).Nodup:=by decide +kernel
theorem Um:CM (DG [(".0",.local),("_law_spot_here",.local),("_law_spot_text",.globalImplicit)]) (AB G8)  ["_law_xs","_law_known","_law_names_here","_law_many","_law_table","_law_spots"] ["_law_spot_here"] [none]=true:=by decide +kernel
theorem Rp:(["_law_spot_here"]:List Str).Nodup:=by decide +kernel
theorem UM:CM (DG [(".0",.local),("_law_one",.local)]) (AB GB)  ["_law_cell_here","_law_names_here","_law_opened_here","_law_last","_law_xs","_law_known","_law_rest","_law_low"] ["_law_one"] [none]=true:=by decide +kernel
theorem UN:(["_law_one"]:List Str).Nodup:=by decide +kernel
theorem To:CM (DG [(".0",.local),("_law_name",.local),("_law_known",.free)]) (AB GB)  ["_law_cell_here","_law_names_here","_law_opened_here","_law_last","_law_xs","_law_known","_law_rest","_law_low"] ["_law_name","_law_known"] [none,some 5]=true:=by decide +kernel
theorem Px:(["_law_name","_law_known"]:List Str).Nodup:=by decide +kernel
theorem Rz:CM (DG [(".0",.local),("_law_one",.local)]) (AB Hi)  ["_law_cell_here","_law_opened_here","_law_path","_law_names_here","_law_known","_law_table","_law_spots","_law_text","_law_term_here"] ["_law_one"] [none]=true:=by decide +kernel
theorem SV:(["_law_one"]:List Str).Nodup:=by decide +kernel
theorem ON:CM (DG [(".0",.local),("_law_deep",.local),("_law_text",.local)]) (AB Ga)  ["_law_script","_law_names_here","_law_rows","_law_deeds","_law_lines","_law_many","_law_good","_law_cell_here","_law_k","_law_line","_law_found","e"] ["_law_deep","_law_text"] [none,none]=true:=by decide +kernel
theorem Mh:(["_law_deep","_law_text"]:List Str).Nodup:=by decide +kernel
theorem Ph:CM (DG [(".0",.local),("_law_text",.local)]) (AB Ga)  ["_law_script","_law_names_here","_law_rows","_law_deeds","_law_lines","_law_many","_law_good","_law_cell_here","_law_k","_law_line","_law_found","e"] ["_law_text"] [none]=true:=by decide +kernel
theorem Th:(["_law_text"]:List Str).Nodup:=by decide +kernel
structure Bb (K:Xa)(x:Str)(st:Stmt)(f:Addr)(d:FuncData):Prop where
 a:PySem.W.nsIn K mainGlobals x=some (some (.ref f))
 F:AM K x x st f d
structure F6 (K:Xa)(C:Addr)(x q:Str)(st:Stmt)(f:Addr)(d:FuncData):Prop where
 a:PySem.W.findIn K (.ref C) x=some (some (.ref f))
 i:PySem.W.isFn K (.ref f)=true
 F:AM K x q st f d
structure ClA (K:Xa)(C:Addr)(x:Str):Prop where
 a:PySem.W.nsIn K mainGlobals x=some (some (.ref C))
 pg:PySem.W.plainGet K C Str.empty=true
 hd:PySem.W.hasDictIn K C=true
 po:PySem.W.plainOver K C=true
 sa:PySem.W.findIn K (.ref C) "__setattr__"=some (some (.builtin "object.__setattr__"))
 mi:PySem.W.makesIn K C=true
 kc:PySem.W.keepIn K (.ref C)=true
abbrev AZ (x q:Str)(st:Stmt)(ps:List Str):Prop := ∀(kV doc pm:Value) (an:Option Addr) (cdv ct:Value) (us:List Value),us.length=ps.length->bindArgs (PySem.W.fnOf x q (HF st) (FN st) (AB st) .none kV doc pm an cdv ct) ⟨us,[]⟩=pure (ps.zip us)
structure Ad where
 f_N:Addr
 d_N:FuncData
 f_O:Addr
 d_O:FuncData
 f_P:Addr
 d_P:FuncData
 f_Q:Addr
 d_Q:FuncData
 f_R:Addr
 d_R:FuncData
 f_S:Addr
 d_S:FuncData
 f_T:Addr
 d_T:FuncData
 f_i:Addr
 d_i:FuncData
 f_b:Addr
 d_b:FuncData
 f_a:Addr
 d_a:FuncData
 f_q:Addr
 d_q:FuncData
 f_r:Addr
 d_r:FuncData
 f_e:Addr
 d_e:FuncData
 f_s:Addr
 d_s:FuncData
 f_t:Addr
 d_t:FuncData
 f_u:Addr
 d_u:FuncData
 f_j:Addr
 d_j:FuncData
 f_v:Addr
 d_v:FuncData
 f_w:Addr
 d_w:FuncData
 f_h:Addr
 d_h:FuncData
 f_x:Addr
 d_x:FuncData
 f_U:Addr
 d_U:FuncData
 f_k:Addr
 d_k:FuncData
 f_y:Addr
 d_y:FuncData
 f_z:Addr
 d_z:FuncData
 f_A:Addr
 d_A:FuncData
 f_B:Addr
 d_B:FuncData
 f_C:Addr
 d_C:FuncData
 f_D:Addr
 d_D:FuncData
 f_E:Addr
 d_E:FuncData
 f_F:Addr
 d_F:FuncData
 f_d:Addr
 d_d:FuncData
 f_G:Addr
 d_G:FuncData
 f_c:Addr
 d_c:FuncData
 f_H:Addr
 d_H:FuncData
 f_l:Addr
 d_l:FuncData
 f_f:Addr
 d_f:FuncData
 f_g:Addr
 d_g:FuncData
 f_m:Addr
 d_m:FuncData
 f_n:Addr
 d_n:FuncData
 f_o:Addr
 d_o:FuncData
 f_I:Addr
 d_I:FuncData
 f_J:Addr
 d_J:FuncData
 f_p:Addr
 d_p:FuncData
 f_K:Addr
 d_K:FuncData
 f_L:Addr
 d_L:FuncData
 f_M:Addr
 d_M:FuncData
 c_Term:Addr
 c_Number:Addr
 c_Value:Addr
 c_Cell:Addr
 c_Joined:Addr
 c_Deed:Addr
 c_Program:Addr
 c_Draft:Addr
 c_FurrowError:Addr
 c_NoText:Addr
 u_FIGURES:Value
 u_LEAST_SIZE:Value
 u_LETTERS:Value
 u_MOST_DEEDS:Value
 u_MOST_FIGURES:Value
 u_MOST_LETTERS:Value
 u_MOST_LOOPS:Value
 u_MOST_SPOTS:Value
 u_ROW_WORDS:Addr
 u_SIGNS:Value
 u_STRENGTHS:Addr
structure Tx (w:World)(K:Xa)(mg:Str->Option Value)(a:Ad):Prop where
 F_N:AM K "__init__" "NoText.__init__" J7 a.f_N a.d_N
 b_N:AL K a.d_N ["self","line"] []
 F_O:AM K "__init__" "Number.__init__" Ia a.f_O a.d_O
 b_O:AL K a.d_O ["self","n"] []
 F_P:AM K "__init__" "Value.__init__" Ie a.f_P a.d_P
 b_P:AL K a.d_P ["self","name"] []
 F_Q:AM K "__init__" "Cell.__init__" J9 a.f_Q a.d_Q
 b_Q:AL K a.d_Q ["self","table","spots"] []
 F_R:AM K "__init__" "Joined.__init__" JG a.f_R a.d_R
 b_R:AL K a.d_R ["self","sign","left","right"] []
 F_S:AM K "__init__" "Deed.__init__" Im a.f_S a.d_S
 b_S:AL K a.d_S ["self","names","lows","highs","table","spots","term","path"] []
 F_T:AM K "__init__" "Program.__init__" Jq a.f_T a.d_T
 b_T:AL K a.d_T ["self","size","deeds"] []
 F_i:AM K "made_of" "made_of" Hh a.f_i a.d_i
 b_i:AL K a.d_i ["text","signs"] []
 m_i:mg "made_of"=some (.ref a.f_i)
 F_b:AM K "number_of" "number_of" IF a.f_b a.d_b
 b_b:AL K a.d_b ["text"] []
 m_b:mg "number_of"=some (.ref a.f_b)
 F_a:AM K "is_name" "is_name" IG a.f_a a.d_a
 b_a:AL K a.d_a ["text"] []
 m_a:mg "is_name"=some (.ref a.f_a)
 F_q:AM K "risen" "risen" J5 a.f_q a.d_q
 b_q:AL K a.d_q ["parts"] []
 m_q:mg "risen"=some (.ref a.f_q)
 F_r:AM K "fallen" "fallen" Jk a.f_r a.d_r
 b_r:AL K a.d_r ["parts"] []
 m_r:mg "fallen"=some (.ref a.f_r)
 F_e:AM K "spot_of" "spot_of" JF a.f_e a.d_e
 b_e:AL K a.d_e ["text"] []
 m_e:mg "spot_of"=some (.ref a.f_e)
 F_s:AM K "bare_row" "bare_row" Jz a.f_s a.d_s
 b_s:AL K a.d_s ["row"] []
 m_s:mg "bare_row"=some (.ref a.f_s)
 F_t:AM K "words_of" "words_of" Hl a.f_t a.d_t
 b_t:AL K a.d_t ["row"] []
 m_t:mg "words_of"=some (.ref a.f_t)
 F_u:AM K "part_end" "part_end" Jj a.f_u a.d_u
 b_u:AL K a.d_u ["text","at"] []
 m_u:mg "part_end"=some (.ref a.f_u)
 F_j:AM K "cell_of" "cell_of" Gv a.f_j a.d_j
 b_j:AL K a.d_j ["text"] []
 m_j:mg "cell_of"=some (.ref a.f_j)
 F_v:AM K "part_of" "part_of" Ju a.f_v a.d_v
 b_v:AL K a.d_v ["text"] []
 m_v:mg "part_of"=some (.ref a.f_v)
 F_w:AM K "parts_of" "parts_of" Iy a.f_w a.d_w
 b_w:AL K a.d_w ["text"] []
 m_w:mg "parts_of"=some (.ref a.f_w)
 F_h:AM K "join_waiting" "join_waiting" Jg a.f_h a.d_h
 b_h:AL K a.d_h ["terms","signs","least"] []
 m_h:mg "join_waiting"=some (.ref a.f_h)
 F_x:AM K "term_of" "term_of" Ik a.f_x a.d_x
 b_x:AL K a.d_x ["parts"] []
 m_x:mg "term_of"=some (.ref a.f_x)
 F_U:AM K "__init__" "Draft.__init__" J6 a.f_U a.d_U
 b_U:AL K a.d_U ["self"] []
 F_k:AM K "spots_known" "spots_known" Hb a.f_k a.d_k
 b_k:AL K a.d_k ["draft","spots"] []
 m_k:mg "spots_known"=some (.ref a.f_k)
 F_y:AM K "names_known" "names_known" JN a.f_y a.d_y
 b_y:AL K a.d_y ["draft","parts"] []
 m_y:mg "names_known"=some (.ref a.f_y)
 F_z:AM K "tables_kept" "tables_kept" Jh a.f_z a.d_z
 b_z:AL K a.d_z ["draft","parts"] []
 m_z:mg "tables_kept"=some (.ref a.f_z)
 F_A:AM K "deed_taken" "deed_taken" Ii a.f_A a.d_A
 b_A:AL K a.d_A ["draft","row"] []
 m_A:mg "deed_taken"=some (.ref a.f_A)
 F_B:AM K "size_taken" "size_taken" IE a.f_B a.d_B
 b_B:AL K a.d_B ["draft","words"] []
 m_B:mg "size_taken"=some (.ref a.f_B)
 F_C:AM K "loop_taken" "loop_taken" Iu a.f_C a.d_C
 b_C:AL K a.d_C ["draft","words"] []
 m_C:mg "loop_taken"=some (.ref a.f_C)
 F_D:AM K "end_taken" "end_taken" JL a.f_D a.d_D
 b_D:AL K a.d_D ["draft","words"] []
 m_D:mg "end_taken"=some (.ref a.f_D)
 F_E:AM K "taken" "taken" Ij a.f_E a.d_E
 b_E:AL K a.d_E ["draft","row"] []
 m_E:mg "taken"=some (.ref a.f_E)
 F_F:AM K "read" "read" II a.f_F a.d_F
 b_F:AL K a.d_F ["text"] []
 m_F:mg "read"=some (.ref a.f_F)
 F_d:AM K "_law_cell_at" "_law_cell_at" Iz a.f_d a.d_d
 b_d:AL K a.d_d ["_law_script","_law_k"] []
 m_d:mg "_law_cell_at"=some (.ref a.f_d)
 F_G:AM K "_law_whole" "_law_whole" IK a.f_G a.d_G
 b_G:AL K a.d_G ["_law_found"] []
 m_G:mg "_law_whole"=some (.ref a.f_G)
 F_c:AM K "_law_stream" "_law_stream" Jf a.f_c a.d_c
 b_c:AL K a.d_c ["_law_cell_here","_law_many"] []
 m_c:mg "_law_stream"=some (.ref a.f_c)
 F_H:AM K "_law_names" "_law_names" Ht a.f_H a.d_H
 b_H:AL K a.d_H ["_law_cell_here","_law_many"] []
 m_H:mg "_law_names"=some (.ref a.f_H)
 F_l:AM K "_law_number" "_law_number" JM a.f_l a.d_l
 b_l:AL K a.d_l ["_law_cell_here","_law_far"] []
 m_l:mg "_law_number"=some (.ref a.f_l)
 F_f:AM K "_law_spot_text" "_law_spot_text" Js a.f_f a.d_f
 b_f:AL K a.d_f ["_law_spot_here"] []
 m_f:mg "_law_spot_text"=some (.ref a.f_f)
 F_g:AM K "_law_spot" "_law_spot" Io a.f_g a.d_g
 b_g:AL K a.d_g ["_law_one","_law_other","_law_known"] []
 m_g:mg "_law_spot"=some (.ref a.f_g)
 F_m:AM K "_law_cell" "_law_cell" G8 a.f_m a.d_m
 b_m:AL K a.d_m ["_law_xs","_law_known","_law_names_here"] []
 m_m:mg "_law_cell"=some (.ref a.f_m)
 F_n:AM K "_law_leaf" "_law_leaf" JK a.f_n a.d_n
 b_n:AL K a.d_n ["_law_cell_here","_law_known","_law_names_here"] []
 m_n:mg "_law_leaf"=some (.ref a.f_n)
 F_o:AM K "_law_both" "_law_both" Je a.f_o a.d_o
 b_o:AL K a.d_o ["_law_sign","_law_left","_law_right"] []
 m_o:mg "_law_both"=some (.ref a.f_o)
 F_I:AM K "_law_term" "_law_term" J4 a.f_I a.d_I
 b_I:AL K a.d_I ["_law_cell_here","_law_known","_law_names_here"] []
 m_I:mg "_law_term"=some (.ref a.f_I)
 F_J:AM K "_law_loop" "_law_loop" GB a.f_J a.d_J
 b_J:AL K a.d_J ["_law_cell_here","_law_names_here","_law_opened_here","_law_last"] []
 m_J:mg "_law_loop"=some (.ref a.f_J)
 F_p:AM K "_law_deed" "_law_deed" Hi a.f_p a.d_p
 b_p:AL K a.d_p ["_law_cell_here","_law_opened_here","_law_path","_law_names_here"] []
 m_p:mg "_law_deed"=some (.ref a.f_p)
 F_K:AM K "_law_program" "_law_program" IA a.f_K a.d_K
 b_K:AL K a.d_K ["_law_cells","_law_names_here"] []
 m_K:mg "_law_program"=some (.ref a.f_K)
 F_L:AM K "_law_opened" "_law_opened" IQ a.f_L a.d_L
 b_L:AL K a.d_L ["_law_texts"] []
 m_L:mg "_law_opened"=some (.ref a.f_L)
 F_M:AM K "law" "law" Ga a.f_M a.d_M
 b_M:AL K a.d_M ["_law_script"] []
 m_M:mg "law"=some (.ref a.f_M)
 cl_Term:D8 K a.c_Term
 mc_Term:mg "Term"=some (.ref a.c_Term)
 cl_Number:D8 K a.c_Number
 mc_Number:mg "Number"=some (.ref a.c_Number)
 mk_Number:Mk K a.c_Number a.f_O
 n_Number_n:Bx K a.c_Number "n"
 cl_Value:D8 K a.c_Value
 mc_Value:mg "Value"=some (.ref a.c_Value)
 mk_Value:Mk K a.c_Value a.f_P
 n_Value_name:Bx K a.c_Value "name"
 cl_Cell:D8 K a.c_Cell
 mc_Cell:mg "Cell"=some (.ref a.c_Cell)
 mk_Cell:Mk K a.c_Cell a.f_Q
 n_Cell_table:Bx K a.c_Cell "table"
 n_Cell_spots:Bx K a.c_Cell "spots"
 cl_Joined:D8 K a.c_Joined
 mc_Joined:mg "Joined"=some (.ref a.c_Joined)
 mk_Joined:Mk K a.c_Joined a.f_R
 n_Joined_sign:Bx K a.c_Joined "sign"
 n_Joined_left:Bx K a.c_Joined "left"
 n_Joined_right:Bx K a.c_Joined "right"
 cl_Deed:D8 K a.c_Deed
 mc_Deed:mg "Deed"=some (.ref a.c_Deed)
 mk_Deed:Mk K a.c_Deed a.f_S
 n_Deed_names:Bx K a.c_Deed "names"
 n_Deed_lows:Bx K a.c_Deed "lows"
 n_Deed_highs:Bx K a.c_Deed "highs"
 n_Deed_table:Bx K a.c_Deed "table"
 n_Deed_spots:Bx K a.c_Deed "spots"
 n_Deed_term:Bx K a.c_Deed "term"
 n_Deed_path:Bx K a.c_Deed "path"
 cl_Program:D8 K a.c_Program
 mc_Program:mg "Program"=some (.ref a.c_Program)
 mk_Program:Mk K a.c_Program a.f_T
 n_Program_size:Bx K a.c_Program "size"
 n_Program_deeds:Bx K a.c_Program "deeds"
 cl_Draft:D8 K a.c_Draft
 mc_Draft:mg "Draft"=some (.ref a.c_Draft)
 mk_Draft:Mk K a.c_Draft a.f_U
 n_Draft_size:Bx K a.c_Draft "size"
 n_Draft_deeds:Bx K a.c_Draft "deeds"
 n_Draft_tables:Bx K a.c_Draft "tables"
 n_Draft_names:Bx K a.c_Draft "names"
 n_Draft_lows:Bx K a.c_Draft "lows"
 n_Draft_highs:Bx K a.c_Draft "highs"
 n_Draft_path:Bx K a.c_Draft "path"
 ty_Number:∀(H:Hp) (x dx:Addr) (fs:List (Str×V)),H x=some (.ins a.c_Number dx fs)->Co K H (.ref x) (.ref a.c_Number)
 is_Number_Term:PySem.W.kitOne K (.ref a.c_Number) (.ref a.c_Term)=some true
 is_Number_Number:PySem.W.kitOne K (.ref a.c_Number) (.ref a.c_Number)=some true
 is_Number_Value:PySem.W.kitOne K (.ref a.c_Number) (.ref a.c_Value)=some false
 is_Number_Cell:PySem.W.kitOne K (.ref a.c_Number) (.ref a.c_Cell)=some false
 is_Number_Joined:PySem.W.kitOne K (.ref a.c_Number) (.ref a.c_Joined)=some false
 is_Number_Deed:PySem.W.kitOne K (.ref a.c_Number) (.ref a.c_Deed)=some false
 is_Number_Program:PySem.W.kitOne K (.ref a.c_Number) (.ref a.c_Program)=some false
 is_Number_Draft:PySem.W.kitOne K (.ref a.c_Number) (.ref a.c_Draft)=some false
 ty_Value:∀(H:Hp) (x dx:Addr) (fs:List (Str×V)),H x=some (.ins a.c_Value dx fs)->Co K H (.ref x) (.ref a.c_Value)
 is_Value_Term:PySem.W.kitOne K (.ref a.c_Value) (.ref a.c_Term)=some true
 is_Value_Number:PySem.W.kitOne K (.ref a.c_Value) (.ref a.c_Number)=some false
 is_Value_Value:PySem.W.kitOne K (.ref a.c_Value) (.ref a.c_Value)=some true
 is_Value_Cell:PySem.W.kitOne K (.ref a.c_Value) (.ref a.c_Cell)=some false
 is_Value_Joined:PySem.W.kitOne K (.ref a.c_Value) (.ref a.c_Joined)=some false
 is_Value_Deed:PySem.W.kitOne K (.ref a.c_Value) (.ref a.c_Deed)=some false
 is_Value_Program:PySem.W.kitOne K (.ref a.c_Value) (.ref a.c_Program)=some false
 is_Value_Draft:PySem.W.kitOne K (.ref a.c_Value) (.ref a.c_Draft)=some false
 ty_Cell:∀(H:Hp) (x dx:Addr) (fs:List (Str×V)),H x=some (.ins a.c_Cell dx fs)->Co K H (.ref x) (.ref a.c_Cell)
 is_Cell_Term:PySem.W.kitOne K (.ref a.c_Cell) (.ref a.c_Term)=some true
 is_Cell_Number:PySem.W.kitOne K (.ref a.c_Cell) (.ref a.c_Number)=some false
 is_Cell_Value:PySem.W.kitOne K (.ref a.c_Cell) (.ref a.c_Value)=some false
 is_Cell_Cell:PySem.W.kitOne K (.ref a.c_Cell) (.ref a.c_Cell)=some true
 is_Cell_Joined:PySem.W.kitOne K (.ref a.c_Cell) (.ref a.c_Joined)=some false
 is_Cell_Deed:PySem.W.kitOne K (.ref a.c_Cell) (.ref a.c_Deed)=some false
 is_Cell_Program:PySem.W.kitOne K (.ref a.c_Cell) (.ref a.c_Program)=some false
 is_Cell_Draft:PySem.W.kitOne K (.ref a.c_Cell) (.ref a.c_Draft)=some false
 ty_Joined:∀(H:Hp) (x dx:Addr) (fs:List (Str×V)),H x=some (.ins a.c_Joined dx fs)->Co K H (.ref x) (.ref a.c_Joined)
 is_Joined_Term:PySem.W.kitOne K (.ref a.c_Joined) (.ref a.c_Term)=some true
 is_Joined_Number:PySem.W.kitOne K (.ref a.c_Joined) (.ref a.c_Number)=some false
 is_Joined_Value:PySem.W.kitOne K (.ref a.c_Joined) (.ref a.c_Value)=some false
 is_Joined_Cell:PySem.W.kitOne K (.ref a.c_Joined) (.ref a.c_Cell)=some false
 is_Joined_Joined:PySem.W.kitOne K (.ref a.c_Joined) (.ref a.c_Joined)=some true
 is_Joined_Deed:PySem.W.kitOne K (.ref a.c_Joined) (.ref a.c_Deed)=some false
 is_Joined_Program:PySem.W.kitOne K (.ref a.c_Joined) (.ref a.c_Program)=some false
 is_Joined_Draft:PySem.W.kitOne K (.ref a.c_Joined) (.ref a.c_Draft)=some false
 is_str_Term:PySem.W.kitOne K (.type "str") (.ref a.c_Term)=some false
 is_str_Number:PySem.W.kitOne K (.type "str") (.ref a.c_Number)=some false
 is_str_Value:PySem.W.kitOne K (.type "str") (.ref a.c_Value)=some false
 is_str_Cell:PySem.W.kitOne K (.type "str") (.ref a.c_Cell)=some false
 is_str_Joined:PySem.W.kitOne K (.type "str") (.ref a.c_Joined)=some false
 is_str_Deed:PySem.W.kitOne K (.type "str") (.ref a.c_Deed)=some false
 is_str_Program:PySem.W.kitOne K (.type "str") (.ref a.c_Program)=some false
 is_str_Draft:PySem.W.kitOne K (.type "str") (.ref a.c_Draft)=some false
 ty_Deed:∀(H:Hp) (x dx:Addr) (fs:List (Str×V)),H x=some (.ins a.c_Deed dx fs)->Co K H (.ref x) (.ref a.c_Deed)
 is_Deed_Term:PySem.W.kitOne K (.ref a.c_Deed) (.ref a.c_Term)=some false
 is_Deed_Number:PySem.W.kitOne K (.ref a.c_Deed) (.ref a.c_Number)=some false
 is_Deed_Value:PySem.W.kitOne K (.ref a.c_Deed) (.ref a.c_Value)=some false
 is_Deed_Cell:PySem.W.kitOne K (.ref a.c_Deed) (.ref a.c_Cell)=some false
 is_Deed_Joined:PySem.W.kitOne K (.ref a.c_Deed) (.ref a.c_Joined)=some false
 is_Deed_Deed:PySem.W.kitOne K (.ref a.c_Deed) (.ref a.c_Deed)=some true
 is_Deed_Program:PySem.W.kitOne K (.ref a.c_Deed) (.ref a.c_Program)=some false
 is_Deed_Draft:PySem.W.kitOne K (.ref a.c_Deed) (.ref a.c_Draft)=some false
 ty_Program:∀(H:Hp) (x dx:Addr) (fs:List (Str×V)),H x=some (.ins a.c_Program dx fs)->Co K H (.ref x) (.ref a.c_Program)
 is_Program_Term:PySem.W.kitOne K (.ref a.c_Program) (.ref a.c_Term)=some false
 is_Program_Number:PySem.W.kitOne K (.ref a.c_Program) (.ref a.c_Number)=some false
 is_Program_Value:PySem.W.kitOne K (.ref a.c_Program) (.ref a.c_Value)=some false
 is_Program_Cell:PySem.W.kitOne K (.ref a.c_Program) (.ref a.c_Cell)=some false
 is_Program_Joined:PySem.W.kitOne K (.ref a.c_Program) (.ref a.c_Joined)=some false
 is_Program_Deed:PySem.W.kitOne K (.ref a.c_Program) (.ref a.c_Deed)=some false
 is_Program_Program:PySem.W.kitOne K (.ref a.c_Program) (.ref a.c_Program)=some true
 is_Program_Draft:PySem.W.kitOne K (.ref a.c_Program) (.ref a.c_Draft)=some false
 ty_Draft:∀(H:Hp) (x dx:Addr) (fs:List (Str×V)),H x=some (.ins a.c_Draft dx fs)->Co K H (.ref x) (.ref a.c_Draft)
 is_Draft_Term:PySem.W.kitOne K (.ref a.c_Draft) (.ref a.c_Term)=some false
 is_Draft_Number:PySem.W.kitOne K (.ref a.c_Draft) (.ref a.c_Number)=some false
 is_Draft_Value:PySem.W.kitOne K (.ref a.c_Draft) (.ref a.c_Value)=some false
 is_Draft_Cell:PySem.W.kitOne K (.ref a.c_Draft) (.ref a.c_Cell)=some false
 is_Draft_Joined:PySem.W.kitOne K (.ref a.c_Draft) (.ref a.c_Joined)=some false
 is_Draft_Deed:PySem.W.kitOne K (.ref a.c_Draft) (.ref a.c_Deed)=some false
 is_Draft_Program:PySem.W.kitOne K (.ref a.c_Draft) (.ref a.c_Program)=some false
 is_Draft_Draft:PySem.W.kitOne K (.ref a.c_Draft) (.ref a.c_Draft)=some true
 mc_FurrowError:mg "FurrowError"=some (.ref a.c_FurrowError)
 xi_FurrowError:XI K a.c_FurrowError
 ct_FurrowError:∃N,∀h,K.In h->EX.ClsT h a.c_FurrowError N (([]:List Addr).map Value.ref++EX.bmVE)
 xm_FurrowError:RT K a.c_FurrowError
 mc_NoText:mg "NoText"=some (.ref a.c_NoText)
 xi_NoText:XI K a.c_NoText
 ct_NoText:∃N,∀h,K.In h->EX.ClsT h a.c_NoText N (([a.c_FurrowError]:List Addr).map Value.ref++EX.bmVE)
 xm_NoText:MS K a.c_NoText a.f_N
 n_NoText_line:Bx K a.c_NoText "line"
 xnd:([a.c_FurrowError,a.c_NoText]:List Addr).Nodup
 xb:XB K a.c_FurrowError
 z_abs:mg "abs"=none
 z_all:mg "all"=none
 z_bool:mg "bool"=none
 z_enumerate:mg "enumerate"=none
 z_int:mg "int"=none
 z_isinstance:mg "isinstance"=none
 z_len:mg "len"=none
 z_list:mg "list"=none
 z_max:mg "max"=none
 z_range:mg "range"=none
 z_str:mg "str"=none
 z_tuple:mg "tuple"=none
 g_FIGURES:mg "FIGURES"=some a.u_FIGURES
 r_FIGURES:Ay (.str "0123456789") a.u_FIGURES
 g_LEAST_SIZE:mg "LEAST_SIZE"=some a.u_LEAST_SIZE
 r_LEAST_SIZE:Ay (.int 2) a.u_LEAST_SIZE
 g_LETTERS:mg "LETTERS"=some a.u_LETTERS
 r_LETTERS:Ay (.str "abcdefghijklmnopqrstuvwxyz") a.u_LETTERS
 g_MOST_DEEDS:mg "MOST_DEEDS"=some a.u_MOST_DEEDS
 r_MOST_DEEDS:Ay (.int 6) a.u_MOST_DEEDS
 g_MOST_FIGURES:mg "MOST_FIGURES"=some a.u_MOST_FIGURES
 r_MOST_FIGURES:Ay (.int 18) a.u_MOST_FIGURES
 g_MOST_LETTERS:mg "MOST_LETTERS"=some a.u_MOST_LETTERS
 r_MOST_LETTERS:Ay (.int 8) a.u_MOST_LETTERS
 g_MOST_LOOPS:mg "MOST_LOOPS"=some a.u_MOST_LOOPS
 r_MOST_LOOPS:Ay (.int 3) a.u_MOST_LOOPS
 g_MOST_SPOTS:mg "MOST_SPOTS"=some a.u_MOST_SPOTS
 r_MOST_SPOTS:Ay (.int 3) a.u_MOST_SPOTS
 g_ROW_WORDS:mg "ROW_WORDS"=some (.ref a.u_ROW_WORDS)
 r_ROW_WORDS:Ay (.ref a.u_ROW_WORDS) (.ref a.u_ROW_WORDS)
 q_ROW_WORDS:∀H:Hp,Aw K H a.u_ROW_WORDS [.str "for",.str "end",.str "size"]
 g_SIGNS:mg "SIGNS"=some a.u_SIGNS
 r_SIGNS:Ay (.str "+-*()") a.u_SIGNS
 g_STRENGTHS:mg "STRENGTHS"=some (.ref a.u_STRENGTHS)
 r_STRENGTHS:Ay (.ref a.u_STRENGTHS) (.ref a.u_STRENGTHS)
 d_STRENGTHS:∀P:Program,LA P w K a.u_STRENGTHS [(.inr "(",.int 0),(.inr "+",.int 1),(.inr "-",.int 1),(.inr "*",.int 2)]
def BF (a:Ad):Cs:=⟨a.c_Number,a.c_Value,a.c_Cell,a.c_Joined⟩
section
variable {P:Program}{w:World}{K:Xa}{mg:Str->Option Value}{base:Heap}{a:Ad}
theorem Om (T:Tx w K mg a):AJ P w K mg base AS 1 a.f_i a.d_i ["text","signs"] QX:=by
 refine T.F_i.ok Ss (fun vs H Q E h=>?_) (fun cdv A outer s H vs Q E hr h=>?_)
 .obtain⟨_,_,rfl,_⟩:=h;rfl
 obtain⟨z,y,rfl,hz,q⟩:=h
 refine⟨_,(@Ac _ _ _ (@Ar _ _ _ _ (@B6 _ _ _ _ _ _ _ _ _ (@Ll _ rfl) (by rfl) T.z_all KE (@A0 _ _ _ _ _ (@DN _ _ _ _ _ _ _ ["sign","signs"] [none,some 1] _ _ _ _ (by rfl) (@Vb _ _ _ _ (pv 0)) Sz (fun _ _ _ _ _ _=>⟨(BG (i:=0) Py rfl (.inl rfl)),@Eh _,(@De _ _ _ _ _ _ _ _ HL (pv 0) (pv 1) (by with_unfolding_all rfl))⟩) (by intro _;rfl)) A4 (by rfl)) (by decide) (by decide) (by rfl) (by rfl)))),?_⟩
 refine⟨_,rfl,z,rfl,?_⟩
 refine Pz (z:=z) (fun i ys H'=>H'=H/\ys=((cds z).take i).map fun c=>V.bl (decide (c∈cds y))) ⟨rfl,rfl⟩ (AF (by have:=cds_len z;omega)) (fun i ys H' hi p=>?_) (fun i c ys H' hc p=>?_) (fun ys H' p r hr'=>?_)
 .obtain⟨_,rfl⟩:=p
  rw[Aq,BA];omega
 .obtain⟨rfl,rfl⟩:=p
  refine⟨_,rfl,_,rfl,_,_,rfl,rfl,rfl,?_⟩
  rw[DE hc,AW,IS]
  rfl
 .obtain⟨rfl,rfl⟩:=p
  rw[Ef]
  refine⟨r,(cds z).map fun c=>decide (c∈cds y),rfl,A2.of ?_,?_⟩
  .rw[A5,JY];rfl
  .have e:(((cds z).map fun c=>decide (c∈cds y)).all id)=decide (∀c∈cds z,c∈cds y):=by
    rw[DJ]
    simp only[LR,G1,Function.comp,id,DZ]
   rw[e]
   exact q _ (Ab hr' _)
theorem Hz (T:Tx w K mg a):AJ P w K mg base AS 2 a.f_b a.d_b ["text"] T9:=by
 have G_i :=@Om P w K mg base a T
 refine T.F_b.ok RK (fun vs H Q E h=>?_) (fun cdv A outer s H vs Q E hr h=>?_)
 .obtain⟨_,rfl,_⟩:=h;rfl
 obtain⟨z,rfl,hz,q⟩:=h
 refine⟨_,(@A6 _ _ _ _ _ (@AI _ _ _ _ _ _ _ _ ((@Cb _ _ _ _ _ _ _ (@An _ _ _ _ _ _ _ _ BC (pv 0) Av (@Ao _ _ (by decide) (by decide))) (@Cb _ _ _ _ _ _ _ (@An _ _ _ _ _ _ _ _ EA (@B6 _ _ _ _ _ _ _ _ _ IL (by rfl) T.z_len BB (@A0 _ _ _ _ _ (pv 0) A4 (by rfl)) (by decide) (by decide) (by rfl) (by rfl)) (@Ck _ _ _ _ _ (by rfl) T.g_MOST_FIGURES T.r_MOST_FIGURES (by decide)) (@Ao _ _ (by decide) (by decide))) (@CT _ _ _ _ (@E6 _ _ _ _ (@Cm _ _ _ (@AC _ _ _ _ _ _ _ _ _ _ _ _ _ _ _ _ G_i (hr.mono (by omega)) (by rfl) T.m_i T.F_i.kp T.b_i .nil Au (@A0 _ _ _ _ _ (pv 0) (@A0 _ _ _ _ _ (@Ck _ _ _ _ _ (by rfl) T.g_FIGURES T.r_FIGURES (by decide)) A4 (by rfl)) (by rfl)) (by decide) (by rfl) (by rfl)) (by intro _;rfl))))))).pt (@Ac _ _ _ (@Ar _ _ _ _ BK)) AN) (@A6 _ _ _ _ _ (@AI _ _ _ _ _ _ _ _ ((@D6 _ _ _ _ _ _ _ (@An _ _ _ _ _ _ _ _ BC (@Ag _ _ _ _ _ _ _ En (pv 0) A3 (fun _ _=>rfl)) Av (@Ao _ _ (by decide) (by decide))) (@DP _ _ _ _ (@An _ _ _ _ _ _ _ _ DQ (pv 0) Av (@Ao _ _ (by decide) (by decide)))))).pt (@Ac _ _ _ (@Ar _ _ _ _ BK)) AN) (@Ac _ _ _ (@Ar _ _ _ _ (@Dl _ _ _ _ _ _ _ _ _ Sr (by rfl) T.z_int IV (@A0 _ _ _ _ _ (pv 0) A4 (by rfl)) (by decide) (by decide) (by rfl) (by rfl)))))),?_⟩
 have qn:¬Ca (cds z)->∀H',A8 H H'->Q .non H':=fun h H' e=>by
  have:=q H' e
  unfold EO at this
  rwa [A9 h]at this
 have hl:=cds_len z
 refine⟨_,rfl,rfl,_,rfl,?_⟩
 refine Az (fun c=>?_) (fun c=>?_)
 .have e:z="":=V.str.inj (dT c)
  refine Bq ?_
  exact qn (fun g=>by have:=g.1;rw[Gq.mp e]at this;simp at this) H (A8.refl H)
 have c1:¬z="":=fun e=>dF c (by rw[e])
 refine⟨_,rfl,_,rfl,AF (by omega),_,_,rfl,rfl,_,rfl,?_⟩
 refine Az (fun c2=>?_) (fun c2=>?_)
 .have:=dT c2
  refine Bq ?_
  exact qn (fun g=>by have:=g.2.1;omega) H (A8.refl H)
 have c3:=dF c2
 refine⟨_,rfl,z,_,rfl,hz,fun H1 e1=>?_⟩
 refine⟨_,rfl,?_⟩
 by_cases hm:∀c∈cds z,c∈cds "0123456789"
 case neg=>
  rw[Bv hm]
  refine Bq ?_
  exact qn (fun g=>hm fun c hc=>(Mp c).mpr (g.2.2.2 c hc)) H1 e1
 rw[B7 hm]
 refine AA ?_
 have hd:∀c∈cds z,48<=c/\c<=57:=fun c hc=>(Mp c).mp (hm c hc)
 have hne:cds z≠[]:=fun e=>c1 (Gq.mpr e)
 obtain⟨d,r,hdr⟩:∃d r,cds z=d::r:=by
  cases e:cds z with
  |nil=>exact absurd e hne
  |cons d r=>exact⟨d,r,rfl⟩
 refine⟨_,rfl,z,0,d,rfl,rfl,AF (by omega),(by show BH (cds z) ((0:Nat):Int)=some d;exact Ge (by rw[hdr];rfl)),rfl,_,rfl,?_⟩
 have fin:Ca (cds z)->Q (.int ((NumText.digitsVal (cds z):Nat):Int)) H1:=fun g=>by
  have:=q H1 e1
  unfold EO at this
  rwa [Af g]at this
 have last:Ca (cds z)->_:=fun g=>(⟨_,rfl,z,_,rfl,intText_digits (x:=z) (fun c hc=>hd c hc) hne (by omega),by omega,fin g⟩:G7 (Ih (fun xs H Q=>∃z n,xs=[V.str z]/\intText? z=some n/\z.length<=640/\Q (V.int n) H) (Gs (Ed 0) FG)) {nx:=fun x H'=>Q V.non H',rt:=Q} (L2.start ["text"] [V.str z]) H1)
 refine Az (fun c4=>?_) (fun c4=>?_)
 .have h48:d=48:=by
   have:=V.str.inj (dT c4)
   have h2:=KC.mp this
   rw[O9]at h2
   simpa using h2
  refine⟨_,rfl,rfl,_,rfl,?_⟩
  by_cases hz0:z="0"
  .rw[B7 (congrArg V.str hz0)]
   refine AA ?_
   refine last ?_
   rw[KC.mp hz0]
   exact⟨by decide,by decide,by decide,by decide⟩
  .refine Az (fun _=>?_) (fun c5=>?_)
   .refine qn (fun g=>g.2.2.1 ⟨by rw[hdr,h48];rfl,?_⟩) H1 e1
    rw[hdr]
    cases r with
    |nil=>exact absurd (KC.mpr (by rw[hdr,h48])) hz0
    |cons _ _=>simp
   .exact absurd (show(!decide (V.str z=V.str "0"))=true by rw[Bv (fun e=>hz0 (V.str.inj e))];rfl) c5
 .refine AA ?_
  refine last ⟨by rw[hdr];simp,by omega,fun⟨h1,_⟩=>?_,hd⟩
  rw[hdr]at h1
  have:d=48:=by simpa using h1
  exact dF c4 (by rw[this];congr 1)
theorem Gx (T:Tx w K mg a):AJ P w K mg base AS 2 a.f_a a.d_a ["text"] PF:=by
 have G_i :=@Om P w K mg base a T
 refine T.F_a.ok VD (fun vs H Q E h=>?_) (fun cdv A outer s H vs Q E hr h=>?_)
 .obtain⟨_,rfl,_⟩:=h;rfl
 obtain⟨z,rfl,hz,q⟩:=h
 refine⟨_,(@A6 _ _ _ _ _ (@AI _ _ _ _ _ _ _ _ ((@Cb _ _ _ _ _ _ _ (@An _ _ _ _ _ _ _ _ BC (pv 0) Av (@Ao _ _ (by decide) (by decide))) (@CT _ _ _ _ (@An _ _ _ _ _ _ _ _ EA (@B6 _ _ _ _ _ _ _ _ _ IL (by rfl) T.z_len BB (@A0 _ _ _ _ _ (pv 0) A4 (by rfl)) (by decide) (by decide) (by rfl) (by rfl)) (@Ck _ _ _ _ _ (by rfl) T.g_MOST_LETTERS T.r_MOST_LETTERS (by decide)) (@Ao _ _ (by decide) (by decide)))))).pt (@Ac _ _ _ (@Ar _ _ _ _ C9)) AN) (@Ac _ _ _ (@Ar _ _ _ _ (@Gi _ _ _ _ _ _ _ (@AC _ _ _ _ _ _ _ _ _ _ _ _ _ _ _ _ G_i (hr.mono (by omega)) (by rfl) T.m_i T.F_i.kp T.b_i .nil Au (@A0 _ _ _ _ _ (pv 0) (@A0 _ _ _ _ _ (@Ck _ _ _ _ _ (by rfl) T.g_LETTERS T.r_LETTERS (by decide)) A4 (by rfl)) (by rfl)) (by decide) (by rfl) (by rfl)) (@EG _ _ _ _ _ (@De _ _ _ _ _ _ _ _ Lu (pv 0) (@Ck _ _ _ _ _ (by rfl) T.g_ROW_WORDS T.r_ROW_WORDS (by decide)) (by with_unfolding_all rfl))))))),?_⟩
 have hl:=cds_len z
 have qn:¬Bg (cds z)->∀H',A8 H H'->Q (.bl false) H':=fun h H' e=>by
  have:=q H' e
  rwa [Bv h]at this
 refine⟨_,rfl,rfl,_,rfl,?_⟩
 refine Az (fun c=>?_) (fun c=>?_)
 .have e:z="":=V.str.inj (dT c)
  refine Bq ?_
  exact qn (fun g=>by have:=g.1;rw[Gq.mp e]at this;simp at this) H (A8.refl H)
 have c1:¬z="":=fun e=>dF c (by rw[e])
 refine⟨_,rfl,_,rfl,AF (by omega),_,_,rfl,rfl,_,rfl,?_⟩
 refine Az (fun c2=>?_) (fun c2=>?_)
 .have:=dT c2
  exact qn (fun g=>by have:=g.2.1;omega) H (A8.refl H)
 have c3:=dF c2
 refine⟨_,rfl,z,_,rfl,hz,fun H1 e1=>?_⟩
 refine⟨_,rfl,?_⟩
 have hne:1<=(cds z).length:=by
  cases e:cds z with
  |nil=>exact absurd (Gq.mpr e) c1
  |cons _ _=>simp
 refine Az (fun c4=>?_) (fun c4=>?_)
 .have h4:=dT c4
  refine⟨_,rfl,a.u_ROW_WORDS,_,rfl,.inr (T.q_ROW_WORDS _),rfl,rfl,?_⟩
  have e2:CZ (V.str z) [.str "for",.str "end",.str "size"]=decide (cds z∈Dg):=by
   have:=N0 (cds z)
   rwa [E9]at this
  show Q (.bl (!CZ (V.str z) [.str "for",.str "end",.str "size"])) H1
  rw[e2]
  have:=q H1 e1
  have e3:decide (Bg (cds z))=!decide (cds z∈Dg):=by
   rw[DJ]
   simp only[DZ,Bool.not_eq_true',decide_eq_false_iff_not]
   exact⟨fun g=>g.2.2.2,fun g=>⟨hne,by omega,h4,g⟩⟩
  rwa [e3]at this
 .exact qn (fun g=>dF c4 g.2.2.1) H1 e1
theorem Qj (T:Tx w K mg a):AJ P w K mg base AS 3 a.f_q a.d_q ["parts"] (Ni 43 HK K):=by
 have G_b :=@Hz P w K mg base a T
 have G_a :=@Gx P w K mg base a T
 refine T.F_q.ok M7 (fun vs H Q E h=>?_) (fun cdv A outer s H vs Q E hr h=>?_)
 .obtain⟨_,_,rfl,_⟩:=h;rfl
 obtain⟨p,l,rfl,hp,hl,q⟩:=h
 obtain⟨b,m,e,hpv,h1,h0,hm0,hb,he⟩:=Mz 43 l hl
 rw[hpv]at hp
 refine⟨_,(@A6 _ _ _ _ _ (@Aj _ _ (1) _ _ _ _ M7.nd rfl (.inl rfl) (@AC _ _ _ _ _ _ _ _ _ _ _ _ _ _ _ _ G_b (hr.mono (by omega)) (by rfl) T.m_b T.F_b.kp T.b_b .nil Au (@A0 _ _ _ _ _ (@Ag _ _ _ _ _ _ _ B0 (pv 0) A3 (fun _ _=>rfl)) A4 (by rfl)) (by decide) (by rfl) (by rfl)) (by rfl) (by first|exact .inl rfl|exact .inr rfl|assumption)) (@A6 _ _ _ _ _ (@AI _ _ _ _ _ _ _ _ ((@Cb _ _ _ _ _ _ _ (@An _ _ _ _ _ _ _ _ E1 (pv 1) BK (@Ao _ _ (by decide) (by decide))) (@CT _ _ _ _ (@E6 _ _ _ _ (@Cm _ _ _ (@AC _ _ _ _ _ _ _ _ _ _ _ _ _ _ _ _ G_a (hr.mono (by omega)) (by rfl) T.m_a T.F_a.kp T.b_a .nil Au (@A0 _ _ _ _ _ (@Ag _ _ _ _ _ _ _ B0 (pv 0) A3 (fun _ _=>rfl)) A4 (by rfl)) (by decide) (by rfl) (by rfl)) (by intro _;rfl)))))).pt (@Ac _ _ _ (@Ar _ _ _ _ BK)) AN) (@Ac _ _ _ (@Ar _ _ _ _ (@CJ _ _ _ _ _ (@A0 _ _ _ _ _ (@Ag _ _ _ _ _ _ _ B0 (pv 0) A3 (fun _ _=>rfl)) (@A0 _ _ _ _ _ (pv 1) A4 (by rfl)) (by rfl))))))),?_⟩
 have qn:HK l=none->∀H',A8 H H'->Q .non H':=fun z=>by rw[z]at q;exact q
 refine⟨_,rfl,p,_,2,_,rfl,rfl,hp,rfl,_,rfl,he,fun H1 e1=>?_⟩
 rw[Ba]
 refine⟨_,rfl,rfl,_,rfl,?_⟩
 by_cases g:Ca e
 case neg=>
  rw[B7 (Ip g)]
  refine Bq (Bq ?_)
  refine qn ?_ H1 e1
  unfold HK
  by_cases hm:43∈l
  .rw[Af hm,A9 (fun z=>g (by rw[(h1 hm).2];exact z.1))]
  .rw[A9 hm]
 have hm:43∈l:=Decidable.byContradiction fun z=>Mc (by rw[←(h0 z).2];exact g)
 rw[Jl g]
 refine AA ?_
 refine⟨_,rfl,p,_,0,_,rfl,rfl,e1.seqT hp,rfl,_,rfl,hb,fun H2 e2=>?_⟩
 rw[Ba]
 refine⟨_,rfl,?_⟩
 unfold HK at q
 rw[Af hm,←(h1 hm).1,←(h1 hm).2]at q
 by_cases hn:Bg b
 .rw[B7 hn]
  rw[Af ⟨g,hn⟩]at q
  refine AA ?_
  exact⟨_,rfl,p,_,0,_,rfl,rfl,(e1.trans e2).seqT hp,rfl,_,rfl,AD rfl,fun r hr=>q r _ ((e1.trans e2).trans (Ab hr _)) A5⟩
 .rw[Bv hn]
  rw[A9 (fun z=>hn z.2)]at q
  refine Bq ?_
  exact q H2 (e1.trans e2)
theorem SH (T:Tx w K mg a):AJ P w K mg base AS 3 a.f_r a.d_r ["parts"] (Ni 45 IJ K):=by
 have G_b :=@Hz P w K mg base a T
 have G_a :=@Gx P w K mg base a T
 refine T.F_r.ok NQ (fun vs H Q E h=>?_) (fun cdv A outer s H vs Q E hr h=>?_)
 .obtain⟨_,_,rfl,_⟩:=h;rfl
 obtain⟨p,l,rfl,hp,hl,q⟩:=h
 obtain⟨b,m,e,hpv,h1,h0,hm0,hb,he⟩:=Mz 45 l hl
 rw[hpv]at hp
 refine⟨_,(@A6 _ _ _ _ _ (@Aj _ _ (1) _ _ _ _ NQ.nd rfl (.inl rfl) (@AC _ _ _ _ _ _ _ _ _ _ _ _ _ _ _ _ G_b (hr.mono (by omega)) (by rfl) T.m_b T.F_b.kp T.b_b .nil Au (@A0 _ _ _ _ _ (@Ag _ _ _ _ _ _ _ B0 (pv 0) A3 (fun _ _=>rfl)) A4 (by rfl)) (by decide) (by rfl) (by rfl)) (by rfl) (by first|exact .inl rfl|exact .inr rfl|assumption)) (@A6 _ _ _ _ _ (@AI _ _ _ _ _ _ _ _ (@An _ _ _ _ _ _ _ _ E1 (pv 1) BK (@Ao _ _ (by decide) (by decide))) (@Ac _ _ _ (@Ar _ _ _ _ BK)) AN) (@A6 _ _ _ _ _ (@AI _ _ _ _ _ _ _ _ ((@Cb _ _ _ _ _ _ _ (@Cm _ _ _ (@AC _ _ _ _ _ _ _ _ _ _ _ _ _ _ _ _ G_a (hr.mono (by omega)) (by rfl) T.m_a T.F_a.kp T.b_a .nil Au (@A0 _ _ _ _ _ (@Ag _ _ _ _ _ _ _ B0 (pv 0) A3 (fun _ _=>rfl)) A4 (by rfl)) (by decide) (by rfl) (by rfl)) (by intro _;rfl)) (@CT _ _ _ _ ((@D6 _ _ _ _ _ _ _ (@An _ _ _ _ _ _ _ _ BC (@Ag _ _ _ _ _ _ _ B0 (pv 0) A3 (fun _ _=>rfl)) Av (@Ao _ _ (by decide) (by decide))) (@DP _ _ _ _ (@An _ _ _ _ _ _ _ _ EA (pv 1) A3 (@Ao _ _ (by decide) (by decide)))))).pt))).pt (@Ac _ _ _ (@Ar _ _ _ _ (@CJ _ _ _ _ _ (@A0 _ _ _ _ _ (@Ag _ _ _ _ _ _ _ B0 (pv 0) A3 (fun _ _=>rfl)) (@A0 _ _ _ _ _ (@CN _ _ _ _ _ _ CH (pv 1)) A4 (by rfl)) (by rfl))))) AN) (@Ac _ _ _ (@Ar _ _ _ _ BK))))),?_⟩
 have qn:IJ l=none->∀H',A8 H H'->Q .non H':=fun z=>by rw[z]at q;exact q
 refine⟨_,rfl,p,_,2,_,rfl,rfl,hp,rfl,_,rfl,he,fun H1 e1=>?_⟩
 rw[Ba]
 refine⟨_,rfl,rfl,_,rfl,?_⟩
 by_cases g:Ca e
 case neg=>
  rw[B7 (Ip g)]
  refine Bq ?_
  refine qn ?_ H1 e1
  unfold IJ
  by_cases hm:45∈l
  .rw[Af hm,A9 (fun z=>g (by rw[(h1 hm).2];exact z))]
  .rw[A9 hm]
 have hm:45∈l:=Decidable.byContradiction fun z=>Mc (by rw[←(h0 z).2];exact g)
 rw[Jl g]
 refine AA ?_
 refine⟨_,rfl,p,_,0,_,rfl,rfl,e1.seqT hp,rfl,_,rfl,hb,fun H2 e2=>?_⟩
 rw[Ba]
 unfold IJ at q
 rw[Af hm,←(h1 hm).1,←(h1 hm).2,Af g]at q
 refine⟨_,rfl,?_⟩
 by_cases hn:Bg b
 .rw[B7 hn]
  rw[Af (.inl hn)]at q
  refine Bq (Bq ?_)
  exact⟨_,rfl,p,_,0,_,rfl,rfl,(e1.trans e2).seqT hp,rfl,_,rfl,_,rfl,AD rfl,fun r hr=>q r _ ((e1.trans e2).trans (Ab hr _)) A5⟩
 rw[Bv hn]
 refine AA ?_
 refine⟨_,rfl,p,_,0,_,rfl,rfl,(e1.trans e2).seqT hp,rfl,rfl,_,rfl,?_⟩
 by_cases hb0:b=[]
 .subst hb0
  refine Bq ?_
  refine⟨_,rfl,_,_,rfl,rfl,_,rfl,?_⟩
  refine Az (fun c=>?_) (fun c=>?_)
  .rw[Af (.inr ⟨rfl,dT c⟩)]at q
   exact⟨_,rfl,p,_,0,_,rfl,rfl,(e1.trans e2).seqT hp,rfl,_,rfl,_,rfl,AD rfl,fun r hr=>q r _ ((e1.trans e2).trans (Ab hr _)) A5⟩
  .rw[A9 (fun z=>z.elim hn fun w=>dF c w.2)]at q
   exact q _ (e1.trans e2)
 .have e5:¬V.str (Ax b)=V.str (Str.ofString ""):=fun z=>hb0 (by have:=Gq.mp (V.str.inj z);rwa [Ba]at this)
  rw[Bv e5]
  refine AA (AA ?_)
  rw[A9 (fun z=>z.elim hn fun w=>hb0 w.1)]at q
  exact q _ (e1.trans e2)
theorem Mv (T:Tx w K mg a):AJ P w K mg base AS 4 a.f_e a.d_e ["text"] (US E3):=by
 have G_b :=@Hz P w K mg base a T
 have G_a :=@Gx P w K mg base a T
 have G_q :=@Qj P w K mg base a T
 have G_r :=@SH P w K mg base a T
 refine T.F_e.ok Oo (fun vs H Q E h=>?_) (fun cdv A outer s H vs Q E hr h=>?_)
 .obtain⟨_,rfl,_⟩:=h;rfl
 obtain⟨z,rfl,hz,q⟩:=h
 refine⟨_,(@A6 _ _ _ _ _ (@AI _ _ _ _ _ _ _ _ (@Cm _ _ _ (@AC _ _ _ _ _ _ _ _ _ _ _ _ _ _ _ _ G_a (hr.mono (by omega)) (by rfl) T.m_a T.F_a.kp T.b_a .nil Au (@A0 _ _ _ _ _ (pv 0) A4 (by rfl)) (by decide) (by rfl) (by rfl)) (by intro _;rfl)) (@Ac _ _ _ (@Ar _ _ _ _ (@CJ _ _ _ _ _ (@A0 _ _ _ _ _ (pv 0) (@A0 _ _ _ _ _ A3 A4 (by rfl)) (by rfl))))) AN) (@A6 _ _ _ _ _ (@Aj _ _ (1) _ _ _ _ Oo.nd rfl (.inl rfl) (@AC _ _ _ _ _ _ _ _ _ _ _ _ _ _ _ _ G_b (hr.mono (by omega)) (by rfl) T.m_b T.F_b.kp T.b_b .nil Au (@A0 _ _ _ _ _ (pv 0) A4 (by rfl)) (by decide) (by rfl) (by rfl)) (by rfl) (by first|exact .inl rfl|exact .inr rfl|assumption)) (@A6 _ _ _ _ _ (@AI _ _ _ _ _ _ _ _ (@An _ _ _ _ _ _ _ _ Kb (pv 1) BK (@Ao _ _ (by decide) (by decide))) (@Ac _ _ _ (@Ar _ _ _ _ (@CJ _ _ _ _ _ (@A0 _ _ _ _ _ Av (@A0 _ _ _ _ _ (pv 1) A4 (by rfl)) (by rfl))))) AN) (@A6 _ _ _ _ _ (@AI _ _ _ _ _ _ _ _ (@An _ _ _ _ _ _ _ _ HL Av (pv 0) (by with_unfolding_all rfl)) (@Ac _ _ _ (@Ar _ _ _ _ (@AC _ _ _ _ _ _ _ _ _ _ _ _ _ _ _ _ G_q (hr.mono (by omega)) (by rfl) T.m_q T.F_q.kp T.b_q .nil Au (@A0 _ _ _ _ _ (@Be _ _ _ _ _ _ _ _ _ _ _ _ DK K2 K3 Hj (pv 0) (@A0 _ _ _ _ _ Av A4 (by rfl)) (by rfl) (by rfl) (by rfl) (by rfl) (by rfl)) A4 (by rfl)) (by decide) (by rfl) (by rfl)))) AN) (@Ac _ _ _ (@Ar _ _ _ _ (@AC _ _ _ _ _ _ _ _ _ _ _ _ _ _ _ _ G_r (hr.mono (by omega)) (by rfl) T.m_r T.F_r.kp T.b_r .nil Au (@A0 _ _ _ _ _ (@Be _ _ _ _ _ _ _ _ _ _ _ _ DK K2 K3 Hj (pv 0) (@A0 _ _ _ _ _ Av A4 (by rfl)) (by rfl) (by rfl) (by rfl) (by rfl) (by rfl)) A4 (by rfl)) (by decide) (by rfl) (by rfl)))))))),?_⟩
 refine⟨_,rfl,z,rfl,hz,fun H1 e1=>?_⟩
 refine⟨_,rfl,?_⟩
 by_cases hn:Bg (cds z)
 .rw[B7 hn]
  unfold E3 at q
  rw[Af hn,]at q
  refine Bq ?_
  refine⟨_,rfl,AD rfl,fun r hr=>q r _ (e1.trans (Ab hr _)) (by rw[E9];exact A5)⟩
 rw[Bv hn]
 refine AA ?_
 refine⟨_,rfl,z,rfl,hz,fun H2 e2=>?_⟩
 have e12:=e1.trans e2
 refine⟨_,rfl,rfl,_,rfl,?_⟩
 unfold E3 at q
 rw[A9 hn]at q
 by_cases g:Ca (cds z)
 .rw[Jl g]
  rw[Af g]at q
  refine Bq ?_
  refine⟨_,rfl,AD rfl,fun r hr=>q r _ (e12.trans (Ab hr _)) A5⟩
 rw[Ip g]
 rw[A9 g]at q
 refine AA ?_
 refine⟨_,rfl,_,_,rfl,rfl,_,rfl,?_⟩
 have ep:(!(Builtin.Str.occurrences z (Str.ofString "+") 0 z.length 1).isEmpty)=decide (43∈cds z):=IS z 43
 have hl:=cds_len z
 rw[ep]
 by_cases hp:43∈cds z
 .rw[B7 hp]
  rw[Af hp]at q
  refine Bq ?_
  refine⟨_,rfl,rfl,z,43,rfl,rfl,AF (by omega),fun r hr=>?_⟩
  refine⟨r,cds z,rfl,Aw.of A5,by omega,?_⟩
  unfold HK
  rw[Af hp]
  exact q.over (e12.trans (Ab hr _))
 .rw[Bv hp]
  rw[A9 hp]at q
  refine AA ?_
  refine⟨_,rfl,rfl,z,45,rfl,rfl,AF (by omega),fun r hr=>?_⟩
  refine⟨r,cds z,rfl,Aw.of A5,by omega,?_⟩
  exact Gp.over q (e12.trans (Ab hr _))
theorem QM (T:Tx w K mg a):AJ P w K mg base AS 1 a.f_O a.d_O ["self","n"] (Jc a.c_Number ["n"]):=by
 refine T.F_O.ok RQ (fun vs H Q E h=>?_) (fun cdv A outer s H vs Q E hr h=>?_)
 .obtain⟨_,_,vs,rfl,hl,_⟩:=h;rw[AO,hl];rfl
 obtain⟨x,dx,vs,rfl,hl,hx,q⟩:=h
 obtain⟨n,rfl⟩:∃n,vs=[n]:=by match vs,hl with|[n],_=>exact⟨n,rfl⟩
 refine⟨_,(@Ac _ _ _ (@BZ _ _ _ _ _ _ _ _ (pv 0) (pv 1) rfl)),?_⟩
 exact⟨_,rfl,_,rfl,x,_,dx,_,rfl,hx,T.cl_Number,T.n_Number_n,(by show 0<1000;decide),q _ (fun b o e hb=>by rw[A7 hb];exact e) ⟨dx,A5⟩⟩
theorem OU (T:Tx w K mg a):AJ P w K mg base AS 1 a.f_P a.d_P ["self","name"] (Jc a.c_Value ["name"]):=by
 refine T.F_P.ok TY (fun vs H Q E h=>?_) (fun cdv A outer s H vs Q E hr h=>?_)
 .obtain⟨_,_,vs,rfl,hl,_⟩:=h;rw[AO,hl];rfl
 obtain⟨x,dx,vs,rfl,hl,hx,q⟩:=h
 obtain⟨n,rfl⟩:∃n,vs=[n]:=by match vs,hl with|[n],_=>exact⟨n,rfl⟩
 refine⟨_,(@Ac _ _ _ (@BZ _ _ _ _ _ _ _ _ (pv 0) (pv 1) rfl)),?_⟩
 exact⟨_,rfl,_,rfl,x,_,dx,_,rfl,hx,T.cl_Value,T.n_Value_name,(by show 0<1000;decide),q _ (fun b o e hb=>by rw[A7 hb];exact e) ⟨dx,A5⟩⟩
theorem TB (T:Tx w K mg a):AJ P w K mg base AS 1 a.f_Q a.d_Q ["self","table","spots"] (Jc a.c_Cell ["table","spots"]):=by
 refine T.F_Q.ok Vk (fun vs H Q E h=>?_) (fun cdv A outer s H vs Q E hr h=>?_)
 .obtain⟨_,_,vs,rfl,hl,_⟩:=h;rw[AO,hl];rfl
 obtain⟨x,dx,vs,rfl,hl,hx,q⟩:=h
 obtain⟨n,m,rfl⟩:∃n m,vs=[n,m]:=by match vs,hl with|[n,m],_=>exact⟨n,m,rfl⟩
 refine⟨_,(@A6 _ _ _ _ _ (@BZ _ _ _ _ _ _ _ _ (pv 0) (pv 1) rfl) (@Ac _ _ _ (@BZ _ _ _ _ _ _ _ _ (pv 0) (pv 2) rfl))),?_⟩
 refine⟨_,rfl,_,rfl,x,_,dx,_,rfl,hx,T.cl_Cell,T.n_Cell_table,(by show 0<1000;decide),?_⟩
 refine⟨_,rfl,_,rfl,x,_,dx,_,rfl,A5,T.cl_Cell,T.n_Cell_spots,(by show 1<1000;decide),?_⟩
 exact q _ (fun b o e hb=>by
  repeat rw[A7 hb]
  exact e) ⟨dx,A5⟩
theorem RA (T:Tx w K mg a):AJ P w K mg base AS 1 a.f_R a.d_R ["self","sign","left","right"] (Jc a.c_Joined ["sign","left","right"]):=by
 refine T.F_R.ok Qt (fun vs H Q E h=>?_) (fun cdv A outer s H vs Q E hr h=>?_)
 .obtain⟨_,_,vs,rfl,hl,_⟩:=h;rw[AO,hl];rfl
 obtain⟨x,dx,vs,rfl,hl,hx,q⟩:=h
 obtain⟨n,m,o,rfl⟩:∃n m o,vs=[n,m,o]:=by match vs,hl with|[n,m,o],_=>exact⟨n,m,o,rfl⟩
 refine⟨_,(@A6 _ _ _ _ _ (@BZ _ _ _ _ _ _ _ _ (pv 0) (pv 1) rfl) (@A6 _ _ _ _ _ (@BZ _ _ _ _ _ _ _ _ (pv 0) (pv 2) rfl) (@Ac _ _ _ (@BZ _ _ _ _ _ _ _ _ (pv 0) (pv 3) rfl)))),?_⟩
 refine⟨_,rfl,_,rfl,x,_,dx,_,rfl,hx,T.cl_Joined,T.n_Joined_sign,(by show 0<1000;decide),?_⟩
 refine⟨_,rfl,_,rfl,x,_,dx,_,rfl,A5,T.cl_Joined,T.n_Joined_left,(by show 1<1000;decide),?_⟩
 refine⟨_,rfl,_,rfl,x,_,dx,_,rfl,A5,T.cl_Joined,T.n_Joined_right,(by show 2<1000;decide),?_⟩
 exact q _ (fun b o e hb=>by
  repeat rw[A7 hb]
  exact e) ⟨dx,A5⟩
theorem OR (T:Tx w K mg a):AJ P w K mg base AS 1 a.f_S a.d_S ["self","names","lows","highs","table","spots","term","path"] (Q2 a.c_Deed):=by
 refine T.F_S.ok Vn (fun vs H Q E h=>?_) (fun cdv A outer s H vs Q E hr h=>?_)
 .obtain⟨_,_,_,_,_,_,_,_,_,rfl,_⟩:=h;rfl
 obtain⟨x,dx,v1,v2,v3,v4,v5,v6,v7,rfl,hx,q⟩:=h
 refine⟨_,(@A6 _ _ _ _ _ (@BZ _ _ _ _ _ _ _ _ (pv 0) (pv 1) rfl) (@A6 _ _ _ _ _ (@BZ _ _ _ _ _ _ _ _ (pv 0) (pv 2) rfl) (@A6 _ _ _ _ _ (@BZ _ _ _ _ _ _ _ _ (pv 0) (pv 3) rfl) (@A6 _ _ _ _ _ (@BZ _ _ _ _ _ _ _ _ (pv 0) (pv 4) rfl) (@A6 _ _ _ _ _ (@BZ _ _ _ _ _ _ _ _ (pv 0) (pv 5) rfl) (@A6 _ _ _ _ _ (@BZ _ _ _ _ _ _ _ _ (pv 0) (pv 6) rfl) (@Ac _ _ _ (@BZ _ _ _ _ _ _ _ _ (pv 0) (pv 7) rfl)))))))),?_⟩
 refine⟨_,rfl,_,rfl,x,_,dx,_,rfl,hx,T.cl_Deed,T.n_Deed_names,(by show 0<1000;decide),?_⟩
 refine⟨_,rfl,_,rfl,x,_,dx,_,rfl,A5,T.cl_Deed,T.n_Deed_lows,(by show 1<1000;decide),?_⟩
 refine⟨_,rfl,_,rfl,x,_,dx,_,rfl,A5,T.cl_Deed,T.n_Deed_highs,(by show 2<1000;decide),?_⟩
 refine⟨_,rfl,_,rfl,x,_,dx,_,rfl,A5,T.cl_Deed,T.n_Deed_table,(by show 3<1000;decide),?_⟩
 refine⟨_,rfl,_,rfl,x,_,dx,_,rfl,A5,T.cl_Deed,T.n_Deed_spots,(by show 4<1000;decide),?_⟩
 refine⟨_,rfl,_,rfl,x,_,dx,_,rfl,A5,T.cl_Deed,T.n_Deed_term,(by show 5<1000;decide),?_⟩
 refine⟨_,rfl,_,rfl,x,_,dx,_,rfl,A5,T.cl_Deed,T.n_Deed_path,(by show 6<1000;decide),?_⟩
 exact q _ (fun b o e hb=>by
  repeat rw[A7 hb]
  exact e) ⟨dx,A5⟩
theorem UH (T:Tx w K mg a):AJ P w K mg base AS 1 a.f_T a.d_T ["self","size","deeds"] (Ru a.c_Program):=by
 refine T.F_T.ok Tv (fun vs H Q E h=>?_) (fun cdv A outer s H vs Q E hr h=>?_)
 .obtain⟨_,_,_,_,_,rfl,_⟩:=h;rfl
 obtain⟨x,dx,p,v1,ys,rfl,hx,hp,yl,q⟩:=h
 refine⟨_,(@A6 _ _ _ _ _ (@BZ _ _ _ _ _ _ _ _ (pv 0) (pv 1) rfl) (@Ac _ _ _ (@BZ _ _ _ _ _ _ _ _ (pv 0) (@Dl _ _ _ _ _ _ _ _ _ TL (by rfl) T.z_list QO (@A0 _ _ _ _ _ (pv 2) A4 (by rfl)) (by decide) (by decide) (by rfl) (by rfl)) rfl))),?_⟩
 refine⟨_,rfl,_,rfl,x,_,dx,_,rfl,hx,T.cl_Program,T.n_Program_size,(by show 0<1000;decide),?_⟩
 have npx:p≠x:=CL hp hx (by intro z;cases z)
 refine⟨_,rfl,p,ys,rfl,.inl (A2.of (by rw[A7 npx];exact hp)),fun l hl=>?_⟩
 have nxl:x≠l:=fun e=>by rw[e,A5]at hl;cases hl
 have hlH:H l=none:=by rw[A7 (Ne.symm nxl)]at hl;exact hl
 refine⟨_,rfl,x,_,dx,_,rfl,(by rw[A7 nxl];exact A5),T.cl_Program,T.n_Program_deeds,(by show 1<1000;decide),?_⟩
 refine q _ l (fun b o e hb=>?_) ⟨dx,A5⟩ (by rw[A7 (Ne.symm nxl)];exact A5)
 rw[A7 hb,A7 (AG e hlH),A7 hb]
 exact e
theorem RU (T:Tx w K mg a):AJ P w K mg base AS 1 a.f_s a.d_s ["row"] Rd.spBare:=by
 refine T.F_s.ok UJ (fun vs H Q E h=>?_) (fun cdv A outer s H vs Q E hr h=>?_)
 .obtain⟨_,rfl,_⟩:=h;rfl
 obtain⟨z,rfl,hz,q⟩:=h
 have hlen:=cds_len z
 refine⟨_,(@Ac _ _ _ (@Ar _ _ _ _ (@Be _ _ _ _ _ _ _ _ _ _ _ _ DK PySem.F.slot_str_strip PySem.F.type_str_strip PJ (@Ag _ _ _ _ _ _ _ B0 (@Be _ _ _ _ _ _ _ _ _ _ _ _ DK K2 K3 Hj (pv 0) (@A0 _ _ _ _ _ Av A4 (by rfl)) (by rfl) (by rfl) (by rfl) (by rfl) (by rfl)) A3 (fun _ _=>rfl)) (@A0 _ _ _ _ _ Av A4 (by rfl)) (by rfl) (by rfl) (by rfl) (by rfl) (by rfl)))),?_⟩
 refine⟨_,rfl,rfl,z,59,rfl,rfl,AF (by omega),fun r hr'=>?_⟩
 have q2:=q _ (Ab hr' (.tup (D1 59 (cds z))))
 unfold Rd.bare at q2
 by_cases h59:59∈cds z
 .rw[Af h59]at q2
  have e:D1 59 (cds z)=[.str (Ax (Cc 59 (cds z))),.str ⟨#[59]⟩,.str (Ax (CI 59 (cds z)))]:=Af h59
  refine⟨r,_,0,.str (Ax (Cc 59 (cds z))),rfl,rfl,Aw.of A5,(by rw[e];rfl),rfl,_,32,rfl,rfl,?_,?_⟩
  .rw[Dp]
   unfold Cc
   exact AF (by rw[BA];omega)
  .rw[Ba]
   exact q2
 .rw[A9 h59]at q2
  have e:D1 59 (cds z)=[.str (Ax (cds z)),.str "",.str ""]:=A9 h59
  refine⟨r,_,0,.str (Ax (cds z)),rfl,rfl,Aw.of A5,(by rw[e];rfl),rfl,_,32,rfl,rfl,?_,?_⟩
  .rw[Dp];exact AF (by omega)
  .rw[Ba]
   exact q2
theorem SA (T:Tx w K mg a):AJ P w K mg base AS 1 a.f_t a.d_t ["row"] Rd.spWords:=by
 refine T.F_t.ok SM (fun vs H Q E h=>?_) (fun cdv A outer s H vs Q E hr h=>?_)
 .obtain⟨_,rfl,_⟩:=h;rfl
 obtain⟨z,rfl,hz,q⟩:=h
 have hlen:=cds_len z
 refine⟨_,(@Ac _ _ _ (@Ar _ _ _ _ (@DN _ _ _ _ _ _ _ ["word"] [none] _ _ _ _ (by rfl) (@Dy _ _ _ _ (@Be _ _ _ _ _ _ _ _ _ _ _ _ DK LS LU ID (pv 0) (@A0 _ _ _ _ _ Av A4 (by rfl)) (by rfl) (by rfl) (by rfl) (by rfl) (by rfl))) Uy (fun _ _ _ _ _ _=>⟨(BG (i:=0) Uw rfl (.inl rfl)),(@Kj _ _ _ (@An _ _ _ _ _ _ _ _ DQ (pv 0) Av (@Ao _ _ (by decide) (by decide)))),(pv 0)⟩) (by intro _;rfl)))),?_⟩
 refine⟨_,rfl,rfl,z,_,rfl,rfl,by decide +kernel,?_,by omega,fun l ps hl hs=>?_⟩
 .have e:cds (Str.ofString " ")=[32]:=by decide +kernel
  rw[e]
  intro c hc
  rw[Ce.mp hc]
  decide
 have e:cds (Str.ofString " ")=[32]:=by decide +kernel
 rw[e]at hs
 refine⟨l,rfl,⟨_,A2.of A5⟩,?_⟩
 have pl:ps.length<=100001:=by
  have:=Rd.split_many (Ai _) hs
  rw[Aq]at this
  omega
 refine Fv (xs:=ps.map V.str) (fun i ys H'=>H'=upd H l (.lst (ps.map V.str))/\ys=((ps.take i).filter fun y:Str=>decide (y≠Str.ofString "")).map V.str) ⟨rfl,rfl⟩ (AF (by rw[Aq];omega)) (fun i ys H' hi p=>?_) (fun i x ys H' hc p=>?_) (fun ys H' p t ht=>?_)
 .obtain⟨rfl,rfl⟩:=p
  refine⟨A2.of A5,?_⟩
  rw[Aq]
  have h1:=LV (fun y:Str=>decide (y≠Str.ofString "")) (ps.take i)
  rw[BA]at h1
  omega
 .obtain⟨rfl,rfl⟩:=p
  rw[CO]at hc
  cases hy:ps[i]? with
  |none=>rw[hy]at hc;cases hc
  |
   some y=>
   rw[hy]at hc
   cases hc
   refine⟨_,rfl,rfl,_,rfl,?_⟩
   have k1:(V.str y=V.str (Str.ofString ""))↔y=Str.ofString "":=⟨fun e=>V.str.inj e,fun e=>by rw[e]⟩
   rw[DE hy,G4]
   refine Az (fun c=>?_) (fun c=>?_)
   .have n:y≠Str.ofString "":=fun e=>by rw[B7 (k1.mpr e)]at c;cases c
    refine⟨_,rfl,rfl,?_⟩
    rw[F2,Af (B7 n),AW]
    rfl
   .have n:y=Str.ofString "":=GQ fun n=>c (by rw[Bv fun e=>n (k1.mp e)];rfl)
    refine⟨rfl,?_⟩
    rw[F2,A9 (by rw[DZ];exact fun z=>z n),List.filter_nil,DU]
 .obtain⟨rfl,rfl⟩:=p
  rw[Aq,Ef]
  exact q t _ ps ((Ab hl _).trans (Ab ht _)) hs A5
theorem Ta (T:Tx w K mg a):AJ P w K mg base AS 1 a.f_u a.d_u ["text","at"] Rd.spPend:=by
 refine T.F_u.ok Ic (fun vs H Q E h=>?_) (fun cdv A outer s H vs Q E hr h=>?_)
 .obtain⟨_,_,rfl,_⟩:=h;rfl
 obtain⟨z,i,rfl,hi,hz,q⟩:=h
 have hlen:=cds_len z
 have at':∀k:Nat,k<(cds z).length->∃c,(cds z).drop k=c::(cds z).drop (k+1)/\BH z.cps.toList ((k:Nat):Int)=some c:=fun k hk=>⟨(cds z)[k],G3 hk,Ge (BX hk)⟩
 have zl:z.length<=sizeLine:=AF (by omega)
 refine⟨_,(@A6 _ _ _ _ _ (@AI _ _ _ _ _ _ _ _ (@An _ _ _ _ _ _ _ _ HL (@Ag _ _ _ _ _ _ _ En (pv 0) (pv 1) (fun _ _=>rfl)) (@Ck _ _ _ _ _ (by rfl) T.g_SIGNS T.r_SIGNS (by decide)) (by with_unfolding_all rfl)) (@Ac _ _ _ (@Ar _ _ _ _ (@Ae _ _ _ _ _ _ _ _ BS (pv 1) A3))) AN) (@A6 _ _ _ _ _ (@Aj _ _ (2) _ _ _ _ Ic.nd rfl (.inl rfl) C9 (by rfl) (by first|exact .inl rfl|exact .inr rfl|assumption)) (@A6 _ _ _ _ _ (@Hu _ _ _ _ _ _ PassesOwn.never ((@D6 _ _ _ _ _ _ _ (@An _ _ _ _ _ _ _ _ F0 (pv 1) (@B6 _ _ _ _ _ _ _ _ _ IL (by rfl) T.z_len BB (@A0 _ _ _ _ _ (pv 0) A4 (by rfl)) (by decide) (by decide) (by rfl) (by rfl)) (@Ao _ _ (by decide) (by decide))) (@DP _ _ _ _ ((@Cb _ _ _ _ _ _ _ (@Cm _ _ _ (pv 2) (by intro _;rfl)) (@CT _ _ _ _ (@An _ _ _ _ _ _ _ _ Vw (@Ag _ _ _ _ _ _ _ En (pv 0) (pv 1) (fun _ _=>rfl)) (@Ck _ _ _ _ _ (by rfl) T.g_SIGNS T.r_SIGNS (by decide)) (by with_unfolding_all rfl))))).pt))).pt (@A6 _ _ _ _ _ (@Aj _ _ (2) _ _ _ _ Ic.nd rfl (.inl rfl) (@LB _ _ _ _ _ _ _ (@De _ _ _ _ _ _ _ _ BC (@Ag _ _ _ _ _ _ _ En (pv 0) (pv 1) (fun _ _=>rfl)) Av (@Ao _ _ (by decide) (by decide))) (@EG _ _ _ _ _ (@Gi _ _ _ _ _ _ _ (pv 2) (@EG _ _ _ _ _ (@De _ _ _ _ _ _ _ _ DQ (@Ag _ _ _ _ _ _ _ En (pv 0) (pv 1) (fun _ _=>rfl)) Av (@Ao _ _ (by decide) (by decide))))))) (by rfl) (by first|exact .inl rfl|exact .inr rfl|assumption)) (@Ac _ _ _ (@PK _ _ (1) _ _ _ _ _ _ Ic.nd rfl (.inl rfl) A3 Kr (by first|exact .inl rfl|exact .inr rfl|assumption))))) (@Ac _ _ _ (@Ar _ _ _ _ (pv 1)))))),?_⟩
 obtain⟨c,hd,hc⟩:=at' i hi
 refine⟨_,rfl,_,rfl,_,_,c,rfl,rfl,zl,hc,_,_,rfl,rfl,_,rfl,?_⟩
 refine Az (fun cc=>?_) (fun cc=>?_)
 .have h5:c∈Rd.sg5:=GQ fun n=>BM ((Rd.not_sign (z:=⟨#[c]⟩) (c:=c) (r:=[]) rfl n).symm.trans cc)
  refine⟨_,rfl,_,_,rfl,rfl,?_⟩
  rw[hd,Rd.pend,Af h5]at q
  exact q
 have h5:c∉Rd.sg5:=fun n=>cc (Rd.is_sign n)
 have ep:Rd.pend ((cds z).drop i)=Rd.scan false ((cds z).drop i):=by rw[hd,Rd.pend,A9 h5]
 rw[ep]at q
 dsimp only[Am]
 refine⟨fun m σ' H'=>H'=H/\∃(j:Nat) (b:Bool),σ'=[some (.str z),some (.int ((i+j:Nat):Int)),some (.bl b)]/\i+j<=(cds z).length/\m=(cds z).length-(i+j)/\Rd.scan false ((cds z).drop i)=j+Rd.scan b ((cds z).drop (i+j)),⟨_,rfl,0,false,rfl,by omega,rfl,by rw[Nat.zero_add,Nat.add_zero]⟩,?_⟩
 rintro m σ' H' ⟨rfl,j,b,rfl,hj,rfl,hs⟩
 refine⟨_,rfl,_,rfl,_,rfl,zl,_,_,rfl,rfl,_,rfl,?_⟩
 refine Az (fun lt=>?_) (fun ge=>?_)
 .have lt:((i+j:Nat):Int)<((z.length:Nat):Int):=dT lt
  obtain⟨d,hd2,hd3⟩:=at' (i+j) (by omega)
  rw[hd2]at hs
  have stp:(b=true\/d∉Rd.sg5)->Rd.scan false ((cds z).drop i)=(j+1)+Rd.scan (Rd.ins b d) ((cds z).drop (i+(j+1))):=fun hc2=>by
   rw[Rd.scan,Af hc2]at hs
   rw[hs,show i+(j+1)=i+j+1 by omega]
   omega
  have body:∀(D:Cw),(b=true\/d∉Rd.sg5)->∃N:St->Hp->Prop,(∀σ' H'',N σ' H''->∃m',m'<(cds z).length-(i+j)/\(H''=H'/\∃(j:Nat) (b:Bool),σ'=[some (.str z),some (.int ((i+j:Nat):Int)),some (.bl b)]/\i+j<=(cds z).length/\m'=(cds z).length-(i+j)/\Rd.scan false ((cds z).drop i)=j+Rd.scan b ((cds z).drop (i+j))))/\
    E7 (Gk (Nr (Eo N1 (Eo Lc (Ed 0) (Ed 1)) (tC (V.str (Str.ofString "[")))) (Ka (Ed 2) (Eo N8 (Eo Lc (Ed 0) (Ed 1)) (tC (V.str (Str.ofString "]")))))) (Am 2)) (Ky 1 (tC (V.int 1)) (Lb fun i j=>i+j)) {D with nx:=N,ct:=N} [some (V.str z),some (V.int ((i+j:Nat):Int)),some (V.bl b)] H':=fun D hc2=>by
   refine⟨fun σ'' H''=>H''=H'/\σ''=[some (.str z),some (.int (((i+j:Nat):Int)+1)),some (.bl (Rd.ins b d))],fun σ'' H'' hN=>?_,?_⟩
   .obtain⟨rfl,rfl⟩:=hN
    exact⟨_,(by omega:(cds z).length-(i+(j+1))<(cds z).length-(i+j)),rfl,j+1,Rd.ins b d,rfl,by omega,rfl,stp hc2⟩
   .refine⟨_,rfl,_,rfl,_,_,d,rfl,rfl,zl,hd3,rfl,_,rfl,?_⟩
    have k1:∀e:Nat,(V.str ⟨#[d]⟩=V.str ⟨#[e]⟩)↔d=e:=fun e=>⟨fun x=>by injection x with x;injection x with x;simpa using x,fun x=>by rw[x]⟩
    have fin:∀b',b'=Rd.ins b d->Am 2 (V.bl b') [some (V.str z),some (V.int ((i+j:Nat):Int)),some (V.bl b)] H' fun σ2 H2=>Ky 1 (tC (V.int 1)) (Lb fun i j=>i+j) {D with nx:=fun σ'' H''=>H''=H'/\σ''=[some (.str z),some (.int (((i+j:Nat):Int)+1)),some (.bl (Rd.ins b d))],ct:=fun σ'' H''=>H''=H'/\σ''=[some (.str z),some (.int (((i+j:Nat):Int)+1)),some (.bl (Rd.ins b d))]} σ2 H2:=fun b' eb=>by
     subst eb
     dsimp only[Am]
     exact⟨_,rfl,_,_,rfl,rfl,rfl,rfl⟩
    refine Az (fun c1=>?_) (fun c1=>?_)
    .refine fin true ?_
     have e:d=91:=(k1 91).mp (dT c1)
     unfold Rd.ins
     rw[B7 e,Bool.true_or]
    .have e:d≠91:=fun x=>dF c1 ((k1 91).mpr x)
     refine⟨_,rfl,b,rfl,?_⟩
     refine Az (fun c2=>?_) (fun c2=>?_)
     .refine⟨_,rfl,_,rfl,_,_,d,rfl,rfl,zl,hd3,rfl,fin _ ?_⟩
      unfold Rd.ins
      rw[Bv e,c2,Bool.false_or,Bool.true_and]
      show(!decide (V.str ⟨#[d]⟩=V.str ⟨#[93]⟩))=decide (d≠93)
      rw[←decide_not]
      exact decide_eq_decide.mpr (not_congr (k1 93))
     .refine fin false ?_
      unfold Rd.ins
      rw[Bv e,Bool.eq_false_iff.mpr c2]
      rfl
  refine⟨_,rfl,b,rfl,?_⟩
  refine Az (fun hb=>?_) (fun hb=>?_)
  .exact body {nx:=fun _ _=>True,rt:=Q,bk:=G7 (Ed 1) {nx:=fun _ H'=>Q V.non H',rt:=Q}} (.inl hb)
  .refine⟨_,rfl,_,rfl,_,_,d,rfl,rfl,zl,hd3,_,_,rfl,rfl,_,rfl,?_⟩
   refine Az (fun c3=>?_) (fun c3=>?_)
   .exact body {nx:=fun _ _=>True,rt:=Q,bk:=G7 (Ed 1) {nx:=fun _ H'=>Q V.non H',rt:=Q}} (.inr fun n=>by rw[Rd.is_sign n]at c3;cases c3)
   .have h6:d∈Rd.sg5:=GQ fun n=>c3 (by rw[Rd.not_sign (z:=⟨#[d]⟩) (c:=d) (r:=[]) rfl n];rfl)
    rw[Rd.scan,A9 (fun x=>x.elim hb fun y=>y h6),Nat.add_zero]at hs
    rw[hs]at q
    exact⟨_,rfl,q⟩
 .have ge:¬((i+j:Nat):Int)<((z.length:Nat):Int):=dF ge
  have nl:(cds z).drop (i+j)=[]:=LK (by omega)
  rw[nl]at hs
  have hs:Rd.scan false ((cds z).drop i)=j:=hs
  rw[hs]at q
  exact⟨_,rfl,q⟩
theorem MX (T:Tx w K mg a):AJ P w K mg base AS 5 a.f_j a.d_j ["text"] (Rd.spCellOf (BF a)):=by
 have G_a :=@Gx P w K mg base a T
 have G_e :=@Mv P w K mg base a T
 have G_Q :=@TB P w K mg base a T
 refine T.F_j.ok KA (fun vs H Q E h=>?_) (fun cdv A outer s H vs Q E hr h=>?_)
 .obtain⟨_,_,rfl,_⟩:=h;rfl
 obtain⟨z,sp,rfl,ok,q⟩:=h
 obtain⟨hz,hne,hl3,hsp⟩:=ok
 have hcel:=Rd.cel_cds (z:=z) hne
 have hcl:(B3 z sp).length<=146:=Gz (by have:=hz.2.1;rw[cds_len]at this;omega) hl3 fun s hs=>(hsp s hs).2
 have nz:91∉cds z:=Rd.name_no hz (by omega)
 generalize hI:Rd.inner (sp.map fun s=>cds (AU s))=I at hcel
 have hp:D1 91 (cds (B3 z sp))=[.str z,.str ⟨#[91]⟩,.str (Ax (I++[93]))]:=by
  unfold D1
  rw[hcel,Af (Cp _ AR),(Rd.bef_app nz).1,(Rd.bef_app nz).2,E9]
 have zl:z.length<=1000:=by have:=hz.2.1;rw[cds_len]at this;omega
 refine⟨_,(@A6 _ _ _ _ _ (@Aj _ _ (1) _ _ _ _ KA.nd rfl (.inl rfl) (@Be _ _ _ _ _ _ _ _ _ _ _ _ DK K2 K3 Hj (pv 0) (@A0 _ _ _ _ _ Av A4 (by rfl)) (by rfl) (by rfl) (by rfl) (by rfl) (by rfl)) (by rfl) (by first|exact .inl rfl|exact .inr rfl|assumption)) (@A6 _ _ _ _ _ (@AI _ _ _ _ _ _ _ _ ((@Cb _ _ _ _ _ _ _ (@E6 _ _ _ _ (@Cm _ _ _ (@AC _ _ _ _ _ _ _ _ _ _ _ _ _ _ _ _ G_a (hr.mono (by omega)) (by rfl) T.m_a T.F_a.kp T.b_a .nil Au (@A0 _ _ _ _ _ (@Ag _ _ _ _ _ _ _ B0 (pv 1) A3 (fun _ _=>rfl)) A4 (by rfl)) (by decide) (by rfl) (by rfl)) (by intro _;rfl))) (@CT _ _ _ _ (@E6 _ _ _ _ (@Cm _ _ _ (@Be _ _ _ _ _ _ _ _ _ _ _ _ DK PySem.F.slot_str_endswith PySem.F.type_str_endswith R5 (@Ag _ _ _ _ _ _ _ B0 (pv 1) A3 (fun _ _=>rfl)) (@A0 _ _ _ _ _ Av A4 (by rfl)) (by rfl) (by rfl) (by rfl) (by rfl) (by rfl)) (by intro _;rfl)))))).pt (@Ac _ _ _ (@Ar _ _ _ _ BK)) AN) (@A6 _ _ _ _ _ (@Aj _ _ (2) _ _ _ _ KA.nd rfl (.inl rfl) (@Dl _ _ _ _ _ _ _ _ _ Fu (by rfl) T.z_tuple FM (@A0 _ _ _ _ _ (@DN _ _ _ _ _ _ _ ["inner"] [none] _ _ _ _ (by rfl) (@Dy _ _ _ _ (@Be _ _ _ _ _ _ _ _ _ _ _ _ DK LS LU ID (@CW _ _ _ _ _ _ _ _ _ _ GI (@Ag _ _ _ _ _ _ _ B0 (pv 1) A3 (fun _ _=>rfl)) DS (@Cq _ _ _ (@CN _ _ _ _ _ _ CH A3))) (@A0 _ _ _ _ _ Av A4 (by rfl)) (by rfl) (by rfl) (by rfl) (by rfl) (by rfl))) Q6 (fun _ _ _ _ _ _=>⟨(BG (i:=0) Rg rfl (.inl rfl)),@Eh _,(@AC _ _ _ _ _ _ _ _ _ _ _ _ _ _ _ _ G_e (hr.mono (by omega)) (by rfl) T.m_e T.F_e.kp T.b_e .nil Au (@A0 _ _ _ _ _ (pv 0) A4 (by rfl)) (by decide) (by rfl) (by rfl))⟩) (by intro _;rfl)) A4 (by rfl)) (by decide) (by decide) (by rfl) (by rfl)) (by rfl) (by first|exact .inl rfl|exact .inr rfl|assumption)) (@A6 _ _ _ _ _ (@AI _ _ _ _ _ _ _ _ ((@Cb _ _ _ _ _ _ _ (@An _ _ _ _ _ _ _ _ EA (@B6 _ _ _ _ _ _ _ _ _ BO (by rfl) T.z_len BB (@A0 _ _ _ _ _ (pv 2) A4 (by rfl)) (by decide) (by decide) (by rfl) (by rfl)) (@Ck _ _ _ _ _ (by rfl) T.g_MOST_SPOTS T.r_MOST_SPOTS (by decide)) (@Ao _ _ (by decide) (by decide))) (@CT _ _ _ _ (@E6 _ _ _ _ (@Cm _ _ _ (@B6 _ _ _ _ _ _ _ _ _ (@Ll _ rfl) (by rfl) T.z_all KE (@A0 _ _ _ _ _ (@DN _ _ _ _ _ _ _ ["spot"] [none] _ _ _ _ (by rfl) (@KQ _ _ _ _ (pv 2)) Uu (fun _ _ _ _ _ _=>⟨(BG (i:=0) Sd rfl (.inl rfl)),@Eh _,(@De _ _ _ _ _ _ _ _ Kb (pv 0) BK (@Ao _ _ (by decide) (by decide)))⟩) (by intro _;rfl)) A4 (by rfl)) (by decide) (by decide) (by rfl) (by rfl)) (by intro _;rfl)))))).pt (@Ac _ _ _ (@Ar _ _ _ _ BK)) AN) (@Ac _ _ _ (@Ar _ _ _ _ (@Gn _ _ _ _ _ _ _ _ _ _ _ _ _ _ _ _ _ T.mk_Cell G_Q (hr.mono (by omega)) (by rfl) T.mc_Cell T.b_Q .nil Au (@A0 _ _ _ _ _ (@Ag _ _ _ _ _ _ _ B0 (pv 1) A3 (fun _ _=>rfl)) (@A0 _ _ _ _ _ (pv 2) A4 (by rfl)) (by rfl)) (by decide) (by rfl) (by rfl)))))))),?_⟩
 refine⟨_,rfl,rfl,_,91,rfl,rfl,AF (by omega),fun r hr'=>?_⟩
 rw[hp]
 dsimp only[Am]
 refine⟨_,rfl,r,_,_,_,rfl,rfl,Aw.of A5,rfl,z,rfl,zl,fun H2 e2=>⟨_,rfl,?_⟩⟩
 rw[B7 hz]
 refine AA ?_
 have hr2:=e2 _ _ (A5 (H:=H))
 refine⟨_,rfl,r,_,_,_,rfl,rfl,Aw.of hr2,rfl,rfl,_,93,rfl,rfl,_,rfl,?_⟩
 have lst:(cds (Ax (I++[93]))).getLast?=some 93:=by rw[Ba,List.getLast?_concat]
 rw[B7 lst]
 refine AA ?_
 have hIl:(Ax (I++[93])).length<=146:=by
  have e:=congrArg List.length hcel
  rw[cds_len,Ap,AO]at e
  rw[Dp]
  omega
 refine⟨_,rfl,r,_,_,_,rfl,rfl,Aw.of hr2,rfl,_,rfl,_,rfl,_,rfl,AF (by omega),rfl,_,_,rfl,rfl,by decide +kernel,?_,?_,fun lp ps hlp hs=>?_⟩
 .have e:cds (Str.ofString "][")=[93,91]:=by decide +kernel
  rw[e]
  intro c hc
  simp only[AH,CG,or_false]at hc
  omega
 .rw[Ba,Rd.cut_last,Dp]
  rw[Dp,Ap]at hIl
  omega
 have hps:ps.map cds=sp.map fun s=>cds (AU s):=by
  have e:cds (Str.ofString "][")=[93,91]:=by decide +kernel
  rw[e,Ba,Ba,Rd.cut_last,←hI]at hs
  refine hs.fn (Rd.inner_split (by simpa using hne) fun x hx=>?_)
  obtain⟨s,hs',rfl⟩:=CF.mp hx
  exact Rd.spot_free (hsp s hs') (by omega)
 have psl:ps.length=sp.length:=by have:=congrArg List.length hps;simpa using this
 have H3s:=Ab hlp (.lst (ps.map V.str))
 refine⟨lp,rfl,⟨_,A2.of A5⟩,?_⟩
 refine Fv (xs:=ps.map V.str) (fun i ys H'=>A8 (upd H2 lp (.lst (ps.map V.str))) H'/\AE (C3 H') ys (sp.take i)/\i<=sp.length) ⟨A8.refl _,⟨rfl,fun _ _ _ x=>by cases x⟩,C0 _⟩ (AF (by rw[Aq];omega)) (fun i ys H' hi p=>?_) (fun i x ys H' hc p=>?_) (fun ys H' p t ht=>?_)
 .exact⟨A2.of (p.1 _ _ A5),by rw[p.2.1.1,BA];omega⟩
 .obtain⟨pe,pa,pi⟩:=p
  rw[CO]at hc
  cases hy:ps[i]? with
  |none=>rw[hy]at hc;cases hc
  |
   some y=>
   rw[hy]at hc
   cases hc
   have hil:i<sp.length:=by rw[←psl];exact(BJ.mp hy).1
   have ey:cds y=cds (AU sp[i]):=by
    have e:=congrArg (fun l:List (List Nat)=>l[i]?) hps
    simp only[CO,hy,BX hil,Option.map_some]at e
    exact BQ e
   have hn:=hsp sp[i] (GM hil)
   refine⟨_,rfl,y,rfl,?_,?_⟩
   .have:=ER hn.2
    rw[←cds_len]at this ⊢
    rw[ey]
    omega
   rw[ey,Rd.spot_read hn]
   intro r5 H5 e5 h5
   rw[E9]at h5
   refine⟨pe.trans e5,?_,hil⟩
   rw[DE (BX hil)]
   exact(pa.mono fun _ _ x=>x.tk (A8.tk e5)).snoc ⟨r5,rfl,h5⟩
 obtain⟨pe,pa,-⟩:=p
 rw[Aq,psl,Ef]at pa
 refine⟨t,ys,rfl,.inl ⟨A2.of A5,fun tp htp=>?_⟩⟩
 dsimp only[Am]
 have s4:A8 H (upd (upd H' t (.lst ys)) tp (.tup ys)):=(Ab hr' _).trans (e2.trans (H3s.trans (pe.trans ((Ab ht _).trans (Ab htp _)))))
 have pa4:AE (C3 (upd (upd H' t (.lst ys)) tp (.tup ys))) ys sp:=pa.mono fun _ _ x=>x.tk (A8.tk ((Ab ht _).trans (Ab htp _)))
 have htp4:(upd (upd H' t (.lst ys)) tp (.tup ys)) tp=some (.tup ys):=A5
 have hr4:(upd (upd H' t (.lst ys)) tp (.tup ys)) r=some (.tup [.str z,.str ⟨#[91]⟩,.str (Ax (I++[93]))]):=((Ab ht _).trans (Ab htp _)) _ _ (pe _ _ (H3s _ _ hr2))
 generalize upd (upd H' t (.lst ys)) tp (.tup ys)=H4 at s4 pa4 htp4 hr4
 have yl:ys.length=sp.length:=pa.1
 refine⟨_,rfl,tp,ys,rfl,.inr (Aw.of htp4),_,_,rfl,rfl,_,rfl,?_⟩
 have nl:decide ((3:Int)<((ys.length:Nat):Int))=false:=Bv (by omega)
 rw[nl]
 refine AA ?_
 refine⟨_,rfl,tp,rfl,⟨_,Aw.of htp4⟩,?_⟩
 refine Lo (xs:=ys) (fun i bs H'=>H'=H4/\bs=(List.replicate i true).map V.bl) ⟨rfl,rfl⟩ (AF (by omega)) (fun i bs H' hi p=>?_) (fun i x bs H' hc p=>?_) (fun bs H' p t5 ht5=>?_)
 .obtain⟨rfl,rfl⟩:=p
  exact⟨Aw.of htp4,by simp⟩
 .obtain⟨rfl,rfl⟩:=p
  have hil:i<sp.length:=by rw[←yl];exact(BJ.mp hc).1
  obtain⟨t6,rfl,_⟩:=pa4.2 i x sp[i] hc (BX hil)
  refine⟨_,rfl,rfl,rfl,?_⟩
  rw[List.replicate_succ',AW]
  rfl
 obtain⟨rfl,rfl⟩:=p
 refine⟨t5,_,rfl,A2.of A5,_,rfl,?_⟩
 have al:(List.replicate ys.length true).all id=true:=by simp
 rw[al]
 refine AA ?_
 have s5:=Ab ht5 (.lst ((List.replicate ys.length true).map V.bl))
 refine⟨_,rfl,r,_,0,_,rfl,rfl,Aw.of (s5 _ _ hr4),rfl,_,rfl,fun x dx nx ndx ne=>⟨x,dx,[_,_],rfl,rfl,A5,fun H6 k6 hx6=>⟨rfl,?_⟩⟩⟩
 obtain⟨dx6,hx6⟩:=hx6
 have e6:=FB nx ndx k6
 exact q _ _ (s4.trans (s5.trans e6)) ⟨x,dx6,tp,rfl,hx6,ys,(s5.trans e6) _ _ htp4,pa4.mono fun _ _ x=>x.tk (A8.tk (s5.trans e6))⟩
theorem S9 (T:Tx w K mg a):AJ P w K mg base AS 6 a.f_v a.d_v ["text"] (Rd.spPartOf (BF a)):=by
 have G_a :=@Gx P w K mg base a T
 have G_b :=@Hz P w K mg base a T
 have G_j :=@MX P w K mg base a T
 have G_P :=@OU P w K mg base a T
 have G_O :=@QM P w K mg base a T
 refine T.F_v.ok NW (fun vs H Q E h=>?_) (fun cdv A outer s H vs Q E hr h=>?_)
 .obtain⟨_,rfl,_⟩:=h;rfl
 obtain⟨k,rfl,ok,q⟩:=h
 refine⟨_,(@A6 _ _ _ _ _ (@AI _ _ _ _ _ _ _ _ (@An _ _ _ _ _ _ _ _ HL (pv 0) (@Ck _ _ _ _ _ (by rfl) T.g_SIGNS T.r_SIGNS (by decide)) (by with_unfolding_all rfl)) (@Ac _ _ _ (@Ar _ _ _ _ (pv 0))) AN) (@A6 _ _ _ _ _ (@AI _ _ _ _ _ _ _ _ (@Cm _ _ _ (@AC _ _ _ _ _ _ _ _ _ _ _ _ _ _ _ _ G_a (hr.mono (by omega)) (by rfl) T.m_a T.F_a.kp T.b_a .nil Au (@A0 _ _ _ _ _ (pv 0) A4 (by rfl)) (by decide) (by rfl) (by rfl)) (by intro _;rfl)) (@Ac _ _ _ (@Ar _ _ _ _ (@Gn _ _ _ _ _ _ _ _ _ _ _ _ _ _ _ _ _ T.mk_Value G_P (hr.mono (by omega)) (by rfl) T.mc_Value T.b_P .nil Au (@A0 _ _ _ _ _ (pv 0) A4 (by rfl)) (by decide) (by rfl) (by rfl)))) AN) (@A6 _ _ _ _ _ (@Aj _ _ (1) _ _ _ _ NW.nd rfl (.inl rfl) (@AC _ _ _ _ _ _ _ _ _ _ _ _ _ _ _ _ G_b (hr.mono (by omega)) (by rfl) T.m_b T.F_b.kp T.b_b .nil Au (@A0 _ _ _ _ _ (pv 0) A4 (by rfl)) (by decide) (by rfl) (by rfl)) (by rfl) (by first|exact .inl rfl|exact .inr rfl|assumption)) (@A6 _ _ _ _ _ (@AI _ _ _ _ _ _ _ _ (@An _ _ _ _ _ _ _ _ Kb (pv 1) BK (@Ao _ _ (by decide) (by decide))) (@Ac _ _ _ (@Ar _ _ _ _ (@Gn _ _ _ _ _ _ _ _ _ _ _ _ _ _ _ _ _ T.mk_Number G_O (hr.mono (by omega)) (by rfl) T.mc_Number T.b_O .nil Au (@A0 _ _ _ _ _ (pv 1) A4 (by rfl)) (by decide) (by rfl) (by rfl)))) AN) (@Ac _ _ _ (@Ar _ _ _ _ (@AC _ _ _ _ _ _ _ _ _ _ _ _ _ _ _ _ G_j (hr.mono (by omega)) (by rfl) T.m_j T.F_j.kp T.b_j .nil Au (@A0 _ _ _ _ _ (pv 0) A4 (by rfl)) (by decide) (by rfl) (by rfl)))))))),?_⟩
 refine⟨_,rfl,_,_,rfl,rfl,_,rfl,?_⟩
 cases k with
 |
  s c=>
  have e:=Rd.is_sign ok
  refine Az (fun _=>⟨_,rfl,q _ _ (A8.refl _) rfl⟩) (fun n=>absurd e n)
 |
  t w=>
  obtain⟨c,r,ec,hc⟩:=(Rd.Tk.whole ok).head
  have e:=Rd.not_sign ec hc
  refine Az (fun y=>absurd (e.symm.trans y) BM) (fun _=>?_)
  cases w with
  |j _ _ _=>exact ok.elim
  |
   v z=>
   have hn:Bg (cds z):=ok
   refine⟨_,rfl,z,rfl,?_,fun H1 e1=>⟨_,rfl,?_⟩⟩
   .have:=hn.2.1;rw[cds_len]at this;omega
   refine Az (fun _=>?_) (fun n=>absurd (B7 hn) n)
   refine⟨_,rfl,fun x dx nx ndx ne=>⟨x,dx,[_],rfl,rfl,A5,fun H2 k2 hx2=>⟨rfl,?_⟩⟩⟩
   obtain⟨dx2,hx2⟩:=hx2
   exact q _ _ (e1.trans (FB nx ndx k2)) ⟨x,dx2,rfl,hx2⟩
  |
   n i=>
   obtain⟨g,d⟩:=Rd.nS_good ok.1 ok.2
   have l18:(nS i).length<=1000:=by have:=g.2.1;rw[cds_len]at this;omega
   refine⟨_,rfl,nS i,rfl,l18,fun H1 e1=>⟨_,rfl,?_⟩⟩
   refine Az (fun y=>absurd (dT y) (Rd.num_name g)) (fun _=>?_)
   refine⟨_,rfl,nS i,rfl,l18,fun H2 e2=>?_⟩
   rw[Jl g,d]
   dsimp only[Am]
   refine⟨_,rfl,rfl,_,rfl,?_⟩
   refine Az (fun _=>?_) (fun n=>absurd rfl n)
   refine⟨_,rfl,fun x dx nx ndx ne=>⟨x,dx,[_],rfl,rfl,A5,fun H3 k3 hx3=>⟨rfl,?_⟩⟩⟩
   obtain⟨dx3,hx3⟩:=hx3
   exact q _ _ (e1.trans (e2.trans (FB nx ndx k3))) ⟨x,dx3,rfl,hx3⟩
  |
   c z sp=>
   have ok':=ok
   obtain⟨hz,hne,hl3,hsp⟩:=ok
   have hcel:=Rd.cel_cds (z:=z) hne
   have hcl:(B3 z sp).length<=146:=Gz (by have:=hz.2.1;rw[cds_len]at this;omega) hl3 fun s hs=>(hsp s hs).2
   have m91:(91:Nat)∈cds (B3 z sp):=by rw[hcel];exact Cp _ AR
   refine⟨_,rfl,B3 z sp,rfl,by omega,fun H1 e1=>⟨_,rfl,?_⟩⟩
   refine Az (fun y=>absurd (dT y) (Jb m91 (by omega))) (fun _=>?_)
   refine⟨_,rfl,B3 z sp,rfl,by omega,fun H2 e2=>?_⟩
   rw[Ip (Jx m91 (by omega))]
   dsimp only[Am]
   refine⟨_,rfl,rfl,_,rfl,?_⟩
   refine Az (fun y=>absurd y (by decide)) (fun _=>?_)
   exact⟨_,rfl,z,sp,rfl,ok',fun x H3 e3 hx=>q _ _ (e1.trans (e2.trans e3)) hx⟩
theorem QV (T:Tx w K mg a):AJ P w K mg base AS 7 a.f_w a.d_w ["text"] (Rd.spPartsOf (BF a)):=by
 have G_u :=@Ta P w K mg base a T
 have G_v :=@S9 P w K mg base a T
 refine T.F_w.ok GF (fun vs H Q E h=>?_) (fun cdv A outer s H vs Q E hr h=>?_)
 .obtain⟨_,_,rfl,_⟩:=h;rfl
 obtain⟨z,ks,rfl,hz,zl,ok,ad,q⟩:=h
 have hlen:=cds_len z
 refine⟨_,(@A6 _ _ _ _ _ (@Aj _ _ (1) _ _ _ _ GF.nd rfl (.inl rfl) (@Bl _ _ _ _ A4) (by rfl) (by first|exact .inl rfl|exact .inr rfl|assumption)) (@A6 _ _ _ _ _ (@Aj _ _ (2) _ _ _ _ GF.nd rfl (.inl rfl) A3 (by rfl) (by first|exact .inl rfl|exact .inr rfl|assumption)) (@A6 _ _ _ _ _ (@Hu _ _ _ _ _ _ PassesOwn.never (@An _ _ _ _ _ _ _ _ F0 (pv 2) (@B6 _ _ _ _ _ _ _ _ _ IL (by rfl) T.z_len BB (@A0 _ _ _ _ _ (pv 0) A4 (by rfl)) (by decide) (by decide) (by rfl) (by rfl)) (@Ao _ _ (by decide) (by decide))) (@A6 _ _ _ _ _ (@Aj _ _ (3) _ _ _ _ GF.nd rfl (.inl rfl) (@AC _ _ _ _ _ _ _ _ _ _ _ _ _ _ _ _ G_u (hr.mono (by omega)) (by rfl) T.m_u T.F_u.kp T.b_u .nil Au (@A0 _ _ _ _ _ (pv 0) (@A0 _ _ _ _ _ (pv 2) A4 (by rfl)) (by rfl)) (by decide) (by rfl) (by rfl)) (by rfl) (by first|exact .inl rfl|exact .inr rfl|assumption)) (@A6 _ _ _ _ _ (@Aj _ _ (4) _ _ _ _ GF.nd rfl (.inl rfl) (@AC _ _ _ _ _ _ _ _ _ _ _ _ _ _ _ _ G_v (hr.mono (by omega)) (by rfl) T.m_v T.F_v.kp T.b_v .nil Au (@A0 _ _ _ _ _ (@CW _ _ _ _ _ _ _ _ _ _ GI (pv 0) (@Cq _ _ _ (pv 2)) (@Cq _ _ _ (pv 3))) A4 (by rfl)) (by decide) (by rfl) (by rfl)) (by rfl) (by first|exact .inl rfl|exact .inr rfl|assumption)) (@A6 _ _ _ _ _ (@AI _ _ _ _ _ _ _ _ (@An _ _ _ _ _ _ _ _ E1 (pv 4) BK (@Ao _ _ (by decide) (by decide))) (@Ac _ _ _ (@Ar _ _ _ _ BK)) AN) (@A6 _ _ _ _ _ (@Bt _ _ _ _ (@Be _ _ _ _ _ _ _ _ _ _ _ _ Bo Cf Cg C4 (pv 1) (@A0 _ _ _ _ _ (pv 4) A4 (by rfl)) (by rfl) (by rfl) (by rfl) (by rfl) (by rfl)) (by rfl)) (@Ac _ _ _ (@Aj _ _ (2) _ _ _ _ GF.nd rfl (.inl rfl) (pv 3) (by rfl) (by first|exact .inl rfl|exact .inr rfl|assumption)))))))) (@Ac _ _ _ (@Ar _ _ _ _ (pv 1)))))),?_⟩
 refine⟨AD rfl,fun l hl=>?_⟩
 dsimp only[Am]
 refine⟨fun m σ' H'=>∃(j i:Nat) (xs:List V) (o3 o4:Option V),σ'=[some (.str z),some (.ref l),some (.int (i:Int)),o3,o4]/\j<=ks.length/\m=ks.length-j/\(cds z).drop i=Rd.txts (ks.drop j)/\i<=(cds z).length/\xs.length<=i/\A8 H H'/\H' l=some (.lst xs)/\AE (Rd.PtAt (BF a) H') xs (ks.take j),⟨_,0,0,[],none,none,rfl,C0 _,rfl,hz,C0 _,C0 _,Ab hl _,A5,rfl,fun _ _ _ x=>by cases x⟩,?_⟩
 rintro m σ' H1 ⟨j,i,xs,o3,o4,rfl,hj,rfl,hd,hi,hxl,e1,hl1,pa⟩
 refine⟨_,rfl,_,rfl,_,rfl,AF (by omega),_,_,rfl,rfl,_,rfl,?_⟩
 refine Az (fun lt=>?_) (fun ge=>?_)
 .have lt:((i:Nat):Int)<((z.length:Nat):Int):=dT lt
  have jl:j<ks.length:=GQ fun n=>by
   have nk:ks.drop j=[]:=LK (by omega)
   rw[nk]at hd
   have:=congrArg List.length hd
   rw[Cr]at this
   have:(cds z).length-i=0:=this
   omega
  have ed:=G3 jl
  rw[ed,Rd.txts_cons]at hd
  have okj:=ok ks[j] (GM jl)
  obtain⟨hp,hp1⟩:=Rd.pend_cons okj (l:=ks.drop (j+1)) (fun x hx=>ok x (GN hx)) (by rw[←ed];exact Rd.adj_drop j ad)
  have hle:i+(cds (ks[j]).txt).length<=(cds z).length:=by
   have:=congrArg List.length hd
   rw[Cr,Ap]at this
   omega
  refine⟨fun σ' H'=>∃m',m'<ks.length-j/\∃(j i:Nat) (xs:List V) (o3 o4:Option V),σ'=[some (.str z),some (.ref l),some (.int (i:Int)),o3,o4]/\j<=ks.length/\m'=ks.length-j/\(cds z).drop i=Rd.txts (ks.drop j)/\i<=(cds z).length/\xs.length<=i/\A8 H H'/\H' l=some (.lst xs)/\AE (Rd.PtAt (BF a) H') xs (ks.take j),fun σ' H' x=>x,?_⟩
  refine⟨_,rfl,_,rfl,z,i,rfl,by omega,zl,?_⟩
  rw[hd,hp]
  dsimp only[Am]
  have ecut:Ax (Cn (cds z) (some ((i:Nat):Int)) (some ((i+(cds (ks[j]).txt).length:Nat):Int)))=(ks[j]).txt:=by
   rw[K9 _ (by omega) (by omega) (by omega) (by omega)]
   rw[show(((i:Nat):Int)).toNat=i by omega,show(((i+(cds (ks[j]).txt).length:Nat):Int)).toNat-i=(cds (ks[j]).txt).length by omega,hd,GO,E9]
  refine⟨_,rfl,_,rfl,_,rfl,_,rfl,_,rfl,_,rfl,AF (by omega),?_⟩
  rw[ecut]
  refine⟨ks[j],rfl,okj,fun x H2 e2 hx=>?_⟩
  dsimp only[Am]
  refine⟨_,rfl,rfl,_,rfl,?_⟩
  refine Az (fun y=>absurd (dT y) (hx.some okj)) (fun _=>?_)
  have hl2:=e2 _ _ hl1
  have nl:=Rd.NL.upd (ys:=xs++[x]) hl2
  refine⟨_,rfl,.inl ⟨rfl,_,A2.of hl2⟩,_,rfl,l,_,_,rfl,rfl,hl2,C5 (by omega),_,rfl,?_⟩
  refine⟨ks.length-(j+1),by omega,j+1,i+(cds (ks[j]).txt).length,xs++[x],_,_,rfl,jl,rfl,?_,hle,by rw[Ap,Bk];omega,?_,A5,?_⟩
  .rw[←HR,hd,JV]
  .exact fun b o e=>by rw[A7 (AG e hl)];exact e2 _ _ (e1 b o e)
  .rw[DE (BX jl)]
   exact(pa.mono fun _ _ y=>(y.over e2).nl nl).snoc (hx.nl nl)
 .have ge:¬((i:Nat):Int)<((z.length:Nat):Int):=dF ge
  have nl:(cds z).drop i=[]:=LK (by omega)
  rw[nl]at hd
  have jl:j=ks.length:=GQ fun n=>by
   have jl:j<ks.length:=by omega
   have ed:=G3 jl
   rw[ed,Rd.txts_cons]at hd
   have hp1:=(Rd.pend_cons (ok ks[j] (GM jl)) (l:=ks.drop (j+1)) (fun x hx=>ok x (GN hx)) (by rw[←ed];exact Rd.adj_drop j ad)).2
   have:=congrArg List.length hd
   rw[Ap]at this
   have:0=(cds (ks[j]).txt).length+(Rd.txts (ks.drop (j+1))).length:=this
   omega
  subst jl
  rw[Ef]at pa
  exact⟨_,rfl,q l xs H1 e1 hl hl1 pa⟩
theorem Vz (T:Tx w K mg a):AJ P w K mg base AS 3 a.f_h a.d_h ["terms","signs","least"] (Rd.spJoinW (BF a)):=by
 have G_R :=@RA P w K mg base a T
 refine T.F_h.ok Lr (fun vs H Q E h=>?_) (fun cdv A outer s H vs Q E hr h=>?_)
 .obtain⟨_,_,_,_,_,_,_,rfl,_⟩:=h;rfl
 obtain⟨l,r,ts,ss,Tt,S,k,rfl,lr,k1,hl,hr',pa,es,hS,hn,h1000,q⟩:=h
 subst es
 refine⟨_,(@Ac _ _ _ (@Hu _ _ _ _ _ _ PassesOwn.never ((@D6 _ _ _ _ _ _ _ (@An _ _ _ _ _ _ _ _ (@Hm _ (@EY _ _ hr)) (pv 1) (@Bl _ _ _ _ A4) (@Ao _ _ (by decide) (by decide))) (@DP _ _ _ _ (@An _ _ _ _ _ _ _ _ Uz (@Jn _ _ _ _ _ _ (@Ck _ _ _ _ _ (by rfl) T.g_STRENGTHS T.r_STRENGTHS (by decide)) (@Ag _ _ _ _ _ _ _ AV (pv 1) (@CN _ _ _ _ _ _ CH A3) (fun _ _=>rfl)) (fun _ _=>rfl)) (pv 2) (@Ao _ _ (by decide) (by decide)))))).pt (@A6 _ _ _ _ _ (@Aj _ _ (3) _ _ _ _ Lr.nd rfl (.inl rfl) (@DB _ _ _ _ _ _ _ _ _ Bo DX DY Dz (pv 0) (by rfl) (by rfl)) (by rfl) (by first|exact .inl rfl|exact .inr rfl|assumption)) (@A6 _ _ _ _ _ (@Aj _ _ (4) _ _ _ _ Lr.nd rfl (.inl rfl) (@DB _ _ _ _ _ _ _ _ _ Bo DX DY Dz (pv 0) (by rfl) (by rfl)) (by rfl) (by first|exact .inl rfl|exact .inr rfl|assumption)) (@Ac _ _ _ (@Bt _ _ _ _ (@Be _ _ _ _ _ _ _ _ _ _ _ _ Bo Cf Cg C4 (pv 0) (@A0 _ _ _ _ _ (@Gn _ _ _ _ _ _ _ _ _ _ _ _ _ _ _ _ _ T.mk_Joined G_R (hr.mono (by omega)) (by rfl) T.mc_Joined T.b_R .nil Au (@A0 _ _ _ _ _ (@DB _ _ _ _ _ _ _ _ _ Bo DX DY Dz (pv 1) (by rfl) (by rfl)) (@A0 _ _ _ _ _ (pv 4) (@A0 _ _ _ _ _ (pv 3) A4 (by rfl)) (by rfl)) (by rfl)) (by decide) (by rfl) (by rfl)) A4 (by rfl)) (by rfl) (by rfl) (by rfl) (by rfl) (by rfl)) (by rfl))))))),?_⟩
 refine⟨fun m σ' H'=>∃(ts:List V) (T':List Tw) (S':List Nat) (o3 o4:Option V),σ'=[some (.ref l),some (.ref r),some (.int (k:Int)),o3,o4]/\m=S'.length/\Rd.B2 l r H H'/\H' l=some (.lst ts)/\H' r=some (.lst (S'.reverse.map fun a=>V.str (Rd.sg a)))/\AE (fun v t=>Bs (BF a) H' t v) ts T'.reverse/\(∀a∈S',a∈Rd.sg5/\a≠41)/\Rd.nb S'<T'.length/\T'.length<=1000/\Rd.jw k S' T'=Rd.jw k S Tt,⟨_,ts,Tt,S,none,none,rfl,rfl,fun b o e _ _=>e,hl,hr',pa,hS,hn,h1000,rfl⟩,?_⟩
 rintro m σ' H1 ⟨ts1,T1,S1,o3,o4,rfl,rfl,b1,hl1,hr1,pa1,hS1,hn1,l1,ej⟩
 refine⟨_,rfl,AD rfl,fun e0 he0=>?_⟩
 have r1:(upd H1 e0 (.lst [])) r=some (.lst (S1.reverse.map fun a=>V.str (Rd.sg a))):=by rw[A7 (AG hr1 he0)];exact hr1
 have l1':(upd H1 e0 (.lst [])) l=some (.lst ts1):=by rw[A7 (AG hl1 he0)];exact hl1
 have b2:Rd.B2 l r H (upd H1 e0 (.lst [])):=fun b o e n1 n2=>Ab he0 _ _ _ (b1 b o e n1 n2)
 have pa2:AE (fun v t=>Bs (BF a) (upd H1 e0 (.lst [])) t v) ts1 T1.reverse:=pa1.mono fun _ _ x=>Bs.over (Ab he0 _) x
 have he2:(upd H1 e0 (.lst [])) e0=some (.lst []):=A5
 generalize upd H1 e0 (.lst [])=H2 at r1 l1' b2 pa2 he2
 refine⟨r,e0,_,rfl,rfl,A2.of r1,A2.of he2,_,rfl,?_⟩
 have fin:Rd.jw k S1 T1=(T1,S1)->Q .non H2:=fun hj=>q ts1 _ H2 b2 l1' r1 (by rw[←ej,hj];exact pa2) (by rw[←ej,hj])
 cases S1 with
 |
  nil=>
  refine Az (fun y=>absurd y (by decide)) (fun _=>?_)
  exact Az (fun y=>absurd y BM) (fun _=>fin (by cases T1<;>rfl))
 |
  cons c S2=>
  refine Az (fun _=>?_) (fun y=>absurd (by simp) y)
  have hc:=hS1 c AR
  have er:(c::S2).reverse.map (fun a=>V.str (Rd.sg a))=S2.reverse.map (fun a=>V.str (Rd.sg a))++[.str (Rd.sg c)]:=by rw[GR,AW];rfl
  rw[er]at r1
  refine⟨_,rfl,_,rfl,r,_,_,_,rfl,rfl,A2.of r1,KD _ _,a.u_STRENGTHS,Rd.strV,.inr (Rd.sg c),_,rfl,T.d_STRENGTHS P,rfl,Rd.st_val hc,_,rfl,_,_,rfl,rfl,_,rfl,?_⟩
  refine Az (fun ge=>?_) (fun lt=>fin (Rd.jw_no (by have:=dF lt;omega)))
  have ge:(k:Int)<=((Rd.st c:Nat):Int):=dT ge
  have n40:c≠40:=fun z=>by subst z;exact absurd ge (by show ¬(k:Int)<=0;omega)
  rw[Rd.nb_cons n40]at hn1
  match T1,hn1,l1,ej,pa2,fin with
  |[],hn1,_,_,_,_=>exact absurd hn1 (by show ¬_<0;omega)
  |[_],hn1,_,_,_,_=>exact absurd hn1 (by show ¬_<1;omega)
  |
   t2::t1::T2,hn1,l1,ej,pa2,_=>
   rw[Rd.jw_yes (by omega)]at ej
   rw[GR,GR]at pa2
   obtain⟨u1,x2,rfl,pa3,hx2⟩:=Rd.all2_pop pa2
   obtain⟨u2,x1,rfl,pa4,hx1⟩:=Rd.all2_pop pa3
   refine⟨fun σ' H'=>∃m',m'<(c::S2).length/\∃(ts:List V) (T':List Tw) (S':List Nat) (o3 o4:Option V),σ'=[some (.ref l),some (.ref r),some (.int (k:Int)),o3,o4]/\m'=S'.length/\Rd.B2 l r H H'/\H' l=some (.lst ts)/\H' r=some (.lst (S'.reverse.map fun a=>V.str (Rd.sg a)))/\AE (fun v t=>Bs (BF a) H' t v) ts T'.reverse/\(∀a∈S',a∈Rd.sg5/\a≠41)/\Rd.nb S'<T'.length/\T'.length<=1000/\Rd.jw k S' T'=Rd.jw k S Tt,fun σ' H' x=>x,?_⟩
   refine⟨_,rfl,.inl ⟨rfl,_,A2.of l1'⟩,l,_,x2,rfl,rfl,l1',BU.1,?_⟩
   rw[BU.2]
   dsimp only[Am]
   refine⟨_,rfl,.inl ⟨rfl,_,A2.of A5⟩,l,_,x1,rfl,rfl,A5,BU.1,?_⟩
   rw[BU.2,KN]
   dsimp only[Am]
   have n3:Rd.NL H2 (upd H2 l (.lst u2)):=Rd.NL.upd l1'
   have r3:(upd H2 l (.lst u2)) r=some (.lst (S2.reverse.map (fun a=>V.str (Rd.sg a))++[.str (Rd.sg c)])):=by rw[A7 (Ne.symm lr)];exact r1
   have l3:(upd H2 l (.lst u2)) l=some (.lst u2):=A5
   have b3:Rd.B2 l r H (upd H2 l (.lst u2)):=fun b o e m1 m2=>by rw[A7 m1];exact b2 b o e m1 m2
   generalize upd H2 l (.lst u2)=H3 at n3 r3 l3 b3
   refine⟨_,rfl,.inl ⟨rfl,_,A2.of l3⟩,_,rfl,.inl ⟨rfl,_,A2.of r3⟩,r,_,.str (Rd.sg c),rfl,rfl,r3,BU.1,?_⟩
   rw[BU.2]
   have n4:Rd.NL H3 (upd H3 r (.lst (S2.reverse.map fun a=>V.str (Rd.sg a)))):=Rd.NL.upd r3
   have r4:(upd H3 r (.lst (S2.reverse.map fun a=>V.str (Rd.sg a)))) r=some (.lst (S2.reverse.map fun a=>V.str (Rd.sg a))):=A5
   have l4:(upd H3 r (.lst (S2.reverse.map fun a=>V.str (Rd.sg a)))) l=some (.lst u2):=by rw[A7 lr];exact l3
   have b4:Rd.B2 l r H (upd H3 r (.lst (S2.reverse.map fun a=>V.str (Rd.sg a)))):=fun b o e m1 m2=>by rw[A7 m2];exact b3 b o e m1 m2
   generalize upd H3 r (.lst (S2.reverse.map fun a=>V.str (Rd.sg a)))=H4 at n4 r4 l4 b4
   refine⟨_,rfl,_,rfl,fun x dx nx ndx ne=>⟨x,dx,[_,_,_],rfl,rfl,A5,fun H5 k5 hx5=>⟨rfl,?_⟩⟩⟩
   obtain⟨dx5,hx5⟩:=hx5
   have e5:=FB nx ndx k5
   have l5:=e5 _ _ l4
   have n6:Rd.NL H5 (upd H5 l (.lst (u2++[.ref x]))):=Rd.NL.upd l5
   have u2l:u2.length<=1000:=by
    rw[pa4.1,JZ]
    rw[AO,AO]at l1
    omega
   have n26:Rd.NL H2 (upd H5 l (.lst (u2++[.ref x]))):=n3.trans (n4.trans ((Rd.NL.of e5).trans n6))
   refine⟨l,_,_,rfl,rfl,l5,C5 (by omega),S2.length,JQ _,u2++[.ref x],.j (Rd.sg c) t1 t2::T2,S2,_,_,rfl,rfl,fun b o e m1 m2=>?_,A5,?_,?_,fun d hd=>hS1 d (Bm _ hd),?_,?_,ej⟩
   .rw[A7 m1];exact e5 _ _ (b4 b o e m1 m2)
   .rw[A7 (Ne.symm lr)];exact e5 _ _ r4
   .rw[GR]
    exact(pa4.mono fun _ _ y=>Rd.tb_nl n26 y).snoc ⟨x,dx5,x1,x2,rfl,n6 _ _ hx5 (fun _ z=>nomatch z),Rd.tb_nl n26 hx1,Rd.tb_nl n26 hx2⟩
   .rw[AO]at hn1 ⊢
    rw[AO]at hn1
    omega
   .rw[AO]at l1 ⊢
    rw[AO]at l1
    omega
theorem Ut (T:Tx w K mg a):AJ P w K mg base AS 4 a.f_x a.d_x ["parts"] (Rd.spTermOf (BF a)):=by
 have G_h :=@Vz P w K mg base a T
 refine T.F_x.ok FK (fun vs H Q E h=>?_) (fun cdv A outer s H vs Q E hr h=>?_)
 .obtain⟨_,_,_,_,_,_,rfl,_⟩:=h;rfl
 obtain⟨l,xs,ks,Tt,S,t,rfl,hl,pa,xl,ok,hrun,hj,q⟩:=h
 have isT:∀{H':Hp} {x:V} {w':Tw},Bs (BF a) H' w' x->∃ty,Co K H' x ty/\PySem.W.kitOne K ty (.ref a.c_Term)=some true:=fun{H' x w'} hx=>by
  cases w' with
  |n i=>obtain⟨_,_,rfl,hx⟩:=hx;exact⟨_,T.ty_Number _ _ _ _ hx,T.is_Number_Term⟩
  |v z=>obtain⟨_,_,rfl,hx⟩:=hx;exact⟨_,T.ty_Value _ _ _ _ hx,T.is_Value_Term⟩
  |c z sp=>obtain⟨_,_,_,rfl,hx,_⟩:=hx;exact⟨_,T.ty_Cell _ _ _ _ hx,T.is_Cell_Term⟩
  |j z l r=>obtain⟨_,_,_,_,rfl,hx,_⟩:=hx;exact⟨_,T.ty_Joined _ _ _ _ hx,T.is_Joined_Term⟩
 refine⟨_,(@A6 _ _ _ _ _ (@Aj _ _ (1) _ _ _ _ FK.nd rfl (.inl rfl) (@Bl _ _ _ _ A4) (by rfl) (by first|exact .inl rfl|exact .inr rfl|assumption)) (@A6 _ _ _ _ _ (@Aj _ _ (2) _ _ _ _ FK.nd rfl (.inl rfl) (@Bl _ _ _ _ A4) (by rfl) (by first|exact .inl rfl|exact .inr rfl|assumption)) (@A6 _ _ _ _ _ (@Aj _ _ (3) _ _ _ _ FK.nd rfl (.inl rfl) C9 (by rfl) (by first|exact .inl rfl|exact .inr rfl|assumption)) (@A6 _ _ _ _ _ (@Ep _ _ _ _ _ _ _ _ PassesOwn.never rfl (@Dy _ _ _ _ (pv 0)) (BG (i:=4) FK.nd rfl (.inl rfl)) (@A6 _ _ _ _ _ (@AI _ _ _ _ _ _ _ _ (@An _ _ _ _ _ _ _ _ DQ (pv 3) (@LB _ _ _ _ _ _ _ (@B6 _ _ _ _ _ _ _ _ _ FJ (by rfl) T.z_isinstance Fx (@A0 _ _ _ _ _ (pv 4) (@A0 _ _ _ _ _ (@Ck _ _ (.ref a.c_Term) _ _ (by rfl) T.mc_Term rfl (by decide)) A4 (by rfl)) (by rfl)) (by decide) (by decide) (by rfl) (by rfl)) (@EG _ _ _ _ _ (@De _ _ _ _ _ _ _ _ BC (pv 4) Av (@Ao _ _ (by decide) (by decide))))) (@Ao _ _ (by decide) (by decide))) (@Ac _ _ _ (@Ar _ _ _ _ BK)) AN) (@Ac _ _ _ (@AI _ _ _ _ _ _ _ _ (@Cm _ _ _ (@B6 _ _ _ _ _ _ _ _ _ FJ (by rfl) T.z_isinstance Fx (@A0 _ _ _ _ _ (pv 4) (@A0 _ _ _ _ _ (@Ck _ _ (.ref a.c_Term) _ _ (by rfl) T.mc_Term rfl (by decide)) A4 (by rfl)) (by rfl)) (by decide) (by decide) (by rfl) (by rfl)) (by intro _;rfl)) (@A6 _ _ _ _ _ (@Bt _ _ _ _ (@Be _ _ _ _ _ _ _ _ _ _ _ _ Bo Cf Cg C4 (pv 1) (@A0 _ _ _ _ _ (pv 4) A4 (by rfl)) (by rfl) (by rfl) (by rfl) (by rfl) (by rfl)) (by rfl)) (@Ac _ _ _ (@Aj _ _ (3) _ _ _ _ FK.nd rfl (.inl rfl) C9 (by rfl) (by first|exact .inl rfl|exact .inr rfl|assumption)))) (@Ac _ _ _ (@AI _ _ _ _ _ _ _ _ (@An _ _ _ _ _ _ _ _ BC (pv 4) Av (@Ao _ _ (by decide) (by decide))) (@A6 _ _ _ _ _ (@Bt _ _ _ _ (@AC _ _ _ _ _ _ _ _ _ _ _ _ _ _ _ _ G_h (hr.mono (by omega)) (by rfl) T.m_h T.F_h.kp T.b_h .nil Au (@A0 _ _ _ _ _ (pv 1) (@A0 _ _ _ _ _ (pv 2) (@A0 _ _ _ _ _ (@Jn _ _ _ _ _ _ (@Ck _ _ _ _ _ (by rfl) T.g_STRENGTHS T.r_STRENGTHS (by decide)) Av (fun _ _=>rfl)) A4 (by rfl)) (by rfl)) (by rfl)) (by decide) (by rfl) (by rfl)) (by rfl)) (@A6 _ _ _ _ _ (@AI _ _ _ _ _ _ _ _ (@An _ _ _ _ _ _ _ _ (@Jt _ (@EY _ _ hr)) (pv 2) (@Bl _ _ _ _ A4) (@Ao _ _ (by decide) (by decide))) (@Ac _ _ _ (@Ar _ _ _ _ BK)) AN) (@Ac _ _ _ (@Bt _ _ _ _ (@DB _ _ _ _ _ _ _ _ _ Bo DX DY Dz (pv 2) (by rfl) (by rfl)) (by rfl))))) (@A6 _ _ _ _ _ (@AI _ _ _ _ _ _ _ _ (@An _ _ _ _ _ _ _ _ DQ (pv 4) Av (@Ao _ _ (by decide) (by decide))) (@Ac _ _ _ (@Bt _ _ _ _ (@AC _ _ _ _ _ _ _ _ _ _ _ _ _ _ _ _ G_h (hr.mono (by omega)) (by rfl) T.m_h T.F_h.kp T.b_h .nil Au (@A0 _ _ _ _ _ (pv 1) (@A0 _ _ _ _ _ (pv 2) (@A0 _ _ _ _ _ (@Jn _ _ _ _ _ _ (@Ck _ _ _ _ _ (by rfl) T.g_STRENGTHS T.r_STRENGTHS (by decide)) (pv 4) (fun _ _=>rfl)) A4 (by rfl)) (by rfl)) (by rfl)) (by decide) (by rfl) (by rfl)) (by rfl))) AN) (@A6 _ _ _ _ _ (@Bt _ _ _ _ (@Be _ _ _ _ _ _ _ _ _ _ _ _ Bo Cf Cg C4 (pv 2) (@A0 _ _ _ _ _ (pv 4) A4 (by rfl)) (by rfl) (by rfl) (by rfl) (by rfl) (by rfl)) (by rfl)) (@Ac _ _ _ (@Aj _ _ (3) _ _ _ _ FK.nd rfl (.inl rfl) C9 (by rfl) (by first|exact .inl rfl|exact .inr rfl|assumption)))))))))) (by intro _;rfl)) (@A6 _ _ _ _ _ (@AI _ _ _ _ _ _ _ _ (@Cm _ _ _ (pv 3) (by intro _;rfl)) (@Ac _ _ _ (@Ar _ _ _ _ BK)) AN) (@A6 _ _ _ _ _ (@Bt _ _ _ _ (@AC _ _ _ _ _ _ _ _ _ _ _ _ _ _ _ _ G_h (hr.mono (by omega)) (by rfl) T.m_h T.F_h.kp T.b_h .nil Au (@A0 _ _ _ _ _ (pv 1) (@A0 _ _ _ _ _ (pv 2) (@A0 _ _ _ _ _ (@Jn _ _ _ _ _ _ (@Ck _ _ _ _ _ (by rfl) T.g_STRENGTHS T.r_STRENGTHS (by decide)) Av (fun _ _=>rfl)) A4 (by rfl)) (by rfl)) (by rfl)) (by decide) (by rfl) (by rfl)) (by rfl)) (@A6 _ _ _ _ _ (@AI _ _ _ _ _ _ _ _ (@An _ _ _ _ _ _ _ _ (@Hm _ (@EY _ _ hr)) (pv 2) (@Bl _ _ _ _ A4) (@Ao _ _ (by decide) (by decide))) (@Ac _ _ _ (@Ar _ _ _ _ BK)) AN) (@Ac _ _ _ (@Ar _ _ _ _ (@Ag _ _ _ _ _ _ _ AV (pv 1) A3 (fun _ _=>rfl))))))))))),?_⟩
 refine⟨AD rfl,fun tl htl=>?_⟩
 dsimp only[Am]
 refine⟨AD rfl,fun sl hsl=>?_⟩
 dsimp only[Am]
 have ts:tl≠sl:=AG (A5 (H:=H)) hsl
 have H0t:(upd (upd H tl (.lst [])) sl (.lst [])) tl=some (.lst []):=by rw[A7 ts];exact A5
 have H0s:(upd (upd H tl (.lst [])) sl (.lst [])) sl=some (.lst []):=A5
 have e0:A8 H (upd (upd H tl (.lst [])) sl (.lst [])):=(Ab htl _).trans (Ab hsl _)
 have tl0:H tl=none:=htl
 have sl0:H sl=none:=(Ab htl _).free hsl
 generalize upd (upd H tl (.lst [])) sl (.lst [])=H0 at H0t H0s e0
 refine⟨_,rfl,l,rfl,⟨_,A2.of (e0 _ _ hl)⟩,?_⟩
 refine Gw (xs:=xs) (fun i σ' H'=>∃(z:Rd.Sta) (tv:List V) (o4:Option V),σ'=[some (.ref l),some (.ref tl),some (.ref sl),some (.bl z.due),o4]/\A8 H H'/\Rd.run (ks.take i) ⟨[],[],true⟩=some z/\Rd.Wt z/\z.T.length<=i/\z.S.length<=i/\H' tl=some (.lst tv)/\H' sl=some (.lst (z.S.reverse.map fun a=>V.str (Rd.sg a)))/\AE (fun v t=>Bs (BF a) H' t v) tv z.T.reverse) ?_ (fun i σ' H' hi p=>?_) (fun i x σ' H' hx p=>?_) (fun σ' H' p=>?_)
 .exact⟨⟨[],[],true⟩,[],none,rfl,e0,rfl,⟨(fun c hc=>nomatch hc),rfl⟩,Ai _,Ai _,H0t,H0s,rfl,fun _ _ _ x=>by cases x⟩
 .obtain⟨z,tv,o4,rfl,e1,_⟩:=p
  exact A2.of (e1 _ _ hl)
 .obtain⟨z,tv,o4,rfl,e1,hz,wt,zt,zs,ht,hs,pz⟩:=p
  dsimp only[Am]
  have il:i<xs.length:=(BJ.mp hx).1
  obtain⟨k,hk⟩:∃k,ks[i]?=some k:=⟨ks[i]'(by rw[←pa.1];exact il),BX _⟩
  have hpk:=(pa.2 i x k hx hk).over e1
  have okk:=ok k (CC hk)
  obtain⟨z',u,r1,st1,r2⟩:=Rd.run_at hrun hk
  obtain rfl:z'=z:=BQ (r1.symm.trans hz)
  have wu:=wt.step okk st1
  have zl2:z'.T.length<=1000:=by omega
  obtain⟨zT,zS,zd⟩:=z'
  have b12:∀{H2:Hp},Rd.B2 tl sl H' H2->A8 H H2:=fun{H2} b2 b o e=>b2 b o (e1 b o e) (AG e tl0) (AG e sl0)
  cases k with
  |
   t w'=>
   cases zd with
   |false=>cases st1
   |
    true=>
    have st1:some (⟨w'::zT,zS,false⟩:Rd.Sta)=some u:=st1
    cases st1
    obtain⟨ty,h1,h2⟩:=isT hpk
    refine⟨_,rfl,_,rfl,x,_,ty,_,true,rfl,rfl,h1,h2,_,rfl,?_⟩
    refine Bq ⟨rfl,_,rfl,?_⟩
    refine Az (fun y=>absurd (show(!decide (V.bl true=V.bl true))=true from y) (by decide)) (fun _=>?_)
    refine⟨_,rfl,x,_,ty,_,true,rfl,rfl,h1,h2,_,rfl,?_⟩
    refine Bq ?_
    have nl:=Rd.NL.upd (ys:=tv++[x]) ht
    have tvl:tv.length<=1000:=by rw[pz.1,JZ];exact zl2
    refine⟨_,rfl,.inl ⟨rfl,_,A2.of ht⟩,_,rfl,tl,_,_,rfl,rfl,ht,C5 (by omega),?_⟩
    dsimp only[Am]
    refine⟨⟨w'::zT,zS,false⟩,tv++[x],_,rfl,fun b o e=>?_,r2,wu,?_,JW zs,A5,?_,?_⟩
    .rw[A7 (AG e tl0)];exact e1 b o e
    .show zT.length+1<=i+1
     have:zT.length<=i:=zt
     omega
    .rw[A7 (Ne.symm ts)];exact hs
    .show AE _ _ (w'::zT).reverse
     rw[GR]
     exact(pz.mono fun _ _ y=>Rd.tb_nl nl y).snoc (Rd.tb_nl nl hpk)
  |
   s c=>
   have hpk:x = .str ⟨#[c]⟩:=hpk
   subst hpk
   have okc:c∈Rd.sg5:=okk
   have k1:∀e:Nat,(V.str ⟨#[c]⟩=V.str ⟨#[e]⟩)↔c=e:=fun e=>⟨fun x=>by injection x with x;injection x with x;simpa using x,fun x=>by rw[x]⟩
   have hd:zd=decide (V.str ⟨#[c]⟩=V.str (Str.ofString "(")):=by
    rw[Rd.step]at st1
    by_cases c40:c=40
    .rw[Af c40]at st1
     cases zd with
     |false=>cases st1
     |true=>exact(B7 ((k1 40).mpr c40)).symm
    .rw[A9 c40]at st1
     cases zd with
     |true=>cases st1
     |false=>exact(Bv fun z=>c40 ((k1 40).mp z)).symm
   refine⟨_,rfl,_,rfl,_,_,_,_,false,rfl,rfl,.str _,T.is_str_Term,_,rfl,?_⟩
   refine AA ⟨_,rfl,rfl,rfl,_,rfl,?_⟩
   refine Az (fun y=>?_) (fun _=>?_)
   .rw[←hd]at y
    exact absurd (show(!decide (V.bl zd=V.bl zd))=true from y) (by simp)
   refine⟨_,rfl,_,_,_,_,false,rfl,rfl,.str _,T.is_str_Term,_,rfl,?_⟩
   refine AA ?_
   refine⟨_,rfl,rfl,_,rfl,?_⟩
   refine Az (fun y=>?_) (fun y=>?_)
   .have c41:c=41:=(k1 41).mp (dT y)
    subst c41
    obtain rfl:zd=false:=by rw[hd];exact Bv fun z=>absurd ((k1 40).mp z) (by decide)
    have wn:Rd.nb zS+1=zT.length:=wt.nb
    rw[Rd.step,A9 (by decide),A9 (show ¬(Rd.Sta.due ⟨zT,zS,false⟩=true) from BM),Af rfl]at st1
    refine⟨_,rfl,_,rfl,a.u_STRENGTHS,Rd.strV,.inr (Rd.sg 43),_,rfl,T.d_STRENGTHS P,rfl,Rd.st_val ⟨by decide,by decide⟩,tl,sl,tv,_,zT,zS,1,rfl,ts,Ai _,ht,hs,pz,rfl,wt.sg,by omega,zl2,fun ts' ss' H2 b2 ht2 hs2 pz2 es2=>?_⟩
    subst es2
    cases hS:(Rd.jw 1 zS zT).2 with
    |nil=>simp only[hS]at st1;cases st1
    |
     cons d S'=>
     simp only[hS]at st1
     cases st1
     have er:(d::S').reverse.map (fun a=>V.str (Rd.sg a))=S'.reverse.map (fun a=>V.str (Rd.sg a))++[.str (Rd.sg d)]:=by rw[GR,AW];rfl
     rw[hS,er]at hs2
     refine⟨_,rfl,AD rfl,fun en hen=>?_⟩
     have e3:=Ab hen (.lst [])
     have hs3:=e3 _ _ hs2
     have ht3:=e3 _ _ ht2
     refine⟨sl,en,_,rfl,rfl,A2.of hs3,A2.of A5,_,rfl,?_⟩
     refine Az (fun y=>absurd y (by simp)) (fun _=>?_)
     refine⟨_,rfl,.inl ⟨rfl,_,A2.of hs3⟩,sl,_,_,rfl,rfl,hs3,BU.1,?_⟩
     rw[BU.2]
     refine⟨⟨(Rd.jw 1 zS zT).1,S',false⟩,ts',_,rfl,fun b o e=>?_,r2,wu,?_,?_,?_,A5,?_⟩
     .rw[A7 (AG e sl0)];exact e3 _ _ (b12 b2 b o e)
     .have:=Rd.jw_len 1 (S:=zS) (T:=zT)
      have:zT.length<=i:=zt
      show(Rd.jw 1 zS zT).1.length<=i+1
      omega
     .have h2:=Rd.jw_len2 1 (S:=zS) (T:=zT)
      rw[hS,AO]at h2
      have:zS.length<=i:=zs
      show S'.length<=i+1
      omega
     .rw[A7 ts];exact ht3
     .exact pz2.mono fun _ _ y=>Rd.tb_nl ((Rd.NL.of e3).trans (Rd.NL.upd hs3)) y
   .have c41:c≠41:=fun z=>dF y ((k1 41).mpr z)
    refine⟨_,rfl,rfl,_,rfl,?_⟩
    have last:∀(T2:List Tw) (S2:List Nat) (tv2:List V) (H2:Hp),Rd.B2 tl sl H' H2->H2 tl=some (.lst tv2)->H2 sl=some (.lst (S2.reverse.map fun a=>V.str (Rd.sg a)))->AE (fun v t=>Bs (BF a) H2 t v) tv2 T2.reverse->some (⟨T2,c::S2,true⟩:Rd.Sta)=some u->T2.length<=i->S2.length<=i->
      MV (.ref sl) [.str ⟨#[c]⟩] H2 fun v H3=>∃(z:Rd.Sta) (tv:List V) (o4:Option V),[some (.ref l),some (.ref tl),some (.ref sl),some (.bl true),some (V.str ⟨#[c]⟩)]=[some (.ref l),some (.ref tl),some (.ref sl),some (.bl z.due),o4]/\A8 H H3/\Rd.run (ks.take (i+1)) ⟨[],[],true⟩=some z/\Rd.Wt z/\z.T.length<=i+1/\z.S.length<=i+1/\H3 tl=some (.lst tv)/\H3 sl=some (.lst (z.S.reverse.map fun a=>V.str (Rd.sg a)))/\AE (fun v t=>Bs (BF a) H3 t v) tv z.T.reverse:=fun T2 S2 tv2 H2 b2 ht2 hs2 pz2 hu t2 s2=>by
     cases hu
     refine⟨sl,_,_,rfl,rfl,hs2,C5 (by rw[Aq,JZ];omega),⟨T2,c::S2,true⟩,tv2,_,rfl,fun b o e=>?_,r2,wu,JW t2,Nat.succ_le_succ s2,?_,?_,?_⟩
     .rw[A7 (AG e sl0)];exact b12 b2 b o e
     .rw[A7 ts];exact ht2
     .rw[A5]
      show _=some (HO.lst ((c::S2).reverse.map fun a=>V.str (Rd.sg a)))
      rw[GR,AW]
      rfl
     .exact pz2.mono fun _ _ y=>Rd.tb_nl (Rd.NL.upd hs2) y
    have c40d:∀c40:c≠40,zd=false:=fun c40=>by rw[hd];exact Bv fun z=>c40 ((k1 40).mp z)
    have zT':zT.length<=i:=zt
    have zS':zS.length<=i:=zs
    refine Az (fun ne=>?_) (fun eq=>?_)
    .have c40:c≠40:=fun z=>by
      have e:decide (V.str ⟨#[c]⟩=V.str (Str.ofString "("))=true:=B7 ((k1 40).mpr z)
      rw[e]at ne
      cases ne
     obtain rfl:=c40d c40
     have wn:Rd.nb zS+1=zT.length:=wt.nb
     rw[Rd.step,A9 c40,A9 (show ¬(Rd.Sta.due ⟨zT,zS,false⟩=true) from BM),A9 c41]at st1
     refine⟨_,rfl,_,rfl,_,rfl,a.u_STRENGTHS,Rd.strV,.inr (Rd.sg c),_,rfl,T.d_STRENGTHS P,rfl,Rd.st_val ⟨okc,c41⟩,tl,sl,tv,_,zT,zS,Rd.st c,rfl,ts,(by unfold Rd.st;rw[A9 c40];split<;>decide),ht,hs,pz,rfl,wt.sg,by omega,zl2,fun ts' ss' H2 b2 ht2 hs2 pz2 es2=>?_⟩
     subst es2
     have j1:=Rd.jw_len (Rd.st c) (S:=zS) (T:=zT)
     have j2:=Rd.jw_len2 (Rd.st c) (S:=zS) (T:=zT)
     exact⟨_,rfl,.inl ⟨rfl,_,A2.of hs2⟩,_,rfl,last _ _ ts' H2 b2 ht2 hs2 pz2 st1 (by omega) (by omega)⟩
    .have c40:c=40:=GQ fun n=>eq (by rw[show decide (V.str ⟨#[c]⟩=V.str (Str.ofString "("))=false from Bv fun z=>n ((k1 40).mp z)];rfl)
     subst c40
     obtain rfl:zd=true:=by rw[hd];exact B7 rfl
     have st1:some (⟨zT,40::zS,true⟩:Rd.Sta)=some u:=st1
     exact⟨_,rfl,.inl ⟨rfl,_,A2.of hs⟩,_,rfl,last zT zS tv H' (fun b o e _ _=>e) ht hs pz st1 zT' zS'⟩
 .obtain⟨z,tv,o4,rfl,e1,hz,wt,zt,zs,ht,hs,pz⟩:=p
  rw[pa.1,Ef]at hz
  obtain rfl:=BQ (hz.symm.trans hrun)
  have wn:Rd.nb S+1=Tt.length:=wt.nb
  refine⟨_,rfl,_,rfl,?_⟩
  refine Az (fun y=>absurd y BM) (fun _=>?_)
  refine⟨_,rfl,_,rfl,a.u_STRENGTHS,Rd.strV,.inr (Rd.sg 43),_,rfl,T.d_STRENGTHS P,rfl,Rd.st_val ⟨by decide,by decide⟩,tl,sl,tv,_,Tt,S,1,rfl,ts,Ai _,ht,hs,pz,rfl,wt.sg,by omega,by have:Tt.length<=xs.length:=zt;omega,fun ts' ss' H2 b2 ht2 hs2 pz2 es2=>?_⟩
  rw[hj]at pz2 es2
  have e2:A8 H H2:=fun b o e=>b2 b o (e1 b o e) (AG e tl0) (AG e sl0)
  refine⟨_,rfl,AD rfl,fun en hen=>?_⟩
  subst es2
  refine⟨sl,en,_,rfl,rfl,A2.of (by rw[A7 (AG hs2 hen)];exact hs2),A2.of A5,_,rfl,?_⟩
  refine Az (fun y=>absurd (show false=true from y) BM) (fun _=>?_)
  obtain⟨u0,x0,rfl,p0,hx0⟩:=Rd.all2_pop (ys:=[]) pz2
  obtain rfl:u0=[]:=GS p0.1
  exact⟨_,rfl,tl,_,0,x0,rfl,rfl,A2.of (by rw[A7 (AG ht2 hen)];exact ht2),rfl,q x0 _ (e2.trans (Ab hen _)) (Bs.over (Ab hen _) hx0)⟩
theorem OY (T:Tx w K mg a):AJ P w K mg base AS 1 a.f_U a.d_U ["self"] (Rd.spDrI a.c_Draft a.c_Deed (BF a)):=by
 refine T.F_U.ok QJ (fun vs H Q E h=>?_) (fun cdv A outer s H vs Q E hr h=>?_)
 .obtain⟨_,_,rfl,_⟩:=h;rfl
 obtain⟨x,dx,rfl,hx,q⟩:=h
 refine⟨_,(@A6 _ _ _ _ _ (@BZ _ _ _ _ _ _ _ _ (pv 0) BK rfl) (@A6 _ _ _ _ _ (@BZ _ _ _ _ _ _ _ _ (pv 0) (@Bl _ _ _ _ A4) rfl) (@A6 _ _ _ _ _ (@BZ _ _ _ _ _ _ _ _ (pv 0) Te rfl) (@A6 _ _ _ _ _ (@BZ _ _ _ _ _ _ _ _ (pv 0) (@Bl _ _ _ _ A4) rfl) (@A6 _ _ _ _ _ (@BZ _ _ _ _ _ _ _ _ (pv 0) (@Bl _ _ _ _ A4) rfl) (@A6 _ _ _ _ _ (@BZ _ _ _ _ _ _ _ _ (pv 0) (@Bl _ _ _ _ A4) rfl) (@Ac _ _ _ (@BZ _ _ _ _ _ _ _ _ (pv 0) (@Bl _ _ _ _ (@A0 _ _ _ _ _ A3 A4 (by rfl))) rfl)))))))),?_⟩
 refine⟨_,rfl,x,_,dx,_,rfl,hx,T.cl_Draft,T.n_Draft_size,(by show 0<1000;decide),?_⟩
 have k1:∀b o,H b=some o->b≠x->(upd H x (.ins a.c_Draft dx (Aa "size" V.non []))) b=some o:=fun b o e n=>by rw[A7 n];exact e
 have x1:(upd H x (.ins a.c_Draft dx (Aa "size" V.non []))) x=some (.ins a.c_Draft dx (Aa "size" V.non [])):=A5
 change E7 _ _ _ [some (.ref x)] (upd H x (.ins a.c_Draft dx (Aa "size" V.non [])))
 generalize upd H x (.ins a.c_Draft dx (Aa "size" V.non []))=H1 at k1 x1
 refine⟨AD rfl,fun dl hdl=>⟨_,rfl,x,_,dx,_,rfl,(by rw[A7 (AG x1 hdl)];exact x1),T.cl_Draft,T.n_Draft_deeds,(by show 1<1000;decide),?_⟩⟩
 obtain⟨fdl,gdl,k'⟩:=Rd.put2 (v:=.lst []) (w:=.ins a.c_Draft dx (Aa "deeds" (.ref dl) (Aa "size" V.non []))) hdl x1
 have ndl:H dl=none:=(by cases z:H dl with|none=>rfl|some u=>rw[k1 dl u z fdl]at hdl;cases hdl)
 have k2:∀b o,H b=some o->b≠x->_:=fun b o e n=>k' b o (k1 b o e n) n
 have x2:(upd (upd H1 dl (.lst [])) x (.ins a.c_Draft dx (Aa "deeds" (.ref dl) (Aa "size" V.non [])))) x=some (.ins a.c_Draft dx (Aa "deeds" (.ref dl) (Aa "size" V.non []))):=A5
 change E7 _ _ _ [some (.ref x)] (upd (upd H1 dl (.lst [])) x (.ins a.c_Draft dx (Aa "deeds" (.ref dl) (Aa "size" V.non []))))
 clear k'
 generalize upd (upd H1 dl (.lst [])) x (.ins a.c_Draft dx (Aa "deeds" (.ref dl) (Aa "size" V.non [])))=H2 at k2 x2 gdl
 have odl:=gdl
 refine fun tl htl=>⟨_,rfl,x,_,dx,_,rfl,(by rw[A7 (AG x2 htl)];exact x2),T.cl_Draft,T.n_Draft_tables,(by show 2<1000;decide),?_⟩
 obtain⟨ftl,gtl,k'⟩:=Rd.put2 (v:=.dK []) (w:=.ins a.c_Draft dx (Aa "tables" (.ref tl) (Aa "deeds" (.ref dl) (Aa "size" V.non [])))) htl x2
 have ntl:H tl=none:=(by cases z:H tl with|none=>rfl|some u=>rw[k2 tl u z ftl]at htl;cases htl)
 have gdl:=k' _ _ gdl fdl
 have k3:∀b o,H b=some o->b≠x->_:=fun b o e n=>k' b o (k2 b o e n) n
 have x3:(upd (upd H2 tl (.dK [])) x (.ins a.c_Draft dx (Aa "tables" (.ref tl) (Aa "deeds" (.ref dl) (Aa "size" V.non []))))) x=some (.ins a.c_Draft dx (Aa "tables" (.ref tl) (Aa "deeds" (.ref dl) (Aa "size" V.non [])))):=A5
 change E7 _ _ _ [some (.ref x)] (upd (upd H2 tl (.dK [])) x (.ins a.c_Draft dx (Aa "tables" (.ref tl) (Aa "deeds" (.ref dl) (Aa "size" V.non [])))))
 clear k'
 generalize upd (upd H2 tl (.dK [])) x (.ins a.c_Draft dx (Aa "tables" (.ref tl) (Aa "deeds" (.ref dl) (Aa "size" V.non []))))=H3 at k3 x3 gdl gtl
 have odl:=gdl
 refine⟨AD rfl,fun nl hnl=>⟨_,rfl,x,_,dx,_,rfl,(by rw[A7 (AG x3 hnl)];exact x3),T.cl_Draft,T.n_Draft_names,(by show 3<1000;decide),?_⟩⟩
 obtain⟨fnl,gnl,k'⟩:=Rd.put2 (v:=.lst []) (w:=.ins a.c_Draft dx (Aa "names" (.ref nl) (Aa "tables" (.ref tl) (Aa "deeds" (.ref dl) (Aa "size" V.non []))))) hnl x3
 have nnl:H nl=none:=(by cases z:H nl with|none=>rfl|some u=>rw[k3 nl u z fnl]at hnl;cases hnl)
 have gdl:=k' _ _ gdl fdl
 have ddlnl:dl≠nl:=fun z=>by rw[z]at odl;rw[odl]at hnl;cases hnl
 have gtl:=k' _ _ gtl ftl
 have k4:∀b o,H b=some o->b≠x->_:=fun b o e n=>k' b o (k3 b o e n) n
 have x4:(upd (upd H3 nl (.lst [])) x (.ins a.c_Draft dx (Aa "names" (.ref nl) (Aa "tables" (.ref tl) (Aa "deeds" (.ref dl) (Aa "size" V.non [])))))) x=some (.ins a.c_Draft dx (Aa "names" (.ref nl) (Aa "tables" (.ref tl) (Aa "deeds" (.ref dl) (Aa "size" V.non []))))):=A5
 change E7 _ _ _ [some (.ref x)] (upd (upd H3 nl (.lst [])) x (.ins a.c_Draft dx (Aa "names" (.ref nl) (Aa "tables" (.ref tl) (Aa "deeds" (.ref dl) (Aa "size" V.non []))))))
 clear k'
 generalize upd (upd H3 nl (.lst [])) x (.ins a.c_Draft dx (Aa "names" (.ref nl) (Aa "tables" (.ref tl) (Aa "deeds" (.ref dl) (Aa "size" V.non [])))))=H4 at k4 x4 gdl gtl gnl
 have odl:=gdl
 have onl:=gnl
 refine⟨AD rfl,fun ll hll=>⟨_,rfl,x,_,dx,_,rfl,(by rw[A7 (AG x4 hll)];exact x4),T.cl_Draft,T.n_Draft_lows,(by show 4<1000;decide),?_⟩⟩
 obtain⟨fll,gll,k'⟩:=Rd.put2 (v:=.lst []) (w:=.ins a.c_Draft dx (Aa "lows" (.ref ll) (Aa "names" (.ref nl) (Aa "tables" (.ref tl) (Aa "deeds" (.ref dl) (Aa "size" V.non [])))))) hll x4
 have nll:H ll=none:=(by cases z:H ll with|none=>rfl|some u=>rw[k4 ll u z fll]at hll;cases hll)
 have gdl:=k' _ _ gdl fdl
 have ddlll:dl≠ll:=fun z=>by rw[z]at odl;rw[odl]at hll;cases hll
 have gtl:=k' _ _ gtl ftl
 have gnl:=k' _ _ gnl fnl
 have dnlll:nl≠ll:=fun z=>by rw[z]at onl;rw[onl]at hll;cases hll
 have k5:∀b o,H b=some o->b≠x->_:=fun b o e n=>k' b o (k4 b o e n) n
 have x5:(upd (upd H4 ll (.lst [])) x (.ins a.c_Draft dx (Aa "lows" (.ref ll) (Aa "names" (.ref nl) (Aa "tables" (.ref tl) (Aa "deeds" (.ref dl) (Aa "size" V.non []))))))) x=some (.ins a.c_Draft dx (Aa "lows" (.ref ll) (Aa "names" (.ref nl) (Aa "tables" (.ref tl) (Aa "deeds" (.ref dl) (Aa "size" V.non [])))))):=A5
 change E7 _ _ _ [some (.ref x)] (upd (upd H4 ll (.lst [])) x (.ins a.c_Draft dx (Aa "lows" (.ref ll) (Aa "names" (.ref nl) (Aa "tables" (.ref tl) (Aa "deeds" (.ref dl) (Aa "size" V.non [])))))))
 clear k'
 generalize upd (upd H4 ll (.lst [])) x (.ins a.c_Draft dx (Aa "lows" (.ref ll) (Aa "names" (.ref nl) (Aa "tables" (.ref tl) (Aa "deeds" (.ref dl) (Aa "size" V.non []))))))=H5 at k5 x5 gdl gtl gnl gll
 have odl:=gdl
 have onl:=gnl
 have oll:=gll
 refine⟨AD rfl,fun hl hhl=>⟨_,rfl,x,_,dx,_,rfl,(by rw[A7 (AG x5 hhl)];exact x5),T.cl_Draft,T.n_Draft_highs,(by show 5<1000;decide),?_⟩⟩
 obtain⟨fhl,ghl,k'⟩:=Rd.put2 (v:=.lst []) (w:=.ins a.c_Draft dx (Aa "highs" (.ref hl) (Aa "lows" (.ref ll) (Aa "names" (.ref nl) (Aa "tables" (.ref tl) (Aa "deeds" (.ref dl) (Aa "size" V.non []))))))) hhl x5
 have nhl:H hl=none:=(by cases z:H hl with|none=>rfl|some u=>rw[k5 hl u z fhl]at hhl;cases hhl)
 have gdl:=k' _ _ gdl fdl
 have ddlhl:dl≠hl:=fun z=>by rw[z]at odl;rw[odl]at hhl;cases hhl
 have gtl:=k' _ _ gtl ftl
 have gnl:=k' _ _ gnl fnl
 have dnlhl:nl≠hl:=fun z=>by rw[z]at onl;rw[onl]at hhl;cases hhl
 have gll:=k' _ _ gll fll
 have dllhl:ll≠hl:=fun z=>by rw[z]at oll;rw[oll]at hhl;cases hhl
 have k6:∀b o,H b=some o->b≠x->_:=fun b o e n=>k' b o (k5 b o e n) n
 have x6:(upd (upd H5 hl (.lst [])) x (.ins a.c_Draft dx (Aa "highs" (.ref hl) (Aa "lows" (.ref ll) (Aa "names" (.ref nl) (Aa "tables" (.ref tl) (Aa "deeds" (.ref dl) (Aa "size" V.non [])))))))) x=some (.ins a.c_Draft dx (Aa "highs" (.ref hl) (Aa "lows" (.ref ll) (Aa "names" (.ref nl) (Aa "tables" (.ref tl) (Aa "deeds" (.ref dl) (Aa "size" V.non []))))))):=A5
 dsimp only
 clear k'
 generalize upd (upd H5 hl (.lst [])) x (.ins a.c_Draft dx (Aa "highs" (.ref hl) (Aa "lows" (.ref ll) (Aa "names" (.ref nl) (Aa "tables" (.ref tl) (Aa "deeds" (.ref dl) (Aa "size" V.non [])))))))=H6 at k6 x6 gdl gtl gnl gll ghl
 have odl:=gdl
 have onl:=gnl
 have oll:=gll
 have ohl:=ghl
 refine⟨AD rfl,fun pl hpl=>⟨_,rfl,x,_,dx,_,rfl,(by rw[A7 (AG x6 hpl)];exact x6),T.cl_Draft,T.n_Draft_path,(by show 6<1000;decide),?_⟩⟩
 obtain⟨fpl,gpl,k'⟩:=Rd.put2 (v:=.lst [.int 0]) (w:=.ins a.c_Draft dx (Aa "path" (.ref pl) (Aa "highs" (.ref hl) (Aa "lows" (.ref ll) (Aa "names" (.ref nl) (Aa "tables" (.ref tl) (Aa "deeds" (.ref dl) (Aa "size" V.non [])))))))) hpl x6
 have npl:H pl=none:=(by cases z:H pl with|none=>rfl|some u=>rw[k6 pl u z fpl]at hpl;cases hpl)
 have gdl:=k' _ _ gdl fdl
 have ddlpl:dl≠pl:=fun z=>by rw[z]at odl;rw[odl]at hpl;cases hpl
 have gtl:=k' _ _ gtl ftl
 have gnl:=k' _ _ gnl fnl
 have dnlpl:nl≠pl:=fun z=>by rw[z]at onl;rw[onl]at hpl;cases hpl
 have gll:=k' _ _ gll fll
 have dllpl:ll≠pl:=fun z=>by rw[z]at oll;rw[oll]at hpl;cases hpl
 have ghl:=k' _ _ ghl fhl
 have dhlpl:hl≠pl:=fun z=>by rw[z]at ohl;rw[ohl]at hpl;cases hpl
 have k7:∀b o,H b=some o->b≠x->_:=fun b o e n=>k' b o (k6 b o e n) n
 have x7:(upd (upd H6 pl (.lst [.int 0])) x (.ins a.c_Draft dx (Aa "path" (.ref pl) (Aa "highs" (.ref hl) (Aa "lows" (.ref ll) (Aa "names" (.ref nl) (Aa "tables" (.ref tl) (Aa "deeds" (.ref dl) (Aa "size" V.non []))))))))) x=some (.ins a.c_Draft dx (Aa "path" (.ref pl) (Aa "highs" (.ref hl) (Aa "lows" (.ref ll) (Aa "names" (.ref nl) (Aa "tables" (.ref tl) (Aa "deeds" (.ref dl) (Aa "size" V.non [])))))))):=A5
 refine q _ ⟨x,dx,dl,tl,nl,ll,hl,pl⟩ rfl k7 ?_ fun f=>⟨x7,⟨_,gdl,rfl,fun _ _ _ z=>by cases z⟩,⟨[],gtl,(fun p hp=>nomatch hp),C0 _⟩,gnl,⟨_,gll,rfl,fun _ _ _ z=>by cases z⟩,⟨_,ghl,rfl,fun _ _ _ z=>by cases z⟩,gpl,?_,rfl⟩
 .rintro b (z|z|z|z|z|z|z) n
  .exact absurd z n
  .rw[z];exact ndl
  .rw[z];exact ntl
  .rw[z];exact nnl
  .rw[z];exact nll
  .rw[z];exact nhl
  .rw[z];exact npl
 .simp only[FY,AH,CG,or_false,not_or,List.nodup_nil,OM,and_true]
  exact⟨⟨ddlnl,ddlll,ddlhl,ddlpl⟩,⟨dnlll,dnlhl,dnlpl⟩,⟨dllhl,dllpl⟩,dhlpl⟩
theorem Nh (T:Tx w K mg a):AJ P w K mg base AS 1 a.f_k a.d_k ["draft","spots"] (Rd.spKnown a.c_Draft):=by
 refine T.F_k.ok RO (fun vs H Q E h=>?_) (fun cdv A outer s H vs Q E hr h=>?_)
 .obtain⟨_,_,_,_,rfl,_⟩:=h;rfl
 obtain⟨d,p,nm,sp,rfl,⟨dx,fs,n,hd,hf,hn⟩,⟨ys,hp,pa⟩,sl,q⟩:=h
 refine⟨_,(@Ac _ _ _ (@Ar _ _ _ _ (@B6 _ _ _ _ _ _ _ _ _ (@Ll _ rfl) (by rfl) T.z_all KE (@A0 _ _ _ _ _ (@DN _ _ _ _ _ _ _ ["spot","draft"] [none,some 0] _ _ _ _ (by rfl) (@KQ _ _ _ _ (pv 1)) Ro (fun _ _ _ _ _ _=>⟨(BG (i:=0) Vo rfl (.inl rfl)),@Eh _,(@LB _ _ _ _ _ _ _ (@De _ _ _ _ _ _ _ _ BC (@Ag _ _ _ _ _ _ _ (show Em _ (Hy K) from B0) (pv 0) A3 (fun _ _=>rfl)) Av (@Ao _ _ (by decide) (by decide))) (@EG _ _ _ _ _ (@De _ _ _ _ _ _ _ _ (show Bw _ _ (Jo K false) from GD) (@Ag _ _ _ _ _ _ _ (show Em _ (Hy K) from B0) (pv 0) A3 (fun _ _=>rfl)) (show PE _ _ (NS K _ "names") from Bj (pv 1) rfl) (by with_unfolding_all rfl))))⟩) (by intro _;rfl)) A4 (by rfl)) (by decide) (by decide) (by rfl) (by rfl)))),?_⟩
 refine⟨_,rfl,p,rfl,⟨_,Aw.of hp⟩,?_⟩
 have yl:ys.length=sp.length:=pa.1
 refine Lo (xs:=ys) (fun i bs H'=>H'=H/\bs=((sp.take i).map (Rd.knw nm)).map V.bl) ⟨rfl,rfl⟩ (AF (by omega)) (fun i bs H' hi p=>?_) (fun i x bs H' hc p=>?_) (fun bs H' p t5 ht5=>?_)
 .obtain⟨rfl,rfl⟩:=p
  exact⟨Aw.of hp,by simp;omega⟩
 .obtain⟨rfl,rfl⟩:=p
  have hil:i<sp.length:=by rw[←yl];exact(BJ.mp hc).1
  obtain⟨t6,rfl,h6⟩:=pa.2 i x sp[i] hc (BX hil)
  refine⟨_,rfl,t6,_,0,_,rfl,rfl,Aw.of h6,rfl,rfl,_,rfl,?_⟩
  have k1:(V.str (sp[i]).1=V.str (Str.ofString ""))↔(sp[i]).1=Str.ofString "":=⟨fun e=>V.str.inj e,fun e=>by rw[e]⟩
  rw[DE (BX hil),AW,AW]
  refine Az (fun y=>⟨rfl,?_⟩) (fun y=>?_)
  .have e:Rd.knw nm sp[i]=true:=by unfold Rd.knw;rw[B7 (k1.mp (dT y))];rfl
   show _=_++[V.bl (Rd.knw nm sp[i])]
   rw[e]
  .have e:Rd.knw nm sp[i]=decide ((sp[i]).1∈nm):=by unfold Rd.knw;rw[Bv fun z=>dF y (k1.mpr z)];rfl
   refine⟨_,rfl,t6,_,0,_,rfl,rfl,Aw.of h6,rfl,_,rfl,d,_,dx,fs,_,rfl,hd,T.cl_Draft,T.n_Draft_names,hf,n,_,rfl,.inl (A2.of hn),rfl,Rd.flat_strs nm,?_⟩
   refine⟨rfl,?_⟩
   show _=_++[V.bl (Rd.knw nm sp[i])]
   rw[e,Rd.in_strs]
   rfl
 obtain⟨rfl,rfl⟩:=p
 refine⟨t5,_,rfl,A2.of A5,?_⟩
 have q2:=q _ (Ab ht5 (.lst (((sp.take ys.length).map (Rd.knw nm)).map V.bl)))
 rw[yl,Ef]at q2 ⊢
 have e:(sp.map (Rd.knw nm)).all id=sp.all (Rd.knw nm):=by rw[LR];rfl
 rw[e]
 exact q2
theorem QI (T:Tx w K mg a):AJ P w K mg base AS 2 a.f_y a.d_y ["draft","parts"] (Rd.spNamesK a.c_Draft (BF a)):=by
 have G_k :=@Nh P w K mg base a T
 refine T.F_y.ok Na (fun vs H Q E h=>?_) (fun cdv A outer s H vs Q E hr h=>?_)
 .obtain⟨_,_,_,_,_,rfl,_⟩:=h;rfl
 obtain⟨d,l,nm,xs,ks,rfl,hd,hl,pa,ok,kn,q⟩:=h
 refine⟨_,(@A6 _ _ _ _ _ (@Ep _ _ _ _ _ _ _ _ PassesOwn.never rfl (@Dy _ _ _ _ (pv 1)) (BG (i:=2) Na.nd rfl (.inl rfl)) (@A6 _ _ _ _ _ (@AI _ _ _ _ _ _ _ _ ((@D6 _ _ _ _ _ _ _ (@Cm _ _ _ (@B6 _ _ _ _ _ _ _ _ _ FJ (by rfl) T.z_isinstance Fx (@A0 _ _ _ _ _ (pv 2) (@A0 _ _ _ _ _ (@Ck _ _ (.ref a.c_Value) _ _ (by rfl) T.mc_Value rfl (by decide)) A4 (by rfl)) (by rfl)) (by decide) (by decide) (by rfl) (by rfl)) (by intro _;rfl)) (@DP _ _ _ _ (@An _ _ _ _ _ _ _ _ Lu (@Bj _ _ _ _ _ (pv 2) rfl) (@Bj _ _ _ _ _ (pv 0) rfl) (by with_unfolding_all rfl))))).pt (@Ac _ _ _ (@Ar _ _ _ _ C9)) AN) (@Ac _ _ _ (@AI _ _ _ _ _ _ _ _ ((@D6 _ _ _ _ _ _ _ (@Cm _ _ _ (@B6 _ _ _ _ _ _ _ _ _ FJ (by rfl) T.z_isinstance Fx (@A0 _ _ _ _ _ (pv 2) (@A0 _ _ _ _ _ (@Ck _ _ (.ref a.c_Cell) _ _ (by rfl) T.mc_Cell rfl (by decide)) A4 (by rfl)) (by rfl)) (by decide) (by decide) (by rfl) (by rfl)) (by intro _;rfl)) (@DP _ _ _ _ (@E6 _ _ _ _ (@Cm _ _ _ (@AC _ _ _ _ _ _ _ _ _ _ _ _ _ _ _ _ G_k (hr.mono (by omega)) (by rfl) T.m_k T.F_k.kp T.b_k .nil Au (@A0 _ _ _ _ _ (pv 0) (@A0 _ _ _ _ _ (@Bj _ _ _ _ _ (pv 2) rfl) A4 (by rfl)) (by rfl)) (by decide) (by rfl) (by rfl)) (by intro _;rfl)))))).pt (@Ac _ _ _ (@Ar _ _ _ _ C9)) AN))) (by intro _;rfl)) (@Ac _ _ _ (@Ar _ _ _ _ C9))),?_⟩
 refine⟨_,rfl,l,rfl,⟨_,A2.of hl⟩,?_⟩
 refine Gw (xs:=xs) (fun i σ' H'=>A8 H H'/\∃o2:Option V,σ'=[some (.ref d),some (.ref l),o2]) ⟨A8.refl _,_,rfl⟩ (fun i σ' H' _ p=>p.1.seq (A2.of hl)) (fun i x σ' H' hx p=>?_) (fun σ' H' p=>?_)
 .obtain⟨e,o2,rfl⟩:=p
  dsimp only[Am]
  have il:i<xs.length:=(BJ.mp hx).1
  obtain⟨k,hk⟩:∃k,ks[i]?=some k:=⟨ks[i]'(by rw[←pa.1];exact il),BX _⟩
  have hpk:=(pa.2 i x k hx hk).over e
  have okk:=ok k (CC hk)
  have knk:=kn k (CC hk)
  obtain⟨ddx,fs,n,hd0,hf,hn0⟩:=hd
  have hd:=e _ _ hd0
  have hn:=e _ _ hn0
  cases k with
  |
   s c=>
   have hpk:x = .str ⟨#[c]⟩:=hpk
   subst hpk
   refine⟨_,rfl,_,_,_,_,false,rfl,rfl,.str _,T.is_str_Value,_,rfl,AA ?_⟩
   exact⟨_,rfl,_,_,_,_,false,rfl,rfl,.str _,T.is_str_Cell,_,rfl,AA ⟨e,_,rfl⟩⟩
  |
   t w'=>
   cases w' with
   |
    n i=>
    obtain⟨t0,dx,rfl,hx0⟩:=hpk
    refine⟨_,rfl,_,_,_,_,false,rfl,rfl,T.ty_Number _ _ _ _ hx0,T.is_Number_Value,_,rfl,AA ?_⟩
    exact⟨_,rfl,_,_,_,_,false,rfl,rfl,T.ty_Number _ _ _ _ hx0,T.is_Number_Cell,_,rfl,AA ⟨e,_,rfl⟩⟩
   |
    v z=>
    obtain⟨t0,dx,rfl,hx0⟩:=hpk
    refine⟨_,rfl,_,_,_,_,true,rfl,rfl,T.ty_Value _ _ _ _ hx0,T.is_Value_Value,_,rfl,Bq ?_⟩
    refine⟨_,rfl,t0,_,dx,_,_,rfl,hx0,T.cl_Value,T.n_Value_name,rfl,_,rfl,d,_,ddx,fs,_,rfl,hd,T.cl_Draft,T.n_Draft_names,hf,n,_,rfl,.inl (A2.of hn),rfl,Rd.flat_strs nm,_,rfl,?_⟩
    have e1:CZ (V.str z) (nm.map V.str)=true:=by rw[Rd.in_strs];exact B7 knk
    rw[e1]
    refine AA ?_
    exact⟨_,rfl,_,_,_,_,false,rfl,rfl,T.ty_Value _ _ _ _ hx0,T.is_Value_Cell,_,rfl,AA ⟨e,_,rfl⟩⟩
   |
    c z sp=>
    obtain⟨t0,dx,p0,rfl,hx0,hp0⟩:=hpk
    refine⟨_,rfl,_,_,_,_,false,rfl,rfl,T.ty_Cell _ _ _ _ hx0,T.is_Cell_Value,_,rfl,AA ?_⟩
    refine⟨_,rfl,_,_,_,_,true,rfl,rfl,T.ty_Cell _ _ _ _ hx0,T.is_Cell_Cell,_,rfl,Bq ?_⟩
    refine⟨_,rfl,_,rfl,t0,_,dx,_,_,rfl,hx0,T.cl_Cell,T.n_Cell_spots,rfl,d,p0,nm,sp,rfl,⟨ddx,fs,n,hd,hf,hn⟩,hp0,(by have:=okk.2.2.1;omega),fun H2 e2=>⟨_,rfl,?_⟩⟩
    rw[show sp.all (Rd.knw nm)=true from knk]
    exact AA ⟨e.trans e2,_,rfl⟩
   |j _ _ _=>exact okk.elim
 .obtain⟨e,o2,rfl⟩:=p
  exact q _ e
theorem Qs (T:Tx w K mg a):AJ P w K mg base AS 1 a.f_z a.d_z ["draft","parts"] (Rd.spTabs a.c_Draft (BF a)):=by
 refine T.F_z.ok KP (fun vs H Q E h=>?_) (fun cdv A outer s H vs Q E hr h=>?_)
 .obtain⟨_,_,_,_,_,_,_,_,_,rfl,_⟩:=h;rfl
 obtain⟨d,l,dx,t,fs,xs,ks,f,tb,rfl,hd,hf,ht,hfb,tl,hl,pa,ok,kf,q⟩:=h
 refine⟨_,(@A6 _ _ _ _ _ (@Ep _ _ _ _ _ _ _ _ PassesOwn.never rfl (@Dy _ _ _ _ (pv 1)) (BG (i:=2) KP.nd rfl (.inl rfl)) (@Ac _ _ _ (@AI _ _ _ _ _ _ _ _ (@Cm _ _ _ (@B6 _ _ _ _ _ _ _ _ _ FJ (by rfl) T.z_isinstance Fx (@A0 _ _ _ _ _ (pv 2) (@A0 _ _ _ _ _ (@Ck _ _ (.ref a.c_Cell) _ _ (by rfl) T.mc_Cell rfl (by decide)) A4 (by rfl)) (by rfl)) (by decide) (by decide) (by rfl) (by rfl)) (by intro _;rfl)) (@A6 _ _ _ _ _ (@Aj _ _ (3) _ _ _ _ KP.nd rfl (.inl rfl) (@B6 _ _ _ _ _ _ _ _ _ BO (by rfl) T.z_len BB (@A0 _ _ _ _ _ (@Bj _ _ _ _ _ (pv 2) rfl) A4 (by rfl)) (by decide) (by decide) (by rfl) (by rfl)) (by rfl) (by first|exact .inl rfl|exact .inr rfl|assumption)) (@Ac _ _ _ (@AI _ _ _ _ _ _ _ _ (@An _ _ _ _ _ _ _ _ DQ (@Qd _ _ _ _ _ _ _ _ _ (@Bj _ _ _ _ _ (pv 0) rfl) (@Bj _ _ _ _ _ (pv 2) rfl) (pv 3) ⟨rfl,rfl,rfl,rfl⟩) (pv 3) (@Ao _ _ (by decide) (by decide))) (@Ac _ _ _ (@Ar _ _ _ _ C9)) AN))) AN)) (by intro _;rfl)) (@Ac _ _ _ (@Ar _ _ _ _ C9))),?_⟩
 have ntl:∀{b:Addr} {o:HO},H b=some o->(∀kv,o≠.dK kv)->b≠t:=fun{b o} e n z=>by rw[z,ht]at e;exact n _ (BQ e).symm
 refine⟨_,rfl,l,rfl,⟨_,A2.of hl⟩,?_⟩
 refine Gw (xs:=xs) (fun i σ' H'=>(∀b o,H b=some o->b≠t->H' b=some o)/\(∃o2 o3:Option V,σ'=[some (.ref d),some (.ref l),o2,o3])/\∃tb',H' t=some (.dK (Rd.tbK tb'))/\(∀p∈tb',p.2=f p.1)/\tb'.length<=tb.length+i) ⟨fun _ _ e _=>e,⟨_,_,rfl⟩,tb,ht,hfb,Ai _⟩ (fun i σ' H' _ p=>A2.of (p.1 _ _ hl (ntl hl (fun _ z=>nomatch z)))) (fun i x σ' H' hx p=>?_) (fun σ' H' p=>?_)
 .obtain⟨e,⟨o2,o3,rfl⟩,tb',ht',hf',tl'⟩:=p
  dsimp only[Am]
  have il:i<xs.length:=(BJ.mp hx).1
  obtain⟨k,hk⟩:∃k,ks[i]?=some k:=⟨ks[i]'(by rw[←pa.1];exact il),BX _⟩
  have kp:Rd.Kp H H':=fun b o e' ob=>e b o e' (ntl e' (fun _ z=>by rw[z]at ob;exact ob))
  have hpk:=(pa.2 i x k hx hk).kp kp
  have okk:=ok k (CC hk)
  have kfk:=kf k (CC hk)
  have hd':=e _ _ hd (ntl hd (fun _ z=>nomatch z))
  cases k with
  |
   s c=>
   have hpk:x = .str ⟨#[c]⟩:=hpk
   subst hpk
   exact⟨_,rfl,_,_,_,_,false,rfl,rfl,.str _,T.is_str_Cell,_,rfl,AA ⟨e,⟨_,_,rfl⟩,tb',ht',hf',by omega⟩⟩
  |
   t w'=>
   cases w' with
   |
    n i=>
    obtain⟨t0,dx,rfl,hx0⟩:=hpk
    exact⟨_,rfl,_,_,_,_,false,rfl,rfl,T.ty_Number _ _ _ _ hx0,T.is_Number_Cell,_,rfl,AA ⟨e,⟨_,_,rfl⟩,tb',ht',hf',by omega⟩⟩
   |
    v z=>
    obtain⟨t0,dx,rfl,hx0⟩:=hpk
    exact⟨_,rfl,_,_,_,_,false,rfl,rfl,T.ty_Value _ _ _ _ hx0,T.is_Value_Cell,_,rfl,AA ⟨e,⟨_,_,rfl⟩,tb',ht',hf',by omega⟩⟩
   |
    c z sp=>
    obtain⟨t0,dx0,p0,rfl,hx0,ys,hp0,pa0⟩:=hpk
    have yl:((ys.length:Nat):Int)=((f z:Nat):Int):=by rw[show f z=sp.length from kfk,pa0.1]
    refine⟨_,rfl,_,_,_,_,true,rfl,rfl,T.ty_Cell _ _ _ _ hx0,T.is_Cell_Cell,_,rfl,Bq ?_⟩
    refine⟨_,rfl,t0,_,dx0,_,_,rfl,hx0,T.cl_Cell,T.n_Cell_spots,rfl,p0,ys,rfl,.inr (Aw.of hp0),?_⟩
    rw[yl]
    dsimp only[Am]
    refine⟨_,rfl,d,_,dx,fs,_,rfl,hd',T.cl_Draft,T.n_Draft_tables,hf,t,rfl,.inl ⟨_,.inl ht'⟩,?_⟩
    refine⟨_,rfl,t0,_,dx0,_,_,rfl,hx0,T.cl_Cell,T.n_Cell_table,rfl,_,rfl,_,.inr z,ht',rfl,?_,fun v hv=>?_,fun hn=>?_⟩
    .have:=pa.1;unfold Rd.tbK;rw[Aq];omega
    .rw[Rd.tb_val hf' hv]
     refine⟨_,rfl,rfl,_,rfl,?_⟩
     rw[B7 rfl]
     exact AA ⟨e,⟨_,_,rfl⟩,tb',ht',hf',by omega⟩
    .obtain⟨tb2,e2,h2,l2⟩:=Rd.tb_put hf' hn
     rw[e2]
     refine⟨_,rfl,rfl,_,rfl,?_⟩
     rw[B7 rfl]
     exact AA ⟨fun b o e' nb=>by rw[A7 nb];exact e b o e' nb,⟨_,_,rfl⟩,tb2,A5,h2,by omega⟩
   |j _ _ _=>exact okk.elim
 .obtain⟨e,⟨o2,o3,rfl⟩,tb',ht',hf',tl'⟩:=p
  rw[pa.1]at tl'
  exact q _ tb' e ht' hf' tl'
theorem UL (T:Tx w K mg a):AJ P w K mg base AS 8 a.f_A a.d_A ["draft","row"] (Rd.spDeedT a.c_Draft a.c_Deed (BF a)):=by
 have G_j :=@MX P w K mg base a T
 have G_w :=@QV P w K mg base a T
 have G_x :=@Ut P w K mg base a T
 have G_y :=@QI P w K mg base a T
 have G_z :=@Qs P w K mg base a T
 have G_S :=@OR P w K mg base a T
 refine T.F_A.ok Ha (fun vs H Q E h=>?_) (fun cdv A outer s H vs Q E hr h=>?_)
 .obtain⟨_,_,_,_,_,_,_,_,_,rfl,_⟩:=h;rfl
 obtain⟨f,B,D,D',z,tb,sp,ks,t,rfl,hD,hz,zl,hs,q⟩:=h
 refine⟨_,(@A6 _ _ _ _ _ (@Aj _ _ (2) _ _ _ _ Ha.nd rfl (.inl rfl) (@Be _ _ _ _ _ _ _ _ _ _ _ _ DK K2 K3 Hj (pv 1) (@A0 _ _ _ _ _ Av A4 (by rfl)) (by rfl) (by rfl) (by rfl) (by rfl) (by rfl)) (by rfl) (by first|exact .inl rfl|exact .inr rfl|assumption)) (@A6 _ _ _ _ _ (@Aj _ _ (3) _ _ _ _ Ha.nd rfl (.inl rfl) (@AC _ _ _ _ _ _ _ _ _ _ _ _ _ _ _ _ G_j (hr.mono (by omega)) (by rfl) T.m_j T.F_j.kp T.b_j .nil Au (@A0 _ _ _ _ _ (@Ag _ _ _ _ _ _ _ B0 (pv 2) A3 (fun _ _=>rfl)) A4 (by rfl)) (by decide) (by rfl) (by rfl)) (by rfl) (by first|exact .inl rfl|exact .inr rfl|assumption)) (@A6 _ _ _ _ _ (@Aj _ _ (4) _ _ _ _ Ha.nd rfl (.inl rfl) (@AC _ _ _ _ _ _ _ _ _ _ _ _ _ _ _ _ G_w (hr.mono (by omega)) (by rfl) T.m_w T.F_w.kp T.b_w .nil Au (@A0 _ _ _ _ _ (@Ag _ _ _ _ _ _ _ B0 (pv 2) A3 (fun _ _=>rfl)) A4 (by rfl)) (by decide) (by rfl) (by rfl)) (by rfl) (by first|exact .inl rfl|exact .inr rfl|assumption)) (@A6 _ _ _ _ _ (@AI _ _ _ _ _ _ _ _ ((@Cb _ _ _ _ _ _ _ (@An _ _ _ _ _ _ _ _ BC (@B6 _ _ _ _ _ _ _ _ _ BO (by rfl) T.z_len BB (@A0 _ _ _ _ _ (@Bj _ _ _ _ _ (pv 0) rfl) A4 (by rfl)) (by decide) (by decide) (by rfl) (by rfl)) (@Ck _ _ _ _ _ (by rfl) T.g_MOST_DEEDS T.r_MOST_DEEDS (by decide)) (@Ao _ _ (by decide) (by decide))) (@Cb _ _ _ _ _ _ _ (@An _ _ _ _ _ _ _ _ E1 (pv 3) BK (@Ao _ _ (by decide) (by decide))) (@CT _ _ _ _ (@An _ _ _ _ _ _ _ _ E1 (pv 4) BK (@Ao _ _ (by decide) (by decide))))))).pt (@Ac _ _ _ (@Ar _ _ _ _ C9)) AN) (@A6 _ _ _ _ _ (@Aj _ _ (5) _ _ _ _ Ha.nd rfl (.inl rfl) (@AC _ _ _ _ _ _ _ _ _ _ _ _ _ _ _ _ G_x (hr.mono (by omega)) (by rfl) T.m_x T.F_x.kp T.b_x .nil Au (@A0 _ _ _ _ _ (pv 4) A4 (by rfl)) (by decide) (by rfl) (by rfl)) (by rfl) (by first|exact .inl rfl|exact .inr rfl|assumption)) (@A6 _ _ _ _ _ (@AI _ _ _ _ _ _ _ _ ((@Cb _ _ _ _ _ _ _ (@An _ _ _ _ _ _ _ _ E1 (pv 5) BK (@Ao _ _ (by decide) (by decide))) (@Cb _ _ _ _ _ _ _ (@E6 _ _ _ _ (@Cm _ _ _ (@AC _ _ _ _ _ _ _ _ _ _ _ _ _ _ _ _ G_y (hr.mono (by omega)) (by rfl) T.m_y T.F_y.kp T.b_y .nil Au (@A0 _ _ _ _ _ (pv 0) (@A0 _ _ _ _ _ (@Ae _ _ _ _ _ _ _ _ EL (@Bl _ _ _ _ (@A0 _ _ _ _ _ (pv 3) A4 (by rfl))) (pv 4)) A4 (by rfl)) (by rfl)) (by decide) (by rfl) (by rfl)) (by intro _;rfl))) (@CT _ _ _ _ (@E6 _ _ _ _ (@Cm _ _ _ (@AC _ _ _ _ _ _ _ _ _ _ _ _ _ _ _ _ G_z (hr.mono (by omega)) (by rfl) T.m_z T.F_z.kp T.b_z .nil Au (@A0 _ _ _ _ _ (pv 0) (@A0 _ _ _ _ _ (@Ae _ _ _ _ _ _ _ _ EL (@Bl _ _ _ _ (@A0 _ _ _ _ _ (pv 3) A4 (by rfl))) (pv 4)) A4 (by rfl)) (by rfl)) (by decide) (by rfl) (by rfl)) (by intro _;rfl))))))).pt (@Ac _ _ _ (@Ar _ _ _ _ C9)) AN) (@A6 _ _ _ _ _ (@Bt _ _ _ _ (@Be _ _ _ _ _ _ _ _ _ _ _ _ Bo Cf Cg C4 (@Bj _ _ _ _ _ (pv 0) rfl) (@A0 _ _ _ _ _ (@Gn _ _ _ _ _ _ _ _ _ _ _ _ _ _ _ _ _ T.mk_Deed G_S (hr.mono (by omega)) (by rfl) T.mc_Deed T.b_S .nil Au (@A0 _ _ _ _ _ (@Dl _ _ _ _ _ _ _ _ _ Fu (by rfl) T.z_tuple FM (@A0 _ _ _ _ _ (@Bj _ _ _ _ _ (pv 0) rfl) A4 (by rfl)) (by decide) (by decide) (by rfl) (by rfl)) (@A0 _ _ _ _ _ (@Dl _ _ _ _ _ _ _ _ _ Fu (by rfl) T.z_tuple FM (@A0 _ _ _ _ _ (@Bj _ _ _ _ _ (pv 0) rfl) A4 (by rfl)) (by decide) (by decide) (by rfl) (by rfl)) (@A0 _ _ _ _ _ (@Dl _ _ _ _ _ _ _ _ _ Fu (by rfl) T.z_tuple FM (@A0 _ _ _ _ _ (@Bj _ _ _ _ _ (pv 0) rfl) A4 (by rfl)) (by decide) (by decide) (by rfl) (by rfl)) (@A0 _ _ _ _ _ (@Bj _ _ _ _ _ (pv 3) rfl) (@A0 _ _ _ _ _ (@Bj _ _ _ _ _ (pv 3) rfl) (@A0 _ _ _ _ _ (pv 5) (@A0 _ _ _ _ _ (@Dl _ _ _ _ _ _ _ _ _ Fu (by rfl) T.z_tuple FM (@A0 _ _ _ _ _ (@Bj _ _ _ _ _ (pv 0) rfl) A4 (by rfl)) (by decide) (by decide) (by rfl) (by rfl)) A4 (by rfl)) (by rfl)) (by rfl)) (by rfl)) (by rfl)) (by rfl)) (by rfl)) (by decide) (by rfl) (by rfl)) A4 (by rfl)) (by rfl) (by rfl) (by rfl) (by rfl) (by rfl)) (by rfl)) (@A6 _ _ _ _ _ (@Mi _ _ _ _ _ _ _ _ _ _ _ _ _ (@Bj _ _ _ _ _ (pv 0) rfl) (@CN _ _ _ _ _ _ CH A3) NC A3 Kr Ow (by intros;rfl)) (@Ac _ _ _ (@Ar _ _ _ _ C9)))))))))),?_⟩
 obtain⟨s0,d6,okc,okk,adj,kl,⟨Tt,S,hrun,hjw⟩,kn,kf,rfl⟩:=hs
 have n61:61∉cds (B3 tb sp):=Rd.cel_no okc
 have hp:D1 61 (cds z)=[.str (B3 tb sp),.str ⟨#[61]⟩,.str (Ax (Rd.txts ks))]:=by
  unfold D1
  rw[hz]
  unfold Rd.dedT
  rw[Af (Cp _ AR),(Rd.bef_app n61).1,(Rd.bef_app n61).2,E9]
 have hlen:=cds_len z
 have tl2:(Ax (Rd.txts ks)).length<=100000:=by
  rw[Dp]
  have e:=congrArg List.length hz
  unfold Rd.dedT at e
  rw[Ap,AO]at e
  omega
 refine⟨_,rfl,rfl,_,61,rfl,rfl,AF (by omega),fun r hr'=>?_⟩
 rw[hp]
 have e1:=Ab hr' (.tup [.str (B3 tb sp),.str ⟨#[61]⟩,.str (Ax (Rd.txts ks))])
 have hr1:(upd H r (.tup [.str (B3 tb sp),.str ⟨#[61]⟩,.str (Ax (Rd.txts ks))])) r=_:=A5
 generalize upd H r (.tup [.str (B3 tb sp),.str ⟨#[61]⟩,.str (Ax (Rd.txts ks))])=H1 at e1 hr1
 dsimp only[Am]
 refine⟨_,rfl,r,_,_,_,rfl,rfl,Aw.of hr1,rfl,tb,sp,rfl,okc,fun cx H2 e2 hc2=>?_⟩
 dsimp only[Am]
 have hr2:=e2 _ _ hr1
 refine⟨_,rfl,r,_,_,_,rfl,rfl,Aw.of hr2,rfl,_,ks,rfl,Ba _,tl2,okk,adj,fun pl xs H3 e3 hpl hxs pa3=>?_⟩
 dsimp only[Am]
 have e13:=e1.trans (e2.trans e3)
 have hD3:=hD.over e13
 have hc3:=Bs.over e3 hc2
 obtain⟨c0,cdx,cp,rfl,hc0,hcp⟩:=hc3
 obtain⟨ds,hds,pds⟩:=hD3.dd
 refine⟨_,rfl,B.d,_,B.dx,_,_,rfl,hD3.o,T.cl_Draft,T.n_Draft_deeds,rfl,B.dl,_,rfl,.inl (A2.of hds),rfl,_,rfl,?_⟩
 refine Az (fun y=>absurd (V.int.inj (dT y)) (by rw[pds.1];omega)) (fun _=>?_)
 refine⟨_,rfl,rfl,_,rfl,AA ?_⟩
 refine⟨_,rfl,rfl,_,rfl,AA ?_⟩
 refine⟨_,rfl,pl,xs,ks,Tt,S,t,rfl,hxs,pa3,(by rw[pa3.1];omega),okk,hrun,hjw,fun tv H4 e4 htv=>?_⟩
 dsimp only[Am]
 have tn:tv≠.non:=by
  cases t with
  |n i=>obtain⟨_,_,rfl,_⟩:=htv;exact fun z=>nomatch z
  |v z=>obtain⟨_,_,rfl,_⟩:=htv;exact fun z=>nomatch z
  |c z sp=>obtain⟨_,_,_,rfl,_⟩:=htv;exact fun z=>nomatch z
  |j z l r=>obtain⟨_,_,_,_,rfl,_⟩:=htv;exact fun z=>nomatch z
 refine⟨_,rfl,rfl,_,rfl,?_⟩
 refine Az (fun y=>absurd (dT y) tn) (fun _=>?_)
 have e14:=e13.trans e4
 have xl:xs.length<=999:=by rw[pa3.1];exact kl
 refine⟨_,rfl,_,rfl,AD rfl,fun l1 hl1=>⟨_,rfl,l1,pl,[.ref c0],xs,rfl,rfl,A5,(Ab hl1 _) _ _ (e4 _ _ hxs),AF (by show 1+_<=_;omega),fun l2 hl2=>?_⟩⟩
 have e5:=e4.trans ((Ab hl1 (.lst [.ref c0])).trans (Ab hl2 (.lst ([.ref c0]++xs))))
 have hl25:(upd (upd H4 l1 (.lst [.ref c0])) l2 (.lst ([.ref c0]++xs))) l2=some (.lst ([.ref c0]++xs)):=A5
 have htv5:=Bs.over ((Ab hl1 (.lst [.ref c0])).trans (Ab hl2 (.lst ([.ref c0]++xs)))) htv
 generalize upd (upd H4 l1 (.lst [.ref c0])) l2 (.lst ([.ref c0]++xs))=H5 at e5 hl25 htv5
 have hcel:Bs (BF a) H3 (.c tb sp) (.ref c0):=⟨c0,cdx,cp,rfl,hc0,hcp⟩
 have pall:AE (Rd.PtAt (BF a) H3) ([.ref c0]++xs) (.t (.c tb sp)::ks):=AE.cons hcel pa3
 have oall:∀k∈Rd.Tk.t (.c tb sp)::ks,k.Ok:=fun k hk=>by
  rcases AH.mp hk with rfl|hk
  .exact okc
  .exact okk k hk
 refine⟨B.d,l2,_,_,.t (.c tb sp)::ks,rfl,(hD3.over e5).drn,hl25,pall.mono fun _ _ x=>x.over e5,oall,kn,fun H6 e6=>⟨_,rfl,AA ?_⟩⟩
 have e36:=e5.trans e6
 have hD6:=hD3.over e36
 refine⟨_,rfl,_,rfl,AD rfl,fun l1 hl1=>⟨_,rfl,l1,pl,[.ref c0],xs,rfl,rfl,A5,(Ab hl1 _) _ _ (e36 _ _ hxs),AF (by show 1+_<=_;omega),fun l2 hl2=>?_⟩⟩
 have e7:=e36.trans ((Ab hl1 (.lst [.ref c0])).trans (Ab hl2 (.lst ([.ref c0]++xs))))
 have hl27:(upd (upd H6 l1 (.lst [.ref c0])) l2 (.lst ([.ref c0]++xs))) l2=some (.lst ([.ref c0]++xs)):=A5
 have htv7:=Bs.over (e6.trans ((Ab hl1 (.lst [.ref c0])).trans (Ab hl2 (.lst ([.ref c0]++xs))))) htv5
 generalize upd (upd H6 l1 (.lst [.ref c0])) l2 (.lst ([.ref c0]++xs))=H7 at e7 hl27 htv7
 have hD7:=hD3.over e7
 obtain⟨tbs,ht7,hf7,tl7⟩:=hD7.tb
 refine⟨B.d,l2,B.dx,B.tl,_,_,.t (.c tb sp)::ks,f,tbs,rfl,hD7.o,rfl,ht7,hf7,(by rw[AO];omega),hl27,pall.mono fun _ _ x=>x.over e7,oall,kf,fun H8 tb8 e8 ht8 hf8 tl8=>⟨_,rfl,AA ?_⟩⟩
 obtain⟨kp8,out8,o8,⟨ds8,hds8,pds8⟩,nm8,⟨ls8,hls8,pls8⟩,⟨hs8,hhs8,phs8⟩,pa8⟩:=hD7.tabs e8
 have hD8:Rd.DrAt a.c_Draft a.c_Deed (BF a) f H7 B D:=hD7
 have htv8:=Rd.tb_kp kp8 htv7
 have hc8:=Rd.tb_kp kp8 (Bs.over e7 hcel)
 obtain⟨c0',cdx',cp',ec0,hc0,hcp⟩:=hc8
 cases ec0
 clear hc2 hcel pall
 refine⟨_,rfl,B.d,_,B.dx,_,_,rfl,o8,T.cl_Draft,T.n_Draft_deeds,rfl,.inl ⟨rfl,_,A2.of hds8⟩,?_⟩
 refine⟨_,rfl,B.d,_,B.dx,_,_,rfl,o8,T.cl_Draft,T.n_Draft_names,rfl,B.nl,_,rfl,.inl ⟨A2.of nm8,fun t1 ht1=>?_⟩⟩
 have s1:=Ab ht1 (.tup (D.lp.map fun t=>V.str t.nm))
 have g1:(upd H8 t1 (.tup (D.lp.map fun t=>V.str t.nm))) t1=_:=A5
 generalize upd H8 t1 (.tup (D.lp.map fun t=>V.str t.nm))=H9 at s1 g1
 refine⟨_,rfl,B.d,_,B.dx,_,_,rfl,s1 _ _ o8,T.cl_Draft,T.n_Draft_lows,rfl,B.ll,_,rfl,.inl ⟨A2.of (s1 _ _ hls8),fun t2 ht2=>?_⟩⟩
 have s2:=s1.trans (Ab ht2 (.tup ls8))
 have g1:=(Ab ht2 (.tup ls8)) _ _ g1
 have g2:(upd H9 t2 (.tup ls8)) t2=_:=A5
 generalize upd H9 t2 (.tup ls8)=H10 at s2 g1 g2
 refine⟨_,rfl,B.d,_,B.dx,_,_,rfl,s2 _ _ o8,T.cl_Draft,T.n_Draft_highs,rfl,B.hl,_,rfl,.inl ⟨A2.of (s2 _ _ hhs8),fun t3 ht3=>?_⟩⟩
 have s3:=s2.trans (Ab ht3 (.tup hs8))
 have g1:=(Ab ht3 (.tup hs8)) _ _ g1
 have g2:=(Ab ht3 (.tup hs8)) _ _ g2
 have g3:(upd H10 t3 (.tup hs8)) t3=_:=A5
 generalize upd H10 t3 (.tup hs8)=H11 at s3 g1 g2 g3
 refine⟨_,rfl,c0,_,cdx',_,_,rfl,s3 _ _ hc0,T.cl_Cell,T.n_Cell_table,rfl,_,rfl,c0,_,cdx',_,_,rfl,s3 _ _ hc0,T.cl_Cell,T.n_Cell_spots,rfl,_,rfl,?_⟩
 refine⟨_,rfl,B.d,_,B.dx,_,_,rfl,s3 _ _ o8,T.cl_Draft,T.n_Draft_path,rfl,B.pl,_,rfl,.inl ⟨A2.of (s3 _ _ pa8),fun t4 ht4=>?_⟩⟩
 have s4:=s3.trans (Ab ht4 (.tup ((D.pa++[D.la]).map V.int)))
 have g1:=(Ab ht4 (.tup ((D.pa++[D.la]).map V.int))) _ _ g1
 have g2:=(Ab ht4 (.tup ((D.pa++[D.la]).map V.int))) _ _ g2
 have g3:=(Ab ht4 (.tup ((D.pa++[D.la]).map V.int))) _ _ g3
 have g4:(upd H11 t4 (.tup ((D.pa++[D.la]).map V.int))) t4=_:=A5
 generalize upd H11 t4 (.tup ((D.pa++[D.la]).map V.int))=H12 at s4 g1 g2 g3 g4
 intro x dx nx ndx ne
 refine⟨x,dx,_,_,_,_,_,_,_,rfl,A5,fun H13 k13 hx13=>⟨rfl,?_⟩⟩
 obtain⟨dx2,hx13⟩:=hx13
 have m13:=FB nx ndx k13
 have s5:=s4.trans m13
 have hds13:=s5 _ _ hds8
 have hDo:Eb a.c_Deed (BF a) H13 (.ref x) ⟨D.lp,tb,sp,t,D.pa++[D.la]⟩:=⟨x,dx2,t1,t2,t3,cp',t4,tv,ls8,hs8,rfl,hx13,m13 _ _ g1,m13 _ _ g2,pls8.mono fun _ _ z=>z.tk (A8.tk s5),m13 _ _ g3,phs8.mono fun _ _ z=>z.tk (A8.tk s5),hcp.tk (A8.tk s5),Bs.over s5 htv8,m13 _ _ g4⟩
 have pa13:H13 B.pl=some (.lst (D.pa.map V.int++[.int D.la])):=by rw[s5 _ _ pa8,AW];rfl
 have k13:=hD7.deed (s5 _ _ o8) (s5 _ _ nm8) (s5 _ _ hls8) (pls8.mono fun _ _ z=>z.tk (A8.tk s5)) (s5 _ _ hhs8) (phs8.mono fun _ _ z=>z.tk (A8.tk s5)) pa13 hds13 (pds8.mono fun _ _ z=>z.over s5) hDo (s5 _ _ ht8) hf8 (by rw[AO]at tl8;omega)
 obtain⟨⟨a1,a2,a3,a4⟩,_⟩:=hD7.nds
 have n4:=hD7.ne.2.2.2.2.1
 have o14:(upd H13 B.dl (.lst (ds8++[.ref x]))) B.d=_:=(A7 (Ne.symm n4)).trans (s5 _ _ o8)
 have p14:(upd H13 B.dl (.lst (ds8++[.ref x]))) B.pl=_:=(A7 (Ne.symm a4)).trans pa13
 refine⟨B.dl,_,_,rfl,rfl,hds13,C5 (by rw[pds8.1];omega),?_⟩
 refine⟨_,rfl,B.d,_,B.dx,_,_,rfl,o14,T.cl_Draft,T.n_Draft_path,rfl,_,rfl,B.pl,_,_,rfl,rfl,p14,_,_,rfl,rfl,B.pl,_,_,_,rfl,rfl,p14,Rd.ix_end _ _,?_⟩
 rw[Rd.set_last]
 exact q _ ((Rd.Out.of (e13.trans e7)).trans (out8.trans ((Rd.Out.of s5).trans k13.1))) k13.2
theorem Q0 (T:Tx w K mg a):AJ P w K mg base AS 3 a.f_B a.d_B ["draft","words"] (Rd.spSizeT a.c_Draft a.c_Deed (BF a)):=by
 have G_b :=@Hz P w K mg base a T
 refine T.F_B.ok Mf (fun vs H Q E h=>?_) (fun cdv A outer s H vs Q E hr h=>?_)
 .obtain⟨_,_,_,_,_,_,rfl,_⟩:=h;rfl
 obtain⟨f,B,D,D',wl,n,rfl,hD,hw,hs,q⟩:=h
 refine⟨_,(@A6 _ _ _ _ _ (@AI _ _ _ _ _ _ _ _ ((@Cb _ _ _ _ _ _ _ (@An _ _ _ _ _ _ _ _ DQ (@B6 _ _ _ _ _ _ _ _ _ BO (by rfl) T.z_len BB (@A0 _ _ _ _ _ (pv 1) A4 (by rfl)) (by decide) (by decide) (by rfl) (by rfl)) A3 (@Ao _ _ (by decide) (by decide))) (@CT _ _ _ _ (@An _ _ _ _ _ _ _ _ DQ (@Ag _ _ _ _ _ _ _ AV (pv 1) A3 (fun _ _=>rfl)) Av (@Ao _ _ (by decide) (by decide)))))).pt (@Ac _ _ _ (@Ar _ _ _ _ C9)) AN) (@A6 _ _ _ _ _ (@Aj _ _ (2) _ _ _ _ Mf.nd rfl (.inl rfl) (@AC _ _ _ _ _ _ _ _ _ _ _ _ _ _ _ _ G_b (hr.mono (by omega)) (by rfl) T.m_b T.F_b.kp T.b_b .nil Au (@A0 _ _ _ _ _ (@Ag _ _ _ _ _ _ _ AV (pv 1) A3 (fun _ _=>rfl)) A4 (by rfl)) (by decide) (by rfl) (by rfl)) (by rfl) (by first|exact .inl rfl|exact .inr rfl|assumption)) (@A6 _ _ _ _ _ (@AI _ _ _ _ _ _ _ _ ((@Cb _ _ _ _ _ _ _ (@An _ _ _ _ _ _ _ _ E1 (pv 2) BK (@Ao _ _ (by decide) (by decide))) (@CT _ _ _ _ (@An _ _ _ _ _ _ _ _ F0 (pv 2) (@Ck _ _ _ _ _ (by rfl) T.g_LEAST_SIZE T.r_LEAST_SIZE (by decide)) (@Ao _ _ (by decide) (by decide)))))).pt (@Ac _ _ _ (@Ar _ _ _ _ C9)) AN) (@A6 _ _ _ _ _ (@BZ _ _ _ _ _ _ _ _ (pv 0) (pv 2) rfl) (@Ac _ _ _ (@Ar _ _ _ _ C9)))))),?_⟩
 obtain⟨s0,s1,s2,rfl⟩:=hs
 obtain⟨gd,dg⟩:=Rd.nS_good (i:=n) (by omega) s2
 have nv:EO (cds (nS n)) = .int n:=by unfold EO;rw[Af gd];exact congrArg V.int dg
 have nl:(nS n).length<=1000:=by rw[←cds_len];have:=gd.2.1;omega
 refine⟨_,rfl,wl,_,rfl,.inl (A2.of hw),rfl,_,rfl,AA ?_⟩
 refine⟨_,rfl,wl,_,_,_,rfl,rfl,A2.of hw,rfl,rfl,_,rfl,AA ?_⟩
 refine⟨_,rfl,wl,_,_,_,rfl,rfl,A2.of hw,rfl,_,rfl,nl,fun H1 e1=>?_⟩
 rw[nv]
 dsimp only[Am]
 refine⟨_,rfl,rfl,_,rfl,AA ?_⟩
 refine⟨_,rfl,_,_,rfl,rfl,_,rfl,?_⟩
 rw[Bv (show ¬n<2 by omega)]
 refine AA ?_
 have hD1:=hD.over e1
 obtain⟨o2,d2⟩:=hD1.size n
 exact⟨_,rfl,_,rfl,B.d,_,B.dx,_,rfl,hD1.o,T.cl_Draft,T.n_Draft_size,(by show 7<1000;decide),q _ ((Rd.Out.of e1).trans o2) d2⟩
theorem V8 (T:Tx w K mg a):AJ P w K mg base AS 5 a.f_C a.d_C ["draft","words"] (Rd.spLoopT a.c_Draft a.c_Deed (BF a)):=by
 have G_a :=@Gx P w K mg base a T
 have G_e :=@Mv P w K mg base a T
 have G_k :=@Nh P w K mg base a T
 refine T.F_C.ok Kv (fun vs H Q E h=>?_) (fun cdv A outer s H vs Q E hr h=>?_)
 .obtain⟨_,_,_,_,_,_,rfl,_⟩:=h;rfl
 obtain⟨f,B,D,D',wl,t,rfl,hD,hw,hs,q⟩:=h
 refine⟨_,(@A6 _ _ _ _ _ (@AI _ _ _ _ _ _ _ _ ((@Cb _ _ _ _ _ _ _ (@An _ _ _ _ _ _ _ _ DQ (@B6 _ _ _ _ _ _ _ _ _ BO (by rfl) T.z_len BB (@A0 _ _ _ _ _ (pv 1) A4 (by rfl)) (by decide) (by decide) (by rfl) (by rfl)) A3 (@Ao _ _ (by decide) (by decide))) (@CT _ _ _ _ (@An _ _ _ _ _ _ _ _ BC (@B6 _ _ _ _ _ _ _ _ _ BO (by rfl) T.z_len BB (@A0 _ _ _ _ _ (@Bj _ _ _ _ _ (pv 0) rfl) A4 (by rfl)) (by decide) (by decide) (by rfl) (by rfl)) (@Ck _ _ _ _ _ (by rfl) T.g_MOST_LOOPS T.r_MOST_LOOPS (by decide)) (@Ao _ _ (by decide) (by decide)))))).pt (@Ac _ _ _ (@Ar _ _ _ _ C9)) AN) (@A6 _ _ _ _ _ (@AI _ _ _ _ _ _ _ _ ((@Cb _ _ _ _ _ _ _ (@E6 _ _ _ _ (@Cm _ _ _ (@AC _ _ _ _ _ _ _ _ _ _ _ _ _ _ _ _ G_a (hr.mono (by omega)) (by rfl) T.m_a T.F_a.kp T.b_a .nil Au (@A0 _ _ _ _ _ (@Ag _ _ _ _ _ _ _ AV (pv 1) A3 (fun _ _=>rfl)) A4 (by rfl)) (by decide) (by rfl) (by rfl)) (by intro _;rfl))) (@CT _ _ _ _ (@An _ _ _ _ _ _ _ _ GD (@Ag _ _ _ _ _ _ _ AV (pv 1) A3 (fun _ _=>rfl)) (@Bj _ _ _ _ _ (pv 0) rfl) (by with_unfolding_all rfl))))).pt (@Ac _ _ _ (@Ar _ _ _ _ C9)) AN) (@A6 _ _ _ _ _ (@Aj _ _ (2) _ _ _ _ Kv.nd rfl (.inl rfl) (@AC _ _ _ _ _ _ _ _ _ _ _ _ _ _ _ _ G_e (hr.mono (by omega)) (by rfl) T.m_e T.F_e.kp T.b_e .nil Au (@A0 _ _ _ _ _ (@Ag _ _ _ _ _ _ _ AV (pv 1) A3 (fun _ _=>rfl)) A4 (by rfl)) (by decide) (by rfl) (by rfl)) (by rfl) (by first|exact .inl rfl|exact .inr rfl|assumption)) (@A6 _ _ _ _ _ (@Aj _ _ (3) _ _ _ _ Kv.nd rfl (.inl rfl) (@AC _ _ _ _ _ _ _ _ _ _ _ _ _ _ _ _ G_e (hr.mono (by omega)) (by rfl) T.m_e T.F_e.kp T.b_e .nil Au (@A0 _ _ _ _ _ (@Ag _ _ _ _ _ _ _ AV (pv 1) A3 (fun _ _=>rfl)) A4 (by rfl)) (by decide) (by rfl) (by rfl)) (by rfl) (by first|exact .inl rfl|exact .inr rfl|assumption)) (@A6 _ _ _ _ _ (@AI _ _ _ _ _ _ _ _ ((@Cb _ _ _ _ _ _ _ (@An _ _ _ _ _ _ _ _ E1 (pv 2) BK (@Ao _ _ (by decide) (by decide))) (@Cb _ _ _ _ _ _ _ (@An _ _ _ _ _ _ _ _ E1 (pv 3) BK (@Ao _ _ (by decide) (by decide))) (@CT _ _ _ _ (@E6 _ _ _ _ (@Cm _ _ _ (@AC _ _ _ _ _ _ _ _ _ _ _ _ _ _ _ _ G_k (hr.mono (by omega)) (by rfl) T.m_k T.F_k.kp T.b_k .nil Au (@A0 _ _ _ _ _ (pv 0) (@A0 _ _ _ _ _ (@CJ _ _ _ _ _ (@A0 _ _ _ _ _ (pv 2) (@A0 _ _ _ _ _ (pv 3) A4 (by rfl)) (by rfl))) A4 (by rfl)) (by rfl)) (by decide) (by rfl) (by rfl)) (by intro _;rfl))))))).pt (@Ac _ _ _ (@Ar _ _ _ _ C9)) AN) (@A6 _ _ _ _ _ (@Bt _ _ _ _ (@Be _ _ _ _ _ _ _ _ _ _ _ _ Bo Cf Cg C4 (@Bj _ _ _ _ _ (pv 0) rfl) (@A0 _ _ _ _ _ (@Ag _ _ _ _ _ _ _ AV (pv 1) A3 (fun _ _=>rfl)) A4 (by rfl)) (by rfl) (by rfl) (by rfl) (by rfl) (by rfl)) (by rfl)) (@A6 _ _ _ _ _ (@Bt _ _ _ _ (@Be _ _ _ _ _ _ _ _ _ _ _ _ Bo Cf Cg C4 (@Bj _ _ _ _ _ (pv 0) rfl) (@A0 _ _ _ _ _ (pv 2) A4 (by rfl)) (by rfl) (by rfl) (by rfl) (by rfl) (by rfl)) (by rfl)) (@A6 _ _ _ _ _ (@Bt _ _ _ _ (@Be _ _ _ _ _ _ _ _ _ _ _ _ Bo Cf Cg C4 (@Bj _ _ _ _ _ (pv 0) rfl) (@A0 _ _ _ _ _ (pv 3) A4 (by rfl)) (by rfl) (by rfl) (by rfl) (by rfl) (by rfl)) (by rfl)) (@A6 _ _ _ _ _ (@Bt _ _ _ _ (@Be _ _ _ _ _ _ _ _ _ _ _ _ Bo Cf Cg C4 (@Bj _ _ _ _ _ (pv 0) rfl) (@A0 _ _ _ _ _ A3 A4 (by rfl)) (by rfl) (by rfl) (by rfl) (by rfl) (by rfl)) (by rfl)) (@Ac _ _ _ (@Ar _ _ _ _ C9))))))))))),?_⟩
 obtain⟨s0,l3,hnm,hnin,slo,shi,klo,khi,rfl⟩:=hs
 have zl:t.nm.length<=1000:=by have:=hnm.2.1;rw[cds_len]at this;omega
 refine⟨_,rfl,wl,_,rfl,.inl (A2.of hw),rfl,_,rfl,AA ?_⟩
 refine⟨_,rfl,B.d,_,B.dx,_,_,rfl,hD.o,T.cl_Draft,T.n_Draft_names,rfl,B.nl,_,rfl,.inl (A2.of hD.nm),rfl,_,rfl,?_⟩
 refine Az (fun y=>absurd (V.int.inj (dT y)) (by rw[Aq];omega)) (fun _=>?_)
 refine⟨_,rfl,wl,_,_,_,rfl,rfl,A2.of hw,rfl,_,rfl,zl,fun H1 e1=>⟨_,rfl,?_⟩⟩
 rw[B7 hnm]
 refine AA ?_
 have hD1:=hD.over e1
 have hw1:=e1 _ _ hw
 have hn1:H1 B.nl=some (.lst ((D.lp.map (·.nm)).map V.str)):=by rw[JY];exact hD1.nm
 refine⟨_,rfl,wl,_,_,_,rfl,rfl,A2.of hw1,rfl,_,rfl,B.d,_,B.dx,_,_,rfl,hD1.o,T.cl_Draft,T.n_Draft_names,rfl,B.nl,_,rfl,.inl (A2.of hn1),rfl,Rd.flat_strs _,_,rfl,?_⟩
 rw[show CZ (V.str t.nm) ((D.lp.map (·.nm)).map V.str)=false from(Rd.in_strs _ _).trans (Bv hnin)]
 refine AA ?_
 refine⟨_,rfl,wl,_,_,_,rfl,rfl,A2.of hw1,rfl,_,rfl,(by have:=ER slo.2;omega),?_⟩
 rw[Rd.spot_read slo]
 intro r2 H2 e2 h2
 rw[E9]at h2
 dsimp only[Am]
 have hw2:=e2 _ _ hw1
 refine⟨_,rfl,wl,_,_,_,rfl,rfl,A2.of hw2,rfl,_,rfl,(by have:=ER shi.2;omega),?_⟩
 rw[Rd.spot_read shi]
 intro r3 H3 e3 h3
 rw[E9]at h3
 dsimp only[Am]
 refine⟨_,rfl,rfl,_,rfl,AA ?_⟩
 refine⟨_,rfl,rfl,_,rfl,AA ?_⟩
 refine⟨_,rfl,_,rfl,_,rfl,AD rfl,fun tp htp=>?_⟩
 have e4:=e1.trans (e2.trans (e3.trans (Ab htp (.tup [.ref r2,.ref r3]))))
 have h24:=(e3.trans (Ab htp (.tup [.ref r2,.ref r3]))) _ _ h2
 have h34:=(Ab htp (.tup [.ref r2,.ref r3])) _ _ h3
 have htp4:(upd H3 tp (.tup [.ref r2,.ref r3])) tp=some (.tup [.ref r2,.ref r3]):=A5
 generalize upd H3 tp (.tup [.ref r2,.ref r3])=H4 at e4 h24 h34 htp4
 refine⟨B.d,tp,_,[t.lo,t.hi],rfl,(hD.over e4).drn,⟨_,htp4,rfl,fun i x s hx hs=>?_⟩,(by show 2<=1000;decide),fun H5 e5=>⟨_,rfl,?_⟩⟩
 .match i,hx,hs with
  |0,hx,hs=>cases hx;cases hs;exact⟨r2,rfl,h24⟩
  |1,hx,hs=>cases hx;cases hs;exact⟨r3,rfl,h34⟩
  |_+2,hx,hs=>cases hx
 rw[show([t.lo,t.hi].all (Rd.knw (D.lp.map (·.nm))))=true from by rw[LH,LH,klo,khi];rfl]
 refine AA ?_
 have e05:=e4.trans e5
 have hD5:=hD.over e05
 have hw5:=e05 _ _ hw
 have s2:C3 H5 (.ref r2) t.lo:=⟨r2,rfl,e5 _ _ h24⟩
 have s3:C3 H5 (.ref r3) t.hi:=⟨r3,rfl,e5 _ _ h34⟩
 obtain⟨y1,y2,y3,y4,y5,y6,m1,m2,m3,m4,m5⟩:=hD5.ne
 obtain⟨⟨a1,a2,a3,a4⟩,⟨b1,b2,b3⟩,⟨c1,c2⟩,d1⟩:=hD5.nds
 obtain⟨ls,hls,pls⟩:=hD5.lo
 obtain⟨hs,hhs,phs⟩:=hD5.hi
 have k4:=hD5.four (lp:=D.lp++[t]) (pa:=D.pa++[D.la]) (la:=0) (pls.snoc s2) (phs.snoc s3) (by rw[Ap,Ap,hD5.pl];rfl)
 have hnm5:=hD5.nm
 refine⟨_,rfl,B.d,_,B.dx,_,_,rfl,hD5.o,T.cl_Draft,T.n_Draft_names,rfl,.inl ⟨rfl,_,A2.of hnm5⟩,_,rfl,wl,_,_,_,rfl,rfl,A2.of hw5,rfl,B.nl,_,_,rfl,rfl,hnm5,C5 (by rw[Aq];omega),?_⟩
 rw[show D.lp.map (fun t=>V.str t.nm)++[.str t.nm]=(D.lp++[t]).map (fun t=>V.str t.nm) from by rw[AW];rfl]
 have o1:(upd H5 B.nl (.lst ((D.lp++[t]).map fun t=>V.str t.nm))) B.d=_:=((A7 (Ne.symm y1)).trans hD5.o)
 have l1:(upd H5 B.nl (.lst ((D.lp++[t]).map fun t=>V.str t.nm))) B.ll=_:=((A7 (Ne.symm b1)).trans hls)
 refine⟨_,rfl,B.d,_,B.dx,_,_,rfl,o1,T.cl_Draft,T.n_Draft_lows,rfl,.inl ⟨rfl,_,A2.of l1⟩,_,rfl,B.ll,_,_,rfl,rfl,l1,C5 (by rw[pls.1];omega),?_⟩
 have o2:(upd (upd H5 B.nl (.lst ((D.lp++[t]).map fun t=>V.str t.nm))) B.ll (.lst (ls++[.ref r2]))) B.d=_:=((A7 (Ne.symm y2)).trans o1)
 have l2:(upd (upd H5 B.nl (.lst ((D.lp++[t]).map fun t=>V.str t.nm))) B.ll (.lst (ls++[.ref r2]))) B.hl=_:=((A7 (Ne.symm c1)).trans ((A7 (Ne.symm b2)).trans hhs))
 refine⟨_,rfl,B.d,_,B.dx,_,_,rfl,o2,T.cl_Draft,T.n_Draft_highs,rfl,.inl ⟨rfl,_,A2.of l2⟩,_,rfl,B.hl,_,_,rfl,rfl,l2,C5 (by rw[phs.1];omega),?_⟩
 have o3:(upd (upd (upd H5 B.nl (.lst ((D.lp++[t]).map fun t=>V.str t.nm))) B.ll (.lst (ls++[.ref r2]))) B.hl (.lst (hs++[.ref r3]))) B.d=_:=((A7 (Ne.symm y3)).trans o2)
 have l3':(upd (upd (upd H5 B.nl (.lst ((D.lp++[t]).map fun t=>V.str t.nm))) B.ll (.lst (ls++[.ref r2]))) B.hl (.lst (hs++[.ref r3]))) B.pl=_:=((A7 (Ne.symm d1)).trans ((A7 (Ne.symm c2)).trans ((A7 (Ne.symm b3)).trans hD5.pa)))
 refine⟨_,rfl,B.d,_,B.dx,_,_,rfl,o3,T.cl_Draft,T.n_Draft_path,rfl,.inl ⟨rfl,_,A2.of l3'⟩,B.pl,_,_,rfl,rfl,l3',C5 (by rw[Aq,Ap,hD5.pl,Bk];omega),?_⟩
 rw[AW (f:=V.int) (l₁:=D.pa++[D.la]) (l₂:=[0])]at k4
 exact q _ ((Rd.Out.of e05).trans k4.1) k4.2
theorem Sb (T:Tx w K mg a):AJ P w K mg base AS 1 a.f_D a.d_D ["draft","words"] (Rd.spEndT a.c_Draft a.c_Deed (BF a)):=by
 refine T.F_D.ok Sy (fun vs H Q E h=>?_) (fun cdv A outer s H vs Q E hr h=>?_)
 .obtain⟨_,_,_,_,_,rfl,_⟩:=h;rfl
 obtain⟨f,B,D,D',wl,rfl,hD,hw,hs,q⟩:=h
 refine⟨_,(@A6 _ _ _ _ _ (@AI _ _ _ _ _ _ _ _ ((@Cb _ _ _ _ _ _ _ (@An _ _ _ _ _ _ _ _ DQ (@B6 _ _ _ _ _ _ _ _ _ BO (by rfl) T.z_len BB (@A0 _ _ _ _ _ (pv 1) A4 (by rfl)) (by decide) (by decide) (by rfl) (by rfl)) A3 (@Ao _ _ (by decide) (by decide))) (@Cb _ _ _ _ _ _ _ (@An _ _ _ _ _ _ _ _ (@Jt _ (@EY _ _ hr)) (@Bj _ _ _ _ _ (pv 0) rfl) (@Bl _ _ _ _ A4) (@Ao _ _ (by decide) (by decide))) (@CT _ _ _ _ (@An _ _ _ _ _ _ _ _ BC (@Ag _ _ _ _ _ _ _ AV (@Bj _ _ _ _ _ (pv 0) rfl) (@CN _ _ _ _ _ _ CH A3) (fun _ _=>rfl)) A3 (@Ao _ _ (by decide) (by decide))))))).pt (@Ac _ _ _ (@Ar _ _ _ _ C9)) AN) (@A6 _ _ _ _ _ (@Bt _ _ _ _ (@DB _ _ _ _ _ _ _ _ _ Bo DX DY Dz (@Bj _ _ _ _ _ (pv 0) rfl) (by rfl) (by rfl)) (by rfl)) (@A6 _ _ _ _ _ (@Bt _ _ _ _ (@DB _ _ _ _ _ _ _ _ _ Bo DX DY Dz (@Bj _ _ _ _ _ (pv 0) rfl) (by rfl) (by rfl)) (by rfl)) (@A6 _ _ _ _ _ (@Bt _ _ _ _ (@DB _ _ _ _ _ _ _ _ _ Bo DX DY Dz (@Bj _ _ _ _ _ (pv 0) rfl) (by rfl) (by rfl)) (by rfl)) (@A6 _ _ _ _ _ (@Bt _ _ _ _ (@DB _ _ _ _ _ _ _ _ _ Bo DX DY Dz (@Bj _ _ _ _ _ (pv 0) rfl) (by rfl) (by rfl)) (by rfl)) (@A6 _ _ _ _ _ (@Mi _ _ _ _ _ _ _ _ _ _ _ _ _ (@Bj _ _ _ _ _ (pv 0) rfl) (@CN _ _ _ _ _ _ CH A3) NC A3 Kr Ow (by intros;rfl)) (@Ac _ _ _ (@Ar _ _ _ _ C9)))))))),?_⟩
 obtain⟨s0,lp,t0,pa,m,e1,e2,la0,rfl⟩:=hs
 refine⟨_,rfl,wl,_,rfl,.inl (A2.of hw),rfl,_,rfl,AA ?_⟩
 refine⟨_,rfl,B.d,_,B.dx,_,_,rfl,hD.o,T.cl_Draft,T.n_Draft_names,rfl,AD rfl,fun en hen=>?_⟩
 have es:=Ab hen (.lst [])
 have hD1:=hD.over es
 have hen1:(upd H en (.lst [])) en=some (.lst []):=A5
 generalize upd H en (.lst [])=H1 at es hD1 hen1
 obtain⟨n1,n2,n3,n4,n5,n6,m1,m2,m3,m4,m5⟩:=hD1.ne
 obtain⟨⟨a1,a2,a3,a4⟩,⟨b1,b2,b3⟩,⟨c1,c2⟩,d1⟩:=hD1.nds
 have hnm:H1 B.nl=some (.lst (lp.map (fun t=>V.str t.nm)++[.str t0.nm])):=by rw[hD1.nm,e1,AW];rfl
 obtain⟨ls,hls,pls⟩:=hD1.lo
 obtain⟨hs,hhs,phs⟩:=hD1.hi
 rw[e1]at pls phs
 obtain⟨ls,lx,rfl,pls,-⟩:=Rd.all2_pop pls
 obtain⟨hs,hx,rfl,phs,-⟩:=Rd.all2_pop phs
 have hpa:H1 B.pl=some (.lst ((pa.map V.int++[.int m])++[.int D.la])):=by rw[hD1.pa,e2,AW,AW];rfl
 refine⟨B.nl,en,_,rfl,rfl,A2.of hnm,A2.of hen1,_,rfl,?_⟩
 refine Az (fun y=>absurd y (by simp)) (fun _=>?_)
 refine⟨_,rfl,B.d,_,B.dx,_,_,rfl,hD1.o,T.cl_Draft,T.n_Draft_path,rfl,_,rfl,B.pl,_,_,_,rfl,rfl,A2.of hpa,KD _ _,rfl,_,rfl,?_⟩
 refine Az (fun y=>absurd (V.int.inj (dT y)) la0) (fun _=>?_)
 refine⟨_,rfl,B.d,_,B.dx,_,_,rfl,hD1.o,T.cl_Draft,T.n_Draft_names,rfl,.inl ⟨rfl,_,A2.of hnm⟩,B.nl,_,_,rfl,rfl,hnm,BU.1,?_⟩
 rw[BU.2]
 have o1:(upd H1 B.nl (.lst (lp.map fun t=>V.str t.nm))) B.d=_:=((A7 (Ne.symm n1)).trans hD1.o)
 have l1:(upd H1 B.nl (.lst (lp.map fun t=>V.str t.nm))) B.ll=_:=((A7 (Ne.symm b1)).trans hls)
 refine⟨_,rfl,B.d,_,B.dx,_,_,rfl,o1,T.cl_Draft,T.n_Draft_lows,rfl,.inl ⟨rfl,_,A2.of l1⟩,B.ll,_,_,rfl,rfl,l1,BU.1,?_⟩
 rw[BU.2]
 have o2:(upd (upd H1 B.nl (.lst (lp.map fun t=>V.str t.nm))) B.ll (.lst ls)) B.d=_:=((A7 (Ne.symm n2)).trans o1)
 have l2:(upd (upd H1 B.nl (.lst (lp.map fun t=>V.str t.nm))) B.ll (.lst ls)) B.hl=_:=((A7 (Ne.symm c1)).trans ((A7 (Ne.symm b2)).trans hhs))
 refine⟨_,rfl,B.d,_,B.dx,_,_,rfl,o2,T.cl_Draft,T.n_Draft_highs,rfl,.inl ⟨rfl,_,A2.of l2⟩,B.hl,_,_,rfl,rfl,l2,BU.1,?_⟩
 rw[BU.2]
 have o3:(upd (upd (upd H1 B.nl (.lst (lp.map fun t=>V.str t.nm))) B.ll (.lst ls)) B.hl (.lst hs)) B.d=_:=((A7 (Ne.symm n3)).trans o2)
 have l3:(upd (upd (upd H1 B.nl (.lst (lp.map fun t=>V.str t.nm))) B.ll (.lst ls)) B.hl (.lst hs)) B.pl=_:=((A7 (Ne.symm d1)).trans ((A7 (Ne.symm c2)).trans ((A7 (Ne.symm b3)).trans hpa)))
 refine⟨_,rfl,B.d,_,B.dx,_,_,rfl,o3,T.cl_Draft,T.n_Draft_path,rfl,.inl ⟨rfl,_,A2.of l3⟩,B.pl,_,_,rfl,rfl,l3,BU.1,?_⟩
 rw[BU.2]
 have o4:(upd (upd (upd (upd H1 B.nl (.lst (lp.map fun t=>V.str t.nm))) B.ll (.lst ls)) B.hl (.lst hs)) B.pl (.lst (pa.map V.int++[.int m]))) B.d=_:=((A7 (Ne.symm n4)).trans o3)
 refine⟨_,rfl,B.d,_,B.dx,_,_,rfl,o4,T.cl_Draft,T.n_Draft_path,rfl,_,rfl,B.pl,_,_,rfl,rfl,A5,_,_,rfl,rfl,B.pl,_,_,_,rfl,rfl,A5,Rd.ix_end _ _,?_⟩
 rw[Rd.set_last,KN]
 have k4:=hD1.four (lp:=lp) (pa:=pa) (la:=m+1) pls phs (by have:=hD1.pl;rw[e1,e2,Ap,Ap]at this;exact Nat.add_right_cancel this)
 rw[AW]at k4
 exact q _ ((Rd.Out.of es).trans k4.1) k4.2
theorem Qn (T:Tx w K mg a):AJ P w K mg base AS 9 a.f_E a.d_E ["draft","row"] (Rd.spTaken a.c_Draft a.c_Deed (BF a)):=by
 have G_t :=@SA P w K mg base a T
 have G_B :=@Q0 P w K mg base a T
 have G_C :=@V8 P w K mg base a T
 have G_D :=@Sb P w K mg base a T
 have G_A :=@UL P w K mg base a T
 refine T.F_E.ok NI (fun vs H Q E h=>?_) (fun cdv A outer s H vs Q E hr h=>?_)
 .obtain⟨_,_,_,_,_,_,rfl,_⟩:=h;rfl
 obtain⟨f,B,D,D',z,r,rfl,hD,zl,hr',hs,q⟩:=h
 refine⟨_,(@A6 _ _ _ _ _ (@Aj _ _ (2) _ _ _ _ NI.nd rfl (.inl rfl) (@AC _ _ _ _ _ _ _ _ _ _ _ _ _ _ _ _ G_t (hr.mono (by omega)) (by rfl) T.m_t T.F_t.kp T.b_t .nil Au (@A0 _ _ _ _ _ (pv 1) A4 (by rfl)) (by decide) (by rfl) (by rfl)) (by rfl) (by first|exact .inl rfl|exact .inr rfl|assumption)) (@A6 _ _ _ _ _ (@AI _ _ _ _ _ _ _ _ (@An _ _ _ _ _ _ _ _ E1 (@Bj _ _ _ _ _ (pv 0) rfl) BK (@Ao _ _ (by decide) (by decide))) (@Ac _ _ _ (@Ar _ _ _ _ (@AC _ _ _ _ _ _ _ _ _ _ _ _ _ _ _ _ G_B (hr.mono (by omega)) (by rfl) T.m_B T.F_B.kp T.b_B .nil Au (@A0 _ _ _ _ _ (pv 0) (@A0 _ _ _ _ _ (pv 2) A4 (by rfl)) (by rfl)) (by decide) (by rfl) (by rfl)))) AN) (@A6 _ _ _ _ _ (@AI _ _ _ _ _ _ _ _ (@An _ _ _ _ _ _ _ _ BC (@Ag _ _ _ _ _ _ _ AV (pv 2) A3 (fun _ _=>rfl)) Av (@Ao _ _ (by decide) (by decide))) (@Ac _ _ _ (@Ar _ _ _ _ (@AC _ _ _ _ _ _ _ _ _ _ _ _ _ _ _ _ G_C (hr.mono (by omega)) (by rfl) T.m_C T.F_C.kp T.b_C .nil Au (@A0 _ _ _ _ _ (pv 0) (@A0 _ _ _ _ _ (pv 2) A4 (by rfl)) (by rfl)) (by decide) (by rfl) (by rfl)))) AN) (@A6 _ _ _ _ _ (@AI _ _ _ _ _ _ _ _ (@An _ _ _ _ _ _ _ _ BC (@Ag _ _ _ _ _ _ _ AV (pv 2) A3 (fun _ _=>rfl)) Av (@Ao _ _ (by decide) (by decide))) (@Ac _ _ _ (@Ar _ _ _ _ (@AC _ _ _ _ _ _ _ _ _ _ _ _ _ _ _ _ G_D (hr.mono (by omega)) (by rfl) T.m_D T.F_D.kp T.b_D .nil Au (@A0 _ _ _ _ _ (pv 0) (@A0 _ _ _ _ _ (pv 2) A4 (by rfl)) (by rfl)) (by decide) (by rfl) (by rfl)))) AN) (@Ac _ _ _ (@Ar _ _ _ _ (@UO _ _ _ _ _ _ _ _ _ _ _ _ DQ (@Ag _ _ _ _ _ _ _ AV (pv 2) A3 (fun _ _=>rfl)) (by rfl) (@UU _ _ _ _ _ _ _ _ _ _ _ _ _ _ _ _ G_A (hr.mono (by omega)) (by rfl) T.m_A T.F_A.kp T.b_A .nil Au (@Tz _ _ _ _ _ (pv 0) (@Pe _ _ _ (@Ua _ _ _ _ (32) _ _ _ _ _ _ _ (by rfl) (by rfl) (by decide) (pv 1) (by rfl) (by rfl) (by rfl)) (by rfl)) (by rfl)) (by decide) (by rfl) (by rfl))))))))),?_⟩
 refine⟨_,rfl,z,rfl,zl,fun wl H1 ps e1 hsp hwl=>?_⟩
 dsimp only[Am]
 have hD1:=hD.over e1
 have hlen:=cds_len z
 have key:∀{ws:List Str},Rd.Wds (cds z) ws->H1 wl=some (.lst (ws.map V.str)):=fun{ws} hw=>by rw[hwl,hw.at hsp]
 have q1:∀H',Rd.Out B H1 H'->Rd.DrAt a.c_Draft a.c_Deed (BF a) f H' B D'->Q (.bl true) H':=fun H' o d=>q H' ((Rd.Out.of e1).trans o) d
 have notnone:D.sz≠none->∃m,Rd.szV D.sz = .int m:=fun h=>by
  cases hz:D.sz with
  |none=>exact absurd hz h
  |some m=>exact⟨m,rfl⟩
 cases r with
 |
  sz n=>
  have hw:=key hr'
  refine⟨_,rfl,B.d,_,B.dx,_,_,rfl,hD1.o,T.cl_Draft,T.n_Draft_size,rfl,rfl,_,rfl,?_⟩
  rw[hs.1]
  refine Bq ?_
  exact⟨_,rfl,_,rfl,f,B,D,D',wl,n,rfl,hD1,hw,hs,q1⟩
 |
  opn t=>
  have hw:=key hr'
  obtain⟨m,em⟩:=notnone hs.1
  refine⟨_,rfl,B.d,_,B.dx,_,_,rfl,hD1.o,T.cl_Draft,T.n_Draft_size,rfl,rfl,_,rfl,?_⟩
  rw[em]
  refine AA ?_
  refine⟨_,rfl,wl,_,_,_,rfl,rfl,A2.of hw,rfl,rfl,_,rfl,Bq ?_⟩
  exact⟨_,rfl,_,rfl,f,B,D,D',wl,t,rfl,hD1,hw,hs,q1⟩
 |
  fin=>
  have hw:=key hr'
  obtain⟨m,em⟩:=notnone hs.1
  refine⟨_,rfl,B.d,_,B.dx,_,_,rfl,hD1.o,T.cl_Draft,T.n_Draft_size,rfl,rfl,_,rfl,?_⟩
  rw[em]
  refine AA ?_
  refine⟨_,rfl,wl,_,_,_,rfl,rfl,A2.of hw,rfl,rfl,_,rfl,AA ?_⟩
  refine⟨_,rfl,wl,_,_,_,rfl,rfl,A2.of hw,rfl,rfl,_,rfl,Bq ?_⟩
  exact⟨_,rfl,_,rfl,f,B,D,D',wl,rfl,hD1,hw,hs,q1⟩
 |
  ded tb sp ks t=>
  obtain⟨⟨w0,ws,hw0,n1,n2,n3⟩,hrow⟩:=hr'
  have hw:=key hw0
  obtain⟨m,em⟩:=notnone hs.1
  have at0:BH ((w0::ws).map V.str) 0=some (.str w0):=Ge (j:=0) rfl
  have ne:∀{u:Str},w0≠u->decide (V.str w0=V.str u)=false:=fun h=>Bv fun e=>h (V.str.inj e)
  refine⟨_,rfl,B.d,_,B.dx,_,_,rfl,hD1.o,T.cl_Draft,T.n_Draft_size,rfl,rfl,_,rfl,?_⟩
  rw[em]
  refine AA ?_
  refine⟨_,rfl,wl,_,_,_,rfl,rfl,A2.of hw,at0,rfl,_,rfl,?_⟩
  rw[ne n1]
  refine AA ?_
  refine⟨_,rfl,wl,_,_,_,rfl,rfl,A2.of hw,at0,rfl,_,rfl,?_⟩
  rw[ne n2]
  refine AA ?_
  refine⟨_,rfl,wl,_,_,_,rfl,rfl,A2.of hw,at0,rfl,_,rfl,?_⟩
  rw[ne n3]
  refine Bq ?_
  refine⟨_,rfl,_,rfl,rfl,z,rfl,by omega,f,B,D,D',_,tb,sp,ks,t,rfl,hD1,?_,?_,hs,q1⟩
  .rw[Ba,←hrow]
   congr 1
   funext c
   by_cases h:c=32
   .rw[h];rfl
   .rw[B7 h]
    exact Ez.mpr h
  .rw[Dp]
   have:=LV (· != 32) (cds z)
   omega
theorem Tb (T:Tx w K mg a):AJ P w K mg base AS 1 a.f_d a.d_d ["_law_script","_law_k"] (V3 K):=by
 refine T.F_d.ok TF (fun vs H Q E h=>?_) (fun cdv A outer s H vs Q E hr h=>?_)
 .obtain⟨_,_,_,rfl,_⟩:=h;rfl
 obtain⟨p,ns,k,rfl,hS,h0,q⟩:=h
 refine⟨_,(@A6 _ _ _ _ _ (@AI _ _ _ _ _ _ _ _ (@An _ _ _ _ _ _ _ _ F0 (pv 1) (@B6 _ _ _ _ _ _ _ _ _ BO (by rfl) T.z_len BB (@A0 _ _ _ _ _ (pv 0) A4 (by rfl)) (by decide) (by decide) (by rfl) (by rfl)) (@Ao _ _ (by decide) (by decide))) (@Ac _ _ _ (@Ar _ _ _ _ (@Ag _ _ _ _ _ _ _ AV (pv 0) (pv 1) (fun _ _=>rfl)))) AN) (@Ac _ _ _ (@Ar _ _ _ _ A3))),?_⟩
 have hl:(ns.map V.int).length=ns.length:=Aq _
 refine⟨_,rfl,_,rfl,p,_,rfl,.inl hS,_,_,rfl,rfl,_,rfl,?_⟩
 refine Az (fun c=>?_) (fun c=>?_)
 .have c':=dT c
  rw[hl]at c'
  exact⟨_,rfl,_,rfl,p,_,_,_,rfl,rfl,hS,FH h0 c',q⟩
 .have c':=dF c
  rw[hl]at c'
  rw[Rh c']at q
  exact q
theorem PX (T:Tx w K mg a):AJ P w K mg base AS 1 a.f_G a.d_G ["_law_found"] UI:=by
 refine T.F_G.ok OV (fun vs H Q E h=>?_) (fun cdv A outer s H vs Q E hr h=>?_)
 .obtain⟨_,rfl,_⟩:=h;rfl
 obtain⟨x,rfl,hx,q⟩:=h
 refine⟨_,(@Ac _ _ _ (@Ar _ _ _ _ (@Gi _ _ _ _ _ _ _ (@B6 _ _ _ _ _ _ _ _ _ FJ (by rfl) T.z_isinstance Fx (@A0 _ _ _ _ _ (pv 0) (@A0 _ _ _ _ _ (@ND _ _ (.ty "int") _ _ (by rfl) T.z_int IV rfl (by decide) (by decide)) A4 (by rfl)) (by rfl)) (by decide) (by decide) (by rfl) (by rfl)) (@EG _ _ _ _ _ (@SB _ _ _ _ (@B6 _ _ _ _ _ _ _ _ _ FJ (by rfl) T.z_isinstance Fx (@A0 _ _ _ _ _ (pv 0) (@A0 _ _ _ _ _ (@ND _ _ (.ty "bool") _ _ (by rfl) T.z_bool P8 rfl (by decide) (by decide)) A4 (by rfl)) (by rfl)) (by decide) (by decide) (by rfl) (by rfl))))))),?_⟩
 cases x with
 |int i=>exact⟨_,rfl,_,_,_,_,_,rfl,rfl,.int i,rfl,_,rfl,_,rfl,_,_,_,_,_,rfl,rfl,.int i,rfl,_,rfl,q⟩
 |bl b=>exact⟨_,rfl,_,_,_,_,_,rfl,rfl,.bl b,rfl,_,rfl,_,rfl,_,_,_,_,_,rfl,rfl,.bl b,rfl,_,rfl,q⟩
 |non=>exact⟨_,rfl,_,_,_,_,_,rfl,rfl,.non,rfl,_,rfl,q⟩
 |str z=>exact⟨_,rfl,_,_,_,_,_,rfl,rfl,.str z,rfl,_,rfl,q⟩
 |_=>cases hx
theorem HB (T:Tx w K mg a):AJ P w K mg base AS 1 a.f_c a.d_c ["_law_cell_here","_law_many"] SY:=by
 refine T.F_c.ok Hs (fun vs H Q E h=>?_) (fun cdv A outer s H vs Q E hr h=>?_)
 .obtain⟨_,_,rfl,_⟩:=h;rfl
 obtain⟨c,n,rfl,h0,h1,q⟩:=h
 refine⟨_,(@A6 _ _ _ _ _ (@Aj _ _ (2) _ _ _ _ Hs.nd rfl (.inl rfl) (@Bl _ _ _ _ A4) (by rfl) (by first|exact .inl rfl|exact .inr rfl|assumption)) (@A6 _ _ _ _ _ (@Aj _ _ (3) _ _ _ _ Hs.nd rfl (.inl rfl) (@Ae _ _ _ _ _ _ _ _ BS (@Ae _ _ _ _ _ _ _ _ By (pv 0) A3) A3) (by rfl) (by first|exact .inl rfl|exact .inr rfl|assumption)) (@A6 _ _ _ _ _ (@Ep _ _ _ _ _ _ _ _ PassesOwn.never rfl (@JD _ _ _ _ _ _ (by rfl) T.z_range (@A0 _ _ _ _ _ (@Ae _ _ _ _ _ _ _ _ BS (pv 1) A3) A4 (by rfl)) (by rfl)) (BG (i:=4) Hs.nd rfl (.inl rfl)) (@A6 _ _ _ _ _ (@Aj _ _ (3) _ _ _ _ Hs.nd rfl (.inl rfl) (@Ae _ _ _ _ _ _ _ _ By (@Ae _ _ _ _ _ _ _ _ BS (@Ae _ _ _ _ _ _ _ _ BS (@Ae _ _ _ _ _ _ _ _ EU (pv 3) (pv 3)) (@Ae _ _ _ _ _ _ _ _ EU A3 (pv 3))) (pv 4)) A3) (by rfl) (by first|exact .inl rfl|exact .inr rfl|assumption)) (@Ac _ _ _ (@Bt _ _ _ _ (@Be _ _ _ _ _ _ _ _ _ _ _ _ Bo Cf Cg C4 (pv 2) (@A0 _ _ _ _ _ (pv 3) A4 (by rfl)) (by rfl) (by rfl) (by rfl) (by rfl) (by rfl)) (by rfl)))) (by intro _;rfl)) (@Ac _ _ _ (@Ar _ _ _ _ (@CW _ _ _ _ _ _ _ _ _ _ Ej (pv 2) (@Cq _ _ _ A3) DS)))))),?_⟩
 refine⟨AD rfl,fun l hl=>?_⟩
 refine⟨_,rfl,_,_,rfl,rfl,(by show(0:Int)<2147483647;decide),_,_,rfl,rfl,?_⟩
 refine⟨_,rfl,_,_,rfl,rfl,n+1,rfl,by omega,by omega,?_⟩
 refine KO (lo:=0) (n:=(n+1).toNat) (fun i σ' H'=>(∃o1,σ'=[some (.int c),some (.int n),some (.ref l),some (.int (Cj (Cv c) 0 i)),o1])/\A8 H H'/\H' l=some (.lst ((DM (Cv c) 0 i).map V.int))) ?_ (fun i σ' H' hi p=>?_) (fun σ' H' p=>?_)
 .exact⟨⟨_,rfl⟩,Ab hl _,A5⟩
 .obtain⟨⟨o1,rfl⟩,hs,hH⟩:=p
  obtain⟨b0,b1⟩:=U8 c i
  have bb:=P4 b0 b1
  have e1:(Cj (Cv c) 0 i*Cj (Cv c) 0 i+48271*Cj (Cv c) 0 i+(0+(i:Int)))%2147483647=Cj (Cv c) 0 (i+1):=by rw[Ox];rfl
  have hz:((DM (Cv c) 0 i).map V.int).length<sizeLine:=by rw[Aq,Ou];exact C5 (by omega)
  refine⟨_,rfl,_,rfl,_,_,rfl,rfl,.inl bb,_,rfl,_,_,rfl,rfl,.inl ⟨by decide,by decide⟩,_,_,rfl,rfl,_,rfl,_,_,rfl,rfl,_,_,rfl,rfl,(by show(0:Int)<2147483647;decide),?_⟩
  refine⟨_,rfl,.inl ⟨rfl,_,A2.of hH⟩,_,rfl,l,_,_,rfl,rfl,hH,hz,⟨_,congrArg (fun v=>[some (V.int c),some (V.int n),some (V.ref l),some (V.int v),some (V.int (0+(i:Int)))]) e1⟩,?_,?_⟩
  .exact fun b o e=>by rw[A7 (AG e hl)];exact hs b o e
  .rw[A5,U4,AW]
   show some (HO.lst (_++[V.int _]))=_
   rw[e1];rfl
 .obtain⟨⟨o1,rfl⟩,hs,hH⟩:=p
  refine⟨_,rfl,_,rfl,l,_,rfl,A2.of hH,fun r hr'=>?_⟩
  rw[VA]
  refine q r _ (hs.trans (Ab hr' _)) ?_
  rw[A5]
  unfold Er
  rw[show(n+1).toNat=n.toNat+1 by omega]
theorem QZ (T:Tx w K mg a):AJ P w K mg base AS 2 a.f_H a.d_H ["_law_cell_here","_law_many"] Rd.spNames23:=by
 have G_c :=@HB P w K mg base a T
 refine T.F_H.ok DH (fun vs H Q E h=>?_) (fun cdv A outer s H vs Q E hr h=>?_)
 .obtain⟨_,rfl,_⟩:=h;rfl
 obtain⟨c,rfl,q⟩:=h
 refine⟨_,(@A6 _ _ _ _ _ (@Aj _ _ (2) _ _ _ _ DH.nd rfl (.inr rfl) Av (by rfl) (by first|exact .inl rfl|exact .inr rfl|assumption)) (@A6 _ _ _ _ _ (@Aj _ _ (3) _ _ _ _ DH.nd rfl (.inl rfl) (@AC _ _ _ _ _ _ _ _ _ _ _ _ _ _ _ _ G_c (hr.mono (by omega)) (by rfl) T.m_c T.F_c.kp T.b_c .nil Au (@A0 _ _ _ _ _ (pv 0) (@A0 _ _ _ _ _ A3 A4 (by rfl)) (by rfl)) (by decide) (by rfl) (by rfl)) (by rfl) (by first|exact .inl rfl|exact .inr rfl|assumption)) (@A6 _ _ _ _ _ (@Aj _ _ (4) _ _ _ _ DH.nd rfl (.inl rfl) (@Be _ _ _ _ _ _ _ _ _ _ _ _ DK OI OJ KH Av (@A0 _ _ _ _ _ (@DN _ _ _ _ _ _ _ ["_law_x","_law_letters"] [none,some 2] _ _ _ _ (by rfl) (@Dy _ _ _ _ (@CW _ _ _ _ _ _ _ _ _ _ Ej (pv 3) (@Cq _ _ _ A3) DS)) QA (fun _ _ _ _ _ _=>⟨(BG (i:=0) Va rfl (.inl rfl)),@Eh _,(@Ag _ _ _ _ _ _ _ En (pv 1) (@Ae _ _ _ _ _ _ _ _ By (pv 0) A3) (fun _ _=>rfl))⟩) (by intro _;rfl)) A4 (by rfl)) (by rfl) (by rfl) (by rfl) (by rfl) (by rfl)) (by rfl) (by first|exact .inl rfl|exact .inr rfl|assumption)) (@A6 _ _ _ _ _ (@AI _ _ _ _ _ _ _ _ (@An _ _ _ _ _ _ _ _ BC (@Ae _ _ _ _ _ _ _ _ By (@Ae _ _ _ _ _ _ _ _ Dm (@Ag _ _ _ _ _ _ _ AV (pv 3) A3 (fun _ _=>rfl)) A3) A3) A3 (@Ao _ _ (by decide) (by decide))) (@Ac _ _ _ (@Aj _ _ (4) _ _ _ _ DH.nd rfl (.inl rfl) (@CW _ _ _ _ _ _ _ _ _ _ GI (@Ae _ _ _ _ _ _ _ _ C1 (@Ag _ _ _ _ _ _ _ AV (@MW _ _ _ _ (@B8 _ _ _ _ _ Av (@B8 _ _ _ _ _ Av (@B8 _ _ _ _ _ Av DD Do) Do) Do)) (@Ae _ _ _ _ _ _ _ _ By (@Ae _ _ _ _ _ _ _ _ Dm (@Ag _ _ _ _ _ _ _ AV (pv 3) A3 (fun _ _=>rfl)) A3) A3) (fun _ _=>rfl)) (pv 4)) DS (@Cq _ _ _ A3)) (by rfl) (by first|exact .inl rfl|exact .inr rfl|assumption))) AN) (@A6 _ _ _ _ _ (@Aj _ _ (5) _ _ _ _ DH.nd rfl (.inl rfl) (@Ae _ _ _ _ _ _ _ _ BS A3 (@Ae _ _ _ _ _ _ _ _ By (@Ag _ _ _ _ _ _ _ AV (pv 3) A3 (fun _ _=>rfl)) A3)) (by rfl) (by first|exact .inl rfl|exact .inr rfl|assumption)) (@A6 _ _ _ _ _ (@Aj _ _ (6) _ _ _ _ DH.nd rfl (.inl rfl) (@Ae _ _ _ _ _ _ _ _ By (@Ae _ _ _ _ _ _ _ _ Dm (@Ag _ _ _ _ _ _ _ AV (pv 3) A3 (fun _ _=>rfl)) A3) (pv 5)) (by rfl) (by first|exact .inl rfl|exact .inr rfl|assumption)) (@A6 _ _ _ _ _ (@Aj _ _ (7) _ _ _ _ DH.nd rfl (.inl rfl) (@Bl _ _ _ _ A4) (by rfl) (by first|exact .inl rfl|exact .inr rfl|assumption)) (@A6 _ _ _ _ _ (@Ep _ _ _ _ _ _ _ _ PassesOwn.never rfl (@JD _ _ _ _ _ _ (by rfl) T.z_range (@A0 _ _ _ _ _ (pv 1) A4 (by rfl)) (by rfl)) (BG (i:=8) DH.nd rfl (.inl rfl)) (@A6 _ _ _ _ _ (@Aj _ _ (9) _ _ _ _ DH.nd rfl (.inl rfl) (@Ag _ _ _ _ _ _ _ En (pv 2) (@Ae _ _ _ _ _ _ _ _ By (@Ae _ _ _ _ _ _ _ _ BS (@Ag _ _ _ _ _ _ _ AV (pv 3) (@Ae _ _ _ _ _ _ _ _ BS A3 (pv 6)) (fun _ _=>rfl)) (pv 8)) A3) (fun _ _=>rfl)) (by rfl) (by first|exact .inl rfl|exact .inr rfl|assumption)) (@A6 _ _ _ _ _ (@Aj _ _ (10) _ _ _ _ DH.nd rfl (.inl rfl) (@Ae _ _ _ _ _ _ _ _ C1 (@Ae _ _ _ _ _ _ _ _ C1 (@CW _ _ _ _ _ _ _ _ _ _ GI (pv 4) DS (@Cq _ _ _ (pv 6))) (pv 9)) (@CW _ _ _ _ _ _ _ _ _ _ GI (pv 4) (@Cq _ _ _ (@Ae _ _ _ _ _ _ _ _ BS (pv 6) A3)) (@Cq _ _ _ (pv 5)))) (by rfl) (by first|exact .inl rfl|exact .inr rfl|assumption)) (@A6 _ _ _ _ _ (@AI _ _ _ _ _ _ _ _ (@An _ _ _ _ _ _ _ _ BC (@Ae _ _ _ _ _ _ _ _ By (@Ag _ _ _ _ _ _ _ AV (pv 3) A3 (fun _ _=>rfl)) A3) A3 (@Ao _ _ (by decide) (by decide))) (@Ac _ _ _ (@Aj _ _ (10) _ _ _ _ DH.nd rfl (.inl rfl) (@CW _ _ _ _ _ _ _ _ _ _ GI (pv 4) DS (@Cq _ _ _ (@Ae _ _ _ _ _ _ _ _ BS A3 (@Ae _ _ _ _ _ _ _ _ By (@Ae _ _ _ _ _ _ _ _ BS (pv 5) (@Ae _ _ _ _ _ _ _ _ EU A3 (pv 8))) A3)))) (by rfl) (by first|exact .inl rfl|exact .inr rfl|assumption))) AN) (@A6 _ _ _ _ _ (@AI _ _ _ _ _ _ _ _ (@An _ _ _ _ _ _ _ _ GD (pv 10) (@E5 _ _ _ _ _ (@B8 _ _ _ _ _ Av (@B8 _ _ _ _ _ Av (@B8 _ _ _ _ _ Av DD Do) Do) Do)) (by with_unfolding_all rfl)) (@Ac _ _ _ (@Aj _ _ (10) _ _ _ _ DH.nd rfl (.inl rfl) (@Ae _ _ _ _ _ _ _ _ C1 Av (pv 10)) (by rfl) (by first|exact .inl rfl|exact .inr rfl|assumption))) AN) (@Ac _ _ _ (@Bt _ _ _ _ (@Be _ _ _ _ _ _ _ _ _ _ _ _ Bo Cf Cg C4 (pv 7) (@A0 _ _ _ _ _ (pv 10) A4 (by rfl)) (by rfl) (by rfl) (by rfl) (by rfl) (by rfl)) (by rfl))))))) (by intro _;rfl)) (@Ac _ _ _ (@Ar _ _ _ _ (pv 7))))))))))),?_⟩
 refine⟨_,rfl,c,10,rfl,by decide,by decide,fun rx H1 s1 hx=>?_⟩
 rw[show(10:Int).toNat=10 from rfl]at hx
 generalize hxs:Er c 10=xs at hx
 have xl:xs.length=10:=by rw[←hxs,HH]
 have xl':(xs.map V.int).length=10:=by rw[Aq,xl]
 have xm:∀y∈xs,0<=y/\y<2147483647:=fun y hy=>JE (hxs▸hy)
 have atx:∀k:Nat,k<10->BH (xs.map V.int) ((k:Nat):Int)=some (.int (xs.getD k 0)):=fun k hk=>by
  have:=FH (ns:=xs) (k:=((k:Nat):Int)) (by omega) (by omega)
  exact this
 refine⟨rfl,_,rfl,_,rfl,rx,_,rfl,A2.of hx,fun p2 hp2=>?_⟩
 have hx2:(upd H1 p2 (.lst (CA (xs.map V.int) (some 2) none))) rx=some (.lst (xs.map V.int)):=by rw[A7 (AG hx hp2)];exact hx
 have cut2:CA (xs.map V.int) (some 2) none=(xs.drop 2).map V.int:=by
  have:=TH (xs.map V.int) (i:=2) (by decide)
  rw[List.map_drop]
  exact this
 rw[cut2]at hx2 ⊢
 refine⟨p2,rfl,⟨_,A2.of A5⟩,?_⟩
 refine Fv (xs:=(xs.drop 2).map V.int) (fun i ys H'=>H'=upd H1 p2 (.lst ((xs.drop 2).map V.int))/\ys=((xs.drop 2).take i).map fun x=>V.str ⟨#[Du x]⟩) ⟨rfl,by simp⟩ (AF (by rw[Aq,Cr];omega)) (fun i ys H' hi p=>?_) (fun i x ys H' hc p=>?_) (fun ys H' p r hr'=>?_)
 .obtain⟨rfl,rfl⟩:=p
  exact⟨A2.of A5,by rw[Aq,BA];omega⟩
 .obtain⟨rfl,rfl⟩:=p
  rw[CO]at hc
  cases hy:(xs.drop 2)[i]? with
  |none=>rw[hy]at hc;cases hc
  |
   some y=>
   rw[hy]at hc
   cases hc
   refine⟨_,rfl,_,rfl,_,_,rfl,rfl,(by show(0:Int)<26;decide),_,_,_,rfl,rfl,Oe,ML y,rfl,?_⟩
   rw[DE hy,AW]
   rfl
 obtain⟨rfl,rfl⟩:=p
 have full:((xs.drop 2).take ((xs.drop 2).map V.int).length)=xs.drop 2:=by rw[Aq,Ef]
 rw[full]
 have e3:A8 H1 (upd (upd H1 p2 (.lst ((xs.drop 2).map V.int))) r (.lst ((xs.drop 2).map fun x=>V.str ⟨#[Du x]⟩))):=(Ab hp2 _).trans (Ab hr' _)
 generalize hH3:upd (upd H1 p2 (.lst ((xs.drop 2).map V.int))) r (.lst ((xs.drop 2).map fun x=>V.str ⟨#[Du x]⟩))=H3 at e3
 have hr3:H3 r=some (.lst (((xs.drop 2).map fun x=>(⟨#[Du x]⟩:Str)).map V.str)):=by rw[←hH3,A5,JY];rfl
 have ew:Txt.join "" ((xs.drop 2).map fun x=>(⟨#[Du x]⟩:Str))=Ax (EK xs):=DF (by
  rw[Kw,Ba]
  unfold EK
  generalize xs.drop 2=l
  induction l with
  |nil=>rfl
  |
   cons y l ih=>
   rw[C8,C8,OD,ih]
   rfl)
 refine⟨_,r,_,rfl,rfl,.inl (A2.of hr3),?_,?_⟩
 .have:∀l:List Int,((l.map fun x=>(⟨#[Du x]⟩:Str)).map (·.length)).sum=l.length:=fun l=>by
   induction l with
   |nil=>rfl
   |cons y l ih=>rw[C8,C8,LP,ih];show 1+l.length=l.length+1;omega
  rw[this,Aq,Cr,xl]
  show 10-2+(10-2)*(Str.ofString "").length<=16777216
  decide +kernel
 rw[ew]
 have hx3:=e3 _ _ hx
 have wl:(EK xs).length=8:=QF xl
 have wb:∀c∈EK xs,97<=c/\c<=122:=Rd.nameW_abc xs
 generalize EK xs=wd at wl wb
 obtain⟨lb0,lb1⟩:=Hc xs
 obtain⟨ab0,ab1⟩:=IP xs
 dsimp only[Am]
 refine D4 (fun σ' H'=>A8 H1 H'/\∃wd:List Nat,wd.length=8/\(∀c∈wd,97<=c/\c<=122)/\σ'=[some (.int c),some (.int 8),some (.str Ec),some (.ref rx),some (.str (Ax wd)),none,none,none,none,none,none]) (fun σ' H4 pp=>?_) (fun nx=>?_)
 rotate_left
 .refine⟨_,rfl,rx,_,_,_,rfl,rfl,A2.of hx3,atx 0 (by decide),_,_,rfl,rfl,⟨by decide,by decide⟩,_,_,rfl,rfl,(by show(0:Int)<8;decide),rfl,_,rfl,?_⟩
  refine Az (fun _=>?_) (fun _=>nx _ _ ⟨e3,wd,wl,wb,rfl⟩)
  refine⟨AD rfl,fun l3 hl3=>?_⟩
  have s4:=Ab hl3 (.lst [V.str "for",V.str "end",V.str "size"])
  have m0:=BY (xs.getD 0 0/16) (show(3:Int)≠0 by decide)
  have m1:=Cd (xs.getD 0 0/16) (show(0:Int)<3 by decide)
  obtain⟨rz,hrz,rl,rb⟩:∃rz:Str,BH [V.str "for",V.str "end",V.str "size"] (xs.getD 0 0/16%3)=some (.str rz)/\rz.length<=4/\∀c∈cds rz,97<=c/\c<=122:=by
   generalize xs.getD 0 0/16%3=j at m0 m1
   have:j=0\/j=1\/j=2:=by omega
   rcases this with rfl|rfl|rfl
   .exact⟨"for",rfl,by decide +kernel,by decide +kernel⟩
   .exact⟨"end",rfl,by decide +kernel,by decide +kernel⟩
   .exact⟨"size",rfl,by decide +kernel,by decide +kernel⟩
  refine⟨_,rfl,rx,_,_,_,rfl,rfl,A2.of (s4 _ _ hx3),atx 0 (by decide),_,_,rfl,rfl,⟨by decide,by decide⟩,_,_,rfl,rfl,(by show(0:Int)<3;decide),l3,_,_,_,rfl,rfl,A2.of A5,hrz,_,rfl,_,_,rfl,rfl,AF (by rw[Dp];omega),_,rfl,_,rfl,AF (by rw[Mx,Dp];omega),?_⟩
  refine nx _ _ ⟨e3.trans s4,_,?_,?_,rfl⟩
  .rw[FU _ (by decide),BA,B4,Ap,Ba,wl]
   show min 8 _=8
   omega
  .rw[FU _ (by decide)]
   intro c hc
   have hc:=Fn hc
   rw[B4,Ba]at hc
   exact(BI.mp hc).elim (rb c) (wb c)
 obtain⟨e4,wd,wl,wb,rfl⟩:=pp
 have hx4:=e4 _ _ hx
 refine⟨_,rfl,rx,_,_,_,rfl,rfl,A2.of hx4,atx 1 (by decide),_,_,rfl,rfl,(by show(0:Int)<8;decide),_,_,rfl,rfl,?_⟩
 refine⟨_,rfl,rx,_,_,_,rfl,rfl,A2.of hx4,atx 1 (by decide),_,_,rfl,rfl,⟨by decide,by decide⟩,_,rfl,_,_,rfl,rfl,(by show(0:Int)<1+xs.getD 1 0%8;exact lb0),?_⟩
 refine⟨AD rfl,fun l hl=>?_⟩
 have hl1:H1 l=none:=e4.free hl
 dsimp only[Am]
 refine⟨_,rfl,8,rfl,by decide,by decide,?_⟩
 have wz:(Ax wd).length=8:=by rw[Dp,wl]
 refine KO (lo:=0) (n:=8) (fun i σ' H'=>∃(o1 o2 o3:Option V),σ'=[some (.int c),some (.int 8),some (.str Ec),some (.ref rx),some (.str (Ax wd)),some (.int (C6 xs)),some (.int (Ci xs)),some (.ref l),o1,o2,o3]/\A8 H1 H'/\H' l=some (.lst (((List.range i).map fun k:Nat=>Ax (D7 xs wd (k:Int))).map V.str))) ?_ (fun i σ' H' hi p=>?_) (fun σ' H' p=>?_)
 .exact⟨_,_,_,rfl,e4.trans (Ab hl _),A5⟩
 .obtain⟨o1,o2,o3,rfl,hs,hH⟩:=p
  have hxx:=hs _ _ hx
  refine⟨_,rfl,_,rfl,_,rfl,_,_,rfl,rfl,rx,_,_,(.int (xs.getD (2+Ci xs).toNat 0)),rfl,rfl,A2.of hxx,FH (by omega) (by omega),_,rfl,_,_,rfl,rfl,_,_,rfl,rfl,(by show(0:Int)<26;decide),_,_,_,rfl,rfl,Oe,ML _,?_⟩
  refine⟨_,rfl,_,rfl,_,rfl,_,rfl,AF (by omega),_,rfl,_,_,rfl,rfl,?_,?_⟩
  .rw[Dp,Ba,FU _ ab0]
   exact AF (by rw[BA];show _+1<=1000000;omega)
  refine⟨_,rfl,_,rfl,_,_,rfl,rfl,_,rfl,_,rfl,_,rfl,_,rfl,AF (by omega),?_⟩
  have e0:(0:Int)+(i:Int)=(i:Int):=by omega
  rw[Ba,FU _ ab0,K9 _ (by omega) (by omega) (by omega) (by omega),e0]
  have eA:Ax (wd.take (Ci xs).toNat)++(⟨#[Du (xs.getD (2+Ci xs).toNat 0+(i:Int))]⟩:Str)++Ax ((wd.drop (Ci xs+1).toNat).take ((C6 xs).toNat-(Ci xs+1).toNat))=Ax (FD xs wd (i:Int)):=
   DF (by rw[B4,B4,Ba,Ba,Ba];rfl)
  refine⟨_,_,rfl,rfl,?_,?_⟩
  .rw[Mx,Dp,Dp,BA,BA,Cr]
   exact AF (by show _+1+_<=1000000;omega)
  rw[eA]
  dsimp only[Am]
  refine D4 (fun σ2 H2=>H2=H'/\∃(o1 o2:Option V),σ2=[some (.int c),some (.int 8),some (.str Ec),some (.ref rx),some (.str (Ax wd)),some (.int (C6 xs)),some (.int (Ci xs)),some (.ref l),o1,o2,some (.str (Ax (Br xs wd (i:Int))))]) (fun σ2 H2 m=>?_) (fun rest=>?_)
  .obtain⟨rfl,o4,o5,rfl⟩:=m
   refine D4 (fun σ3 H3'=>A8 H2 H3'/\∃(o1 o2:Option V),σ3=[some (.int c),some (.int 8),some (.str Ec),some (.ref rx),some (.str (Ax wd)),some (.int (C6 xs)),some (.int (Ci xs)),some (.ref l),o1,o2,some (.str (Ax (D7 xs wd (i:Int))))]) (fun σ3 H3' m=>?_) (fun rest=>?_)
   .obtain⟨hs3,o6,o7,rfl⟩:=m
    have hl3:=hs3 _ _ hH
    refine⟨_,rfl,.inl ⟨rfl,_,A2.of hl3⟩,_,rfl,l,_,_,rfl,rfl,hl3,C5 (by rw[Aq,Aq,List.length_range];omega),_,_,_,rfl,?_,?_⟩
    .exact fun b o e=>by rw[A7 (AG e hl1)];exact hs3 _ _ (hs b o e)
    .rw[A5,List.range_succ,AW,AW]
     rfl
   .refine⟨_,rfl,AD rfl,fun tp htp=>?_⟩
    refine⟨tp,[.str "for",.str "end",.str "size"],rfl,.inr (Aw.of A5),rfl,rfl,_,rfl,?_⟩
    show if CZ (V.str (Ax (Br xs wd (i:Int)))) [.str "for",.str "end",.str "size"]=true then _ else _
    rw[N0]
    have hlr:(Br xs wd (i:Int)).length<=10:=by
     have:=Qk wl (xs:=xs) (i:Int)
     unfold D7 at this
     split at this
     .rw[Ap]at this;omega
     .exact this
    have hz2:(Str.ofString "zz").length=2:=by decide +kernel
    refine Az (fun cc=>?_) (fun cc=>?_)
    .have e:(Str.ofString "zz"++Ax (Br xs wd (i:Int)))=Ax (D7 xs wd (i:Int)):=DF (by
      rw[B4,Ba,Ba]
      unfold D7
      rw[Af (dT cc)]
      congr 1)
     refine⟨_,rfl,_,_,rfl,rfl,AF (by rw[Dp,hz2];omega),?_⟩
     rw[e]
     exact rest _ _ ⟨Ab htp _,_,_,rfl⟩
    .have e:Ax (Br xs wd (i:Int))=Ax (D7 xs wd (i:Int)):=by
      unfold D7
      rw[A9 (dF cc)]
     rw[e]
     exact rest _ _ ⟨Ab htp _,_,_,rfl⟩
  .refine⟨_,rfl,rx,_,_,_,rfl,rfl,A2.of hxx,atx 0 (by decide),_,_,rfl,rfl,(by show(0:Int)<2;decide),rfl,_,rfl,?_⟩
   have key:(V.int (xs.getD 0 0%2)=V.int 0)↔xs.getD 0 0%2=0:=⟨fun e=>V.int.inj e,fun e=>by rw[e]⟩
   refine Az (fun cc=>?_) (fun cc=>?_)
   .have c2:=key.mp (dT cc)
    refine⟨_,rfl,_,rfl,_,rfl,_,_,rfl,rfl,.inl ⟨by decide,by decide⟩,_,_,rfl,rfl,_,_,rfl,rfl,(by show(0:Int)<8;decide),_,_,rfl,rfl,_,rfl,_,rfl,AF (by omega),?_⟩
    have b0:=BY (C6 xs+3*(i:Int)) (show(8:Int)≠0 by decide)
    have e:Ax (Cn (cds (Ax wd)) none (some (1+(C6 xs+3*(i:Int))%8)))=Ax (Br xs wd (i:Int)):=by
     rw[Ba,FU _ (by omega)]
     unfold Br
     rw[Af c2]
     unfold Gg
     rfl
    exact rest _ _ ⟨rfl,_,_,congrArg (fun z=>[some (V.int c),some (V.int 8),some (V.str Ec),some (V.ref rx),some (V.str (Ax wd)),some (V.int (C6 xs)),some (V.int (Ci xs)),some (V.ref l),_,_,some (V.str z)]) e⟩
   .have c2:=fun z=>dF cc (key.mpr z)
    have e:Ax (FD xs wd (i:Int))=Ax (Br xs wd (i:Int)):=by
     unfold Br
     rw[A9 c2]
    exact rest _ _ ⟨rfl,_,_,congrArg (fun z=>[some (V.int c),some (V.int 8),some (V.str Ec),some (V.ref rx),some (V.str (Ax wd)),some (V.int (C6 xs)),some (V.int (Ci xs)),some (V.ref l),_,_,some (V.str z)]) e⟩
 .obtain⟨o1,o2,o3,rfl,hs,hH⟩:=p
  refine⟨_,rfl,q l H' _ (s1.trans hs) ⟨hH,by rw[Aq,List.length_range],SZ wl,fun z hz=>?_⟩⟩
  obtain⟨k,_,rfl⟩:=CF.mp hz
  rw[Ba]
  exact Rd.nameC_ok wl wb (k:Int)
theorem O7 (T:Tx w K mg a):AJ P w K mg base AS 1 a.f_l a.d_l ["_law_cell_here","_law_far"] QH:=by
 refine T.F_l.ok V5 (fun vs H Q E h=>?_) (fun cdv A outer s H vs Q E hr h=>?_)
 .obtain⟨_,_,rfl,_⟩:=h;rfl
 obtain⟨c,far,rfl,h0,h1,q⟩:=h
 refine⟨_,(@A6 _ _ _ _ _ (@AI _ _ _ _ _ _ _ _ (@An _ _ _ _ _ _ _ _ BC (@Ae _ _ _ _ _ _ _ _ By (pv 0) A3) A3 (@Ao _ _ (by decide) (by decide))) (@Ac _ _ _ (@Ar _ _ _ _ (@Ae _ _ _ _ _ _ _ _ FR (@Ae _ _ _ _ _ _ _ _ By (@Ae _ _ _ _ _ _ _ _ Dm (pv 0) A3) A3) A3))) AN) (@Ac _ _ _ (@Ar _ _ _ _ (@Ae _ _ _ _ _ _ _ _ FR (@Ae _ _ _ _ _ _ _ _ By (@Ae _ _ _ _ _ _ _ _ Dm (pv 0) A3) (@Ae _ _ _ _ _ _ _ _ BS (@Ae _ _ _ _ _ _ _ _ EU A3 (pv 1)) A3)) (pv 1))))),?_⟩
 have key:(V.int (c%3)=V.int 0)↔c%3=0:=⟨fun e=>V.int.inj e,fun e=>by rw[e]⟩
 refine⟨_,rfl,_,_,rfl,rfl,(by show(0:Int)<3;decide),rfl,_,rfl,?_⟩
 refine Az (fun cc=>?_) (fun cc=>?_)
 .refine⟨_,rfl,_,_,rfl,rfl,⟨by decide,by decide⟩,_,_,rfl,rfl,(by show(0:Int)<7;decide),_,_,rfl,rfl,?_⟩
  unfold Fc at q
  rw[Af (key.mp (dT cc))]at q
  exact q
 .refine⟨_,rfl,_,_,rfl,rfl,⟨by decide,by decide⟩,_,rfl,_,_,rfl,rfl,.inl ⟨by decide,by decide⟩,_,_,rfl,rfl,_,_,rfl,rfl,(by show(0:Int)<2*far+1;omega),_,rfl,_,_,rfl,rfl,?_⟩
  unfold Fc at q
  rw[A9 (fun z=>dF cc (key.mpr z))]at q
  exact q
theorem Md (T:Tx w K mg a):AJ P w K mg base AS 1 a.f_f a.d_f ["_law_spot_here"] Ux:=by
 refine T.F_f.ok TN (fun vs H Q E h=>?_) (fun cdv A outer s H vs Q E hr h=>?_)
 .obtain⟨_,_,rfl,_⟩:=h;rfl
 obtain⟨x,s,rfl,⟨t,rfl,ht⟩,⟨b0,b1,b2⟩,q⟩:=h
 refine⟨_,(@A6 _ _ _ _ _ (@AI _ _ _ _ _ _ _ _ (@An _ _ _ _ _ _ _ _ BC (@Ag _ _ _ _ _ _ _ B0 (pv 0) A3 (fun _ _=>rfl)) Av (@Ao _ _ (by decide) (by decide))) (@Ac _ _ _ (@Ar _ _ _ _ (@Dl _ _ _ _ _ _ _ _ _ Iw (by rfl) T.z_str Ir (@A0 _ _ _ _ _ (@Ag _ _ _ _ _ _ _ B0 (pv 0) A3 (fun _ _=>rfl)) A4 (by rfl)) (by decide) (by decide) (by rfl) (by rfl)))) AN) (@A6 _ _ _ _ _ (@AI _ _ _ _ _ _ _ _ (@An _ _ _ _ _ _ _ _ BC (@Ag _ _ _ _ _ _ _ B0 (pv 0) A3 (fun _ _=>rfl)) A3 (@Ao _ _ (by decide) (by decide))) (@Ac _ _ _ (@Ar _ _ _ _ (@Ag _ _ _ _ _ _ _ B0 (pv 0) A3 (fun _ _=>rfl)))) AN) (@Ac _ _ _ (@Ar _ _ _ _ (@Ae _ _ _ _ _ _ _ _ C1 (@Ae _ _ _ _ _ _ _ _ C1 (@Ag _ _ _ _ _ _ _ B0 (pv 0) A3 (fun _ _=>rfl)) (@Ag _ _ _ _ _ _ _ En Av (@Dl _ _ _ _ _ _ _ _ _ M4 (by rfl) T.z_int IV (@A0 _ _ _ _ _ (@De _ _ _ _ _ _ _ _ F0 (@Ag _ _ _ _ _ _ _ B0 (pv 0) A3 (fun _ _=>rfl)) A3 (@Ao _ _ (by decide) (by decide))) A4 (by rfl)) (by decide) (by decide) (by rfl) (by rfl)) (fun _ _=>rfl))) (@Dl _ _ _ _ _ _ _ _ _ Iw (by rfl) T.z_str Ir (@A0 _ _ _ _ _ (@B6 _ _ _ _ _ _ _ _ _ Ol (by rfl) T.z_abs M9 (@A0 _ _ _ _ _ (@Ag _ _ _ _ _ _ _ B0 (pv 0) A3 (fun _ _=>rfl)) A4 (by rfl)) (by decide) (by decide) (by rfl) (by rfl)) A4 (by rfl)) (by decide) (by decide) (by rfl) (by rfl))))))),?_⟩
 refine⟨_,rfl,t,_,0,_,rfl,rfl,Aw.of ht,rfl,rfl,_,rfl,?_⟩
 by_cases c1:s.1=""
 .unfold AU at q
  rw[Af c1]at q
  refine IU (v:=true) (B7 (congrArg V.str c1)) (Bq ?_)
  exact⟨_,rfl,t,_,1,_,rfl,rfl,Aw.of ht,rfl,_,rfl,GY b1 b2,q⟩
 refine IU (v:=false) (dS c1) (AA ?_)
 refine⟨_,rfl,t,_,1,_,rfl,rfl,Aw.of ht,rfl,rfl,_,rfl,?_⟩
 by_cases c2:s.2=0
 .unfold AU at q
  rw[A9 c1,Af c2]at q
  refine IU (v:=true) (B7 (congrArg V.int c2)) (Bq ?_)
  exact⟨_,rfl,t,_,0,_,rfl,rfl,Aw.of ht,rfl,q⟩
 refine IU (v:=false) (Bv fun z=>c2 (V.int.inj z)) (AA ?_)
 rw[UV c1 c2]at q
 have nl:=IY (i:=if s.2<0 then -s.2 else s.2) (by split<;>omega) (by split<;>omega)
 unfold nS at nl q
 have lg:=GY (i:=if s.2<0 then -s.2 else s.2) (by split<;>omega) (by split<;>omega)
 have a1:BH (cds (Str.ofString "+-")) (if decide (s.2<0)=true then 1 else 0)=some (if s.2<0 then 45 else 43):=by
  by_cases c:s.2<0
  .rw[Af c,Af (B7 c)];decide +kernel
  .rw[A9 c,A9 (fun z=>c (HY z))];decide +kernel
 have a2:(⟨#[if s.2<0 then 45 else 43]⟩:Str)=if s.2<0 then("-":Str) else"+":=by
  by_cases c:s.2<0
  .rw[Af c,Af c];decide +kernel
  .rw[A9 c,A9 c];decide +kernel
 have a3:(⟨#[if s.2<0 then 45 else 43]⟩:Str).length=1:=rfl
 rw[←a2]at q
 refine⟨_,rfl,t,_,0,_,rfl,rfl,Aw.of ht,rfl,_,rfl,t,_,1,_,rfl,rfl,Aw.of ht,rfl,_,_,rfl,rfl,.inr ⟨_,rfl,_,_,_,rfl,rfl,(by decide +kernel),a1,_,_,rfl,rfl,AF (by omega),?_⟩⟩
 exact⟨_,rfl,t,_,1,_,rfl,rfl,Aw.of ht,rfl,_,rfl,_,rfl,lg,_,_,rfl,rfl,AF (by rw[Bh];omega),q⟩
theorem Os (T:Tx w K mg a):AJ P w K mg base AS 2 a.f_g a.d_g ["_law_one","_law_other","_law_known"] Rd.spSpot23:=by
 have G_l :=@O7 P w K mg base a T
 refine T.F_g.ok KL (fun vs H Q E h=>?_) (fun cdv A outer s H vs Q E hr h=>?_)
 .obtain⟨_,_,_,_,rfl,_⟩:=h;rfl
 obtain⟨x,y,kl,nms,rfl,x0,x1,y0,y1,hk,q⟩:=h
 refine⟨_,(@A6 _ _ _ _ _ (@Aj _ _ (3) _ _ _ _ KL.nd rfl (.inl rfl) (@AC _ _ _ _ _ _ _ _ _ _ _ _ _ _ _ _ G_l (hr.mono (by omega)) (by rfl) T.m_l T.F_l.kp T.b_l .nil Au (@A0 _ _ _ _ _ (@Ae _ _ _ _ _ _ _ _ EU (@Ae _ _ _ _ _ _ _ _ EU (pv 0) (pv 1)) A3) (@A0 _ _ _ _ _ (@Ae _ _ _ _ _ _ _ _ FR (@Ae _ _ _ _ _ _ _ _ KY A3 A3) A3) A4 (by rfl)) (by rfl)) (by decide) (by rfl) (by rfl)) (by rfl) (by first|exact .inl rfl|exact .inr rfl|assumption)) (@A6 _ _ _ _ _ (@AI _ _ _ _ _ _ _ _ (@An _ _ _ _ _ _ _ _ BC (@Ae _ _ _ _ _ _ _ _ By (pv 1) A3) A3 (@Ao _ _ (by decide) (by decide))) (@Ac _ _ _ (@Aj _ _ (3) _ _ _ _ KL.nd rfl (.inl rfl) A3 (by rfl) (by first|exact .inl rfl|exact .inr rfl|assumption))) AN) (@Ac _ _ _ (@Ar _ _ _ _ (@CJ _ _ _ _ _ (@A0 _ _ _ _ _ (@Ag _ _ _ _ _ _ _ AV (pv 2) (@Ae _ _ _ _ _ _ _ _ By (pv 0) (@B6 _ _ _ _ _ _ _ _ _ BO (by rfl) T.z_len BB (@A0 _ _ _ _ _ (pv 2) A4 (by rfl)) (by decide) (by decide) (by rfl) (by rfl))) (fun _ _=>rfl)) (@A0 _ _ _ _ _ (pv 3) A4 (by rfl)) (by rfl))))))),?_⟩
 have bx : -(2 ^ 64:Int)<x/\x<2 ^ 64:=⟨by omega,by omega⟩
 have bxy : -(2 ^ 64:Int)<x*y/\x*y<2 ^ 64:=by
  have h1:x*y<=2147483647*2147483647:=Int.mul_le_mul (by omega) (by omega) y0 (by decide)
  have h2:=Int.mul_nonneg x0 y0
  exact⟨by omega,by omega⟩
 refine⟨_,rfl,_,rfl,_,_,rfl,rfl,.inl bx,_,_,rfl,rfl,.inl bxy,_,_,rfl,rfl,⟨by decide,by decide,by decide⟩,_,_,rfl,rfl,_,_,rfl,(by decide),(by decide),?_⟩
 have nb:=My (x*y*7) (far:=10 ^ (18:Int).toNat-1) (by decide)
 dsimp only[Am]
 generalize Fc _ _=nn at nb ⊢
 refine D4 (fun σ' H'=>H'=H/\∃n:Int,-999999999999999999<=n/\n<=999999999999999999/\σ'=[some (.int x),some (.int y),some (.ref kl),some (.int n)]) (fun σ' H' pp=>?_) (fun nx=>?_)
 .obtain⟨rfl,n,n0,n1,rfl⟩:=pp
  have lm:(((((("":Str)::nms).map V.str).length:Nat):Int))=((("":Str)::nms).length:Int):=by rw[Aq]
  have lp:(0:Int)<((("":Str)::nms).length:Int):=by rw[AO];omega
  have f0:=BY x (show(((("":Str)::nms).map V.str).length:Int)≠0 by omega)
  have f1:=Cd x (show(0:Int)<(((("":Str)::nms).map V.str).length:Int) by omega)
  obtain⟨z,hz,hzi⟩:=Rd.strs_at (zs:=("":Str)::nms) f0 (by omega)
  have hzm:=CC hzi
  refine⟨_,rfl,_,rfl,_,rfl,kl,_,rfl,.inl (A2.of hk.1),_,_,rfl,rfl,(by show(0:Int)<(((("":Str)::nms).map V.str).length:Int);omega),kl,_,_,_,rfl,rfl,A2.of hk.1,hz,_,rfl,AD rfl,fun r hr'=>?_⟩
  exact q _ _ (z,n) (Ab hr' _) ⟨r,rfl,A5⟩ (Rd.spn_of hk.2.2 hzm n0 n1).1 (Rd.spn_of hk.2.2 hzm n0 n1).2
 .refine⟨_,rfl,_,_,rfl,rfl,(by show(0:Int)<4;decide),rfl,_,rfl,?_⟩
  refine Az (fun _=>nx _ _ ⟨rfl,0,by decide,by decide,rfl⟩) (fun _=>nx _ _ ⟨rfl,nn,nb.1,nb.2,rfl⟩)
theorem MZ (T:Tx w K mg a):AJ P w K mg base AS 3 a.f_m a.d_m ["_law_xs","_law_known","_law_names_here"] Rd.spCell23:=by
 have G_g :=@Os P w K mg base a T
 have G_f :=@Md P w K mg base a T
 refine T.F_m.ok Ig (fun vs H Q E h=>?_) (fun cdv A outer s H vs Q E hr h=>?_)
 .obtain⟨_,_,_,_,_,_,rfl,_⟩:=h;rfl
 obtain⟨rx,kl,nl,xs,nms,ns,rfl,hx,xl,xm,hk,hn,q⟩:=h
 refine⟨_,(@A6 _ _ _ _ _ (@Aj _ _ (3) _ _ _ _ Ig.nd rfl (.inl rfl) (@Ae _ _ _ _ _ _ _ _ BS A3 (@Ae _ _ _ _ _ _ _ _ By (@Ag _ _ _ _ _ _ _ AV (pv 0) A3 (fun _ _=>rfl)) A3)) (by rfl) (by first|exact .inl rfl|exact .inr rfl|assumption)) (@A6 _ _ _ _ _ (@Aj _ _ (4) _ _ _ _ Ig.nd rfl (.inl rfl) (@Ag _ _ _ _ _ _ _ AV (pv 2) (@Ae _ _ _ _ _ _ _ _ BS (@Ae _ _ _ _ _ _ _ _ FR (@Ae _ _ _ _ _ _ _ _ EU A3 (pv 3)) A3) (@Ae _ _ _ _ _ _ _ _ By (@Ae _ _ _ _ _ _ _ _ Dm (@Ag _ _ _ _ _ _ _ AV (pv 0) A3 (fun _ _=>rfl)) A3) A3)) (fun _ _=>rfl)) (by rfl) (by first|exact .inl rfl|exact .inr rfl|assumption)) (@A6 _ _ _ _ _ (@Aj _ _ (5) _ _ _ _ Ig.nd rfl (.inl rfl) (@Dl _ _ _ _ _ _ _ _ _ Fu (by rfl) T.z_tuple FM (@A0 _ _ _ _ _ (@DN _ _ _ _ _ _ _ ["_law_k","_law_known","_law_xs"] [none,some 1,some 0] _ _ _ _ (by rfl) (@JD _ _ _ _ _ _ (by rfl) T.z_range (@A0 _ _ _ _ _ (pv 3) A4 (by rfl)) (by rfl)) Sk (fun _ _ _ _ _ _=>⟨(BG (i:=0) Qr rfl (.inl rfl)),@Eh _,(@AC _ _ _ _ _ _ _ _ _ _ _ _ _ _ _ _ G_g (hr.mono (by omega)) (by rfl) T.m_g T.F_g.kp T.b_g .nil Au (@A0 _ _ _ _ _ (@Ag _ _ _ _ _ _ _ (show Em _ (L6 K) from AV) (pv 2) (@Ae _ _ _ _ _ _ _ _ BS A3 (pv 0)) (fun _ _=>rfl)) (@A0 _ _ _ _ _ (@Ag _ _ _ _ _ _ _ (show Em _ (L6 K) from AV) (pv 2) (@Ae _ _ _ _ _ _ _ _ BS A3 (pv 0)) (fun _ _=>rfl)) (@A0 _ _ _ _ _ (pv 1) A4 (by rfl)) (by rfl)) (by rfl)) (by decide) (by rfl) (by rfl))⟩) (by intro _;rfl)) A4 (by rfl)) (by decide) (by decide) (by rfl) (by rfl)) (by rfl) (by first|exact .inl rfl|exact .inr rfl|assumption)) (@Ac _ _ _ (@Ar _ _ _ _ (@E5 _ _ _ _ _ (@B8 _ _ _ _ _ (pv 4) (@B8 _ _ _ _ _ (pv 5) (@B8 _ _ _ _ _ (@Ae _ _ _ _ _ _ _ _ C1 (pv 4) (@Be _ _ _ _ _ _ _ _ _ _ _ _ DK OI OJ KH Av (@A0 _ _ _ _ _ (@DN _ _ _ _ _ _ _ ["_law_spot_here"] [none] _ _ _ _ (by rfl) (@KQ _ _ _ _ (pv 5)) Um (fun _ _ _ _ _ _=>⟨(BG (i:=0) Rp rfl (.inl rfl)),@Eh _,(@Ae _ _ _ _ _ _ _ _ C1 (@Ae _ _ _ _ _ _ _ _ C1 Av (@AC _ _ _ _ _ _ _ _ _ _ _ _ _ _ _ _ G_f (hr.mono (by omega)) (by rfl) T.m_f T.F_f.kp T.b_f .nil Au (@A0 _ _ _ _ _ (pv 0) A4 (by rfl)) (by decide) (by rfl) (by rfl))) Av)⟩) (by intro _;rfl)) A4 (by rfl)) (by rfl) (by rfl) (by rfl) (by rfl) (by rfl))) DD Li) EZ) EZ))))))),?_⟩
 have atx:∀k:Nat,k<5->BH (xs.map V.int) ((k:Nat):Int)=some (.int (xs.getD k 0)):=fun k hk=>FH (ns:=xs) (k:=((k:Nat):Int)) (by omega) (by omega)
 have xb:∀k:Nat,k<5->0<=xs.getD k 0/\xs.getD k 0<2147483647:=fun k hk=>by
  have hm:xs.getD k 0∈xs:=by rw[GL,BX (by omega)];exact GM _
  exact xm _ hm
 refine⟨_,rfl,rx,_,_,_,rfl,rfl,A2.of hx,atx 0 (by decide),_,_,rfl,rfl,(by show(0:Int)<3;decide),_,_,rfl,rfl,?_⟩
 dsimp only[Am]
 have m0:=BY (xs.getD 0 0) (show(3:Int)≠0 by decide)
 have m1:=Cd (xs.getD 0 0) (show(0:Int)<3 by decide)
 obtain⟨m,em⟩:∃m:Nat,1+xs.getD 0 0%3=(m:Int):=⟨(1+xs.getD 0 0%3).toNat,by omega⟩
 rw[em]
 have mb:1<=m/\m<=3:=by omega
 have f0:=BY (xs.getD 0 0/3) (show(2:Int)≠0 by decide)
 have f1:=Cd (xs.getD 0 0/3) (show(0:Int)<2 by decide)
 obtain⟨tz,htz,tzi⟩:=Rd.strs_at (zs:=ns) (i:=2*(m:Int)-1+xs.getD 0 0/3%2) (by omega) (by have:=hn.2.1;omega)
 have tok:=hn.2.2.2 tz (CC tzi)
 have tl:tz.length<=20:=by have:=tok.2.1;rw[cds_len]at this;omega
 have tfz:Rd.tf ns tz=m:=by unfold Rd.tf;rw[Rd.idx_nodup hn.2.2.1 tzi];omega
 refine⟨_,rfl,_,rfl,_,_,rfl,rfl,.inl ⟨by decide,by decide⟩,_,_,rfl,rfl,_,rfl,rx,_,_,_,rfl,rfl,A2.of hx,atx 0 (by decide),_,_,rfl,rfl,⟨by decide,by decide⟩,_,_,rfl,rfl,(by show(0:Int)<2;decide),_,_,rfl,rfl,nl,_,_,_,rfl,rfl,A2.of hn.1,htz,?_⟩
 dsimp only[Am]
 refine⟨_,rfl,_,rfl,by omega,by omega,?_⟩
 rw[HN]
 refine Vt (lo:=0) (n:=m) (fun i ys H'=>A8 H H'/\∃sp:List (Str×Int),AE (C3 H') ys sp/\sp.length=i/\∀s∈sp,Rd.SpN s/\Rd.knw nms s=true) ⟨A8.refl _,[],.nil,rfl,fun s hs=>by cases hs⟩ (AF (by omega)) (fun i ys H' hi pp=>by obtain⟨_,sp,h,h2,_⟩:=pp;rw[h.1];omega) (fun i ys H' hi pp=>?_) (fun ys H1 pp r1 hr1=>?_)
 .obtain⟨e,sp,ay,sl,sb⟩:=pp
  have e0:1+(0+(i:Int))=((1+i:Nat):Int):=by omega
  have e1:2+(0+(i:Int))=((2+i:Nat):Int):=by omega
  refine⟨_,rfl,_,rfl,_,_,rfl,rfl,rx,_,_,_,rfl,rfl,A2.of (e _ _ hx),(by rw[e0];exact atx (1+i) (by omega)),_,rfl,_,rfl,_,_,rfl,rfl,rx,_,_,_,rfl,rfl,A2.of (e _ _ hx),(by rw[e1];exact atx (2+i) (by omega)),_,rfl,_,_,kl,nms,rfl,(xb _ (by omega)).1,(xb _ (by omega)).2,(xb _ (by omega)).1,(xb _ (by omega)).2,hk.over e,fun r H2 s e2 hs hb hkn=>?_⟩
  refine⟨e.trans e2,sp++[s],(ay.mono fun _ _ z=>z.tk (A8.tk e2)).snoc hs,by rw[Ap,sl];rfl,fun s' hs'=>?_⟩
  rcases BI.mp hs' with c|c
  .exact sb s' c
  .rw[Ce.mp c];exact⟨hb,hkn⟩
 obtain⟨e,sp,ay,sl,sb⟩:=pp
 refine⟨r1,_,rfl,.inl ⟨A2.of A5,fun p hp=>?_⟩⟩
 have s2:=(Ab hr1 (.lst ys)).trans (Ab hp (.tup ys))
 have hp2:(upd (upd H1 r1 (.lst ys)) p (.tup ys)) p=some (.tup ys):=A5
 dsimp only[Am]
 have eH:=e.trans s2
 have ay2:=ay.mono fun _ _ z=>z.tk (A8.tk s2)
 generalize upd (upd H1 r1 (.lst ys)) p (.tup ys)=H2 at s2 hp2 eH ay2
 have yl:=ay2.1
 refine⟨_,rfl,_,rfl,_,rfl,rfl,_,rfl,p,rfl,⟨_,Aw.of hp2⟩,?_⟩
 refine Lo (xs:=ys) (fun i zs H'=>H'=H2/\zs=((sp.take i).map CS).map V.str) ⟨rfl,rfl⟩ (AF (by omega)) (fun i zs H' hi pp=>⟨by rw[pp.1];exact Aw.of hp2,by rw[pp.2,Aq,Aq,BA];omega⟩) (fun i x zs H' hx pp=>?_) (fun zs H' pp r hr'=>?_)
 .obtain⟨rfl,rfl⟩:=pp
  obtain⟨s1,hs,hsp⟩:=ay2.get' hx
  have hb:=(sb s1 (CC hs)).1.2
  have l1:=ER hb
  have l2:("[":Str).length=1:=by decide +kernel
  have l3:("]":Str).length=1:=by decide +kernel
  refine⟨_,rfl,x,s1,rfl,hsp,hb,_,_,rfl,rfl,AF (by omega),_,_,rfl,rfl,AF (by rw[Bh];omega),rfl,?_⟩
  rw[DE hs,AW,AW]
  rfl
 obtain⟨rfl,rfl⟩:=pp
 rw[G2 (by omega)]
 have sb2:∀s∈sp,Eu s:=fun s hs=>(sb s hs).1.2
 have hs:=MU (sp:=sp) (by omega) sb2
 have cl:=Gz (sp:=sp) tl (by omega) sb2
 unfold B3 at cl
 rw[Bh]at cl
 refine⟨_,r,_,rfl,rfl,.inl (A2.of A5),Bz hs (by decide),_,_,rfl,rfl,AF (by omega),AD rfl,fun t ht=>?_⟩
 have s3:=(Ab hr' (.lst ((sp.map CS).map V.str))).trans (Ab ht (.tup [V.str tz,V.ref p,V.str (tz++Txt.join "" (sp.map CS))]))
 exact q t p _ tz sp (eH.trans s3) A5 ⟨ys,s3 _ _ hp2,ay2.mono fun _ _ z=>z.tk (A8.tk s3)⟩ ⟨⟨tok,(fun z=>by rw[z]at sl;have:0=m:=sl;omega),by omega,fun s hs=>(sb s hs).1⟩,G1.mpr fun s hs=>(sb s hs).2,by show Rd.tf ns tz=sp.length;rw[tfz,sl]⟩
theorem Uq (T:Tx w K mg a):AJ P w K mg base AS 4 a.f_n a.d_n ["_law_cell_here","_law_known","_law_names_here"] Rd.spLeaf23:=by
 have G_c :=@HB P w K mg base a T
 have G_l :=@O7 P w K mg base a T
 have G_m :=@MZ P w K mg base a T
 refine T.F_n.ok Hd (fun vs H Q E h=>?_) (fun cdv A outer s H vs Q E hr h=>?_)
 .obtain⟨_,_,_,_,_,rfl,_⟩:=h;rfl
 obtain⟨c,kl,nl,nms,ns,rfl,hk,hn,q⟩:=h
 refine⟨_,(@A6 _ _ _ _ _ (@Aj _ _ (3) _ _ _ _ Hd.nd rfl (.inl rfl) (@AC _ _ _ _ _ _ _ _ _ _ _ _ _ _ _ _ G_c (hr.mono (by omega)) (by rfl) T.m_c T.F_c.kp T.b_c .nil Au (@A0 _ _ _ _ _ (@Ae _ _ _ _ _ _ _ _ Dm (pv 0) A3) (@A0 _ _ _ _ _ A3 A4 (by rfl)) (by rfl)) (by decide) (by rfl) (by rfl)) (by rfl) (by first|exact .inl rfl|exact .inr rfl|assumption)) (@A6 _ _ _ _ _ (@AI _ _ _ _ _ _ _ _ (@An _ _ _ _ _ _ _ _ BC (@Ae _ _ _ _ _ _ _ _ By (pv 0) A3) A3 (@Ao _ _ (by decide) (by decide))) (@A6 _ _ _ _ _ (@Aj _ _ (4) _ _ _ _ Hd.nd rfl (.inl rfl) (@B6 _ _ _ _ _ _ _ _ _ Ol (by rfl) T.z_abs M9 (@A0 _ _ _ _ _ (@AC _ _ _ _ _ _ _ _ _ _ _ _ _ _ _ _ G_l (hr.mono (by omega)) (by rfl) T.m_l T.F_l.kp T.b_l .nil Au (@A0 _ _ _ _ _ (@Ae _ _ _ _ _ _ _ _ EU (@Ag _ _ _ _ _ _ _ AV (pv 3) A3 (fun _ _=>rfl)) (@Ag _ _ _ _ _ _ _ AV (pv 3) A3 (fun _ _=>rfl))) (@A0 _ _ _ _ _ (@Ae _ _ _ _ _ _ _ _ FR (@Ae _ _ _ _ _ _ _ _ KY A3 A3) A3) A4 (by rfl)) (by rfl)) (by decide) (by rfl) (by rfl)) A4 (by rfl)) (by decide) (by decide) (by rfl) (by rfl)) (by rfl) (by first|exact .inl rfl|exact .inr rfl|assumption)) (@Ac _ _ _ (@Ar _ _ _ _ (@E5 _ _ _ _ _ (@B8 _ _ _ _ _ (@Dl _ _ _ _ _ _ _ _ _ Iw (by rfl) T.z_str Ir (@A0 _ _ _ _ _ (pv 4) A4 (by rfl)) (by decide) (by decide) (by rfl) (by rfl)) (@B8 _ _ _ _ _ A3 (@B8 _ _ _ _ _ (@CJ _ _ _ _ _ (@A0 _ _ _ _ _ Av (@A0 _ _ _ _ _ (pv 4) A4 (by rfl)) (by rfl))) DD Gj) Do) Ls))))) AN) (@A6 _ _ _ _ _ (@AI _ _ _ _ _ _ _ _ ((@D6 _ _ _ _ _ _ _ (@An _ _ _ _ _ _ _ _ BC (@Ae _ _ _ _ _ _ _ _ By (pv 0) A3) A3 (@Ao _ _ (by decide) (by decide))) (@DP _ _ _ _ (@An _ _ _ _ _ _ _ _ EA (@B6 _ _ _ _ _ _ _ _ _ BO (by rfl) T.z_len BB (@A0 _ _ _ _ _ (pv 1) A4 (by rfl)) (by decide) (by decide) (by rfl) (by rfl)) A3 (@Ao _ _ (by decide) (by decide)))))).pt (@A6 _ _ _ _ _ (@Aj _ _ (5) _ _ _ _ Hd.nd rfl (.inl rfl) (@Ag _ _ _ _ _ _ _ AV (pv 1) (@Ae _ _ _ _ _ _ _ _ BS A3 (@Ae _ _ _ _ _ _ _ _ By (@Ag _ _ _ _ _ _ _ AV (pv 3) A3 (fun _ _=>rfl)) (@Ae _ _ _ _ _ _ _ _ FR (@B6 _ _ _ _ _ _ _ _ _ BO (by rfl) T.z_len BB (@A0 _ _ _ _ _ (pv 1) A4 (by rfl)) (by decide) (by decide) (by rfl) (by rfl)) A3))) (fun _ _=>rfl)) (by rfl) (by first|exact .inl rfl|exact .inr rfl|assumption)) (@Ac _ _ _ (@Ar _ _ _ _ (@E5 _ _ _ _ _ (@B8 _ _ _ _ _ (pv 5) (@B8 _ _ _ _ _ A3 (@B8 _ _ _ _ _ (@CJ _ _ _ _ _ (@A0 _ _ _ _ _ Av (@A0 _ _ _ _ _ (pv 5) A4 (by rfl)) (by rfl))) DD Gj) Do) EZ))))) AN) (@A6 _ _ _ _ _ (@Aj _ _ (6) _ _ _ _ Hd.nd rfl (.inl rfl) (@AC _ _ _ _ _ _ _ _ _ _ _ _ _ _ _ _ G_m (hr.mono (by omega)) (by rfl) T.m_m T.F_m.kp T.b_m .nil Au (@A0 _ _ _ _ _ (pv 3) (@A0 _ _ _ _ _ (pv 1) (@A0 _ _ _ _ _ (pv 2) A4 (by rfl)) (by rfl)) (by rfl)) (by decide) (by rfl) (by rfl)) (by rfl) (by first|exact .inl rfl|exact .inr rfl|assumption)) (@Ac _ _ _ (@Ar _ _ _ _ (@E5 _ _ _ _ _ (@B8 _ _ _ _ _ (@Ag _ _ _ _ _ _ _ B0 (pv 6) A3 (fun _ _=>rfl)) (@B8 _ _ _ _ _ A3 (@B8 _ _ _ _ _ (@E5 _ _ _ _ _ (@B8 _ _ _ _ _ Av (@B8 _ _ _ _ _ (@Ag _ _ _ _ _ _ _ B0 (pv 6) A3 (fun _ _=>rfl)) (@B8 _ _ _ _ _ (@Ag _ _ _ _ _ _ _ B0 (pv 6) A3 (fun _ _=>rfl)) DD FL) FL) Do)) DD Gj) Do) FL)))))))),?_⟩
 refine⟨_,rfl,_,_,rfl,rfl,⟨by decide,by decide⟩,_,5,rfl,by decide,by decide,fun rx H1 s1 hx=>?_⟩
 rw[show(5:Int).toNat=5 from rfl]at hx
 generalize hxs:Er (c/3) 5=xs at hx
 have xl:xs.length=5:=by rw[←hxs,HH]
 have xm:∀y∈xs,0<=y/\y<2147483647:=fun y hy=>JE (hxs▸hy)
 have atx:∀k:Nat,k<5->BH (xs.map V.int) ((k:Nat):Int)=some (.int (xs.getD k 0)):=fun k hk=>FH (ns:=xs) (k:=((k:Nat):Int)) (by omega) (by omega)
 have xb:∀k:Nat,k<5->-(2 ^ 64:Int)<xs.getD k 0/\xs.getD k 0<2 ^ 64:=fun k hk=>by
  have hm:xs.getD k 0∈xs:=by rw[GL,BX (by omega)];exact GM _
  obtain⟨h0,h1⟩:=xm _ hm
  exact⟨by omega,by omega⟩
 have hk1:=hk.over s1
 have hn1:=hn.over s1
 dsimp only[Am]
 refine⟨_,rfl,_,_,rfl,rfl,(by show(0:Int)<3;decide),rfl,_,rfl,?_⟩
 refine Az (fun _=>?_) (fun _=>?_)
 .refine⟨_,rfl,rx,_,_,_,rfl,rfl,A2.of hx,atx 0 (by decide),_,rfl,rx,_,_,_,rfl,rfl,A2.of hx,atx 1 (by decide),_,_,rfl,rfl,.inl (xb 0 (by decide)),_,_,rfl,rfl,⟨by decide,by decide,by decide⟩,_,_,rfl,rfl,_,_,rfl,(by decide),(by decide),?_⟩
  have nb:=My (xs.getD 0 0*xs.getD 1 0) (far:=10 ^ (18:Int).toNat-1) (by decide)
  generalize Fc _ _=nn at nb ⊢
  refine⟨_,rfl,?_⟩
  obtain⟨n,en,n0,n1⟩:∃n:Int,(if nn<0 then -nn else nn)=n/\0<=n/\n<=999999999999999999:=⟨_,rfl,by have:=nb.1;have:=nb.2;split<;>omega,by have:=nb.1;have:=nb.2;split<;>omega⟩
  rw[en]
  dsimp only[Am]
  refine⟨_,rfl,_,rfl,GY (by omega) n1,_,rfl,AD rfl,fun t1 ht1=>⟨AD rfl,fun t2 ht2=>?_⟩⟩
  have s2:=(Ab ht1 (.tup [V.str "n",V.int n])).trans (Ab ht2 (.tup [V.str (Str.ofString (toString n)),V.int 3,V.ref t1]))
  exact q _ _ (.n n) (s1.trans s2) ⟨t2,.ref t1,rfl,A5,t1,rfl,(Ab ht2 _) _ _ A5⟩ ⟨⟨n0,n1⟩,True.intro,True.intro⟩
 .dsimp only[Kz]
  refine D4 (fun σ' H2=>H2=H1/\σ'=[some (.int c),some (.ref kl),some (.ref nl),some (.ref rx),none,none,none]) (fun σ' H2 pp=>?_) (fun nx=>?_)
  .obtain⟨rfl,rfl⟩:=pp
   refine⟨_,rfl,_,rfl,_,rfl,rx,kl,nl,xs,nms,ns,rfl,hx,xl,xm,hk1,hn1,fun r p H3 z sp s3 hr3 hp3 ok=>?_⟩
   dsimp only[Am]
   refine⟨_,rfl,r,_,2,_,rfl,rfl,Aw.of hr3,rfl,_,rfl,r,_,0,_,rfl,rfl,Aw.of hr3,rfl,_,rfl,r,_,1,_,rfl,rfl,Aw.of hr3,rfl,AD rfl,fun t1 ht1=>⟨AD rfl,fun t2 ht2=>?_⟩⟩
   have s4:=(Ab ht1 (.tup [V.str "c",V.str z,V.ref p])).trans (Ab ht2 (.tup [V.str (B3 z sp),V.int 3,V.ref t1]))
   exact q _ _ (.c z sp) (s1.trans (s3.trans s4)) ⟨t2,.ref t1,rfl,A5,t1,p,rfl,(Ab ht2 _) _ _ A5,hp3.tk (A8.tk s4)⟩ ok
  .refine⟨_,rfl,_,_,rfl,rfl,(by show(0:Int)<3;decide),rfl,_,rfl,?_⟩
   refine Az (fun _=>?_) (fun _=>AA (nx _ _ ⟨rfl,rfl⟩))
   refine⟨_,rfl,kl,_,rfl,.inl (A2.of hk1.1),_,_,rfl,rfl,_,rfl,?_⟩
   have l4:((((("":Str)::nms).map V.str).length:Nat):Int)=(((("":Str)::nms).length:Nat):Int):=by rw[Aq]
   refine Az (fun cm=>?_) (fun _=>nx _ _ ⟨rfl,rfl⟩)
   have cm:(1:Int)<((((("":Str)::nms).map V.str).length:Nat):Int):=dT cm
   have m0:=BY (xs.getD 0 0) (show((((("":Str)::nms).map V.str).length:Nat):Int)-1≠0 by omega)
   have m1:=Cd (xs.getD 0 0) (show(0:Int)<((((("":Str)::nms).map V.str).length:Nat):Int)-1 by omega)
   obtain⟨z,hz,zi⟩:=Rd.strs_at (zs:=("":Str)::nms) (i:=1+xs.getD 0 0%(((((("":Str)::nms).map V.str).length:Nat):Int)-1)) (by omega) (by omega)
   have zm:z∈nms:=Rd.mem_behind (by omega) zi
   refine⟨_,rfl,_,rfl,rx,_,_,_,rfl,rfl,A2.of hx,atx 0 (by decide),_,rfl,kl,_,rfl,.inl (A2.of hk1.1),_,_,rfl,rfl,_,_,rfl,rfl,(by show(0:Int)<((((("":Str)::nms).map V.str).length:Nat):Int)-1;omega),_,_,rfl,rfl,kl,_,_,_,rfl,rfl,A2.of hk1.1,hz,?_⟩
   dsimp only[Am]
   refine⟨_,rfl,_,rfl,AD rfl,fun t1 ht1=>⟨AD rfl,fun t2 ht2=>?_⟩⟩
   have s2:=(Ab ht1 (.tup [V.str "v",V.str z])).trans (Ab ht2 (.tup [V.str z,V.int 3,V.ref t1]))
   exact q _ _ (.v z) (s1.trans s2) ⟨t2,.ref t1,rfl,A5,t1,rfl,(Ab ht2 _) _ _ A5⟩ ⟨hk.2.2 z zm,zm,True.intro⟩
theorem Re (T:Tx w K mg a):AJ P w K mg base AS 1 a.f_o a.d_o ["_law_sign","_law_left","_law_right"] T8:=by
 refine T.F_o.ok Gy (fun vs H Q E h=>?_) (fun cdv A outer s H vs Q E hr h=>?_)
 .obtain⟨_,_,_,_,_,rfl,_⟩:=h;rfl
 obtain⟨z,x,y,l,r,rfl,hz3,⟨p,sx,rfl,hp,hsx⟩,⟨p2,sy,rfl,hp2,hsy⟩,okl,okr,szs,q⟩:=h
 refine⟨_,(@A6 _ _ _ _ _ (@Aj _ _ (3) _ _ _ _ Gy.nd rfl (.inl rfl) (@Ae _ _ _ _ _ _ _ _ BS A3 (@Dl _ _ _ _ _ _ _ _ _ M4 (by rfl) T.z_int IV (@A0 _ _ _ _ _ (@De _ _ _ _ _ _ _ _ BC (pv 0) Av (@Ao _ _ (by decide) (by decide))) A4 (by rfl)) (by decide) (by decide) (by rfl) (by rfl))) (by rfl) (by first|exact .inl rfl|exact .inr rfl|assumption)) (@A6 _ _ _ _ _ (@Aj _ _ (4) _ _ _ _ Gy.nd rfl (.inl rfl) (@Ag _ _ _ _ _ _ _ B0 (pv 1) A3 (fun _ _=>rfl)) (by rfl) (by first|exact .inl rfl|exact .inr rfl|assumption)) (@A6 _ _ _ _ _ (@Aj _ _ (5) _ _ _ _ Gy.nd rfl (.inl rfl) (@Ag _ _ _ _ _ _ _ B0 (pv 2) A3 (fun _ _=>rfl)) (by rfl) (by first|exact .inl rfl|exact .inr rfl|assumption)) (@A6 _ _ _ _ _ (@AI _ _ _ _ _ _ _ _ (@An _ _ _ _ _ _ _ _ F0 (@Ag _ _ _ _ _ _ _ B0 (pv 1) A3 (fun _ _=>rfl)) (pv 3) (@Ao _ _ (by decide) (by decide))) (@Ac _ _ _ (@Aj _ _ (4) _ _ _ _ Gy.nd rfl (.inl rfl) (@Ae _ _ _ _ _ _ _ _ C1 (@Ae _ _ _ _ _ _ _ _ C1 Av (pv 4)) Av) (by rfl) (by first|exact .inl rfl|exact .inr rfl|assumption))) AN) (@A6 _ _ _ _ _ (@AI _ _ _ _ _ _ _ _ (@An _ _ _ _ _ _ _ _ Ts (@Ag _ _ _ _ _ _ _ B0 (pv 2) A3 (fun _ _=>rfl)) (pv 3) (@Ao _ _ (by decide) (by decide))) (@Ac _ _ _ (@Aj _ _ (5) _ _ _ _ Gy.nd rfl (.inl rfl) (@Ae _ _ _ _ _ _ _ _ C1 (@Ae _ _ _ _ _ _ _ _ C1 Av (pv 5)) Av) (by rfl) (by first|exact .inl rfl|exact .inr rfl|assumption))) AN) (@Ac _ _ _ (@Ar _ _ _ _ (@E5 _ _ _ _ _ (@B8 _ _ _ _ _ (@Ae _ _ _ _ _ _ _ _ C1 (@Ae _ _ _ _ _ _ _ _ C1 (pv 4) (pv 0)) (pv 5)) (@B8 _ _ _ _ _ (pv 3) (@B8 _ _ _ _ _ (@E5 _ _ _ _ _ (@B8 _ _ _ _ _ (pv 0) (@B8 _ _ _ _ _ (@Ag _ _ _ _ _ _ _ B0 (pv 1) A3 (fun _ _=>rfl)) (@B8 _ _ _ _ _ (@Ag _ _ _ _ _ _ _ B0 (pv 2) A3 (fun _ _=>rfl)) DD FL) FL) EZ)) DD Gj) EZ) Li))))))))),?_⟩
 have wl:=Tw.wr_len okl
 have wR:=Tw.wr_len okr
 have zl:=NK hz3
 have l2:("(":Str).length=1:=by decide +kernel
 have l3:(")":Str).length=1:=by decide +kernel
 have eh:(1+if decide (V.str z=V.str (Str.ofString "*"))=true then(1:Int) else 0)=((hz z:Nat):Int):=by
  unfold hz
  by_cases c:z="*"
  .rw[Af c,Af (B7 (congrArg V.str c))];rfl
  .rw[A9 c,A9 (fun e=>c (V.str.inj (HY e)))];rfl
 refine⟨_,rfl,rfl,.inr ⟨_,rfl,_,_,rfl,rfl,?_⟩⟩
 dsimp only[Am]
 rw[eh]
 refine⟨_,rfl,p,_,0,_,rfl,rfl,Aw.of hp,rfl,?_⟩
 dsimp only[Am]
 refine⟨_,rfl,p2,_,0,_,rfl,rfl,Aw.of hp2,rfl,?_⟩
 dsimp only[Am]
 refine D4 (fun σ' H'=>H'=H/\σ'=[some (.str z),some (.ref p),some (.ref p2),some (.int ((hz z:Nat):Int)),some (.str (Ei (decide (l.hld<hz z)) l.wr)),some (.str r.wr)]) (fun σ' H' pp=>?_) (fun nx=>?_)
 .obtain⟨rfl,rfl⟩:=pp
  have bl:=Ib (decide (l.hld<hz z)) l.wr
  refine D4 (fun σ' H2=>H2=H'/\σ'=[some (.str z),some (.ref p),some (.ref p2),some (.int ((hz z:Nat):Int)),some (.str (Ei (decide (l.hld<hz z)) l.wr)),some (.str (Ei (decide (r.hld<=hz z)) r.wr))]) (fun σ' H2 pp=>?_) (fun nx=>?_)
  .obtain⟨rfl,rfl⟩:=pp
   have br:=Ib (decide (r.hld<=hz z)) r.wr
   refine⟨_,rfl,_,rfl,_,_,rfl,rfl,AF (by omega),_,rfl,_,_,rfl,rfl,AF (by rw[Bh];omega),_,rfl,_,rfl,_,rfl,p,_,2,_,rfl,rfl,Aw.of hp,rfl,_,rfl,p2,_,2,_,rfl,rfl,Aw.of hp2,rfl,AD rfl,fun t1 ht1=>⟨AD rfl,fun t2 ht2=>?_⟩⟩
   have s1:=Ab ht1 (.tup [V.str z,sx,sy])
   have s2:=s1.trans (Ab ht2 (.tup [V.str (Tw.wr (.j z l r)),V.int ((hz z:Nat):Int),V.ref t1]))
   exact q _ _ s2 ⟨t2,.ref t1,rfl,A5,t1,sx,sy,rfl,(Ab ht2 _) _ _ A5,hsx.tk (A8.tk s2),hsy.tk (A8.tk s2)⟩
  .refine⟨_,rfl,p2,_,1,_,rfl,rfl,Aw.of hp2,rfl,_,rfl,_,_,rfl,rfl,_,rfl,?_⟩
   refine Az (fun c=>?_) (fun c=>?_)
   .have c:r.hld<=hz z:=Int.ofNat_le.mp (dT c)
    refine⟨_,rfl,_,_,rfl,rfl,AF (by omega),_,_,rfl,rfl,AF (by rw[Bh];omega),nx _ _ ⟨rfl,?_⟩⟩
    rw[B7 c]
    rfl
   .have c:¬r.hld<=hz z:=fun e=>dF c (Int.ofNat_le.mpr e)
    refine nx _ _ ⟨rfl,?_⟩
    rw[Bv c]
    rfl
 .refine⟨_,rfl,p,_,1,_,rfl,rfl,Aw.of hp,rfl,_,rfl,_,_,rfl,rfl,_,rfl,?_⟩
  refine Az (fun c=>?_) (fun c=>?_)
  .have c:l.hld<hz z:=Int.ofNat_lt.mp (dT c)
   refine⟨_,rfl,_,_,rfl,rfl,AF (by omega),_,_,rfl,rfl,AF (by rw[Bh];omega),nx _ _ ⟨rfl,?_⟩⟩
   rw[B7 c]
   rfl
  .have c:¬l.hld<hz z:=fun e=>dF c (Int.ofNat_lt.mpr e)
   refine nx _ _ ⟨rfl,?_⟩
   rw[Bv c]
   rfl
theorem SG (T:Tx w K mg a):AJ P w K mg base AS 5 a.f_I a.d_I ["_law_cell_here","_law_known","_law_names_here"] Rd.spTerm28:=by
 have G_c :=@HB P w K mg base a T
 have G_n :=@Uq P w K mg base a T
 have G_o :=@Re P w K mg base a T
 refine T.F_I.ok Fj (fun vs H Q E h=>?_) (fun cdv A outer s H vs Q E hr h=>?_)
 .obtain⟨_,_,_,_,_,rfl,_⟩:=h;rfl
 obtain⟨seed,kl,nl,nms,ns,rfl,hk,hn,q⟩:=h
 refine⟨_,(@A6 _ _ _ _ _ (@Aj _ _ (3) _ _ _ _ Fj.nd rfl (.inl rfl) (@AC _ _ _ _ _ _ _ _ _ _ _ _ _ _ _ _ G_c (hr.mono (by omega)) (by rfl) T.m_c T.F_c.kp T.b_c .nil Au (@A0 _ _ _ _ _ (pv 0) (@A0 _ _ _ _ _ A3 A4 (by rfl)) (by rfl)) (by decide) (by rfl) (by rfl)) (by rfl) (by first|exact .inl rfl|exact .inr rfl|assumption)) (@A6 _ _ _ _ _ (@Aj _ _ (4) _ _ _ _ Fj.nd rfl (.inl rfl) (@Bl _ _ _ _ (@A0 _ _ _ _ _ (@AC _ _ _ _ _ _ _ _ _ _ _ _ _ _ _ _ G_n (hr.mono (by omega)) (by rfl) T.m_n T.F_n.kp T.b_n .nil Au (@A0 _ _ _ _ _ (@Ag _ _ _ _ _ _ _ AV (pv 3) A3 (fun _ _=>rfl)) (@A0 _ _ _ _ _ (pv 1) (@A0 _ _ _ _ _ (pv 2) A4 (by rfl)) (by rfl)) (by rfl)) (by decide) (by rfl) (by rfl)) A4 (by rfl))) (by rfl) (by first|exact .inl rfl|exact .inr rfl|assumption)) (@A6 _ _ _ _ _ (@Ep _ _ _ _ _ _ _ _ PassesOwn.never rfl (@Dy _ _ _ _ (@CW _ _ _ _ _ _ _ _ _ _ Ej (pv 3) (@Cq _ _ _ A3) (@Cq _ _ _ (@Ae _ _ _ _ _ _ _ _ BS A3 (@Ae _ _ _ _ _ _ _ _ By (pv 0) A3))))) (BG (i:=5) Fj.nd rfl (.inl rfl)) (@Ac _ _ _ (@AI _ _ _ _ _ _ _ _ ((@D6 _ _ _ _ _ _ _ (@An _ _ _ _ _ _ _ _ F0 (@Ae _ _ _ _ _ _ _ _ By (pv 5) A3) A3 (@Ao _ _ (by decide) (by decide))) (@DP _ _ _ _ (@An _ _ _ _ _ _ _ _ EA (@B6 _ _ _ _ _ _ _ _ _ BO (by rfl) T.z_len BB (@A0 _ _ _ _ _ (pv 4) A4 (by rfl)) (by decide) (by decide) (by rfl) (by rfl)) A3 (@Ao _ _ (by decide) (by decide)))))).pt (@A6 _ _ _ _ _ (@Aj _ _ (6) _ _ _ _ Fj.nd rfl (.inl rfl) (@DB _ _ _ _ _ _ _ _ _ Bo DX DY Dz (pv 4) (by rfl) (by rfl)) (by rfl) (by first|exact .inl rfl|exact .inr rfl|assumption)) (@A6 _ _ _ _ _ (@Aj _ _ (7) _ _ _ _ Fj.nd rfl (.inl rfl) (@DB _ _ _ _ _ _ _ _ _ Bo DX DY Dz (pv 4) (by rfl) (by rfl)) (by rfl) (by first|exact .inl rfl|exact .inr rfl|assumption)) (@Ac _ _ _ (@Bt _ _ _ _ (@Be _ _ _ _ _ _ _ _ _ _ _ _ Bo Cf Cg C4 (pv 4) (@A0 _ _ _ _ _ (@AC _ _ _ _ _ _ _ _ _ _ _ _ _ _ _ _ G_o (hr.mono (by omega)) (by rfl) T.m_o T.F_o.kp T.b_o .nil Au (@A0 _ _ _ _ _ (@Ag _ _ _ _ _ _ _ En Av (@Ae _ _ _ _ _ _ _ _ By (@Ae _ _ _ _ _ _ _ _ Dm (pv 5) A3) A3) (fun _ _=>rfl)) (@A0 _ _ _ _ _ (pv 7) (@A0 _ _ _ _ _ (pv 6) A4 (by rfl)) (by rfl)) (by rfl)) (by decide) (by rfl) (by rfl)) A4 (by rfl)) (by rfl) (by rfl) (by rfl) (by rfl) (by rfl)) (by rfl))))) (@Ac _ _ _ (@Bt _ _ _ _ (@Be _ _ _ _ _ _ _ _ _ _ _ _ Bo Cf Cg C4 (pv 4) (@A0 _ _ _ _ _ (@AC _ _ _ _ _ _ _ _ _ _ _ _ _ _ _ _ G_n (hr.mono (by omega)) (by rfl) T.m_n T.F_n.kp T.b_n .nil Au (@A0 _ _ _ _ _ (@Ae _ _ _ _ _ _ _ _ Dm (pv 5) A3) (@A0 _ _ _ _ _ (pv 1) (@A0 _ _ _ _ _ (pv 2) A4 (by rfl)) (by rfl)) (by rfl)) (by decide) (by rfl) (by rfl)) A4 (by rfl)) (by rfl) (by rfl) (by rfl) (by rfl) (by rfl)) (by rfl))))) (by intro _;rfl)) (@A6 _ _ _ _ _ (@Hu _ _ _ _ _ _ PassesOwn.never (@An _ _ _ _ _ _ _ _ EA (@B6 _ _ _ _ _ _ _ _ _ BO (by rfl) T.z_len BB (@A0 _ _ _ _ _ (pv 4) A4 (by rfl)) (by decide) (by decide) (by rfl) (by rfl)) A3 (@Ao _ _ (by decide) (by decide))) (@A6 _ _ _ _ _ (@Aj _ _ (6) _ _ _ _ Fj.nd rfl (.inl rfl) (@DB _ _ _ _ _ _ _ _ _ Bo DX DY Dz (pv 4) (by rfl) (by rfl)) (by rfl) (by first|exact .inl rfl|exact .inr rfl|assumption)) (@A6 _ _ _ _ _ (@Aj _ _ (7) _ _ _ _ Fj.nd rfl (.inl rfl) (@DB _ _ _ _ _ _ _ _ _ Bo DX DY Dz (pv 4) (by rfl) (by rfl)) (by rfl) (by first|exact .inl rfl|exact .inr rfl|assumption)) (@Ac _ _ _ (@Bt _ _ _ _ (@Be _ _ _ _ _ _ _ _ _ _ _ _ Bo Cf Cg C4 (pv 4) (@A0 _ _ _ _ _ (@AC _ _ _ _ _ _ _ _ _ _ _ _ _ _ _ _ G_o (hr.mono (by omega)) (by rfl) T.m_o T.F_o.kp T.b_o .nil Au (@A0 _ _ _ _ _ (@Ag _ _ _ _ _ _ _ En Av (@Ae _ _ _ _ _ _ _ _ By (@Ae _ _ _ _ _ _ _ _ Dm (pv 0) A3) A3) (fun _ _=>rfl)) (@A0 _ _ _ _ _ (pv 7) (@A0 _ _ _ _ _ (pv 6) A4 (by rfl)) (by rfl)) (by rfl)) (by decide) (by rfl) (by rfl)) A4 (by rfl)) (by rfl) (by rfl) (by rfl) (by rfl) (by rfl)) (by rfl)))))) (@Ac _ _ _ (@Ar _ _ _ _ (@Ag _ _ _ _ _ _ _ AV (pv 4) A3 (fun _ _=>rfl)))))))),?_⟩
 refine⟨_,rfl,seed,5,rfl,by decide,by decide,fun rx H3 e3 hx=>?_⟩
 rw[show(5:Int).toNat=5 from rfl]at hx
 generalize hxs:Er seed 5=xs0 at hx
 have xl:xs0.length=5:=by rw[←hxs,HH]
 have at0:BH (xs0.map V.int) (0:Int)=some (.int (xs0.getD 0 0)):=FH (ns:=xs0) (k:=0) (by decide) (by rw[xl];decide)
 have hk3:=hk.over e3
 have hn3:=hn.over e3
 dsimp only[Am]
 refine⟨_,rfl,rx,_,_,_,rfl,rfl,A2.of hx,at0,_,rfl,_,rfl,_,kl,nl,nms,ns,rfl,hk3,hn3,fun v H4 t e4 tp ok=>⟨AD rfl,fun l hl=>?_⟩⟩
 obtain⟨tp,st⟩:=Rd.leaf_tp ok tp
 have ok:=ok.twk
 have e04:=e3.trans e4
 have hl0:H l=none:=e04.free hl
 have kl0:H3 l=none:=e4.free hl
 have s5:=Ab hl (.lst [v])
 have hl5:(upd H4 l (.lst [v])) l=some (.lst [v]):=A5
 have S5:Rd.StK (upd H4 l (.lst [v])) nms ns [v] [t] 1:=Rd.StK.push (xs:=[]) (ts:=[]) (N:=0) ⟨.nil,fun t ht=>(by cases ht),Ai _⟩ (tp.tk (A8.tk s5)) ok (by omega)
 have e05:=e04.trans s5
 dsimp only[Am]
 generalize upd H4 l (.lst [v])=H5 at s5 hl5 S5 e05
 have f50:=BY seed (show(5:Int)≠0 by decide)
 have f51:=Cd seed (show(0:Int)<5 by decide)
 refine⟨_,rfl,_,rfl,_,rfl,_,_,rfl,rfl,(by show(0:Int)<5;decide),_,_,rfl,rfl,_,rfl,rx,_,rfl,A2.of ((e4.trans s5) _ _ hx),fun cl hcl=>?_⟩
 rw[Nu]
 obtain⟨cs,ecs,hcs4⟩:∃cs:List Int,Cn xs0 (some 1) (some (1+seed%5))=cs/\cs.length<=4:=⟨_,rfl,by
  rw[K9 xs0 (by decide) (by omega) (by omega) (by omega),BA,Cr]
  omega⟩
 rw[ecs]
 have s6:=Ab hcl (.lst (cs.map V.int))
 have hC:(upd H5 cl (.lst (cs.map V.int))) cl=some (.lst (cs.map V.int)):=A5
 have hl6:=s6 _ _ hl5
 have S6:=S5.tk (A8.tk s6)
 have ncl:cl≠l:=(AG hl5 hcl).symm
 have e06:=e05.trans s6
 have e36:=(e4.trans s5).trans s6
 generalize upd H5 cl (.lst (cs.map V.int))=H6 at s6 hC hl6 S6 e06 e36
 refine⟨cl,rfl,⟨_,A2.of hC⟩,?_⟩
 refine Gw (xs:=cs.map V.int) (fun i σ' H'=>A8 H H'/\A8 H3 H'/\(H' cl=some (.lst (cs.map V.int))/\∃o5 o6 o7,σ'=[some (.int seed),some (.ref kl),some (.ref nl),some (.ref rx),some (.ref l),o5,o6,o7])/\∃xs ts N,H' l=some (.lst xs)/\Rd.StK H' nms ns xs ts N/\N<=i+1/\0<xs.length) ⟨e06,e36,⟨hC,_,_,_,rfl⟩,[v],[t],1,hl6,S6,Ai _,G0 _⟩ (fun i σ' H' _ p=>A2.of p.2.2.1.1) (fun i x σ' H' hx p=>?_) (fun σ' H' p=>?_)
 .obtain⟨eH,e3H,⟨hcl',o5,o6,o7,rfl⟩,xs,ts,N,hxs,hS,hNi,hpos⟩:=p
  obtain⟨c,rfl⟩:∃c,x=V.int c:=by
   rw[CO]at hx
   cases e:cs[i]? with
   |none=>rw[e]at hx;cases hx
   |some z=>rw[e]at hx;exact⟨z,(BQ hx).symm⟩
  have hi:i<cs.length:=by have:=(BJ.mp hx).1;rwa [Aq]at this
  have sl:=hS.len
  dsimp only[Am]
  refine KG (fun H2=>H2=H') (fun H2 e=>?_) (fun els=>?_)
  .subst e
   refine⟨_,rfl,.inl ⟨rfl,_,A2.of hxs⟩,_,rfl,_,_,rfl,rfl,⟨by decide,by decide⟩,_,rfl,_,rfl,_,kl,nl,nms,ns,rfl,hk.over eH,hn.over eH,fun v2 H6 t2 e6 p6 ok2=>?_⟩
   obtain⟨p6,sz2⟩:=Rd.leaf_tp ok2 p6
   have ok2:=ok2.twk
   have hxs6:=e6 _ _ hxs
   refine⟨l,_,_,rfl,rfl,hxs6,C5 (by omega),?_⟩
   have tk:TK H6 (upd H6 l (.lst (xs++[v2]))):=TK.upd hxs6
   refine⟨fun b ob eb=>by rw[A7 (AG eb hl0)];exact e6 _ _ (eH _ _ eb),fun b ob eb=>by rw[A7 (AG eb kl0)];exact e6 _ _ (e3H _ _ eb),⟨by rw[A7 ncl];exact e6 _ _ hcl',_,_,_,rfl⟩,xs++[v2],ts++[t2],N+1,A5,((hS.tk (A8.tk e6)).tk tk).push (p6.tk tk) ok2 (by omega),by omega,by rw[Ap];omega⟩
  .refine⟨_,rfl,_,_,rfl,rfl,(by show(0:Int)<5;decide),_,_,rfl,rfl,_,rfl,?_⟩
   refine Az (fun _=>?_) (fun _=>AA (els _ rfl))
   refine⟨_,rfl,l,_,rfl,.inl (A2.of hxs),_,_,rfl,rfl,_,rfl,?_⟩
   refine Az (fun c2=>?_) (fun _=>els _ rfl)
   have c2:=dT c2
   obtain⟨ys,x1,us,t1,M1,rfl,rfl,hS1,px,okx,m1⟩:=hS.pop hpos
   rw[Ap,Bk]at c2
   obtain⟨zs',x2,us2,t2,M2,rfl,rfl,hS2,py,oky,m2⟩:=hS1.pop (by omega)
   refine⟨_,rfl,.inl ⟨rfl,_,A2.of hxs⟩,l,_,x1,rfl,rfl,hxs,BU.1,?_⟩
   rw[BU.2]
   dsimp only[Am]
   refine⟨_,rfl,.inl ⟨rfl,_,A2.of A5⟩,l,_,x2,rfl,rfl,A5,BU.1,?_⟩
   rw[BU.2]
   dsimp only[Am]
   have tk0:TK H' (upd (upd H' l (.lst (zs'++[x2]))) l (.lst zs')):=(TK.upd hxs).trans (TK.upd A5)
   have hz:(upd (upd H' l (.lst (zs'++[x2]))) l (.lst zs')) l=some (.lst zs'):=A5
   have u2:∀b,b≠l->(upd (upd H' l (.lst (zs'++[x2]))) l (.lst zs')) b=H' b:=fun b hb=>by rw[A7 hb,A7 hb]
   generalize upd (upd H' l (.lst (zs'++[x2]))) l (.lst zs')=H2 at tk0 hz u2
   have eH2:A8 H H2:=fun b ob eb=>by rw[u2 _ (AG eb hl0)];exact eH _ _ eb
   have e3H2:A8 H3 H2:=fun b ob eb=>by rw[u2 _ (AG eb kl0)];exact e3H _ _ eb
   have f0:=BY (c/5) (show(3:Int)≠0 by decide)
   have f1:=Cd (c/5) (show(0:Int)<3 by decide)
   obtain⟨ch,hch,h3⟩:=NB f0 f1
   have sl2:=hS2.len
   refine⟨_,rfl,.inl ⟨rfl,_,A2.of hz⟩,_,rfl,_,_,rfl,rfl,⟨by decide,by decide⟩,_,_,rfl,rfl,(by show(0:Int)<3;decide),_,_,ch,rfl,rfl,(by decide +kernel),hch,_,rfl,_,rfl,_,x2,x1,t2,t1,rfl,h3,py.tk tk0,px.tk tk0,oky.ok,okx.ok,by omega,fun v3 H6 e6 p6=>?_⟩
   have hz6:=e6 _ _ hz
   refine⟨l,_,_,rfl,rfl,hz6,C5 (by omega),?_⟩
   have tk:TK H6 (upd H6 l (.lst (zs'++[v3]))):=TK.upd hz6
   refine⟨fun b ob eb=>by rw[A7 (AG eb hl0)];exact e6 _ _ (eH2 _ _ eb),fun b ob eb=>by rw[A7 (AG eb kl0)];exact e6 _ _ (e3H2 _ _ eb),⟨by rw[A7 ncl];exact e6 _ _ (by rw[u2 _ ncl];exact hcl'),_,_,_,rfl⟩,zs'++[v3],us2++[.j ⟨#[ch]⟩ t2 t1],N,A5,(((hS2.tk tk0).tk (A8.tk e6)).tk tk).push (p6.tk tk) ⟨h3,oky,okx⟩ (by show M2+(t2.sz+t1.sz)<=N;omega),by omega,by rw[Ap];exact G0 _⟩
 .obtain⟨eH,e3H,⟨_,o5,o6,o7,rfl⟩,xs,ts,N,hxs,hS,hNi,hpos⟩:=p
  rw[Aq]at hNi
  have sl:=hS.len
  show E7 (JC _ _) (G7 _) _ _ _
  refine D4 (fun σ' H2=>A8 H H2/\(∃o5 o6 o7,σ'=[some (.int seed),some (.ref kl),some (.ref nl),some (.ref rx),some (.ref l),o5,o6,o7])/\∃x t,H2 l=some (.lst [x])/\Dh H2 x t/\Rd.Twk nms ns t/\t.sz<=5) (fun σ' H2 pp=>?_) (fun nx=>?_)
  .obtain⟨e2,⟨o5,o6,o7,rfl⟩,x,t,hx,tx,okt,st⟩:=pp
   exact⟨_,rfl,l,_,_,_,rfl,rfl,A2.of hx,rfl,q x _ t e2 tx okt st⟩
  refine NV 5 (fun j σ' H2=>A8 H H2/\(∃o5 o6 o7,σ'=[some (.int seed),some (.ref kl),some (.ref nl),some (.ref rx),some (.ref l),o5,o6,o7])/\∃xs ts,H2 l=some (.lst xs)/\Rd.StK H2 nms ns xs ts 5/\xs.length+j<=5/\0<xs.length) ⟨eH,⟨_,_,_,rfl⟩,xs,ts,hxs,⟨hS.at',hS.ok,by have:=hS.sum;omega⟩,by omega,hpos⟩ (fun j σ' H' hj pp=>?_) (MT.test (ME.op (MR.i0 _) (ME.cb MB.len (MA.cons (ME.var _) MA.nil)) (ME.c _)))
  obtain⟨eH,⟨o5,o6,o7,rfl⟩,xs,ts,hxs,hS,hNi,hpos⟩:=pp
  refine⟨_,rfl,l,_,rfl,.inl (A2.of hxs),_,_,rfl,rfl,_,rfl,?_⟩
  refine Az (fun c2=>?_) (fun c2=>?_)
  .have c2:=dT c2
   refine⟨by omega,?_⟩
   obtain⟨ys,x1,us,t1,M1,rfl,rfl,hS1,px,okx,m1⟩:=hS.pop hpos
   rw[Ap,Bk]at c2 hNi
   obtain⟨zs',x2,us2,t2,M2,rfl,rfl,hS2,py,oky,m2⟩:=hS1.pop (by omega)
   rw[Ap,Bk]at hNi
   refine⟨_,rfl,.inl ⟨rfl,_,A2.of hxs⟩,l,_,x1,rfl,rfl,hxs,BU.1,?_⟩
   rw[BU.2]
   dsimp only[Am]
   refine⟨_,rfl,.inl ⟨rfl,_,A2.of A5⟩,l,_,x2,rfl,rfl,A5,BU.1,?_⟩
   rw[BU.2]
   dsimp only[Am]
   have tk0:TK H' (upd (upd H' l (.lst (zs'++[x2]))) l (.lst zs')):=(TK.upd hxs).trans (TK.upd A5)
   have hz:(upd (upd H' l (.lst (zs'++[x2]))) l (.lst zs')) l=some (.lst zs'):=A5
   have u2:∀b,b≠l->(upd (upd H' l (.lst (zs'++[x2]))) l (.lst zs')) b=H' b:=fun b hb=>by rw[A7 hb,A7 hb]
   generalize upd (upd H' l (.lst (zs'++[x2]))) l (.lst zs')=H2 at tk0 hz u2
   have eH2:A8 H H2:=fun b ob eb=>by rw[u2 _ (AG eb hl0)];exact eH _ _ eb
   have sl2:=hS2.len
   have f0:=BY (seed/5) (show(3:Int)≠0 by decide)
   have f1:=Cd (seed/5) (show(0:Int)<3 by decide)
   obtain⟨ch,hch,h3⟩:=NB f0 f1
   refine⟨_,rfl,.inl ⟨rfl,_,A2.of hz⟩,_,rfl,_,_,rfl,rfl,⟨by decide,by decide⟩,_,_,rfl,rfl,(by show(0:Int)<3;decide),_,_,ch,rfl,rfl,(by decide +kernel),hch,_,rfl,_,rfl,_,x2,x1,t2,t1,rfl,h3,py.tk tk0,px.tk tk0,oky.ok,okx.ok,by omega,fun v3 H6 e6 p6=>?_⟩
   have hz6:=e6 _ _ hz
   refine⟨l,_,_,rfl,rfl,hz6,C5 (by omega),?_⟩
   have tk:TK H6 (upd H6 l (.lst (zs'++[v3]))):=TK.upd hz6
   exact⟨fun b ob eb=>by rw[A7 (AG eb hl0)];exact e6 _ _ (eH2 _ _ eb),⟨_,_,_,rfl⟩,zs'++[v3],us2++[.j ⟨#[ch]⟩ t2 t1],A5,(((hS2.tk tk0).tk (A8.tk e6)).tk tk).push (p6.tk tk) ⟨h3,oky,okx⟩ (by show M2+(t2.sz+t1.sz)<=5;omega),by rw[Ap,Bk];omega,by rw[Ap];exact G0 _⟩
  .have c2:=dF c2
   obtain⟨ys,x1,us,t1,M1,rfl,rfl,hS1,px,okx,m1⟩:=hS.pop hpos
   have y0:ys=[]:=by
    rw[Ap,Bk]at c2
    exact GS (by omega)
   subst y0
   exact nx _ _ ⟨eH,⟨_,_,_,rfl⟩,x1,t1,hxs,px,okx,by omega⟩
theorem PR (T:Tx w K mg a):AJ P w K mg base AS 3 a.f_J a.d_J ["_law_cell_here","_law_names_here","_law_opened_here","_law_last"] Rd.spLoop28:=by
 have G_c :=@HB P w K mg base a T
 have G_g :=@Os P w K mg base a T
 refine T.F_J.ok Hf (fun vs H Q E h=>?_) (fun cdv A outer s H vs Q E hr h=>?_)
 .obtain⟨_,_,_,_,_,_,_,rfl,_⟩:=h;rfl
 obtain⟨c,nl,o,la,ns,ts,tl,rfl,hn,⟨vs,hO0,aO⟩,hol,⟨_,hok⟩,hla,okl,okh,q⟩:=h
 have hnd:=hn.2.2.1
 refine⟨_,(@A6 _ _ _ _ _ (@Aj _ _ (4) _ _ _ _ Hf.nd rfl (.inl rfl) (@AC _ _ _ _ _ _ _ _ _ _ _ _ _ _ _ _ G_c (hr.mono (by omega)) (by rfl) T.m_c T.F_c.kp T.b_c .nil Au (@A0 _ _ _ _ _ (pv 0) (@A0 _ _ _ _ _ A3 A4 (by rfl)) (by rfl)) (by decide) (by rfl) (by rfl)) (by rfl) (by first|exact .inl rfl|exact .inr rfl|assumption)) (@A6 _ _ _ _ _ (@Aj _ _ (5) _ _ _ _ Hf.nd rfl (.inr rfl) (@Ae _ _ _ _ _ _ _ _ EL (@Bl _ _ _ _ (@A0 _ _ _ _ _ Av A4 (by rfl))) (@DN _ _ _ _ _ _ _ ["_law_one"] [none] _ _ _ _ (by rfl) (@Dy _ _ _ _ (pv 2)) UM (fun _ _ _ _ _ _=>⟨(BG (i:=0) UN rfl (.inl rfl)),@Eh _,(@Ag _ _ _ _ _ _ _ (show Em _ (Hy K) from B0) (pv 0) A3 (fun _ _=>rfl))⟩) (by intro _;rfl))) (by rfl) (by first|exact .inl rfl|exact .inr rfl|assumption)) (@A6 _ _ _ _ _ (@Pp _ _ _ _ _ _ _ _ _ (6) _ ["_law_name","_law_known"] [none,some 5] _ _ _ _ Hf.nd rfl (.inl rfl) (by rfl) (@Dy _ _ _ _ (@CW _ _ _ _ _ _ _ _ _ _ Ej (pv 1) DS (@Cq _ _ _ A3))) To (fun _ _ _ _ _ _=>⟨(BG (i:=0) Px rfl (.inl rfl)),(@Kj _ _ _ (@An _ _ _ _ _ _ _ _ (show Bw _ _ (Jo K true) from Lu) (pv 0) (pv 1) (by with_unfolding_all rfl))),(pv 0)⟩) (by rfl) (by intro _;rfl) (by first|exact .inl rfl|exact .inr rfl|assumption)) (@A6 _ _ _ _ _ (@AI _ _ _ _ _ _ _ _ ((@D6 _ _ _ _ _ _ _ (@An _ _ _ _ _ _ _ _ BC (@Ae _ _ _ _ _ _ _ _ By (@Ag _ _ _ _ _ _ _ AV (pv 4) A3 (fun _ _=>rfl)) A3) A3 (@Ao _ _ (by decide) (by decide))) (@D6 _ _ _ _ _ _ _ (@An _ _ _ _ _ _ _ _ GD (@Ag _ _ _ _ _ _ _ B0 (pv 3) A3 (fun _ _=>rfl)) (pv 6) (by with_unfolding_all rfl)) (@D6 _ _ _ _ _ _ _ (@An _ _ _ _ _ _ _ _ GD (@Ag _ _ _ _ _ _ _ B0 (@Ag _ _ _ _ _ _ _ B0 (pv 3) A3 (fun _ _=>rfl)) A3 (fun _ _=>rfl)) (pv 5) (by with_unfolding_all rfl)) (@DP _ _ _ _ (@An _ _ _ _ _ _ _ _ GD (@Ag _ _ _ _ _ _ _ B0 (@Ag _ _ _ _ _ _ _ B0 (pv 3) A3 (fun _ _=>rfl)) A3 (fun _ _=>rfl)) (pv 5) (by with_unfolding_all rfl))))))).pt (@Ac _ _ _ (@Ar _ _ _ _ (pv 3))) AN) (@A6 _ _ _ _ _ (@Aj _ _ (7) _ _ _ _ Hf.nd rfl (.inl rfl) (@AC _ _ _ _ _ _ _ _ _ _ _ _ _ _ _ _ G_g (hr.mono (by omega)) (by rfl) T.m_g T.F_g.kp T.b_g .nil Au (@A0 _ _ _ _ _ (@Ag _ _ _ _ _ _ _ AV (pv 4) A3 (fun _ _=>rfl)) (@A0 _ _ _ _ _ (@Ag _ _ _ _ _ _ _ AV (pv 4) A3 (fun _ _=>rfl)) (@A0 _ _ _ _ _ (pv 5) A4 (by rfl)) (by rfl)) (by rfl)) (by decide) (by rfl) (by rfl)) (by rfl) (by first|exact .inl rfl|exact .inr rfl|assumption)) (@Ac _ _ _ (@Ar _ _ _ _ (@E5 _ _ _ _ _ (@B8 _ _ _ _ _ (@Ag _ _ _ _ _ _ _ AV (pv 6) (@Ae _ _ _ _ _ _ _ _ By (@Ag _ _ _ _ _ _ _ AV (pv 4) A3 (fun _ _=>rfl)) (@B6 _ _ _ _ _ _ _ _ _ BO (by rfl) T.z_len BB (@A0 _ _ _ _ _ (pv 6) A4 (by rfl)) (by decide) (by decide) (by rfl) (by rfl))) (fun _ _=>rfl)) (@B8 _ _ _ _ _ (pv 7) (@B8 _ _ _ _ _ (@AC _ _ _ _ _ _ _ _ _ _ _ _ _ _ _ _ G_g (hr.mono (by omega)) (by rfl) T.m_g T.F_g.kp T.b_g .nil Au (@A0 _ _ _ _ _ (@Ag _ _ _ _ _ _ _ AV (pv 4) A3 (fun _ _=>rfl)) (@A0 _ _ _ _ _ (@Ag _ _ _ _ _ _ _ AV (pv 4) A3 (fun _ _=>rfl)) (@A0 _ _ _ _ _ (pv 5) A4 (by rfl)) (by rfl)) (by rfl)) (by decide) (by rfl) (by rfl)) DD Ls) EZ) FL))))))))),?_⟩
 refine⟨_,rfl,c,6,rfl,by decide,by decide,fun rx H1 s1 hx=>?_⟩
 rw[show(6:Int).toNat=6 from rfl]at hx
 generalize hxs:Er c 6=xs at hx
 have xl:xs.length=6:=by rw[←hxs,HH]
 have xm:∀y∈xs,0<=y/\y<2147483647:=fun y hy=>JE (hxs▸hy)
 have atx:∀k:Nat,k<6->BH (xs.map V.int) ((k:Nat):Int)=some (.int (xs.getD k 0)):=fun k hk=>FH (ns:=xs) (k:=((k:Nat):Int)) (by omega) (by omega)
 have xb:∀k:Nat,k<6->0<=xs.getD k 0/\xs.getD k 0<2147483647:=fun k hk=>by
  have hm:xs.getD k 0∈xs:=by rw[GL,BX (by omega)];exact GM _
  exact xm _ hm
 dsimp only[Am]
 have vl:=aO.1
 refine⟨AD rfl,fun r1 hr1=>?_⟩
 have s2:=Ab hr1 (.lst [V.str ""])
 have e2:=s1.trans s2
 have hO2:=e2 _ _ hO0
 refine⟨_,rfl,o,rfl,⟨_,A2.of hO2⟩,?_⟩
 refine Fv (xs:=vs) (fun i ys H'=>H'=upd H1 r1 (.lst [V.str ""])/\ys=((ts.take i).map Al.nm).map V.str) ⟨rfl,rfl⟩ (AF (by omega)) (fun i ys H' hi pp=>⟨by rw[pp.1];exact A2.of hO2,by rw[pp.2,Aq,Aq,BA];omega⟩) (fun i x ys H' hc pp=>?_) (fun ys H' pp r2 hr2=>?_)
 .obtain⟨rfl,rfl⟩:=pp
  obtain⟨t,ht,p,xa,xb',rfl,hp,_,_⟩:=aO.get' hc
  refine⟨_,rfl,p,_,0,_,rfl,rfl,Aw.of (e2 _ _ hp),rfl,rfl,?_⟩
  rw[DE ht,AW,AW]
  rfl
 obtain⟨rfl,rfl⟩:=pp
 rw[vl,Ef]
 have s3:=Ab hr2 (.lst ((ts.map Al.nm).map V.str))
 refine⟨r1,r2,_,_,rfl,rfl,s3 _ _ A5,A5,AF (by rw[Aq,Aq,Bk];omega),fun kl hkl=>?_⟩
 have s4:=Ab hkl (.lst ([V.str ""]++(ts.map Al.nm).map V.str))
 have hk:Rd.KnAt (upd (upd (upd H1 r1 (.lst [V.str ""])) r2 (.lst ((ts.map Al.nm).map V.str))) kl (.lst ([V.str ""]++(ts.map Al.nm).map V.str))) kl (Rd.lnm ts):=⟨A5,by unfold Rd.lnm;rw[Aq];omega,fun z hz=>by
  obtain⟨t,ht,rfl⟩:=CF.mp hz
  exact(hok t ht).1⟩
 have e4:=(e2.trans s3).trans s4
 have hx4:=(s2.trans (s3.trans s4)) _ _ hx
 dsimp only[Am]
 generalize upd (upd (upd H1 r1 (.lst [V.str ""])) r2 (.lst ((ts.map Al.nm).map V.str))) kl (.lst ([V.str ""]++(ts.map Al.nm).map V.str))=H4 at s4 hk e4 hx4
 obtain⟨kn,hkn⟩:∃kn,("":Str)::Rd.lnm ts=kn:=⟨_,rfl⟩
 have hkv:H4 kl=some (.lst (kn.map V.str)):=by rw[←hkn];exact hk.1
 have knl:kn.length<=3:=by rw[←hkn,AO];unfold Rd.lnm;rw[Aq];omega
 have hn4:=hn.over e4
 have ct:CA (ns.map V.str) none (some 4)=(ns.take 4).map V.str:=by
  have:=FU (ns.map V.str) (k:=4) (by decide)
  rw[LO]
  exact this
 refine⟨_,rfl,_,rfl,nl,_,rfl,A2.of hn4.1,fun p1 hp1=>?_⟩
 rw[ct]
 have s5:=Ab hp1 (.lst ((ns.take 4).map V.str))
 have hp15:(upd H4 p1 (.lst ((ns.take 4).map V.str))) p1=some (.lst ((ns.take 4).map V.str)):=A5
 have hk5:=hk.over s5
 have hkv5:=s5 _ _ hkv
 generalize upd H4 p1 (.lst ((ns.take 4).map V.str))=H5 at s5 hp15 hk5 hkv5
 have n4:(ns.take 4).length=4:=by rw[BA,hn.2.1];rfl
 have nd4:(ns.take 4).Nodup:=List.Nodup.sublist (List.take_sublist _ _) hnd
 have n20:∀z∈ns.take 4,Bg (cds z):=fun z hz=>hn.2.2.2 z (Fn hz)
 generalize ns.take 4=n4s at hp15 n4 nd4 n20
 have fl:((kn.map V.str).all E8)=true:=by rw[LR];exact G1.mpr fun _ _=>rfl
 refine⟨p1,rfl,⟨_,A2.of hp15⟩,?_⟩
 refine Fv (xs:=n4s.map V.str) (fun i ys H3=>H3=H5/\ys=((n4s.take i).filter fun z=>!decide (z∈kn)).map V.str) ⟨rfl,rfl⟩ (AF (by rw[Aq];omega)) (fun i ys H3 hi p=>?_) (fun i x ys H3 hc p=>?_) (fun ys H3 p r3 hr3=>?_)
 .obtain⟨rfl,rfl⟩:=p
  refine⟨A2.of hp15,?_⟩
  rw[Aq]
  exact Bz (LV _ _) (by rw[BA];omega)
 .obtain⟨rfl,rfl⟩:=p
  rw[CO]at hc
  cases hz:n4s[i]? with
  |none=>rw[hz]at hc;cases hc
  |
   some z=>
   rw[hz]at hc
   cases hc
   refine⟨_,rfl,_,rfl,kl,_,rfl,.inl (A2.of hkv5),rfl,fl,_,rfl,?_⟩
   show if(!CZ (V.str z) (kn.map V.str))=true then _ else _
   rw[T7,DE hz,G4,AW]
   refine Az (fun c2=>?_) (fun c2=>?_)
   .refine⟨_,rfl,rfl,?_⟩
    rw[show List.filter (fun z=>!decide (z∈kn)) [z]=[z] from List.filter_cons_of_pos (p:=fun z=>!decide (z∈kn)) c2]
    rfl
   .refine⟨rfl,?_⟩
    rw[show List.filter (fun z=>!decide (z∈kn)) [z]=[] from List.filter_cons_of_neg (p:=fun z=>!decide (z∈kn)) c2]
    show _=_++[]
    rw[DU]
 obtain⟨rfl,rfl⟩:=p
 rw[Aq,Ef]
 have rsub:∀z∈(n4s.filter fun z=>!decide (z∈kn)),Bg (cds z)/\z∉kn:=fun z hz=>⟨n20 z (LD.mp hz).1,by have:=(LD.mp hz).2;simpa using this⟩
 generalize hrest:(n4s.filter fun z=>!decide (z∈kn))=rest at rsub
 have rne:0<rest.length:=by
  refine Nat.pos_of_ne_zero fun h0=>?_
  have hnil:=List.length_eq_zero_iff.mp h0
  rw[←hrest]at hnil
  have:=Mu nd4 (k:=kn) fun x hx=>by simpa using List.filter_eq_nil_iff.mp hnil x hx
  omega
 have rle:rest.length<=4:=by rw[←hrest,←n4];exact LV _ _
 have s6:=Ab hr3 (.lst (rest.map V.str))
 have h6r:(upd H3 r3 (.lst (rest.map V.str))) r3=some (.lst (rest.map V.str)):=A5
 have e6:=e4.trans (s5.trans s6)
 have hx6:=(s5.trans s6) _ _ hx4
 have hk6:=hk5.over s6
 dsimp only[Am]
 have hkv6:=s6 _ _ hkv5
 generalize upd H3 r3 (.lst (rest.map V.str))=H6 at s6 h6r e6 hx6 hk6 hkv6
 have flr:((rest.map V.str).all E8)=true:=by rw[LR];exact G1.mpr fun _ _=>rfl
 obtain⟨q0,xa,xb2,rfl,g0,⟨q1,rfl,g1⟩,⟨q2,rfl,g2⟩⟩:=hla.tk (A8.tk e6)
 have hla6:DI H6 (.ref q0) tl:=⟨q0,.ref q1,.ref q2,rfl,g0,⟨q1,rfl,g1⟩,⟨q2,rfl,g2⟩⟩
 refine D4 (fun σ' H'=>H'=H6/\σ'=[some (.int c),some (.ref nl),some (.ref o),some (.ref q0),some (.ref rx),some (.ref kl),some (.ref r3),none]) (fun σ' H' m=>?_) (fun go=>?_)
 .obtain⟨rfl,rfl⟩:=m
  refine⟨_,rfl,rx,_,_,_,rfl,rfl,A2.of hx6,atx 0 (by decide),_,rfl,rx,_,_,_,rfl,rfl,A2.of hx6,atx 1 (by decide),_,rfl,_,_,kl,_,rfl,(xb 0 (by decide)).1,(xb 0 (by decide)).2,(xb 1 (by decide)).1,(xb 1 (by decide)).2,hk6,fun rl H7 sl e7 hsl bl kl1=>?_⟩
  dsimp only[Am]
  have h7r:=e7 _ _ h6r
  have hx7:=e7 _ _ hx6
  have lr:(((rest.map V.str).length:Nat):Int)=(rest.length:Int):=by rw[Aq]
  have m0:=BY (xs.getD 4 0) (show(((rest.map V.str).length:Nat):Int)≠0 by omega)
  have m1:=Cd (xs.getD 4 0) (show(0:Int)<(((rest.map V.str).length:Nat):Int) by omega)
  obtain⟨nz,hnz,nzi⟩:=Rd.strs_at (zs:=rest) m0 (by omega)
  obtain⟨nz1,nz2⟩:=rsub nz (CC nzi)
  refine⟨_,rfl,_,rfl,rx,_,_,_,rfl,rfl,A2.of hx7,atx 4 (by decide),_,rfl,r3,_,rfl,.inl (A2.of h7r),_,_,rfl,rfl,(by show(0:Int)<(((rest.map V.str).length:Nat):Int);omega),r3,_,_,_,rfl,rfl,A2.of h7r,hnz,_,rfl,?_⟩
  refine⟨_,rfl,rx,_,_,_,rfl,rfl,A2.of hx7,atx 2 (by decide),_,rfl,rx,_,_,_,rfl,rfl,A2.of hx7,atx 3 (by decide),_,rfl,_,_,kl,_,rfl,(xb 2 (by decide)).1,(xb 2 (by decide)).2,(xb 3 (by decide)).1,(xb 3 (by decide)).2,hk6.over e7,fun rh H8 sh e8 hsh bh kh1=>⟨AD rfl,fun t ht=>?_⟩⟩
  have s9:=Ab ht (.tup [V.str nz,rl,rh])
  exact q _ _ ⟨nz,sl,sh⟩ (((e6.trans e7).trans e8).trans s9) ⟨t,rl,rh,rfl,A5,(hsl.tk (A8.tk e8)).tk (A8.tk s9),hsh.tk (A8.tk s9)⟩ ⟨nz1,fun z=>nz2 (by rw[←hkn];exact Bm _ z),bl,bh,kl1,kh1⟩
 .refine⟨_,rfl,rx,_,_,_,rfl,rfl,A2.of hx6,atx 5 (by decide),_,_,rfl,rfl,(by show(0:Int)<3;decide),rfl,_,rfl,?_⟩
  refine Az (fun _=>?_) (fun _=>AA (go _ _ ⟨rfl,rfl⟩))
  refine⟨_,rfl,q0,_,0,_,rfl,rfl,Aw.of g0,rfl,_,rfl,r3,_,rfl,.inl (A2.of h6r),rfl,flr,_,rfl,?_⟩
  refine Az (fun y1=>?_) (fun _=>AA (go _ _ ⟨rfl,rfl⟩))
  refine⟨_,rfl,q0,_,1,_,rfl,rfl,Aw.of g0,rfl,q1,_,0,_,rfl,rfl,Aw.of g1,rfl,_,rfl,kl,_,rfl,.inl (A2.of hkv6),rfl,fl,_,rfl,?_⟩
  refine Az (fun y2=>?_) (fun _=>AA (go _ _ ⟨rfl,rfl⟩))
  refine⟨_,rfl,q0,_,2,_,rfl,rfl,Aw.of g0,rfl,q2,_,0,_,rfl,rfl,Aw.of g2,rfl,_,rfl,kl,_,rfl,.inl (A2.of hkv6),rfl,fl,_,rfl,?_⟩
  refine Az (fun y3=>?_) (fun _=>go _ _ ⟨rfl,rfl⟩)
  have inr:∀{z:Str} {l:List Str},CZ (V.str z) (l.map V.str)=true->z∈l:=fun{z l} h=>by rw[Rd.in_strs]at h;exact HY h
  have kw:∀{s:Str×Int},s.1∈kn->Rd.knw (Rd.lnm ts) s=true:=fun{s} h=>by
   rw[←hkn]at h
   unfold Rd.knw
   rcases AH.mp h with h|h
   .rw[B7 h];rfl
   .rw[B7 h,LQ]
  obtain⟨b1,b2⟩:=rsub _ (inr y1)
  exact⟨_,rfl,q _ _ tl e6 hla6 ⟨b1,fun z=>b2 (by rw[←hkn];exact Bm _ z),okl,okh,kw (inr y2),kw (inr y3)⟩⟩
theorem Vc (T:Tx w K mg a):AJ P w K mg base AS 6 a.f_p a.d_p ["_law_cell_here","_law_opened_here","_law_path","_law_names_here"] Rd.spDeed28:=by
 have G_c :=@HB P w K mg base a T
 have G_m :=@MZ P w K mg base a T
 have G_I :=@SG P w K mg base a T
 refine T.F_p.ok GC (fun vs H Q E h=>?_) (fun cdv A outer s H vs Q E hr h=>?_)
 .obtain⟨_,_,_,_,_,_,_,rfl,_⟩:=h;rfl
 obtain⟨c,o,pt,nl,ns,ts,path,rfl,hn,hO,⟨hol,hok⟩,hpt,hpl,q⟩:=h
 refine⟨_,(@A6 _ _ _ _ _ (@Aj _ _ (4) _ _ _ _ GC.nd rfl (.inl rfl) (@Ae _ _ _ _ _ _ _ _ EL (@Bl _ _ _ _ (@A0 _ _ _ _ _ Av A4 (by rfl))) (@DN _ _ _ _ _ _ _ ["_law_one"] [none] _ _ _ _ (by rfl) (@Dy _ _ _ _ (pv 1)) Rz (fun _ _ _ _ _ _=>⟨(BG (i:=0) SV rfl (.inl rfl)),@Eh _,(@Ag _ _ _ _ _ _ _ (show Em _ (Hy K) from B0) (pv 0) A3 (fun _ _=>rfl))⟩) (by intro _;rfl))) (by rfl) (by first|exact .inl rfl|exact .inr rfl|assumption)) (@A6 _ _ _ _ _ (@O1 _ _ _ _ _ _ (@AC _ _ _ _ _ _ _ _ _ _ _ _ _ _ _ _ G_m (hr.mono (by omega)) (by rfl) T.m_m T.F_m.kp T.b_m .nil Au (@A0 _ _ _ _ _ (@AC _ _ _ _ _ _ _ _ _ _ _ _ _ _ _ _ G_c (hr.mono (by omega)) (by rfl) T.m_c T.F_c.kp T.b_c .nil Au (@A0 _ _ _ _ _ (pv 0) (@A0 _ _ _ _ _ A3 A4 (by rfl)) (by rfl)) (by decide) (by rfl) (by rfl)) (@A0 _ _ _ _ _ (pv 4) (@A0 _ _ _ _ _ (pv 3) A4 (by rfl)) (by rfl)) (by rfl)) (by decide) (by rfl) (by rfl)) (IX rfl (ET (BG (i:=5) GC.nd rfl (.inl rfl)) (ET (BG (i:=6) GC.nd rfl (.inl rfl)) (ET (BG (i:=7) GC.nd rfl (.inl rfl)) Iv)))) (by rfl) (by rfl) (by rfl)) (@A6 _ _ _ _ _ (@Aj _ _ (8) _ _ _ _ GC.nd rfl (.inl rfl) (@AC _ _ _ _ _ _ _ _ _ _ _ _ _ _ _ _ G_I (hr.mono (by omega)) (by rfl) T.m_I T.F_I.kp T.b_I .nil Au (@A0 _ _ _ _ _ (@Ae _ _ _ _ _ _ _ _ Dm (pv 0) A3) (@A0 _ _ _ _ _ (pv 4) (@A0 _ _ _ _ _ (pv 3) A4 (by rfl)) (by rfl)) (by rfl)) (by decide) (by rfl) (by rfl)) (by rfl) (by first|exact .inl rfl|exact .inr rfl|assumption)) (@Ac _ _ _ (@Ar _ _ _ _ (@E5 _ _ _ _ _ (@B8 _ _ _ _ _ (pv 1) (@B8 _ _ _ _ _ (pv 5) (@B8 _ _ _ _ _ (pv 6) (@B8 _ _ _ _ _ (@Ag _ _ _ _ _ _ _ B0 (pv 8) A3 (fun _ _=>rfl)) (@B8 _ _ _ _ _ (@Dl _ _ _ _ _ _ _ _ _ Fu (by rfl) T.z_tuple FM (@A0 _ _ _ _ _ (pv 2) A4 (by rfl)) (by decide) (by decide) (by rfl) (by rfl)) (@B8 _ _ _ _ _ (@Ae _ _ _ _ _ _ _ _ C1 (@Ae _ _ _ _ _ _ _ _ C1 (pv 7) Av) (@Ag _ _ _ _ _ _ _ B0 (pv 8) A3 (fun _ _=>rfl))) DD Li) Ls) FL) EZ) EZ) EZ))))))),?_⟩
 obtain⟨vs,hO0,aO⟩:=id hO
 have vl:=aO.1
 refine⟨AD rfl,fun r1 hr1=>?_⟩
 have s2:=Ab hr1 (.lst [V.str ""])
 have hO2:=s2 _ _ hO0
 refine⟨_,rfl,o,rfl,⟨_,A2.of hO2⟩,?_⟩
 refine Fv (xs:=vs) (fun i ys H'=>H'=upd H r1 (.lst [V.str ""])/\ys=((ts.take i).map Al.nm).map V.str) ⟨rfl,rfl⟩ (AF (by omega)) (fun i ys H' hi pp=>⟨by rw[pp.1];exact A2.of hO2,by rw[pp.2,Aq,Aq,BA];omega⟩) (fun i x ys H' hc pp=>?_) (fun ys H' pp r2 hr2=>?_)
 .obtain⟨rfl,rfl⟩:=pp
  obtain⟨t,ht,p,xa,xb',rfl,hp,_,_⟩:=aO.get' hc
  refine⟨_,rfl,p,_,0,_,rfl,rfl,Aw.of (s2 _ _ hp),rfl,rfl,?_⟩
  rw[DE ht,AW,AW]
  rfl
 obtain⟨rfl,rfl⟩:=pp
 rw[vl,Ef]
 have s3:=Ab hr2 (.lst ((ts.map Al.nm).map V.str))
 refine⟨r1,r2,_,_,rfl,rfl,s3 _ _ A5,A5,AF (by rw[Aq,Aq,Bk];omega),fun kl hkl=>?_⟩
 have s4:=Ab hkl (.lst ([V.str ""]++(ts.map Al.nm).map V.str))
 have hk:Rd.KnAt (upd (upd (upd H r1 (.lst [V.str ""])) r2 (.lst ((ts.map Al.nm).map V.str))) kl (.lst ([V.str ""]++(ts.map Al.nm).map V.str))) kl (Rd.lnm ts):=⟨A5,by unfold Rd.lnm;rw[Aq];exact hol,fun z hz=>by
  obtain⟨t,ht,rfl⟩:=CF.mp hz
  exact(hok t ht).1⟩
 have e4:=(s2.trans s3).trans s4
 dsimp only[Am]
 generalize upd (upd (upd H r1 (.lst [V.str ""])) r2 (.lst ((ts.map Al.nm).map V.str))) kl (.lst ([V.str ""]++(ts.map Al.nm).map V.str))=H4 at s4 hk e4
 refine⟨_,rfl,c,5,rfl,by decide,by decide,fun rx H5 e5 hx=>?_⟩
 rw[show(5:Int).toNat=5 from rfl]at hx
 have e05:=e4.trans e5
 refine⟨_,rfl,_,rfl,rx,kl,nl,Er c 5,_,ns,rfl,hx,HH c 5,fun y hy=>JE hy,hk.over e5,hn.over e05,fun r p H6 z sp e6 hr6 hp6 lk=>?_⟩
 have ok:=lk.tok
 refine⟨r,_,rfl,Aw.of hr6,rfl,_,_,rfl,_,_,rfl,_,_,rfl,rfl,?_⟩
 have e06:=e05.trans e6
 refine⟨_,rfl,_,_,rfl,rfl,⟨by decide,by decide⟩,_,rfl,_,rfl,_,kl,nl,_,ns,rfl,hk.over (e5.trans e6),hn.over e06,fun x H7 t e7 tp okt st=>?_⟩
 dsimp only[Am]
 obtain⟨tt,y,rfl,htt,hy⟩:=tp
 have e07:=e06.trans e7
 have cl:=Gz ok.1 ok.2.1 ok.2.2
 have wl:=Tw.wr_len okt.ok
 have e3:(" = ":Str).length=3:=by decide +kernel
 refine⟨_,rfl,_,rfl,_,rfl,_,rfl,tt,_,2,_,rfl,rfl,Aw.of htt,rfl,_,rfl,pt,_,rfl,.inl ⟨A2.of (e07 _ _ hpt),fun tp htp=>?_⟩⟩
 have s8:=Ab htp (.tup (path.map V.int))
 refine⟨_,rfl,_,_,rfl,rfl,AF (by omega),_,rfl,tt,_,0,_,rfl,rfl,Aw.of (s8 _ _ htt),rfl,_,_,rfl,rfl,AF (by rw[Bh];omega),AD rfl,fun u hu=>?_⟩
 have s9:=Ab hu (.tup [V.ref o,V.str z,V.ref p,y,V.ref tp,V.str (B3 z sp++" = "++t.wr)])
 have e89:=s8.trans s9
 exact q _ _ ⟨ts,z,sp,t,path⟩ (e07.trans e89) ⟨u,p,tp,y,rfl,A5,hO.over (e07.trans e89),(hp6.tk (A8.tk e7)).tk (A8.tk e89),hy.tk (A8.tk e89),s9 _ _ A5⟩ ⟨lk,okt,st⟩ rfl rfl
theorem Q4 (T:Tx w K mg a):AJ P w K mg base AS 7 a.f_K a.d_K ["_law_cells","_law_names_here"] (Rd.spProg28 K):=by
 have G_J :=@PR P w K mg base a T
 have G_f :=@Md P w K mg base a T
 have G_p :=@Vc P w K mg base a T
 refine T.F_K.ok CU (fun vs H Q E h=>?_) (fun cdv A outer s H vs Q E hr h=>?_)
 .obtain⟨_,_,_,_,rfl,_⟩:=h;rfl
 obtain⟨cl,nl,cs,ns,rfl,hC,hcl,hn,q⟩:=h
 refine⟨_,(@A6 _ _ _ _ _ (@Aj _ _ (2) _ _ _ _ CU.nd rfl (.inl rfl) (@Bl _ _ _ _ A4) (by rfl) (by first|exact .inl rfl|exact .inr rfl|assumption)) (@A6 _ _ _ _ _ (@Aj _ _ (3) _ _ _ _ CU.nd rfl (.inl rfl) (@Bl _ _ _ _ (@A0 _ _ _ _ _ A3 A4 (by rfl))) (by rfl) (by first|exact .inl rfl|exact .inr rfl|assumption)) (@A6 _ _ _ _ _ (@Aj _ _ (4) _ _ _ _ CU.nd rfl (.inl rfl) (@Bl _ _ _ _ A4) (by rfl) (by first|exact .inl rfl|exact .inr rfl|assumption)) (@A6 _ _ _ _ _ (@Aj _ _ (5) _ _ _ _ CU.nd rfl (.inl rfl) (@Bl _ _ _ _ A4) (by rfl) (by first|exact .inl rfl|exact .inr rfl|assumption)) (@A6 _ _ _ _ _ (@Aj _ _ (6) _ _ _ _ CU.nd rfl (.inl rfl) (@E5 _ _ _ _ _ (@B8 _ _ _ _ _ Av (@B8 _ _ _ _ _ (@CJ _ _ _ _ _ (@A0 _ _ _ _ _ Av (@A0 _ _ _ _ _ A3 A4 (by rfl)) (by rfl))) (@B8 _ _ _ _ _ (@CJ _ _ _ _ _ (@A0 _ _ _ _ _ Av (@A0 _ _ _ _ _ A3 A4 (by rfl)) (by rfl))) DD Gj) Gj) Do)) (by rfl) (by first|exact .inl rfl|exact .inr rfl|assumption)) (@A6 _ _ _ _ _ (@Ep _ _ _ _ _ _ _ _ PassesOwn.never rfl (@Dy _ _ _ _ (pv 0)) (BG (i:=7) CU.nd rfl (.inl rfl)) (@A6 _ _ _ _ _ (@AI _ _ _ _ _ _ _ _ (@An _ _ _ _ _ _ _ _ BC (@B6 _ _ _ _ _ _ _ _ _ BO (by rfl) T.z_len BB (@A0 _ _ _ _ _ (pv 5) A4 (by rfl)) (by decide) (by decide) (by rfl) (by rfl)) A3 (@Ao _ _ (by decide) (by decide))) (@Ac _ _ _ Qp) AN) (@Ac _ _ _ (@AI _ _ _ _ _ _ _ _ ((@D6 _ _ _ _ _ _ _ (@An _ _ _ _ _ _ _ _ F0 (@Ae _ _ _ _ _ _ _ _ By (pv 7) A3) A3 (@Ao _ _ (by decide) (by decide))) (@DP _ _ _ _ (@An _ _ _ _ _ _ _ _ F0 (@B6 _ _ _ _ _ _ _ _ _ BO (by rfl) T.z_len BB (@A0 _ _ _ _ _ (pv 2) A4 (by rfl)) (by decide) (by decide) (by rfl) (by rfl)) A3 (@Ao _ _ (by decide) (by decide)))))).pt (@A6 _ _ _ _ _ (@Aj _ _ (8) _ _ _ _ CU.nd rfl (.inl rfl) (@AC _ _ _ _ _ _ _ _ _ _ _ _ _ _ _ _ G_J (hr.mono (by omega)) (by rfl) T.m_J T.F_J.kp T.b_J .nil Au (@A0 _ _ _ _ _ (@Ae _ _ _ _ _ _ _ _ Dm (pv 7) A3) (@A0 _ _ _ _ _ (pv 1) (@A0 _ _ _ _ _ (pv 2) (@A0 _ _ _ _ _ (pv 6) A4 (by rfl)) (by rfl)) (by rfl)) (by rfl)) (by decide) (by rfl) (by rfl)) (by rfl) (by first|exact .inl rfl|exact .inr rfl|assumption)) (@A6 _ _ _ _ _ (@Aj _ _ (9) _ _ _ _ CU.nd rfl (.inl rfl) (@Ae _ _ _ _ _ _ _ _ C1 (@Ae _ _ _ _ _ _ _ _ C1 (@Ae _ _ _ _ _ _ _ _ C1 Av (@Ag _ _ _ _ _ _ _ B0 (pv 8) A3 (fun _ _=>rfl))) Av) (@AC _ _ _ _ _ _ _ _ _ _ _ _ _ _ _ _ G_f (hr.mono (by omega)) (by rfl) T.m_f T.F_f.kp T.b_f .nil Au (@A0 _ _ _ _ _ (@Ag _ _ _ _ _ _ _ B0 (pv 8) A3 (fun _ _=>rfl)) A4 (by rfl)) (by decide) (by rfl) (by rfl))) (by rfl) (by first|exact .inl rfl|exact .inr rfl|assumption)) (@A6 _ _ _ _ _ (@Bt _ _ _ _ (@Be _ _ _ _ _ _ _ _ _ _ _ _ Bo Cf Cg C4 (pv 4) (@A0 _ _ _ _ _ (@CJ _ _ _ _ _ (@A0 _ _ _ _ _ (@B6 _ _ _ _ _ _ _ _ _ BO (by rfl) T.z_len BB (@A0 _ _ _ _ _ (pv 2) A4 (by rfl)) (by decide) (by decide) (by rfl) (by rfl)) (@A0 _ _ _ _ _ (@Ae _ _ _ _ _ _ _ _ C1 (@Ae _ _ _ _ _ _ _ _ C1 (pv 9) Av) (@AC _ _ _ _ _ _ _ _ _ _ _ _ _ _ _ _ G_f (hr.mono (by omega)) (by rfl) T.m_f T.F_f.kp T.b_f .nil Au (@A0 _ _ _ _ _ (@Ag _ _ _ _ _ _ _ B0 (pv 8) A3 (fun _ _=>rfl)) A4 (by rfl)) (by decide) (by rfl) (by rfl))) A4 (by rfl)) (by rfl))) A4 (by rfl)) (by rfl) (by rfl) (by rfl) (by rfl) (by rfl)) (by rfl)) (@A6 _ _ _ _ _ (@Aj _ _ (2) _ _ _ _ CU.nd rfl (.inl rfl) (@Ae _ _ _ _ _ _ _ _ EL (pv 2) (@Bl _ _ _ _ (@A0 _ _ _ _ _ (pv 8) A4 (by rfl)))) (by rfl) (by first|exact .inl rfl|exact .inr rfl|assumption)) (@Ac _ _ _ (@Aj _ _ (3) _ _ _ _ CU.nd rfl (.inl rfl) (@Ae _ _ _ _ _ _ _ _ EL (pv 3) (@Bl _ _ _ _ (@A0 _ _ _ _ _ A3 A4 (by rfl)))) (by rfl) (by first|exact .inl rfl|exact .inr rfl|assumption))))))) (@Ac _ _ _ (@AI _ _ _ _ _ _ _ _ ((@D6 _ _ _ _ _ _ _ (@An _ _ _ _ _ _ _ _ BC (@Ae _ _ _ _ _ _ _ _ By (pv 7) A3) A3 (@Ao _ _ (by decide) (by decide))) (@D6 _ _ _ _ _ _ _ (@An _ _ _ _ _ _ _ _ (@Hm _ (@EY _ _ hr)) (pv 2) (@Bl _ _ _ _ A4) (@Ao _ _ (by decide) (by decide))) (@DP _ _ _ _ (@An _ _ _ _ _ _ _ _ EA (@Ag _ _ _ _ _ _ _ AV (pv 3) (@CN _ _ _ _ _ _ CH A3) (fun _ _=>rfl)) A3 (@Ao _ _ (by decide) (by decide))))))).pt (@A6 _ _ _ _ _ (@Aj _ _ (6) _ _ _ _ CU.nd rfl (.inl rfl) (@Ag _ _ _ _ _ _ _ AV (pv 2) (@CN _ _ _ _ _ _ CH A3) (fun _ _=>rfl)) (by rfl) (by first|exact .inl rfl|exact .inr rfl|assumption)) (@A6 _ _ _ _ _ (@Aj _ _ (2) _ _ _ _ CU.nd rfl (.inl rfl) (@CW _ _ _ _ _ _ _ _ _ _ Ej (pv 2) DS (@Cq _ _ _ (@CN _ _ _ _ _ _ CH A3))) (by rfl) (by first|exact .inl rfl|exact .inr rfl|assumption)) (@A6 _ _ _ _ _ (@Aj _ _ (3) _ _ _ _ CU.nd rfl (.inl rfl) (@Ae _ _ _ _ _ _ _ _ EL (@CW _ _ _ _ _ _ _ _ _ _ Ej (pv 3) DS (@Cq _ _ _ (@CN _ _ _ _ _ _ CH A3))) (@Bl _ _ _ _ (@A0 _ _ _ _ _ (@Ae _ _ _ _ _ _ _ _ BS (@Ag _ _ _ _ _ _ _ AV (pv 3) (@CN _ _ _ _ _ _ CH A3) (fun _ _=>rfl)) A3) A4 (by rfl)))) (by rfl) (by first|exact .inl rfl|exact .inr rfl|assumption)) (@Ac _ _ _ (@Bt _ _ _ _ (@Be _ _ _ _ _ _ _ _ _ _ _ _ Bo Cf Cg C4 (pv 4) (@A0 _ _ _ _ _ (@CJ _ _ _ _ _ (@A0 _ _ _ _ _ (@B6 _ _ _ _ _ _ _ _ _ BO (by rfl) T.z_len BB (@A0 _ _ _ _ _ (pv 2) A4 (by rfl)) (by decide) (by decide) (by rfl) (by rfl)) (@A0 _ _ _ _ _ Av A4 (by rfl)) (by rfl))) A4 (by rfl)) (by rfl) (by rfl) (by rfl) (by rfl) (by rfl)) (by rfl)))))) (@A6 _ _ _ _ _ (@Bt _ _ _ _ (@Be _ _ _ _ _ _ _ _ _ _ _ _ Bo Cf Cg C4 (pv 5) (@A0 _ _ _ _ _ (@AC _ _ _ _ _ _ _ _ _ _ _ _ _ _ _ _ G_p (hr.mono (by omega)) (by rfl) T.m_p T.F_p.kp T.b_p .nil Au (@A0 _ _ _ _ _ (@Ae _ _ _ _ _ _ _ _ Dm (pv 7) A3) (@A0 _ _ _ _ _ (pv 2) (@A0 _ _ _ _ _ (pv 3) (@A0 _ _ _ _ _ (pv 1) A4 (by rfl)) (by rfl)) (by rfl)) (by rfl)) (by decide) (by rfl) (by rfl)) A4 (by rfl)) (by rfl) (by rfl) (by rfl) (by rfl) (by rfl)) (by rfl)) (@A6 _ _ _ _ _ (@Bt _ _ _ _ (@Be _ _ _ _ _ _ _ _ _ _ _ _ Bo Cf Cg C4 (pv 4) (@A0 _ _ _ _ _ (@CJ _ _ _ _ _ (@A0 _ _ _ _ _ (@B6 _ _ _ _ _ _ _ _ _ BO (by rfl) T.z_len BB (@A0 _ _ _ _ _ (pv 2) A4 (by rfl)) (by decide) (by decide) (by rfl) (by rfl)) (@A0 _ _ _ _ _ (@Ag _ _ _ _ _ _ _ B0 (@Ag _ _ _ _ _ _ _ AV (pv 5) (@CN _ _ _ _ _ _ CH A3) (fun _ _=>rfl)) A3 (fun _ _=>rfl)) A4 (by rfl)) (by rfl))) A4 (by rfl)) (by rfl) (by rfl) (by rfl) (by rfl) (by rfl)) (by rfl)) (@Ac _ _ _ (@Aj _ _ (3) _ _ _ _ CU.nd rfl (.inl rfl) (@Ae _ _ _ _ _ _ _ _ EL (@CW _ _ _ _ _ _ _ _ _ _ Ej (pv 3) DS (@Cq _ _ _ (@CN _ _ _ _ _ _ CH A3))) (@Bl _ _ _ _ (@A0 _ _ _ _ _ (@Ae _ _ _ _ _ _ _ _ BS (@Ag _ _ _ _ _ _ _ AV (pv 3) (@CN _ _ _ _ _ _ CH A3) (fun _ _=>rfl)) A3) A4 (by rfl)))) (by rfl) (by first|exact .inl rfl|exact .inr rfl|assumption)))))))))) (by intro _;rfl)) (@A6 _ _ _ _ _ (@AI _ _ _ _ _ _ _ _ (@An _ _ _ _ _ _ _ _ BC (@Ag _ _ _ _ _ _ _ AV (pv 3) (@CN _ _ _ _ _ _ CH A3) (fun _ _=>rfl)) A3 (@Ao _ _ (by decide) (by decide))) (@A6 _ _ _ _ _ (@Bt _ _ _ _ (@Be _ _ _ _ _ _ _ _ _ _ _ _ Bo Cf Cg C4 (pv 5) (@A0 _ _ _ _ _ (@AC _ _ _ _ _ _ _ _ _ _ _ _ _ _ _ _ G_p (hr.mono (by omega)) (by rfl) T.m_p T.F_p.kp T.b_p .nil Au (@A0 _ _ _ _ _ (@B6 _ _ _ _ _ _ _ _ _ BO (by rfl) T.z_len BB (@A0 _ _ _ _ _ (pv 0) A4 (by rfl)) (by decide) (by decide) (by rfl) (by rfl)) (@A0 _ _ _ _ _ (pv 2) (@A0 _ _ _ _ _ (pv 3) (@A0 _ _ _ _ _ (pv 1) A4 (by rfl)) (by rfl)) (by rfl)) (by rfl)) (by decide) (by rfl) (by rfl)) A4 (by rfl)) (by rfl) (by rfl) (by rfl) (by rfl) (by rfl)) (by rfl)) (@Ac _ _ _ (@Bt _ _ _ _ (@Be _ _ _ _ _ _ _ _ _ _ _ _ Bo Cf Cg C4 (pv 4) (@A0 _ _ _ _ _ (@CJ _ _ _ _ _ (@A0 _ _ _ _ _ (@B6 _ _ _ _ _ _ _ _ _ BO (by rfl) T.z_len BB (@A0 _ _ _ _ _ (pv 2) A4 (by rfl)) (by decide) (by decide) (by rfl) (by rfl)) (@A0 _ _ _ _ _ (@Ag _ _ _ _ _ _ _ B0 (@Ag _ _ _ _ _ _ _ AV (pv 5) (@CN _ _ _ _ _ _ CH A3) (fun _ _=>rfl)) A3 (fun _ _=>rfl)) A4 (by rfl)) (by rfl))) A4 (by rfl)) (by rfl) (by rfl) (by rfl) (by rfl) (by rfl)) (by rfl)))) AN) (@A6 _ _ _ _ _ (@Hu _ _ _ _ _ _ PassesOwn.never (@An _ _ _ _ _ _ _ _ (@Hm _ (@EY _ _ hr)) (pv 2) (@Bl _ _ _ _ A4) (@Ao _ _ (by decide) (by decide))) (@A6 _ _ _ _ _ (@Aj _ _ (2) _ _ _ _ CU.nd rfl (.inl rfl) (@CW _ _ _ _ _ _ _ _ _ _ Ej (pv 2) DS (@Cq _ _ _ (@CN _ _ _ _ _ _ CH A3))) (by rfl) (by first|exact .inl rfl|exact .inr rfl|assumption)) (@Ac _ _ _ (@Bt _ _ _ _ (@Be _ _ _ _ _ _ _ _ _ _ _ _ Bo Cf Cg C4 (pv 4) (@A0 _ _ _ _ _ (@CJ _ _ _ _ _ (@A0 _ _ _ _ _ (@B6 _ _ _ _ _ _ _ _ _ BO (by rfl) T.z_len BB (@A0 _ _ _ _ _ (pv 2) A4 (by rfl)) (by decide) (by decide) (by rfl) (by rfl)) (@A0 _ _ _ _ _ Av A4 (by rfl)) (by rfl))) A4 (by rfl)) (by rfl) (by rfl) (by rfl) (by rfl) (by rfl)) (by rfl))))) (@Ac _ _ _ (@Ar _ _ _ _ (@CJ _ _ _ _ _ (@A0 _ _ _ _ _ (pv 4) (@A0 _ _ _ _ _ (pv 5) A4 (by rfl)) (by rfl))))))))))))),?_⟩
 have f4:("for ":Str).length=4:=by decide +kernel
 have f1:(" ":Str).length=1:=by decide +kernel
 have fe:("end":Str).length=3:=by decide +kernel
 refine⟨AD rfl,fun o0 ho0=>?_⟩
 refine⟨AD rfl,fun pt0 hpt0=>?_⟩
 refine⟨AD rfl,fun rl hrl=>?_⟩
 refine⟨AD rfl,fun dl hdl=>?_⟩
 refine⟨AD rfl,fun q1 hq1=>?_⟩
 refine⟨AD rfl,fun q2 hq2=>?_⟩
 refine⟨AD rfl,fun la0 hla0=>?_⟩
 have start:BP H _ rl dl o0 pt0 (.ref la0) [] [0] [] [] ⟨"",("",0),("",0)⟩:=BP.start ho0 hpt0 hrl hdl hq1 hq2 hla0
 dsimp only[Am]
 generalize upd (upd (upd (upd (upd (upd (upd H o0 (HO.lst [])) pt0 (HO.lst [V.int 0])) rl (HO.lst [])) dl (HO.lst [])) q1 (HO.tup [V.str (Str.ofString ""),V.int 0])) q2 (HO.tup [V.str (Str.ofString ""),V.int 0])) la0 (HO.tup [V.str (Str.ofString ""),V.ref q1,V.ref q2])=HS at start
 have ok0:Rd.SpN ("",0):=Rd.spn9.1
 refine D4 (fun σ' H'=>∃(o pt:Addr) (la:V) (ts:List Al) (path:List Int) (R:Pw.Rw Al Str) (Ds:List Dw) (tl:Al) (o7 o8 o9:Option V),σ'=[some (.ref cl),some (.ref nl),some (.ref o),some (.ref pt),some (.ref rl),some (.ref dl),some la,o7,o8,o9]/\BP H H' rl dl o pt la ts path R Ds tl/\(∃ks pa y,Rd.Rn ns R ts path Ds ks pa y)/\Ds.length<=6/\R.length<=63) (fun σ' H' m=>?_) (fun rest=>?_)
 .obtain⟨o,pt,la,ts,path,R,Ds,tl,o7,o8,o9,rfl,N,⟨ks,p,y,C⟩,d6,r60⟩:=m
  obtain rfl:=C.pe
  have t3:=C.nm.1
  have hpt:=BV _ _ N.pa
  rw[AW]at hpt
  refine D4 (fun σ' H'=>∃(o pt:Addr) (la:V) (ts:List Al) (path:List Int) (R:Pw.Rw Al Str) (Ds:List Dw) (tl:Al) (o7 o8 o9:Option V),σ'=[some (.ref cl),some (.ref nl),some (.ref o),some (.ref pt),some (.ref rl),some (.ref dl),some la,o7,o8,o9]/\BP H H' rl dl o pt la ts path R Ds tl/\(∃ks pa y,Rd.Rn ns R ts (pa++[y]) Ds ks pa y/\0<y)/\Ds≠[]/\R.length<=64) (fun σ' H' m=>?_) (fun rest=>?_)
  .obtain⟨o,pt,la,ts,path,R,Ds,tl,o7,o8,o9,rfl,N,⟨ks,pa,y,C,y0⟩,dne,r61⟩:=m
   have t3:=C.nm.1
   show E7 (JC _ _) (G7 _) _ _ _
   refine D4 (fun σ' H'=>∃(o pt:Addr) (la:V) (path:List Int) (R':Pw.Rw Al Str) (tl:Al) (o7 o8 o9:Option V),σ'=[some (.ref cl),some (.ref nl),some (.ref o),some (.ref pt),some (.ref rl),some (.ref dl),some la,o7,o8,o9]/\BP H H' rl dl o pt la [] path R' Ds tl/\(∃ks y,Rd.Rn ns R' [] [y] Ds ks [] y)/\R'.length<=70) (fun σ' H' m=>?_) (fun nx=>?_)
   .obtain⟨o,pt,la,path,R',tl,o7,o8,o9,rfl,N,⟨ks,y,C⟩,r70⟩:=m
    refine⟨_,rfl,_,rfl,AD rfl,fun t ht=>?_⟩
    have N2:=N.over (Ab ht (.tup [V.ref rl,V.ref dl]))
    obtain⟨xs,hxs,ax⟩:=N2.rows
    obtain⟨ys,hys,ay⟩:=N2.deeds
    exact q t rl dl _ xs ys _ Ds ks y N2.same A5 hxs ax hys (ay.mono fun _ _ z=>z.over BV) C dne r70
   refine NV 4 (fun j σ' H'=>∃(o pt:Addr) (la:V) (us:List Al) (path:List Int) (R':Pw.Rw Al Str) (tl:Al) (o7 o8 o9:Option V),σ'=[some (.ref cl),some (.ref nl),some (.ref o),some (.ref pt),some (.ref rl),some (.ref dl),some la,o7,o8,o9]/\BP H H' rl dl o pt la us path R' Ds tl/\us.length+j<=3/\R'.length<=64+j/\(∃ks pa y,Rd.Rn ns R' us (pa++[y]) Ds ks pa y/\0<y)) ⟨o,pt,la,ts,path,R,tl,o7,o8,o9,rfl,N,by omega,by omega,ks,pa,y,C,y0⟩ (fun j σ' H' hj pp=>?_) (MT.test (ME.op (Rd.mr_eqE _ _) (ME.var _) (ME.lst MA.nil)))
   obtain⟨o,pt,la,us,path,R',tl,o7,o8,o9,rfl,N,uj,rj,ks,pa,y,C,y0⟩:=pp
   refine⟨_,rfl,AD rfl,fun p0 hp0=>?_⟩
   have sp:=Ab hp0 (.lst [])
   have N2:=N.over sp
   obtain⟨tr,htr0,htra⟩:=N2.op.over BV
   have htl:=htra.1
   refine⟨o,p0,tr,rfl,rfl,A2.of htr0,A2.of A5,_,rfl,?_⟩
   change if(!tr.isEmpty)=true then _ else _
   refine Az (fun c3=>?_) (fun c3=>?_)
   .have hne:0<us.length:=by
     have:¬tr=[]:=by simpa using c3
     have:=List.length_pos_iff.mpr this
     omega
    obtain⟨us',x,rfl,hu⟩:=ES (l:=us) (n:=us.length-1) (by omega)
    refine⟨by omega,?_⟩
    obtain⟨vs,h0,a0⟩:=N2.op
    have vl:=a0.1
    rw[Ap,Bk]at vl
    obtain⟨vs',v,rfl,hv'⟩:=ES vl
    refine⟨_,rfl,_,rfl,_,rfl,o,_,rfl,A2.of (BV _ _ h0),fun p1 hp1=>?_⟩
    have cv:CA (vs'++[v]) none (some (-1))=vs':=J0 vs' [v] (G0 _) rfl
    rw[cv]
    have a1:AE (DI _) vs' us':=⟨hv',fun i y t a b=>(a0.2 i y t (by rw[DW (BJ.mp a).1];exact a) (by rw[DW (BJ.mp b).1];exact b)).tk (A8.tk BV)⟩
    have N3:=N2.newO hp1 a1
    obtain⟨vs2,h2,_⟩:=N3.op
    have hp1':(upd (upd H' p0 (.lst [])) p1 (.lst vs')) p1=some (.lst vs'):=A5
    dsimp only[Am]
    generalize upd (upd H' p0 (.lst [])) p1 (.lst vs')=H3 at N3 hp1' h2
    obtain⟨xs,hxs,ax⟩:=N3.rows
    have xl:=ax.1
    refine⟨_,rfl,.inl ⟨rfl,_,A2.of hxs⟩,_,rfl,p1,_,rfl,.inl (A2.of hp1'),AD rfl,fun t ht=>?_⟩
    have s4:=Ab ht (.tup [V.int ((vs'.length:Nat):Int),V.str "end"])
    refine⟨rl,_,_,rfl,rfl,s4 _ _ hxs,C5 (by omega),?_⟩
    have N4:=(N3.over s4).row (p:=(us'.length,.fin)) (s4 _ _ hxs) (by rw[A5,hv'];rfl)
    rw[Ap,Bk]at uj
    refine⟨p1,pt,la,us',path,R'++[(us'.length,.fin)],tl,_,_,_,rfl,N4,by omega,by rw[Ap,Bk];omega,?_⟩
    have pl:=C.pl
    rw[Ap,Bk]at pl
    obtain⟨pa',m,rfl,_⟩:=ES pl
    have m0:0<=m:=C.p0.1 m (by simp)
    exact⟨_,pa',m+1,C.fin (by omega) us'.length,by omega⟩
   .have u0:us=[]:=by
     have:tr=[]:=by simpa using c3
     rw[this]at htl
     exact GS htl.symm
    subst u0
    obtain rfl:pa=[]:=GS C.pl
    exact nx _ _ ⟨o,pt,la,path,R',tl,_,_,_,rfl,N2,⟨ks,y,C⟩,by omega⟩
  .refine⟨_,rfl,_,rfl,pt,_,_,_,rfl,rfl,A2.of hpt,Fy _ _ [] rfl,rfl,_,rfl,?_⟩
   refine Az (fun cy=>?_) (fun cz=>?_)
   .have hlen:=(N.op).over BV
    refine⟨_,rfl,.inl ⟨rfl,_,A2.of (N.deeds.choose_spec.1)⟩,_,rfl,cl,_,rfl,.inl (N.same.seq hC),_,rfl,_,rfl,_,rfl,_,o,pt,nl,ns,ts,p++[y],rfl,hn.over N.same,hlen,C.nm,BV _ _ N.pa,C.len,fun r H2 D e2 hD okD eL eP=>?_⟩
    have N2:=N.over e2
    obtain⟨ys,hys,ay⟩:=N2.deeds
    obtain⟨xs,hxs,ax⟩:=N2.rows
    have yl:=ay.1
    have xl:=ax.1
    refine⟨dl,_,_,rfl,rfl,hys,C5 (by omega),?_⟩
    have hDw:EJ (wo2 H2 rl dl) r D:=hD.wo2' hxs hys N2.op eL
    have N3:=N2.deed hys hDw
    obtain⟨oD,pD,psD,ptD,shD,rfl,hpD,_⟩:=id hDw
    have hpD3:(upd H2 dl (.lst (ys++[.ref pD]))) pD=some (.tup [.ref oD,.str D.tbl,.ref psD,shD,.ref ptD,.str D.txt]):=(TK.upd hys) _ _ (BV _ _ hpD)
    have hdl3:(upd H2 dl (.lst (ys++[.ref pD]))) dl=some (.lst (ys++[.ref pD])):=A5
    generalize upd H2 dl (.lst (ys++[.ref pD]))=H3 at N3 hpD3 hdl3
    obtain⟨xs,hxs,ax⟩:=N3.rows
    obtain⟨vs,hvs,av⟩:=N3.op
    have vl:=av.1
    have xl:=ax.1
    refine⟨_,rfl,.inl ⟨rfl,_,A2.of hxs⟩,_,rfl,o,_,rfl,.inl (A2.of (BV _ _ hvs)),_,rfl,_,rfl,dl,_,_,_,rfl,rfl,A2.of hdl3,Fy _ _ [] rfl,pD,_,5,_,rfl,rfl,Aw.of hpD3,rfl,AD rfl,fun t ht=>?_⟩
    have s4:=Ab ht (.tup [V.int ((vs.length:Nat):Int),V.str D.txt])
    refine⟨rl,_,_,rfl,rfl,s4 _ _ hxs,C5 (by omega),?_⟩
    have N4:=(N3.over s4).row (p:=(ts.length,.row D.txt)) (s4 _ _ hxs) (by rw[A5,vl];rfl)
    have y0:y=0:=V.int.inj (dT cy)
    have d5:Ds.length<=5:=C.l6.resolve_right (by omega)
    exact rest _ _ ⟨o,pt,la,ts,p++[y],R++[(ts.length,.row D.txt)],Ds++[D],tl,_,_,_,rfl,N4,⟨_,p,y+1,C.ded okD eL eP d5 ts.length,by omega⟩,by simp,by rw[Ap,Bk];omega⟩
   .have y0:y≠0:=fun e=>dF cz (congrArg V.int e)
    have y1:0<y:=by have:=C.p0.2;omega
    exact rest _ _ ⟨o,pt,la,ts,p++[y],R,Ds,tl,_,_,_,rfl,N,⟨ks,p,y,C,y1⟩,C.dn y1,by omega⟩
 .refine⟨_,rfl,cl,rfl,⟨_,start.same.seq hC⟩,?_⟩
  refine Gw (xs:=cs.map V.int) (fun i σ' H'=>∃(o pt:Addr) (la:V) (ts:List Al) (path:List Int) (R:Pw.Rw Al Str) (Ds:List Dw) (tl:Al) (o7 o8 o9:Option V),σ'=[some (.ref cl),some (.ref nl),some (.ref o),some (.ref pt),some (.ref rl),some (.ref dl),some la,o7,o8,o9]/\BP H H' rl dl o pt la ts path R Ds tl/\(∃ks pa y,Rd.Rn ns R ts path Ds ks pa y)/\Ds.length<=6/\R.length<=i/\Rd.SpN tl.lo/\Rd.SpN tl.hi) ⟨o0,pt0,.ref la0,[],[0],[],[],_,_,_,_,rfl,start,⟨_,_,_,Rd.Rn.start ns⟩,C0 _,Ai _,ok0,ok0⟩ (fun i σ' H' _ p=>by obtain⟨_,_,_,_,_,_,_,_,_,_,_,_,N,_⟩:=p;exact N.same.seq hC) (fun i x σ' H' hx p=>?_) (fun σ' H' p=>?_)
  rotate_left
  .obtain⟨o,pt,la,ts,path,R,Ds,tl,o7,o8,o9,rfl,N,⟨ks,pa,la1,C⟩,d6,ri,lok,hok⟩:=p
   rw[Aq]at ri
   exact rest _ _ ⟨o,pt,la,ts,path,R,Ds,tl,_,_,_,rfl,N,⟨_,_,_,C⟩,d6,by omega⟩
  obtain⟨o,pt,la,ts,path,R,Ds,tl,o7,o8,o9,rfl,N,⟨ks,pa,la1,C⟩,d6,ri,lok,hok⟩:=p
  have t3:=C.nm.1
  have hi:i<cs.length:=by have:=(BJ.mp hx).1;rwa [Aq]at this
  obtain⟨c,rfl⟩:∃c,x=V.int c:=by
   rw[CO]at hx
   cases e:cs[i]? with
   |none=>rw[e]at hx;cases hx
   |some z=>rw[e]at hx;exact⟨z,(BQ hx).symm⟩
  obtain⟨ys0,hys0,ay0⟩:=N.deeds
  have yl0:=ay0.1
  dsimp only[Am]
  refine⟨_,rfl,dl,_,rfl,.inl (A2.of hys0),rfl,_,rfl,?_⟩
  refine Az (fun _=>rest _ _ ⟨o,pt,la,ts,path,R,Ds,tl,_,_,_,rfl,N,⟨_,_,_,C⟩,d6,by omega⟩) (fun c6=>?_)
  have D5:Ds.length<=5:=by
   have:=dF c6
   have h2:¬((ys0.length:Nat):Int)=6:=fun z=>this (congrArg V.int z)
   omega
  dsimp only[Kz]
  refine KG (fun H2=>H2=H') (fun H2 e=>?_) (fun els=>?_)
  .subst e
   refine KG (fun H3=>A8 H2 H3) (fun H3 e2=>?_) (fun els2=>?_)
   ·
    have N2:=N.over e2
    obtain rfl:=C.pe
    have hp:=C.pl
    obtain⟨ys1,hys1,_⟩:=N2.deeds
    refine⟨_,rfl,.inl ⟨rfl,_,A2.of hys1⟩,_,rfl,_,_,rfl,rfl,⟨by decide,by decide⟩,_,rfl,_,rfl,_,rfl,_,o,pt,nl,ns,ts,pa++[la1],rfl,hn.over N2.same,N2.op.over BV,C.nm,BV _ _ N2.pa,C.len,fun r H4 D e4 hD okD eL eP=>?_⟩
    have N4:=N2.over e4
    obtain⟨ys,hys,ay⟩:=N4.deeds
    obtain⟨xs,hxs,ax⟩:=N4.rows
    have yl:=ay.1
    refine⟨dl,_,_,rfl,rfl,hys,C5 (by omega),?_⟩
    have hDw:EJ (wo2 H4 rl dl) r D:=hD.wo2' hxs hys N4.op eL
    have N5:=N4.deed hys hDw
    obtain⟨oD,pD,psD,ptD,shD,rfl,hpD,_⟩:=id hDw
    have hpD3:(upd H4 dl (.lst (ys++[.ref pD]))) pD=some (.tup [.ref oD,.str D.tbl,.ref psD,shD,.ref ptD,.str D.txt]):=(TK.upd hys) _ _ (BV _ _ hpD)
    have hdl3:(upd H4 dl (.lst (ys++[.ref pD]))) dl=some (.lst (ys++[.ref pD])):=A5
    generalize upd H4 dl (.lst (ys++[.ref pD]))=H5 at N5 hpD3 hdl3
    obtain⟨xs,hxs,ax⟩:=N5.rows
    obtain⟨vs,hvs,av⟩:=N5.op
    have vl:=av.1
    have xl:=ax.1
    refine⟨_,rfl,.inl ⟨rfl,_,A2.of hxs⟩,_,rfl,o,_,rfl,.inl (A2.of (BV _ _ hvs)),_,rfl,_,rfl,dl,_,_,_,rfl,rfl,A2.of hdl3,Fy _ _ [] rfl,pD,_,5,_,rfl,rfl,Aw.of hpD3,rfl,AD rfl,fun t ht=>?_⟩
    have s6:=Ab ht (.tup [V.int ((vs.length:Nat):Int),V.str D.txt])
    refine⟨rl,_,_,rfl,rfl,s6 _ _ hxs,C5 (by omega),?_⟩
    have N6:=(N5.over s6).row (p:=(ts.length,.row D.txt)) (s6 _ _ hxs) (by rw[A5,vl];rfl)
    have C2:=C.ded okD eL eP D5 ts.length
    generalize upd (upd H5 t (.tup [V.int ((vs.length:Nat):Int),V.str D.txt])) rl (.lst (xs++[.ref t]))=H6 at N6
    have hpt:=BV _ _ N6.pa
    rw[AW]at hpt
    refine⟨_,rfl,_,rfl,_,rfl,pt,_,rfl,A2.of hpt,fun p1 hp1=>?_⟩
    have cc:CA (List.map V.int pa++List.map V.int [la1]) none (some (-1))=pa.map V.int:=J0 (pa.map V.int) [V.int la1] (G0 _) rfl
    rw[cc]
    have s7:=Ab hp1 (.lst (pa.map V.int))
    refine⟨_,rfl,_,rfl,pt,_,_,_,rfl,rfl,A2.of (s7 _ _ hpt),Fy _ _ [] rfl,_,_,rfl,rfl,AD rfl,fun p2 hp2=>?_⟩
    have s8:=Ab hp2 (.lst [V.int (la1+1)])
    refine⟨p1,p2,_,_,rfl,rfl,s8 _ _ A5,A5,AF (by rw[Aq,hp];show ts.length+1<=1000000;omega),fun p3 hp3=>?_⟩
    have N9:=((N6.over s7).over s8).newP (path':=pa++[la1+1]) hp3
    rw[AW]at N9
    exact⟨o,p3,la,ts,pa++[la1+1],_,_,tl,_,_,_,rfl,N9,⟨_,_,_,C2⟩,by rw[Ap,Bk];omega,by rw[Ap,Bk];omega,lok,hok⟩
   .refine⟨_,rfl,_,_,rfl,rfl,(by show(0:Int)<5;decide),rfl,_,rfl,?_⟩
    refine Az (fun _=>?_) (fun _=>AA (els2 _ (A8.refl _)))
    refine⟨_,rfl,AD rfl,fun p0 hp0=>?_⟩
    have sp:=Ab hp0 (.lst [])
    have N2:=N.over sp
    obtain⟨tr,htr0,htra⟩:=N2.op.over BV
    have htl:=htra.1
    refine⟨o,p0,tr,rfl,rfl,A2.of htr0,A2.of A5,_,rfl,?_⟩
    change if(!tr.isEmpty)=true then _ else _
    refine Az (fun c3=>?_) (fun _=>AA (els2 _ sp))
    have hne:0<ts.length:=by
     have:¬tr=[]:=by simpa using c3
     have:=List.length_pos_iff.mpr this
     omega
    obtain⟨ts',x,rfl,hu⟩:=ES (l:=ts) (n:=ts.length-1) (by omega)
    have pl:=C.pl
    rw[Ap,Bk]at pl
    obtain⟨p,y,rfl,hp⟩:=ES pl
    obtain rfl:=C.pe
    have z0':=C.p0.2
    have C':=C
    rw[CQ]at N N2
    obtain⟨z,rfl⟩:∃z,z=la1:=⟨_,rfl⟩
    have N2:BP H _ rl dl o pt la (ts'++[x]) (p++[y,z]) R Ds tl:=N2
    have hpt:=BV _ _ N2.pa
    rw[AW]at hpt
    have hat1:BH (p.map V.int++List.map V.int [y,z]) (-1)=some (V.int z):=by
     have:=Fy (p.map V.int++[V.int y]) (V.int z) [] (n := -1) rfl
     rw[CQ]at this
     exact this
    have hat2:BH (p.map V.int++List.map V.int [y,z]) (-2)=some (V.int y):=Fy (p.map V.int) (V.int y) [V.int z] rfl
    have hcut:CA (p.map V.int++List.map V.int [y,z]) none (some (-2))=p.map V.int:=J0 (p.map V.int) [V.int y,V.int z] (G0 _) rfl
    refine⟨_,rfl,_,rfl,pt,_,_,_,rfl,rfl,A2.of hpt,hat1,_,_,rfl,rfl,_,rfl,?_⟩
    refine Az (fun cz=>?_) (fun _=>els2 _ sp)
    have z0:z≠0:=by have:=dT cz;omega
    obtain⟨vs,h0,a0⟩:=N2.op
    have vl:=a0.1
    rw[Ap,Bk]at vl
    obtain⟨vs',v,rfl,hv'⟩:=ES vl
    have hLv:DI _ v x:=(a0.2 ts'.length v x (by rw[←hv',DV (Ai _),Ey];rfl) (by rw[DV (Ai _),Ey];rfl)).tk (A8.tk BV)
    have okx:=C'.nm.2 x (by simp)
    rw[Ap,Bk]at t3
    refine⟨_,rfl,_,rfl,o,_,_,_,rfl,rfl,A2.of (BV _ _ h0),Fy _ _ [] rfl,?_⟩
    dsimp only[Am]
    refine⟨_,rfl,_,rfl,_,rfl,o,_,rfl,A2.of (BV _ _ h0),fun p1 hp1=>?_⟩
    have cv:CA (vs'++[v]) none (some (-1))=vs':=J0 vs' [v] (G0 _) rfl
    rw[cv]
    have a1:AE (DI _) vs' ts':=⟨hv',fun i y t a b=>(a0.2 i y t (by rw[DW (BJ.mp a).1];exact a) (by rw[DW (BJ.mp b).1];exact b)).tk (A8.tk BV)⟩
    have N2':BP H _ rl dl o pt v (ts'++[x]) (p++[y,z]) R Ds x:=⟨N2.same,N2.op,N2.pa,hLv,N2.rows,N2.deeds,N2.rne,N2.h0r,N2.h0d⟩
    have s7:=Ab hp1 (.lst vs')
    have N3:=N2'.newO hp1 a1
    have hpt3:=s7 _ _ hpt
    have hp1':(upd (upd H2 p0 (.lst [])) p1 (.lst vs')) p1=some (.lst vs'):=A5
    dsimp only[Am]
    generalize upd (upd H2 p0 (.lst [])) p1 (.lst vs')=H3 at N3 hp1' hpt3
    refine⟨_,rfl,_,rfl,_,rfl,pt,_,rfl,A2.of hpt3,fun p2 hp2=>?_⟩
    rw[hcut]
    have s8:=Ab hp2 (.lst (p.map V.int))
    refine⟨_,rfl,_,rfl,pt,_,_,_,rfl,rfl,A2.of (s8 _ _ hpt3),hat2,_,_,rfl,rfl,AD rfl,fun p3 hp3=>?_⟩
    have s9:=Ab hp3 (.lst [V.int (y+1)])
    refine⟨p2,p3,_,_,rfl,rfl,s9 _ _ A5,A5,AF (by rw[Aq];show p.length+1<=1000000;omega),fun p4 hp4=>?_⟩
    have N4:BP H (upd (upd (upd H3 p2 (.lst (p.map V.int))) p3 (.lst [V.int (y+1)])) p4 (.lst (List.map V.int p++[V.int (y+1)]))) rl dl p1 p4 v ts' (p++[y+1]) R Ds x:=by
     have:=((N3.over s8).over s9).newP (path':=p++[y+1]) hp4
     rw[AW]at this
     exact this
    have hp14:=((s8.trans s9).trans (Ab hp4 (.lst (List.map V.int p++[V.int (y+1)])))) _ _ hp1'
    dsimp only[Am]
    generalize upd (upd (upd H3 p2 (.lst (p.map V.int))) p3 (.lst [V.int (y+1)])) p4 (.lst (List.map V.int p++[V.int (y+1)]))=H5 at N4 hp14
    obtain⟨xs,hxs,ax⟩:=N4.rows
    have xl:=ax.1
    refine⟨_,rfl,.inl ⟨rfl,_,A2.of hxs⟩,_,rfl,p1,_,rfl,.inl (A2.of hp14),AD rfl,fun t ht=>?_⟩
    have s10:=Ab ht (.tup [V.int ((vs'.length:Nat):Int),V.str "end"])
    refine⟨rl,_,_,rfl,rfl,s10 _ _ hxs,C5 (by omega),?_⟩
    have N6:=(N4.over s10).row (p:=(ts'.length,.fin)) (s10 _ _ hxs) (by rw[A5,hv'];rfl)
    exact⟨p1,p4,v,ts',p++[y+1],_,Ds,x,_,_,_,rfl,N6,⟨_,_,_,C'.fin z0 ts'.length⟩,by omega,by rw[Ap,Bk];omega,okx.2.1,okx.2.2⟩
  .refine⟨_,rfl,_,_,rfl,rfl,(by show(0:Int)<5;decide),_,_,rfl,rfl,_,rfl,?_⟩
   refine Az (fun _=>?_) (fun _=>AA (els _ rfl))
   obtain⟨vs,h0,a0⟩:=N.op
   have vl:=a0.1
   refine⟨_,rfl,o,_,rfl,.inl (A2.of (BV _ _ h0)),_,_,rfl,rfl,_,rfl,?_⟩
   refine Az (fun c3=>?_) (fun _=>els _ rfl)
   have hi3:ts.length<3:=by have:=dT c3;omega
   refine⟨_,rfl,_,_,rfl,rfl,⟨by decide,by decide⟩,_,rfl,_,rfl,_,rfl,_,nl,o,la,ns,ts,tl,rfl,hn.over N.same,N.op.over BV,by omega,C.nm,N.la,lok,hok,fun r H2 t e2 hL lpk=>?_⟩
   have okt:=lpk.ok
   dsimp only[Am]
   obtain⟨pr,xa,xb,rfl,hpr,⟨qa,rfl,hqa⟩,⟨qb,rfl,hqb⟩⟩:=id hL
   obtain⟨o1,o2,o3⟩:=id okt
   have l2:=ER o2
   have l3:=ER o3
   refine⟨_,rfl,pr,_,0,_,rfl,rfl,Aw.of hpr,rfl,_,_,rfl,rfl,AF (by omega),_,_,rfl,rfl,AF (by rw[Bh];omega),_,rfl,pr,_,1,_,rfl,rfl,Aw.of hpr,rfl,.ref qa,t.lo,rfl,⟨qa,rfl,hqa⟩,o2,_,_,rfl,rfl,AF (by rw[Bh,Bh];omega),?_⟩
   dsimp only[Am]
   have N2:=N.over e2
   obtain⟨xs,hxs,ax⟩:=N2.rows
   obtain⟨vs2,hvs2,a2⟩:=N2.op
   have vl2:=a2.1
   have xl:=ax.1
   refine⟨_,rfl,.inl ⟨rfl,_,A2.of hxs⟩,_,rfl,o,_,rfl,.inl (A2.of (BV _ _ hvs2)),_,rfl,_,_,rfl,rfl,AF (by rw[Bh,Bh,Bh];omega),_,rfl,pr,_,2,_,rfl,rfl,Aw.of hpr,rfl,.ref qb,t.hi,rfl,⟨qb,rfl,hqb⟩,o3,_,_,rfl,rfl,AF (by rw[Bh,Bh,Bh,Bh];omega),AD rfl,fun u hu=>?_⟩
   have s3:=Ab hu (.tup [V.int ((vs2.length:Nat):Int),V.str (("for ":Str)++t.nm++" "++AU t.lo++" "++AU t.hi)])
   refine⟨rl,_,_,rfl,rfl,s3 _ _ hxs,C5 (by omega),?_⟩
   have N3:=(N2.over s3).row (p:=(ts.length,.opn t)) (s3 _ _ hxs) (by rw[A5,vl2];rfl)
   have hL3:DI (upd (upd H2 u (.tup [V.int ((vs2.length:Nat):Int),V.str (("for ":Str)++t.nm++" "++AU t.lo++" "++AU t.hi)])) rl (.lst (xs++[.ref u]))) (.ref pr) t:=hL.tk ((A8.tk s3).trans (TK.upd (s3 _ _ hxs)))
   generalize upd (upd H2 u (.tup [V.int ((vs2.length:Nat):Int),V.str (("for ":Str)++t.nm++" "++AU t.lo++" "++AU t.hi)])) rl (.lst (xs++[.ref u]))=H3 at N3 hL3
   refine⟨_,rfl,_,rfl,AD rfl,fun p1 hp1=>?_⟩
   have s4:=Ab hp1 (.lst [V.ref pr])
   have N4:=N3.over s4
   obtain⟨vs4,hvs4,a4⟩:=N4.op
   have vl4:=a4.1
   refine⟨o,p1,vs4,[.ref pr],rfl,rfl,BV _ _ hvs4,A5,AF (by show vs4.length+1<=1000000;omega),fun p2 hp2=>?_⟩
   have N5:=N4.newO (ts':=ts++[t]) hp2 ((a4.mono fun _ _ z=>z.tk (A8.tk BV)).snoc (hL3.tk (A8.tk s4)))
   dsimp only[Am]
   generalize upd (upd H3 p1 (.lst [V.ref pr])) p2 (.lst (vs4++[.ref pr]))=H5 at N5
   refine⟨_,rfl,AD rfl,fun p3 hp3=>?_⟩
   have N6:=N5.over (Ab hp3 (.lst [V.int 0]))
   have hpt:=BV _ _ N6.pa
   have pb:=C.len
   refine⟨pt,p3,_,_,rfl,rfl,hpt,A5,AF (by rw[Aq];show path.length+1<=1000000;omega),fun p4 hp4=>?_⟩
   have N7:=N6.newP (path':=path++[0]) hp4
   rw[AW]at N7
   exact⟨p2,p4,la,_,_,_,Ds,tl,_,_,_,rfl,N7,⟨_,_,_,C.opn hi3 lpk D5 ts.length⟩,d6,by rw[Ap,Bk];omega,lok,hok⟩
theorem Vg (T:Tx w K mg a):AJ P w K mg base AS 1 a.f_N a.d_N ["self","line"] (Rd.spNTi a.c_NoText):=by
 refine T.F_N.ok Tu (fun vs H Q E h=>?_) (fun cdv A outer s H vs Q E hr h=>?_)
 .obtain⟨_,_,rfl,_⟩:=h;rfl
 obtain⟨x,n,rfl,hx,n0,n1,q⟩:=h
 refine⟨_,(@A6 _ _ _ _ _ (@Bt _ _ _ _ (@Qh _ _ _ _ _ _ _ _ _ _ (by rfl) T.mc_FurrowError T.xb (@A0 _ _ _ _ _ (pv 0) (@A0 _ _ _ _ _ (@R6 _ _ _ _ _ _ Av (@Tj _ _ _ _ (pv 1))) A4 (by rfl)) (by rfl)) (by decide) (by rfl) (by rfl) (by rfl)) (by rfl)) (@Ac _ _ _ (@Pq _ _ _ _ _ _ _ _ (pv 0) (pv 1) rfl))),?_⟩
 have lg:n.natAbs.log2<1920:=GY (by omega) (by omega)
 refine⟨_,rfl,_,rfl,Bz Rd.tx_nt (by rw[F3];omega),_,rfl,n,rfl,lg,_,rfl,Rd.ln_nt Rd.tx_nt (O2 (by omega) (by omega)) (by omega),x,_,_,_,rfl,hx,T.xi_NoText.xc,?_⟩
 exact⟨_,rfl,_,rfl,x,_,rfl,hx,T.xi_NoText.xc,T.n_NoText_line,fun dx hd ne=>q dx hd ne⟩
theorem Ti (T:Tx w K mg a):AJ P w K mg base (GA P w) 10 a.f_F a.d_F ["text"] (Rd.spReadX a.c_Program a.c_Deed a.c_NoText (BF a)):=by
 have G_N :=@Vg P w K mg base a T
 have G_s :=@RU P w K mg base a T
 have G_E :=@Qn P w K mg base a T
 have G_U :=@OY P w K mg base a T
 have G_T :=@UH P w K mg base a T
 refine T.F_F.okX GH (fun vs H Q E h=>?_) (fun cdv A outer s H vs Q E hr h=>?_)
 .obtain⟨_,_,_,_,rfl,_⟩:=h;rfl
 obtain⟨f,z,rows,EE,rfl,zl,hsp,rl,hrw,hR,q,qx⟩:=h
 refine⟨_,(@A6 _ _ _ _ _ (@Aj _ _ (1) _ _ _ _ GH.nd rfl (.inl rfl) (@Be _ _ _ _ _ _ _ _ _ _ _ _ DK LS LU ID (pv 0) (@A0 _ _ _ _ _ Av A4 (by rfl)) (by rfl) (by rfl) (by rfl) (by rfl) (by rfl)) (by rfl) (by first|exact .inl rfl|exact .inr rfl|assumption)) (@A6 _ _ _ _ _ (@Aj _ _ (2) _ _ _ _ GH.nd rfl (.inl rfl) (@RS _ _ _ _ _ _ _ _ _ _ _ _ _ _ T.mk_Draft G_U (hr.mono (by omega)) (by rfl) T.mc_Draft T.b_U .nil Au (by decide)) (by rfl) (by first|exact .inl rfl|exact .inr rfl|assumption)) (@A6 _ _ _ _ _ (@Ep _ _ _ _ _ _ _ _ PassesOwn.leaving rfl (@SS _ _ _ _ _ _ _ _ _ _ _ (by rfl) T.z_enumerate (@A0 _ _ _ _ _ (pv 1) A4 (by rfl)) (by rfl)) (IX rfl (ET (BG (i:=3) GH.nd rfl (.inl rfl)) (ET (BG (i:=4) GH.nd rfl (.inl rfl)) Iv))) (@A6 _ _ _ _ _ (@Aj _ _ (5) _ _ _ _ GH.nd rfl (.inl rfl) (@AC _ _ _ _ _ _ _ _ _ _ _ _ _ _ _ _ G_s (hr.mono (by omega)) (by rfl) T.m_s T.F_s.kp T.b_s .nil Au (@A0 _ _ _ _ _ (pv 4) A4 (by rfl)) (by decide) (by rfl) (by rfl)) (by rfl) (by first|exact .inl rfl|exact .inr rfl|assumption)) (@Ac _ _ _ (@AI _ _ _ _ _ _ _ _ ((@D6 _ _ _ _ _ _ _ (@An _ _ _ _ _ _ _ _ DQ (pv 5) Av (@Ao _ _ (by decide) (by decide))) (@DP _ _ _ _ (@E6 _ _ _ _ (@Cm _ _ _ (@AC _ _ _ _ _ _ _ _ _ _ _ _ _ _ _ _ G_E (hr.mono (by omega)) (by rfl) T.m_E T.F_E.kp T.b_E .nil Au (@A0 _ _ _ _ _ (pv 2) (@A0 _ _ _ _ _ (pv 5) A4 (by rfl)) (by rfl)) (by decide) (by rfl) (by rfl)) (by intro _;rfl)))))).pt (@Ac _ _ _ (@Ma _ _ _ _ _ rfl Nm (@Nk _ _ _ _ _ _ _ _ _ _ _ _ _ _ _ T.xm_NoText G_N (hr.mono (by omega)) (by rfl) T.mc_NoText T.b_N Au (@A0 _ _ _ _ _ (pv 3) A4 (by rfl)) (by decide) (by rfl) (by rfl)))) AN))) (by intro _;rfl)) (@A6 _ _ _ _ _ (@AI _ _ _ _ _ _ _ _ ((@Cb _ _ _ _ _ _ _ (@An _ _ _ _ _ _ _ _ E1 (@Bj _ _ _ _ _ (pv 2) rfl) BK (@Ao _ _ (by decide) (by decide))) (@Cb _ _ _ _ _ _ _ (@An _ _ _ _ _ _ _ _ (@Jt _ (@EY _ _ hr)) (@Bj _ _ _ _ _ (pv 2) rfl) (@Bl _ _ _ _ A4) (@Ao _ _ (by decide) (by decide))) (@CT _ _ _ _ (@An _ _ _ _ _ _ _ _ (@Hm _ (@EY _ _ hr)) (@Bj _ _ _ _ _ (pv 2) rfl) (@Bl _ _ _ _ A4) (@Ao _ _ (by decide) (by decide))))))).pt (@Ac _ _ _ (@Ma _ _ _ _ _ rfl Nm (@Nk _ _ _ _ _ _ _ _ _ _ _ _ _ _ _ T.xm_NoText G_N (hr.mono (by omega)) (by rfl) T.mc_NoText T.b_N Au (@A0 _ _ _ _ _ (@Ae _ _ _ _ _ _ _ _ BS (@B6 _ _ _ _ _ _ _ _ _ BO (by rfl) T.z_len BB (@A0 _ _ _ _ _ (pv 1) A4 (by rfl)) (by decide) (by decide) (by rfl) (by rfl)) A3) A4 (by rfl)) (by decide) (by rfl) (by rfl)))) AN) (@Ac _ _ _ (@Ar _ _ _ _ (@Gn _ _ _ _ _ _ _ _ _ _ _ _ _ _ _ _ _ T.mk_Program G_T (hr.mono (by omega)) (by rfl) T.mc_Program T.b_T .nil Au (@A0 _ _ _ _ _ (@Bj _ _ _ _ _ (pv 2) rfl) (@A0 _ _ _ _ _ (@Bj _ _ _ _ _ (pv 2) rfl) A4 (by rfl)) (by rfl)) (by decide) (by rfl) (by rfl)))))))),?_⟩
 have ec:cds (Str.ofString "\n")=[10]:=by decide +kernel
 refine⟨_,rfl,rfl,z,_,rfl,rfl,by decide +kernel,?_,by omega,fun l ps hl hs=>?_⟩
 .rw[ec]
  intro c hc
  rw[Ce.mp hc]
  decide
 rw[ec]at hs
 obtain rfl:ps=rows:=Rd.map_cds_inj (hs.fn hsp)
 have e1:=Ab hl (.lst (ps.map V.str))
 have hl1:(upd H l (.lst (ps.map V.str))) l=_:=A5
 generalize upd H l (.lst (ps.map V.str))=H1 at e1 hl1
 dsimp only[Am]
 refine fun x dx nx ndx ne=>⟨x,dx,rfl,A5,fun H2 B hBd k2 fr hD0=>⟨rfl,?_⟩⟩
 subst hBd
 have e2:A8 H1 H2:=FB nx ndx k2
 have fr1:∀b,B.own b->H1 b=none:=fun b hb=>by
  by_cases hbx:b=B.d
  .rw[hbx];exact nx
  .cases hz:H1 b with
   |none=>rfl
   |
    some u=>
    have:=fr b hb hbx
    rw[A7 hbx,A7 (AG hz ndx),hz]at this
    cases this
 have onto:∀{H' H'':Hp},A8 H1 H'->Rd.Out B H' H''->A8 H1 H'':=fun{H' H''} s o b u hb=>o b u (s b u hb) fun hown=>by rw[fr1 b hown]at hb;cases hb
 dsimp only[Am]
 refine⟨_,rfl,l,rfl,⟨_,A2.of (e2 _ _ hl1)⟩,?_⟩
 refine Sq (xs:=ps.map V.str) (fun i σ' H'=>(∃o3 o4 o5:Option V,σ'=[some (.str z),some (.ref l),some (.ref B.d),o3,o4,o5])/\A8 H1 H'/\∃D,Rd.DrAt a.c_Draft a.c_Deed (BF a) f H' B D/\Rd.Rds f (ps.drop i) D EE) ⟨⟨_,_,_,rfl⟩,e2,Rd.D0,hD0 f,hR⟩ (fun i σ' H' _ pp=>A2.of (pp.2.1 _ _ hl1)) (fun i y Tt σ' H' hy pp hT=>?_) (fun σ' H' pp=>?_)
 .obtain⟨⟨o3,o4,o5,rfl⟩,e3,D,hD,hRi⟩:=pp
  rw[CO]at hy
  cases hyi:ps[i]? with
  |none=>rw[hyi]at hy;cases hy
  |
   some u=>
   rw[hyi]at hy
   cases hy
   have ul:u.length<=100000:=hrw u (CC hyi)
   have hil:=(BJ.mp hyi).1
   have ed:ps.drop i=u::ps.drop (i+1):=by
    rw[G3 hil]
    rw[BX hil]at hyi
    rw[BQ hyi]
   rw[ed]at hRi
   have sT:=Ab hT (.tup [V.int ((i:Int)+1),.str u])
   have hD4:=hD.over sT
   have e4:=e3.trans sT
   refine⟨Tt,_,rfl,Aw.of A5,rfl,_,_,rfl,_,_,rfl,rfl,?_⟩
   generalize upd H' Tt (.tup [V.int ((i:Int)+1),.str u])=H4 at hD4 e4
   refine⟨_,rfl,u,rfl,ul,fun H5 e5=>?_⟩
   dsimp only[Am]
   have hD5:=hD4.over e5
   have e15:=e4.trans e5
   refine⟨_,rfl,rfl,_,rfl,?_⟩
   have kb:(V.str (Ax (Rd.bare (cds u)))=V.str (Str.ofString ""))↔Rd.bare (cds u)=[]:=⟨fun e=>by have e:=congrArg cds (V.str.inj e);rw[Ba]at e;exact e,fun e=>by rw[e];rfl⟩
   cases hRi with
   |
    no hb hRn=>
    refine Az (fun y=>?_) (fun _=>?_)
    .rw[B7 (kb.mpr hb)]at y
     cases y
    .exact AA ⟨⟨_,_,_,rfl⟩,e15,D,hD5,hRn⟩
   |
    @row _ _ _ D' _ r hb hrt hst hRn=>
    refine Az (fun _=>?_) (fun y=>?_)
    .refine⟨_,rfl,_,rfl,f,B,D,D',_,r,rfl,hD5,?_,?_,hst,fun H6 out hD6=>⟨_,rfl,AA ?_⟩⟩
     .rw[Dp]
      have:=Rd.bare_len (cds u)
      have:=cds_len u
      omega
     .rw[Ba];exact hrt
     .exact⟨⟨_,_,_,rfl⟩,onto e15 out,D',hD6,hRn⟩
    .exact absurd (show(!decide (V.str (Ax (Rd.bare (cds u)))=V.str (Str.ofString "")))=true from by rw[Bv fun e=>hb (kb.mp e)];rfl) y
 .obtain⟨⟨o3,o4,o5,rfl⟩,e3,D,hD,hRi⟩:=pp
  rw[Aq,List.drop_length]at hRi
  cases hRi
  obtain⟨ds,hds,pds⟩:=hD.dd
  have d6:=hR.six (C0 _)
  dsimp only
  refine D4 (fun σ' H2=>Rd.Whl EE/\A8 H' H2/\∃(o3 o4 o5:Option V),σ'=[some (.str z),some (.ref l),some (.ref B.d),o3,o4,o5]) (fun σ' H5 pp=>?_) (fun nx=>?_)
  .obtain⟨⟨w1,w2,w3⟩,s5,o3,o4,o5,rfl⟩:=pp
   obtain⟨n,hE⟩:∃n,EE.sz=some n:=by
    cases h:EE.sz with
    |none=>exact absurd h w1
    |some n=>exact⟨n,rfl⟩
   have hD5:=hD.over s5
   have hds5:=s5 _ _ hds
   refine⟨_,rfl,B.d,_,B.dx,_,_,rfl,hD5.o,T.cl_Draft,T.n_Draft_size,rfl,_,rfl,B.d,_,B.dx,_,_,rfl,hD5.o,T.cl_Draft,T.n_Draft_deeds,rfl,?_⟩
   intro x dx nx ndx ne
   refine⟨x,dx,B.dl,_,ds,rfl,A5,(by rw[A7 (AG hds5 nx),A7 (AG hds5 ndx)];exact hds5),by rw[pds.1];omega,fun H6 dl k6 hx6 hdl6=>⟨rfl,?_⟩⟩
   obtain⟨dx6,hx6⟩:=hx6
   have e56:=FB nx ndx k6
   rw[hE]at hx6
   exact q ⟨w1,w2,w3⟩ n _ _ hE (e1.trans (e3.trans (s5.trans e56))) ⟨x,dx6,dl,rfl,hx6,ds,hdl6,pds.mono fun _ _ w=>w.over (s5.trans e56)⟩
  refine Qu (fun H2=>¬Rd.Whl EE/\A8 H' H2) (fun H2 pp=>?_) (fun Ak=>?_)
  .obtain⟨nw,s2⟩:=pp
   refine⟨_,rfl,l,_,rfl,.inl (A2.of (s2 _ _ (e3 _ _ hl1))),_,_,rfl,rfl,(by show 1<=1000;decide),fun x hx=>⟨x,_,rfl,A5,?_,?_,fun dx hd ne=>⟨rfl,x,_,some dx,rfl,A5,T.xi_NoText.xc,?_⟩⟩⟩
   .rw[Aq];omega
   .rw[Aq];omega
   rw[A7 ne]at hd
   rw[KN,Aq]
   have sm:=Rd.same_put (o:=CY x a.c_NoText (some dx)) (Rd.same_put (o:=.xd [("line",.int (((ps.length:Nat):Int)+1))]) (Ab hx (D9 x a.c_NoText none)) hd) hx
   exact qx nw x dx _ (e1.trans (e3.trans (s2.trans sm))) A5 (by rw[A7 ne,A5])
  refine⟨_,rfl,B.d,_,B.dx,_,_,rfl,hD.o,T.cl_Draft,T.n_Draft_size,rfl,rfl,_,rfl,?_⟩
  cases hE:EE.sz with
  |
   none=>
   refine Bq ?_
   exact Bq (Ak _ ⟨fun w=>w.1 hE,A8.refl _⟩)
  |some n=>
  refine AA ?_
  refine⟨_,rfl,B.d,_,B.dx,_,_,rfl,hD.o,T.cl_Draft,T.n_Draft_deeds,rfl,AD rfl,fun en hen=>?_⟩
  have s4:=Ab hen (.lst [])
  have he4:(upd H' en (.lst [])) en=_:=A5
  generalize upd H' en (.lst [])=H4 at s4 he4
  refine⟨B.dl,en,_,rfl,rfl,A2.of (s4 _ _ hds),A2.of he4,_,rfl,?_⟩
  refine Az (fun y=>?_) (fun y=>?_)
  .have dn:EE.dd=[]:=GS (by rw[←pds.1,LM.mp y];rfl)
   exact Bq (Ak _ ⟨fun w=>w.2.1 dn,s4⟩)
  have dn:EE.dd≠[]:=fun z=>y (LM.mpr (GS (by rw[pds.1,z];rfl)))
  have hD4:=hD.over s4
  refine⟨_,rfl,B.d,_,B.dx,_,_,rfl,hD4.o,T.cl_Draft,T.n_Draft_names,rfl,AD rfl,fun en2 hen2=>?_⟩
  have s5:=Ab hen2 (.lst [])
  have he5:(upd H4 en2 (.lst [])) en2=_:=A5
  generalize upd H4 en2 (.lst [])=H5 at s5 he5
  have hD5:=hD4.over s5
  refine⟨B.nl,en2,_,rfl,rfl,A2.of hD5.nm,A2.of he5,_,rfl,?_⟩
  change if(!(EE.lp.map fun t=>V.str t.nm).isEmpty)=true then _ else _
  refine Az (fun y=>?_) (fun y=>?_)
  .refine Ak _ ⟨fun w=>?_,s4.trans s5⟩
   rw[w.2.2]at y
   cases y
  .refine nx _ _ ⟨⟨(by rw[hE];exact fun z=>nomatch z),dn,?_⟩,s4.trans s5,_,_,_,rfl⟩
   cases h:EE.lp with
   |nil=>rfl
   |cons t l=>rw[h]at y;exact absurd rfl y
theorem Q7 (T:Tx w K mg a):AJ P w K mg base AS 1 a.f_L a.d_L ["_law_texts"] Rd.spOpened:=by
 refine T.F_L.ok IW (fun vs H Q E h=>?_) (fun cdv A outer s H vs Q E hr h=>?_)
 .obtain⟨_,_,_,_,_,rfl,_⟩:=h;rfl
 obtain⟨f,l,ks,D,ns,rfl,hl,hS,hok,kl,q⟩:=h
 refine⟨_,(@A6 _ _ _ _ _ (@Aj _ _ (1) _ _ _ _ IW.nd rfl (.inl rfl) (@Bl _ _ _ _ A4) (by rfl) (by first|exact .inl rfl|exact .inr rfl|assumption)) (@A6 _ _ _ _ _ (@Ep _ _ _ _ _ _ _ _ PassesOwn.never rfl (@Dy _ _ _ _ (pv 0)) (BG (i:=2) IW.nd rfl (.inl rfl)) (@A6 _ _ _ _ _ (@Aj _ _ (3) _ _ _ _ IW.nd rfl (.inl rfl) (@Be _ _ _ _ _ _ _ _ _ _ _ _ DK LS LU ID (pv 2) (@A0 _ _ _ _ _ Av A4 (by rfl)) (by rfl) (by rfl) (by rfl) (by rfl) (by rfl)) (by rfl) (by first|exact .inl rfl|exact .inr rfl|assumption)) (@A6 _ _ _ _ _ (@AI _ _ _ _ _ _ _ _ (@An _ _ _ _ _ _ _ _ BC (@Ag _ _ _ _ _ _ _ AV (pv 3) A3 (fun _ _=>rfl)) Av (@Ao _ _ (by decide) (by decide))) (@Ac _ _ _ (@Bt _ _ _ _ (@Be _ _ _ _ _ _ _ _ _ _ _ _ Bo Cf Cg C4 (pv 1) (@A0 _ _ _ _ _ (@Ag _ _ _ _ _ _ _ AV (pv 3) A3 (fun _ _=>rfl)) A4 (by rfl)) (by rfl) (by rfl) (by rfl) (by rfl) (by rfl)) (by rfl))) AN) (@Ac _ _ _ (@AI _ _ _ _ _ _ _ _ (@An _ _ _ _ _ _ _ _ BC (@Ag _ _ _ _ _ _ _ AV (pv 3) A3 (fun _ _=>rfl)) Av (@Ao _ _ (by decide) (by decide))) (@Ac _ _ _ (@Bt _ _ _ _ (@DB _ _ _ _ _ _ _ _ _ Bo DX DY Dz (pv 1) (by rfl) (by rfl)) (by rfl))) AN)))) (by intro _;rfl)) (@Ac _ _ _ (@Ar _ _ _ _ (pv 1))))),?_⟩
 refine⟨AD rfl,fun fo hfo=>?_⟩
 have e0:=Ab hfo (.lst [])
 have hf0:(upd H fo (.lst [])) fo=some (.lst []):=A5
 dsimp only[Am]
 generalize upd H fo (.lst [])=H0 at e0 hf0
 have b32:cds (Str.ofString " ")=[32]:=by decide +kernel
 refine⟨_,rfl,l,rfl,⟨_,A2.of (e0 _ _ hl)⟩,?_⟩
 refine Gw (xs:=(ks.map Rd.rkS).map V.str) (fun i σ' H'=>A8 H H'/\(∃o2 o3:Option V,σ'=[some (.ref l),some (.ref fo),o2,o3])/\∃Di,Rd.Stps f Di (ks.drop i) D/\H' fo=some (.lst ((Rd.lnm Di.lp).map V.str))/\Di.lp.length<=i) ⟨e0,⟨_,_,rfl⟩,Rd.D0,hS,hf0,Ai _⟩ (fun i σ' H' _ p=>A2.of (p.1 _ _ hl)) (fun i x σ' H' hx p=>?_) (fun σ' H' p=>?_)
 .obtain⟨e1,⟨o2,o3,rfl⟩,Di,hSi,hf1,li⟩:=p
  rw[CO,CO]at hx
  cases hk:ks[i]? with
  |none=>rw[hk]at hx;cases hx
  |
   some k=>
   rw[hk]at hx
   cases hx
   have hil:=(BJ.mp hk).1
   have ed:ks.drop i=k::ks.drop (i+1):=by
    rw[G3 hil]
    rw[BX hil]at hk
    rw[BQ hk]
   rw[ed]at hSi
   have okk:=hok k (CC hk)
   have kl2:=Rd.rk_len okk
   dsimp only[Am]
   refine⟨_,rfl,rfl,_,_,rfl,rfl,by decide +kernel,?_,by omega,fun wl ps hwl hs=>?_⟩
   .rw[b32]
    intro c hc
    rw[Ce.mp hc]
    decide
   rw[b32]at hs
   obtain rfl:ps=Rd.rkW k:=Rd.map_cds_inj (hs.fn (Rd.rk_split okk))
   have e2:=Ab hwl (.lst ((Rd.rkW k).map V.str))
   have hw2:(upd H' wl (.lst ((Rd.rkW k).map V.str))) wl=some (.lst ((Rd.rkW k).map V.str)):=A5
   have hf2:=e2 _ _ hf1
   have e12:=e1.trans e2
   dsimp only[Am]
   generalize upd H' wl (.lst ((Rd.rkW k).map V.str))=H2 at e2 hw2 hf2 e12
   have put:∀{u:HO},A8 H (upd H2 fo u):=fun{u} b o eb=>by rw[A7 (AG eb hfo)];exact e12 b o eb
   cases hSi with
   |@cons _ D' _ _ _ st rest=>
   cases k with
   |
    sz n=>
    obtain⟨_,_,_,rfl⟩:=st
    refine⟨_,rfl,wl,_,_,_,rfl,rfl,A2.of hw2,rfl,rfl,_,rfl,AA ?_⟩
    exact⟨_,rfl,wl,_,_,_,rfl,rfl,A2.of hw2,rfl,rfl,_,rfl,AA ⟨e12,⟨_,_,rfl⟩,_,rest,hf2,JW li⟩⟩
   |
    opn t=>
    obtain⟨_,_,_,_,_,_,_,_,rfl⟩:=st
    refine⟨_,rfl,wl,_,_,_,rfl,rfl,A2.of hw2,rfl,rfl,_,rfl,Bq ?_⟩
    have lb:((Rd.lnm Di.lp).map V.str).length<=1000:=by unfold Rd.lnm;rw[Aq,Aq];omega
    refine⟨_,rfl,.inl ⟨rfl,_,A2.of hf2⟩,_,rfl,wl,_,_,_,rfl,rfl,A2.of hw2,rfl,fo,_,_,rfl,rfl,hf2,C5 (by omega),?_⟩
    have hw3:(upd H2 fo (.lst ((Rd.lnm Di.lp).map V.str++[.str t.nm]))) wl=_:=(A7 (Ne.symm (AG hf1 hwl))).trans hw2
    refine⟨_,rfl,wl,_,_,_,rfl,rfl,A2.of hw3,rfl,rfl,_,rfl,AA ⟨put,⟨_,_,rfl⟩,_,rest,?_,?_⟩⟩
    .rw[A5]
     show _=some (HO.lst ((Rd.lnm (Di.lp++[t])).map V.str))
     unfold Rd.lnm
     rw[AW,AW]
     rfl
    .show(Di.lp++[t]).length<=i+1
     rw[Ap,Bk]
     omega
   |
    fin=>
    obtain⟨_,lp,t,pa,m,el,_,_,rfl⟩:=st
    refine⟨_,rfl,wl,_,_,_,rfl,rfl,A2.of hw2,rfl,rfl,_,rfl,AA ?_⟩
    refine⟨_,rfl,wl,_,_,_,rfl,rfl,A2.of hw2,rfl,rfl,_,rfl,Bq ?_⟩
    have hf3:H2 fo=some (.lst ((Rd.lnm lp).map V.str++[.str t.nm])):=by
     rw[hf2,el]
     unfold Rd.lnm
     rw[AW,AW]
     rfl
    refine⟨_,rfl,.inl ⟨rfl,_,A2.of hf3⟩,fo,_,_,rfl,rfl,hf3,BU.1,?_⟩
    rw[BU.2]
    rw[el,Ap]at li
    exact⟨put,⟨_,_,rfl⟩,_,rest,A5,by show lp.length<=i+1;omega⟩
   |
    ded tb sp es t=>
    obtain⟨_,_,_,_,_,_,_,_,_,rfl⟩:=st
    obtain⟨nms,lk,_,_,_⟩:=okk
    have ne:∀{u:Str},91∉cds u->decide (V.str (B3 tb sp)=V.str u)=false:=fun{u} h=>Bv fun e=>h (by
     rw[←V.str.inj e,Rd.cel_cds lk.ok.2.1]
     exact Cp _ AR)
    refine⟨_,rfl,wl,_,_,_,rfl,rfl,A2.of hw2,rfl,rfl,_,rfl,?_⟩
    rw[ne (by decide +kernel)]
    refine AA ?_
    refine⟨_,rfl,wl,_,_,_,rfl,rfl,A2.of hw2,rfl,rfl,_,rfl,?_⟩
    rw[ne (by decide +kernel)]
    exact AA ⟨e12,⟨_,_,rfl⟩,_,rest,hf2,JW li⟩
 .obtain⟨e1,⟨o2,o3,rfl⟩,Di,hSi,hf1,li⟩:=p
  rw[Aq,Aq,List.drop_length]at hSi
  cases hSi
  exact⟨_,rfl,q fo _ e1 hf1⟩
theorem ok_law (T:Tx w K mg a):AJ P w K mg base AS 90 a.f_M a.d_M ["_law_script"] (Kf K):=by
 have G_d :=@Tb P w K mg base a T
 have G_H :=@QZ P w K mg base a T
 have G_K :=@Q4 P w K mg base a T
 have G_L :=@Q7 P w K mg base a T
 have G_G :=@PX P w K mg base a T
 have G_F :=@Ti P w K mg base a T
 refine T.F_M.ok Dt (fun vs H Q E h=>?_) (fun cdv A outer s H vs Q E hr h=>?_)
 .obtain⟨_,_,rfl,_⟩:=h;rfl
 obtain⟨p,ns,rfl,hp,h63,_,q⟩:=h
 refine⟨_,(@A6 _ _ _ _ _ (@Aj _ _ (1) _ _ _ _ Dt.nd rfl (.inl rfl) (@AC _ _ _ _ _ _ _ _ _ _ _ _ _ _ _ _ G_H (hr.mono (by omega)) (by rfl) T.m_H T.F_H.kp T.b_H .nil Au (@A0 _ _ _ _ _ (@AC _ _ _ _ _ _ _ _ _ _ _ _ _ _ _ _ G_d (hr.mono (by omega)) (by rfl) T.m_d T.F_d.kp T.b_d .nil Au (@A0 _ _ _ _ _ (pv 0) (@A0 _ _ _ _ _ A3 A4 (by rfl)) (by rfl)) (by decide) (by rfl) (by rfl)) (@A0 _ _ _ _ _ A3 A4 (by rfl)) (by rfl)) (by decide) (by rfl) (by rfl)) (by rfl) (by first|exact .inl rfl|exact .inr rfl|assumption)) (@A6 _ _ _ _ _ (@O1 _ _ _ _ _ _ (@AC _ _ _ _ _ _ _ _ _ _ _ _ _ _ _ _ G_K (hr.mono (by omega)) (by rfl) T.m_K T.F_K.kp T.b_K .nil Au (@A0 _ _ _ _ _ (@CW _ _ _ _ _ _ _ _ _ _ Ej (pv 0) (@Cq _ _ _ A3) (@Cq _ _ _ A3)) (@A0 _ _ _ _ _ (pv 1) A4 (by rfl)) (by rfl)) (by decide) (by rfl) (by rfl)) (IX rfl (ET (BG (i:=2) Dt.nd rfl (.inl rfl)) (ET (BG (i:=3) Dt.nd rfl (.inl rfl)) Iv))) (by rfl) (by rfl) (by rfl)) (@A6 _ _ _ _ _ (@Aj _ _ (4) _ _ _ _ Dt.nd rfl (.inl rfl) (@Ae _ _ _ _ _ _ _ _ EL (@Bl _ _ _ _ (@A0 _ _ _ _ _ (@Ae _ _ _ _ _ _ _ _ C1 Av (@Dl _ _ _ _ _ _ _ _ _ Iw (by rfl) T.z_str Ir (@A0 _ _ _ _ _ (@Ae _ _ _ _ _ _ _ _ BS A3 (@Ae _ _ _ _ _ _ _ _ By (@AC _ _ _ _ _ _ _ _ _ _ _ _ _ _ _ _ G_d (hr.mono (by omega)) (by rfl) T.m_d T.F_d.kp T.b_d .nil Au (@A0 _ _ _ _ _ (pv 0) (@A0 _ _ _ _ _ A3 A4 (by rfl)) (by rfl)) (by decide) (by rfl) (by rfl)) (@Ae _ _ _ _ _ _ _ _ FR (@Ae _ _ _ _ _ _ _ _ KY A3 A3) A3))) A4 (by rfl)) (by decide) (by decide) (by rfl) (by rfl))) A4 (by rfl))) (@DN _ _ _ _ _ _ _ ["_law_deep","_law_text"] [none,none] _ _ _ _ (by rfl) (@Dy _ _ _ _ (pv 2)) ON (fun _ _ _ _ _ _=>⟨(show PG _ _ (NO K 2 _) from(IX rfl (ET (BG (i:=0) Mh rfl (.inl rfl)) (ET (BG (i:=1) Mh rfl (.inl rfl)) Iv)))),@Eh _,(pv 1)⟩) (by intro _;rfl))) (by rfl) (by first|exact .inl rfl|exact .inr rfl|assumption)) (@A6 _ _ _ _ _ (@Aj _ _ (4) _ _ _ _ Dt.nd rfl (.inl rfl) (@CW _ _ _ _ _ _ _ _ _ _ Ej (pv 4) DS (@Cq _ _ _ (@Ae _ _ _ _ _ _ _ _ By (@AC _ _ _ _ _ _ _ _ _ _ _ _ _ _ _ _ G_d (hr.mono (by omega)) (by rfl) T.m_d T.F_d.kp T.b_d .nil Au (@A0 _ _ _ _ _ (pv 0) (@A0 _ _ _ _ _ A3 A4 (by rfl)) (by rfl)) (by decide) (by rfl) (by rfl)) (@Ae _ _ _ _ _ _ _ _ BS (@B6 _ _ _ _ _ _ _ _ _ BO (by rfl) T.z_len BB (@A0 _ _ _ _ _ (pv 4) A4 (by rfl)) (by decide) (by decide) (by rfl) (by rfl)) A3)))) (by rfl) (by first|exact .inl rfl|exact .inr rfl|assumption)) (@A6 _ _ _ _ _ (@Aj _ _ (5) _ _ _ _ Dt.nd rfl (.inl rfl) (@B6 _ _ _ _ _ _ _ _ _ BO (by rfl) T.z_len BB (@A0 _ _ _ _ _ (@DN _ _ _ _ _ _ _ ["_law_text"] [none] _ _ _ _ (by rfl) (@Dy _ _ _ _ (pv 4)) Ph (fun _ _ _ _ _ _=>⟨(BG (i:=0) Th rfl (.inl rfl)),(@Kj _ _ _ (@An _ _ _ _ _ _ _ _ HL Av (pv 0) (by with_unfolding_all rfl))),(pv 0)⟩) (by intro _;rfl)) A4 (by rfl)) (by decide) (by decide) (by rfl) (by rfl)) (by rfl) (by first|exact .inl rfl|exact .inr rfl|assumption)) (@A6 _ _ _ _ _ (@Aj _ _ (6) _ _ _ _ Dt.nd rfl (.inl rfl) (@Gi _ _ _ _ _ _ _ (@De _ _ _ _ _ _ _ _ EA (pv 5) A3 (@Ao _ _ (by decide) (by decide))) (@EG _ _ _ _ _ (@De _ _ _ _ _ _ _ _ (@Jt _ (@EY _ _ hr)) (@AC _ _ _ _ _ _ _ _ _ _ _ _ _ _ _ _ G_L (hr.mono (by omega)) (by rfl) T.m_L T.F_L.kp T.b_L .nil Au (@A0 _ _ _ _ _ (pv 4) A4 (by rfl)) (by decide) (by rfl) (by rfl)) (@Bl _ _ _ _ A4) (@Ao _ _ (by decide) (by decide))))) (by rfl) (by first|exact .inl rfl|exact .inr rfl|assumption)) (@A6 _ _ _ _ _ (@Aj _ _ (7) _ _ _ _ Dt.nd rfl (.inl rfl) (@AC _ _ _ _ _ _ _ _ _ _ _ _ _ _ _ _ G_d (hr.mono (by omega)) (by rfl) T.m_d T.F_d.kp T.b_d .nil Au (@A0 _ _ _ _ _ (pv 0) (@A0 _ _ _ _ _ A3 A4 (by rfl)) (by rfl)) (by decide) (by rfl) (by rfl)) (by rfl) (by first|exact .inl rfl|exact .inr rfl|assumption)) (@A6 _ _ _ _ _ (@Ep _ _ _ _ _ _ _ _ PassesOwn.never rfl (@JD _ _ _ _ _ _ (by rfl) T.z_range (@A0 _ _ _ _ _ (@Ae _ _ _ _ _ _ _ _ By (pv 7) A3) A4 (by rfl)) (by rfl)) (BG (i:=8) Dt.nd rfl (.inl rfl)) (@Ac _ _ _ (@Bt _ _ _ _ (@Be _ _ _ _ _ _ _ _ _ _ _ _ Bo Cf Cg C4 (pv 4) (@A0 _ _ _ _ _ (@Ag _ _ _ _ _ _ _ AV (@MW _ _ _ _ (@B8 _ _ _ _ _ Av (@B8 _ _ _ _ _ Av (@B8 _ _ _ _ _ Av (@B8 _ _ _ _ _ Av DD Do) Do) Do) Do)) (@Ae _ _ _ _ _ _ _ _ By (@Ae _ _ _ _ _ _ _ _ BS (@Ae _ _ _ _ _ _ _ _ Dm (pv 7) A3) (@Ae _ _ _ _ _ _ _ _ EU (pv 8) (@Ae _ _ _ _ _ _ _ _ Dm (pv 7) A3))) A3) (fun _ _=>rfl)) A4 (by rfl)) (by rfl) (by rfl) (by rfl) (by rfl) (by rfl)) (by rfl))) (by intro _;rfl)) (@A6 _ _ _ _ _ (@Aj _ _ (9) _ _ _ _ Dt.nd rfl (.inl rfl) A3 (by rfl) (by first|exact .inl rfl|exact .inr rfl|assumption)) (@A6 _ _ _ _ _ (@Aj _ _ (10) _ _ _ _ Dt.nd rfl (.inl rfl) BK (by rfl) (by first|exact .inl rfl|exact .inr rfl|assumption)) (@A6 _ _ _ _ _ (@Sj _ _ _ _ _ _ _ (fun pn xe Ek hP hR=>(@Ac _ _ _ (@Aj _ _ (10) _ _ _ _ Dt.nd rfl (.inl rfl) (@QG _ _ _ _ _ _ _ _ _ _ _ _ _ _ _ G_F (hr.mono (by omega)) (by rfl) T.m_F T.F_F.kp T.b_F .nil hP (@A0 _ _ _ _ _ (show PE _ _ (Lv K "str" (KW K) _ _) from(@Be _ _ _ _ _ _ _ _ _ _ _ _ DK OI OJ (show Fk _ _ (KW K) from KH) Av (@A0 _ _ _ _ _ (pv 4) A4 (by rfl)) (by rfl) (by rfl) (by rfl) (by rfl) (by rfl))) A4 (by rfl)) (by decide) (by rfl) (by rfl)) (by rfl) (by first|exact .inl rfl|exact .inr rfl|assumption)))) (@Sh _ _ _ _ _ _ _ _ _ _ _ (11) Dt.nd rfl rfl (by rfl) T.mc_NoText T.xi_NoText.xc (fun ea=>(@Ac _ _ _ (@Aj _ _ (9) _ _ _ _ Dt.nd rfl (.inl rfl) (@OT _ _ _ _ _ (pv 11) rfl) (by rfl) (by first|exact .inl rfl|exact .inr rfl|assumption)))) P7 (by decide)) (by rfl) (by rfl)) (@A6 _ _ _ _ _ (@AI _ _ _ _ _ _ _ _ (@Cm _ _ _ (pv 6) (by intro _;rfl)) (@Ac _ _ _ (@Ar _ _ _ _ (@Gi _ _ _ _ _ _ _ (@De _ _ _ _ _ _ _ _ BC (pv 9) A3 (@Ao _ _ (by decide) (by decide))) (@EG _ _ _ _ _ (@De _ _ _ _ _ _ _ _ BC (@B6 _ _ _ _ _ _ _ _ _ BO (by rfl) T.z_len BB (@A0 _ _ _ _ _ (@Bj _ _ _ _ _ (pv 10) rfl) A4 (by rfl)) (by decide) (by decide) (by rfl) (by rfl)) (pv 5) (@Ao _ _ (by decide) (by decide))))))) AN) (@Ac _ _ _ (@Ar _ _ _ _ (@Gi _ _ _ _ _ _ _ (@AC _ _ _ _ _ _ _ _ _ _ _ _ _ _ _ _ G_G (hr.mono (by omega)) (by rfl) T.m_G T.F_G.kp T.b_G .nil Au (@A0 _ _ _ _ _ (pv 9) A4 (by rfl)) (by decide) (by rfl) (by rfl)) (@EG _ _ _ _ _ (@De _ _ _ _ _ _ _ _ BC (pv 9) (@Ae _ _ _ _ _ _ _ _ BS (@B6 _ _ _ _ _ _ _ _ _ (@Q3 _ rfl) (by rfl) T.z_max Rt (@A0 _ _ _ _ _ A3 (@A0 _ _ _ _ _ (@B6 _ _ _ _ _ _ _ _ _ BO (by rfl) T.z_len BB (@A0 _ _ _ _ _ (pv 4) A4 (by rfl)) (by decide) (by decide) (by rfl) (by rfl)) A4 (by rfl)) (by rfl)) (by decide) (by decide) (by rfl) (by rfl)) A3) (@Ao _ _ (by decide) (by decide))))))))))))))))))),?_⟩
 refine⟨_,rfl,p,ns,0,rfl,hp,by decide,_,rfl,fun nl H1 zs e1 hn=>?_⟩
 dsimp only[Am]
 refine⟨_,rfl,_,rfl,_,rfl,p,_,rfl,e1.seq hp,fun p1 hp1=>?_⟩
 rw[Nu]
 have s2:=Ab hp1 (.lst ((Cn ns (some 4) (some 59)).map V.int))
 have cl:(Cn ns (some 4) (some 59)).length<=63:=Bz (Rd.cut_le ns) h63
 refine⟨_,rfl,p1,nl,Cn ns (some 4) (some 59),zs,rfl,A2.of A5,cl,hn.over s2,fun t rl dl H3 xs ys R Ds ks la e3 ht hrl ax hdl ay C dne r70=>?_⟩
 refine⟨t,_,rfl,Aw.of ht,rfl,_,_,rfl,_,_,rfl,rfl,?_⟩
 have e13:=e1.trans (s2.trans e3)
 refine⟨_,rfl,p,ns,1,rfl,e13.seq hp,by decide,?_⟩
 generalize ns.getD (Int.toNat 1) 0=c1
 have k18:(10 ^ (18:Int).toNat-2:Int)=999999999999999998:=by decide
 have m0:=BY c1 (show(10 ^ (18:Int).toNat-2:Int)≠0 by decide)
 have m1:=Cd c1 (show(0:Int)<(10 ^ (18:Int).toNat-2:Int) by decide)
 obtain⟨n,en⟩:∃n:Int,2+c1%(10 ^ (18:Int).toNat-2:Int)=n:=⟨_,rfl⟩
 have n0:2<=n:=by omega
 have n1:n<=999999999999999999:=by omega
 have l5:("size ":Str).length=5:=by decide +kernel
 have nl9:=IY (i:=n) (by omega) n1
 refine⟨_,_,rfl,rfl,⟨by decide,by decide,by decide⟩,_,_,rfl,rfl,_,_,rfl,rfl,(by show(0:Int)<(10 ^ (18:Int).toNat-2:Int);decide),_,_,rfl,rfl,n,congrArg (fun z=>[V.int z]) en,GY (by omega) n1,_,_,rfl,rfl,AF (by unfold nS at nl9;omega),AD rfl,fun a1 ha1=>?_⟩
 have s4:=Ab ha1 (.lst [V.str (Rd.rkS (.sz n))])
 have ha4:(upd H3 a1 (.lst [V.str (Rd.rkS (.sz n))])) a1=some (.lst [V.str (Rd.rkS (.sz n))]):=A5
 change Gd _ _ _ _ _ _ (upd H3 a1 (.lst [V.str (Rd.rkS (.sz n))])) _
 generalize upd H3 a1 (.lst [V.str (Rd.rkS (.sz n))])=H4 at s4 ha4
 have hrl4:=s4 _ _ hrl
 have xl:=ax.1
 have klen:ks.length=R.length:=by have:=congrArg List.length C.tx;rw[Aq,Aq]at this;exact this.symm
 refine⟨_,rfl,rl,rfl,⟨_,A2.of hrl4⟩,?_⟩
 refine Rb (xs:=xs) (fun i ys H'=>H'=H4/\ys=((R.take i).map fun p=>J3 p.2).map V.str) ⟨rfl,rfl⟩ (AF (by omega)) (fun i ys H' hi pp=>⟨by rw[pp.1];exact A2.of hrl4,by rw[pp.2,Aq,Aq,BA];omega⟩) (fun i x ys H' hx pp=>?_) (fun ys H' pp r2 hr2=>?_)
 .obtain⟨rfl,rfl⟩:=pp
  obtain⟨pr,hpr,t0,rfl,ht0⟩:=ax.get' hx
  refine⟨t0,_,rfl,Aw.of (s4 _ _ ht0),rfl,_,_,rfl,_,_,rfl,rfl,UC (ρ:=[]) _ _,?_⟩
  refine⟨_,rfl,rfl,?_⟩
  rw[DE hpr,AW,AW]
  rfl
 obtain⟨rfl,rfl⟩:=pp
 rw[G2 (by omega),C.tx]
 have s5:=Ab hr2 (.lst ((ks.map Rd.rkS).map V.str))
 refine⟨a1,r2,_,_,rfl,rfl,s5 _ _ ha4,A5,AF (by rw[Aq,Aq,Bk];omega),fun l hl=>?_⟩
 obtain⟨kk,ekk⟩:∃kk,Rd.Rk.sz n::ks=kk:=⟨_,rfl⟩
 have okk:∀k∈kk,Rd.Rok zs k:=fun k hk=>by
  rw[←ekk]at hk
  rcases AH.mp hk with rfl|hk
  .exact⟨n0,n1⟩
  .exact C.ok k hk
 have kkl:kk.length<=71:=by rw[←ekk,AO];omega
 have eL:[V.str (Rd.rkS (.sz n))]++(ks.map Rd.rkS).map V.str=(kk.map Rd.rkS).map V.str:=by rw[←ekk];rfl
 rw[eL]
 have s6:=s5.trans (Ab hl (.lst ((kk.map Rd.rkS).map V.str)))
 have hl6:(upd (upd H' r2 (.lst ((ks.map Rd.rkS).map V.str))) l (.lst ((kk.map Rd.rkS).map V.str))) l=some (.lst ((kk.map Rd.rkS).map V.str)):=A5
 dsimp only[Am]
 generalize upd (upd H' r2 (.lst ((ks.map Rd.rkS).map V.str))) l (.lst ((kk.map Rd.rkS).map V.str))=H6 at s6 hl6
 have e16:=e13.trans (s4.trans s6)
 have hSk:Rd.Stps (Rd.tf zs) Rd.D0 kk ⟨some n,Ds,[],[],la⟩:=by rw[←ekk];exact Rd.stps_sz n0 n1 (C.st n)
 have lpos:(0:Int)<((((kk.map Rd.rkS).map V.str).length:Nat):Int)+1:=by omega
 refine⟨_,rfl,_,rfl,p,ns,2,rfl,e16.seq hp,by decide,_,rfl,l,_,rfl,.inl (A2.of hl6),_,_,rfl,rfl,_,_,rfl,rfl,lpos,_,rfl,l,_,rfl,A2.of hl6,fun l2 hl2=>?_⟩
 generalize ns.getD (Int.toNat 2) 0=c2
 have f0:=BY c2 (show((((kk.map Rd.rkS).map V.str).length:Nat):Int)+1≠0 by omega)
 obtain⟨m,em⟩:∃m:Nat,c2%(((((kk.map Rd.rkS).map V.str).length:Nat):Int)+1)=(m:Int):=⟨(c2%(((((kk.map Rd.rkS).map V.str).length:Nat):Int)+1)).toNat,by omega⟩
 rw[em,show CA ((kk.map Rd.rkS).map V.str) none (some (m:Int))=((kk.take m).map Rd.rkS).map V.str from by
  have:=FU ((kk.map Rd.rkS).map V.str) (k:=(m:Int)) (by omega)
  rw[HN]at this
  rw[LO,LO]
  exact this]
 obtain⟨D,hSD⟩:=hSk.take m
 have okt:∀k∈kk.take m,Rd.Rok zs k:=fun k hk=>okk k (Fn hk)
 have ktl:(kk.take m).length<=71:=by rw[BA];omega
 have dsz:D.dd≠[]->D.sz≠none:=fun hd=>by
  cases m with
  |
   zero=>
   rw[List.take_zero]at hSD
   cases hSD
   exact absurd rfl hd
  |
   succ m=>
   rw[←ekk,List.take_succ_cons]at hSD
   cases hSD with
   |cons s r=>obtain⟨_,_,_,rfl⟩:=s;exact Rd.stps_sm r (fun z=>nomatch z)
 generalize kk.take m=kt at hSD okt ktl hl2
 have s7:=Ab hl2 (.lst ((kt.map Rd.rkS).map V.str))
 have hl7:(upd H6 l2 (.lst ((kt.map Rd.rkS).map V.str))) l2=some (.lst ((kt.map Rd.rkS).map V.str)):=A5
 dsimp only[Am]
 generalize upd H6 l2 (.lst ((kt.map Rd.rkS).map V.str))=H7 at s7 hl7
 have e17:=e16.trans s7
 clear hl6 ha4
 refine⟨_,rfl,l2,rfl,⟨_,A2.of hl7⟩,?_⟩
 refine Fv (xs:=(kt.map Rd.rkS).map V.str) (fun i ys H'=>H'=H7/\ys.length=((kt.take i).filter Rd.isD).length/\ys.length<=i) ⟨rfl,rfl,Ai _⟩ (AF (by rw[Aq,Aq];omega)) (fun i ys H' hi pp=>⟨by rw[pp.1];exact A2.of hl7,pp.2.2⟩) (fun i x ys H' hc pp=>?_) (fun ys H' pp r3 hr3=>?_)
 .obtain⟨rfl,yl,yi⟩:=pp
  rw[CO,CO]at hc
  cases hk:kt[i]? with
  |none=>rw[hk]at hc;cases hc
  |
   some k=>
   rw[hk]at hc
   cases hc
   have kq:=Rd.rk_eq (okt k (CC hk))
   refine⟨_,rfl,_,_,rfl,rfl,_,rfl,?_⟩
   change if(!(Builtin.Str.occurrences (Rd.rkS k) ⟨#[61]⟩ 0 (Rd.rkS k).length 1).isEmpty)=true then _ else _
   rw[IS,DE hk,G4,Ap]
   refine Az (fun y=>?_) (fun y=>?_)
   .have hd:=kq.mp (HY y)
    refine⟨_,rfl,rfl,?_,by rw[Ap,Bk];omega⟩
    rw[Ap,F2,Af hd,yl]
    rfl
   .have hd:¬Rd.isD k=true:=fun z=>y (B7 (kq.mpr z))
    refine⟨rfl,?_,by omega⟩
    rw[F2,A9 hd,yl]
    rfl
 obtain⟨rfl,yl,_⟩:=pp
 rw[Aq,Aq,Ef]at yl
 have ddl:=Rd.stps_dd hSD
 have ddl:D.dd.length=ys.length:=by rw[ddl,yl];exact Nat.zero_add _
 have s8:=Ab hr3 (.lst ys)
 refine⟨r3,ys,rfl,.inl (A2.of A5),?_⟩
 rw[←ddl]
 have hl8:=s8 _ _ hl7
 dsimp only[Am]
 generalize upd H' r3 (.lst ys)=H8 at s8 hl8
 have e18:=e17.trans s8
 clear hl7
 refine D4 (fun σ' H'=>A8 H8 H'/\∃b:Bool,(b=true↔Rd.Whl D)/\σ'=[some (.ref p),some (.ref nl),some (.ref rl),some (.ref dl),some (.ref l2),some (.int ((D.dd.length:Nat):Int)),some (.bl b),none,none,none,none,none]) (fun σ' H9 pp=>?_) (fun nx=>?_)
 rotate_left
 .refine⟨_,rfl,_,_,rfl,rfl,_,rfl,?_⟩
  refine Az (fun y=>?_) (fun y=>?_)
  .have y:(0:Int)<((D.dd.length:Nat):Int):=dT y
   have dd0:D.dd≠[]:=fun z=>by rw[z]at y;exact absurd y (by decide)
   refine⟨_,rfl,Rd.tf zs,l2,kt,D,zs,rfl,hl8,hSD,okt,by omega,fun r H9 e9 hr9=>⟨AD rfl,fun en hen=>?_⟩⟩
   have s10:=Ab hen (.lst [])
   refine⟨r,en,_,rfl,rfl,A2.of (s10 _ _ hr9),A2.of A5,?_⟩
   refine nx _ _ ⟨e9.trans s10,_,?_,rfl⟩
   change((Rd.lnm D.lp).map V.str).isEmpty=true↔_
   unfold Rd.lnm
   rw[LM,JX,JX]
   exact⟨fun z=>⟨dsz dd0,dd0,z⟩,fun z=>z.2.2⟩
  .have y:¬(0:Int)<((D.dd.length:Nat):Int):=dF y
   refine nx _ _ ⟨A8.refl _,false,⟨(fun z=>nomatch z),fun z=>absurd (GS (by omega)) z.2.1⟩,rfl⟩
 obtain⟨e9,b,hb,rfl⟩:=pp
 have hl9:=e9 _ _ hl8
 have e19:=e18.trans e9
 refine⟨_,rfl,p,ns,3,rfl,e19.seq hp,by decide,?_⟩
 generalize ns.getD (Int.toNat 3) 0=c3
 dsimp only[Am]
 have g0:=BY c3 (show(4:Int)≠0 by decide)
 have g1:=Cd c3 (show(0:Int)<4 by decide)
 refine⟨_,rfl,_,_,rfl,rfl,(by show(0:Int)<4;decide),_,rfl,by omega,by omega,?_⟩
 obtain⟨xm,exm⟩:∃xm:Nat,(c3%4)=(xm:Int):=⟨(c3%4).toNat,by omega⟩
 rw[exm,HN]
 have hl0:H l2=none:=(e16.trans (A8.refl _)).free hl2
 refine KO (lo:=0) (n:=xm) (fun i σ' H'=>∃(xs:List Str) (o8:Option V),σ'=[some (.ref p),some (.ref nl),some (.ref rl),some (.ref dl),some (.ref l2),some (.int ((D.dd.length:Nat):Int)),some (.bl b),some (.int c3),o8,none,none,none]/\A8 H H'/\H' l2=some (.lst ((kt.map Rd.rkS++xs).map V.str))/\xs.length=i/\∀x∈xs,Rd.bare (cds x)=[]/\10∉cds x/\x.length<=10) ?_ (fun i σ' H' hi pp=>?_) (fun σ' H' pp=>?_)
 .exact⟨[],_,rfl,e19,by rw[DU];exact hl9,rfl,fun x hx=>nomatch hx⟩
 .obtain⟨xs2,o8,rfl,eH,hlx,xl2,xok⟩:=pp
  dsimp only[Am]
  refine⟨_,rfl,.inl ⟨rfl,_,A2.of hlx⟩,AD rfl,fun q4 hq4=>?_⟩
  have sq:=Ab hq4 (.lst [V.str "",V.str "   ",V.str "; end",V.str " ;"])
  refine⟨_,rfl,_,_,rfl,rfl,⟨by decide,by decide⟩,_,rfl,_,rfl,_,_,rfl,rfl,⟨by decide,by decide⟩,_,_,rfl,rfl,.inl ⟨by omega,by omega⟩,_,_,rfl,rfl,_,_,rfl,rfl,(by show(0:Int)<4;decide),?_⟩
  have h0:=BY (c3/4+(0+(i:Int))*(c3/16)) (show(4:Int)≠0 by decide)
  have h1:=Cd (c3/4+(0+(i:Int))*(c3/16)) (show(0:Int)<4 by decide)
  obtain⟨u,hu,u1,u2,u3⟩:=Rd.pick4 h0 h1
  refine⟨q4,_,_,_,rfl,rfl,A2.of A5,hu,l2,_,_,rfl,rfl,sq _ _ hlx,C5 (by rw[Aq,Ap,Aq];omega),?_⟩
  refine⟨xs2++[u],_,rfl,fun b' o' eb=>by rw[A7 (AG eb hl0)];exact sq _ _ (eH b' o' eb),?_,by rw[Ap,xl2];rfl,Rd.mem_snoc xok ⟨u1,u2,u3⟩⟩
  rw[A5,←CQ,AW (l₂:=[u])]
  rfl
 obtain⟨xs2,o8,rfl,eH,hlx,xl2,xok⟩:=pp
 dsimp only[Am]
 clear hl9 hl8
 have rlen:(kt.map Rd.rkS++xs2).length=kt.length+xm:=by rw[Ap,Aq,xl2]
 have hx3:xm<=3:=by omega
 generalize hLn:kt.map Rd.rkS++xs2=Ln at hlx rlen
 have lnok:∀y∈Ln,y.length<=7000/\10∉cds y:=fun y hy=>by
  rw[←hLn]at hy
  rcases BI.mp hy with hy|hy
  .obtain⟨k,hk,rfl⟩:=CF.mp hy
   exact⟨Rd.rk_len (okt k hk),(Rd.rk_row (okt k hk)).2.2⟩
  .exact⟨by have:=(xok y hy).2.2;omega,(xok y hy).2.1⟩
 have hRds:Rd.Rds (Rd.tf zs) Ln Rd.D0 D:=by
  rw[←hLn]
  exact(Rd.stps_rds hSD okt).app (Rd.rds_no fun z hz=>(xok z hz).1)
 obtain⟨rows,hsp,rwl,hRw,rwm⟩:=Rd.lines_split (Ln:=Ln) fun y hy=>(lnok y hy).2
 have rw9:rows.length<=1000:=by rw[rwl];split<;>omega
 have nl1:("\n":Str).length=1:=by decide +kernel
 have sl1:=Rd.sum_le (n:=7000) (fun y hy=>(lnok y hy).1) (l:=Ln)
 have jl:=Nf "\n" Ln
 rw[nl1]at jl
 refine NG ?_
 refine NG ?_
 refine D4 (fun σ' H2=>A8 H H2/\H2 l2=some (.lst (Ln.map V.str))/\∃(ln:Int) (fv:V) (o:Option V),σ'=[some (.ref p),some (.ref nl),some (.ref rl),some (.ref dl),some (.ref l2),some (.int ((D.dd.length:Nat):Int)),some (.bl b),some (.int c3),o8,some (.int ln),some fv,o]/\((Rd.Whl D/\ln=0/\∃n',Nx a.c_Program a.c_Deed (BF a) H2 fv n' D.dd)\/(¬Rd.Whl D/\ln=((rows.length:Nat):Int)+1))) (fun σ' H2 pp=>?_) (fun nx=>?_)
 rotate_left
 .refine⟨rfl,_,rfl,_,l2,_,rfl,rfl,.inl (A2.of hlx),?_,?_⟩
  .rw[nl1]
   exact Bz (Nat.add_le_add_right sl1 _) (by omega)
  refine⟨Rd.tf zs,_,rows,D,rfl,by omega,hsp,rw9,fun y hy=>?_,hRw _ _ _ hRds,fun hw n' v K1 hE k1 hP=>?_,fun hw xx dx K1 k1 hxx hdx=>?_⟩
  .rcases rwm y hy with h|rfl
   .exact Bz (lnok y h).1 (by decide)
   .decide +kernel
  .exact nx _ _ ⟨eH.trans k1,k1 _ _ hlx,0,v,_,rfl,.inl ⟨hw,rfl,n',hP⟩⟩
  .obtain⟨N,ct⟩:=T.ct_NoText
   have ix:Ja K1 xx a.c_NoText (some dx):=⟨.inr hxx,.inr ⟨dx,_,rfl,hdx⟩⟩
   refine⟨xx,_,some dx,rfl,hxx,N,_,true,ct,by rw[RZ];exact B7 (.inl rfl),Bq ?_⟩
   refine⟨_,rfl,xx,_,dx,_,_,rfl,ix,hdx,T.xi_NoText.xc,T.n_NoText_line,rfl,?_⟩
   exact nx _ _ ⟨eH.trans k1,k1 _ _ hlx,_,_,_,rfl,.inr ⟨hw,rfl⟩⟩
 obtain⟨e2H,hl2',ln,fv,o11,rfl,hcase⟩:=pp
 refine⟨_,rfl,_,rfl,?_⟩
 rcases hcase with⟨hw,rfl,n',x,dx,dl',rfl,hx,ds,hds,pds⟩|⟨hw,rfl⟩
 .obtain rfl:b=true:=hb.mpr hw
  refine Bq ?_
  refine⟨_,rfl,rfl,_,rfl,Bq ?_⟩
  refine⟨_,rfl,x,_,dx,_,_,rfl,hx,T.cl_Program,T.n_Program_deeds,rfl,dl',_,rfl,.inl (A2.of hds),_,rfl,rfl,?_⟩
  rw[show decide (V.int ((ds.length:Nat):Int)=V.int ((D.dd.length:Nat):Int))=true from B7 (by rw[pds.1])]
  exact q _
 .obtain rfl:b=false:=by
   cases b with
   |false=>rfl
   |true=>exact absurd (hb.mp rfl) hw
  refine AA ?_
  refine⟨_,rfl,_,rfl,rfl,_,rfl,Bq ?_⟩
  refine⟨_,rfl,_,rfl,l2,_,rfl,.inl (A2.of hl2'),_,_,rfl,_,_,rfl,rfl,rfl,?_⟩
  have er:((rows.length:Nat):Int)=(if(((Ln.map V.str).length:Nat):Int)>1 then(((Ln.map V.str).length:Nat):Int) else 1):=by
   rw[rwl,Aq]
   split
   .rw[Af (by omega)]
   .rw[A9 (by omega)]
    rfl
  rw[er,show decide (V.int ((if(((Ln.map V.str).length:Nat):Int)>1 then(((Ln.map V.str).length:Nat):Int) else 1)+1)=(fun i j=>V.int (i+j)) (if(((Ln.map V.str).length:Nat):Int)>1 then(((Ln.map V.str).length:Nat):Int) else 1) 1)=true from B7 rfl]
  exact q _
end
theorem CK {us:List Value}(h:us.length=1):∃x0,us=[x0]:=by
 rcases us with _|⟨x0,us⟩
 .cases h
 rcases us with _|⟨y,us⟩
 .exact⟨x0,rfl⟩
 .simp only[AO]at h;omega
theorem Cz {us:List Value}(h:us.length=2):∃x0 x1,us=[x0,x1]:=by
 rcases us with _|⟨x0,us⟩
 .cases h
 rcases us with _|⟨x1,us⟩
 .cases h
 rcases us with _|⟨y,us⟩
 .exact⟨x0,x1,rfl⟩
 .simp only[AO]at h;omega
theorem Fe {us:List Value}(h:us.length=3):∃x0 x1 x2,us=[x0,x1,x2]:=by
 rcases us with _|⟨x0,us⟩
 .cases h
 rcases us with _|⟨x1,us⟩
 .cases h
 rcases us with _|⟨x2,us⟩
 .cases h
 rcases us with _|⟨y,us⟩
 .exact⟨x0,x1,x2,rfl⟩
 .simp only[AO]at h;omega
theorem La {us:List Value}(h:us.length=4):∃x0 x1 x2 x3,us=[x0,x1,x2,x3]:=by
 rcases us with _|⟨x0,us⟩
 .cases h
 rcases us with _|⟨x1,us⟩
 .cases h
 rcases us with _|⟨x2,us⟩
 .cases h
 rcases us with _|⟨x3,us⟩
 .cases h
 rcases us with _|⟨y,us⟩
 .exact⟨x0,x1,x2,x3,rfl⟩
 .simp only[AO]at h;omega
theorem UG {us:List Value}(h:us.length=8):∃x0 x1 x2 x3 x4 x5 x6 x7,us=[x0,x1,x2,x3,x4,x5,x6,x7]:=by
 rcases us with _|⟨x0,us⟩
 .cases h
 rcases us with _|⟨x1,us⟩
 .cases h
 rcases us with _|⟨x2,us⟩
 .cases h
 rcases us with _|⟨x3,us⟩
 .cases h
 rcases us with _|⟨x4,us⟩
 .cases h
 rcases us with _|⟨x5,us⟩
 .cases h
 rcases us with _|⟨x6,us⟩
 .cases h
 rcases us with _|⟨x7,us⟩
 .cases h
 rcases us with _|⟨y,us⟩
 .exact⟨x0,x1,x2,x3,x4,x5,x6,x7,rfl⟩
 .simp only[AO]at h;omega
theorem Tr:AZ "__init__" "NoText.__init__" J7 ["self","line"]:=fun _ _ _ _ _ _ _ h=>by obtain⟨_,_,rfl⟩:=Cz h;rfl
theorem VJ:AZ "__init__" "Number.__init__" Ia ["self","n"]:=fun _ _ _ _ _ _ _ h=>by obtain⟨_,_,rfl⟩:=Cz h;rfl
theorem QY:AZ "__init__" "Value.__init__" Ie ["self","name"]:=fun _ _ _ _ _ _ _ h=>by obtain⟨_,_,rfl⟩:=Cz h;rfl
theorem Qo:AZ "__init__" "Cell.__init__" J9 ["self","table","spots"]:=fun _ _ _ _ _ _ _ h=>by obtain⟨_,_,_,rfl⟩:=Fe h;rfl
theorem Ry:AZ "__init__" "Joined.__init__" JG ["self","sign","left","right"]:=fun _ _ _ _ _ _ _ h=>by obtain⟨_,_,_,_,rfl⟩:=La h;rfl
theorem QN:AZ "__init__" "Deed.__init__" Im ["self","names","lows","highs","table","spots","term","path"]:=fun _ _ _ _ _ _ _ h=>by obtain⟨_,_,_,_,_,_,_,_,rfl⟩:=UG h;rfl
theorem UA:AZ "__init__" "Program.__init__" Jq ["self","size","deeds"]:=fun _ _ _ _ _ _ _ h=>by obtain⟨_,_,_,rfl⟩:=Fe h;rfl
theorem SO:AZ "made_of" "made_of" Hh ["text","signs"]:=fun _ _ _ _ _ _ _ h=>by obtain⟨_,_,rfl⟩:=Cz h;rfl
theorem UQ:AZ "number_of" "number_of" IF ["text"]:=fun _ _ _ _ _ _ _ h=>by obtain⟨_,rfl⟩:=CK h;rfl
theorem R3:AZ "is_name" "is_name" IG ["text"]:=fun _ _ _ _ _ _ _ h=>by obtain⟨_,rfl⟩:=CK h;rfl
theorem OZ:AZ "risen" "risen" J5 ["parts"]:=fun _ _ _ _ _ _ _ h=>by obtain⟨_,rfl⟩:=CK h;rfl
theorem Pr:AZ "fallen" "fallen" Jk ["parts"]:=fun _ _ _ _ _ _ _ h=>by obtain⟨_,rfl⟩:=CK h;rfl
theorem Pt:AZ "spot_of" "spot_of" JF ["text"]:=fun _ _ _ _ _ _ _ h=>by obtain⟨_,rfl⟩:=CK h;rfl
theorem Td:AZ "bare_row" "bare_row" Jz ["row"]:=fun _ _ _ _ _ _ _ h=>by obtain⟨_,rfl⟩:=CK h;rfl
theorem VL:AZ "words_of" "words_of" Hl ["row"]:=fun _ _ _ _ _ _ _ h=>by obtain⟨_,rfl⟩:=CK h;rfl
theorem QW:AZ "part_end" "part_end" Jj ["text","at"]:=fun _ _ _ _ _ _ _ h=>by obtain⟨_,_,rfl⟩:=Cz h;rfl
theorem P9:AZ "cell_of" "cell_of" Gv ["text"]:=fun _ _ _ _ _ _ _ h=>by obtain⟨_,rfl⟩:=CK h;rfl
theorem Uc:AZ "part_of" "part_of" Ju ["text"]:=fun _ _ _ _ _ _ _ h=>by obtain⟨_,rfl⟩:=CK h;rfl
theorem Tf:AZ "parts_of" "parts_of" Iy ["text"]:=fun _ _ _ _ _ _ _ h=>by obtain⟨_,rfl⟩:=CK h;rfl
theorem Ug:AZ "join_waiting" "join_waiting" Jg ["terms","signs","least"]:=fun _ _ _ _ _ _ _ h=>by obtain⟨_,_,_,rfl⟩:=Fe h;rfl
theorem TU:AZ "term_of" "term_of" Ik ["parts"]:=fun _ _ _ _ _ _ _ h=>by obtain⟨_,rfl⟩:=CK h;rfl
theorem Rx:AZ "__init__" "Draft.__init__" J6 ["self"]:=fun _ _ _ _ _ _ _ h=>by obtain⟨_,rfl⟩:=CK h;rfl
theorem P3:AZ "spots_known" "spots_known" Hb ["draft","spots"]:=fun _ _ _ _ _ _ _ h=>by obtain⟨_,_,rfl⟩:=Cz h;rfl
theorem Ur:AZ "names_known" "names_known" JN ["draft","parts"]:=fun _ _ _ _ _ _ _ h=>by obtain⟨_,_,rfl⟩:=Cz h;rfl
theorem Q1:AZ "tables_kept" "tables_kept" Jh ["draft","parts"]:=fun _ _ _ _ _ _ _ h=>by obtain⟨_,_,rfl⟩:=Cz h;rfl
theorem VM:AZ "deed_taken" "deed_taken" Ii ["draft","row"]:=fun _ _ _ _ _ _ _ h=>by obtain⟨_,_,rfl⟩:=Cz h;rfl
theorem Se:AZ "size_taken" "size_taken" IE ["draft","words"]:=fun _ _ _ _ _ _ _ h=>by obtain⟨_,_,rfl⟩:=Cz h;rfl
theorem UR:AZ "loop_taken" "loop_taken" Iu ["draft","words"]:=fun _ _ _ _ _ _ _ h=>by obtain⟨_,_,rfl⟩:=Cz h;rfl
theorem S3:AZ "end_taken" "end_taken" JL ["draft","words"]:=fun _ _ _ _ _ _ _ h=>by obtain⟨_,_,rfl⟩:=Cz h;rfl
theorem Q5:AZ "taken" "taken" Ij ["draft","row"]:=fun _ _ _ _ _ _ _ h=>by obtain⟨_,_,rfl⟩:=Cz h;rfl
theorem QD:AZ "read" "read" II ["text"]:=fun _ _ _ _ _ _ _ h=>by obtain⟨_,rfl⟩:=CK h;rfl
theorem QE:AZ "_law_cell_at" "_law_cell_at" Iz ["_law_script","_law_k"]:=fun _ _ _ _ _ _ _ h=>by obtain⟨_,_,rfl⟩:=Cz h;rfl
theorem TC:AZ "_law_whole" "_law_whole" IK ["_law_found"]:=fun _ _ _ _ _ _ _ h=>by obtain⟨_,rfl⟩:=CK h;rfl
theorem Vq:AZ "_law_stream" "_law_stream" Jf ["_law_cell_here","_law_many"]:=fun _ _ _ _ _ _ _ h=>by obtain⟨_,_,rfl⟩:=Cz h;rfl
theorem Vh:AZ "_law_names" "_law_names" Ht ["_law_cell_here","_law_many"]:=fun _ _ _ _ _ _ _ h=>by obtain⟨_,_,rfl⟩:=Cz h;rfl
theorem UY:AZ "_law_number" "_law_number" JM ["_law_cell_here","_law_far"]:=fun _ _ _ _ _ _ _ h=>by obtain⟨_,_,rfl⟩:=Cz h;rfl
theorem Ve:AZ "_law_spot_text" "_law_spot_text" Js ["_law_spot_here"]:=fun _ _ _ _ _ _ _ h=>by obtain⟨_,rfl⟩:=CK h;rfl
theorem Vd:AZ "_law_spot" "_law_spot" Io ["_law_one","_law_other","_law_known"]:=fun _ _ _ _ _ _ _ h=>by obtain⟨_,_,_,rfl⟩:=Fe h;rfl
theorem RM:AZ "_law_cell" "_law_cell" G8 ["_law_xs","_law_known","_law_names_here"]:=fun _ _ _ _ _ _ _ h=>by obtain⟨_,_,_,rfl⟩:=Fe h;rfl
theorem Ra:AZ "_law_leaf" "_law_leaf" JK ["_law_cell_here","_law_known","_law_names_here"]:=fun _ _ _ _ _ _ _ h=>by obtain⟨_,_,_,rfl⟩:=Fe h;rfl
theorem Qy:AZ "_law_both" "_law_both" Je ["_law_sign","_law_left","_law_right"]:=fun _ _ _ _ _ _ _ h=>by obtain⟨_,_,_,rfl⟩:=Fe h;rfl
theorem SI:AZ "_law_term" "_law_term" J4 ["_law_cell_here","_law_known","_law_names_here"]:=fun _ _ _ _ _ _ _ h=>by obtain⟨_,_,_,rfl⟩:=Fe h;rfl
theorem T3:AZ "_law_loop" "_law_loop" GB ["_law_cell_here","_law_names_here","_law_opened_here","_law_last"]:=fun _ _ _ _ _ _ _ h=>by obtain⟨_,_,_,_,rfl⟩:=La h;rfl
theorem Pn:AZ "_law_deed" "_law_deed" Hi ["_law_cell_here","_law_opened_here","_law_path","_law_names_here"]:=fun _ _ _ _ _ _ _ h=>by obtain⟨_,_,_,_,rfl⟩:=La h;rfl
theorem OQ:AZ "_law_program" "_law_program" IA ["_law_cells","_law_names_here"]:=fun _ _ _ _ _ _ _ h=>by obtain⟨_,_,rfl⟩:=Cz h;rfl
theorem V0:AZ "_law_opened" "_law_opened" IQ ["_law_texts"]:=fun _ _ _ _ _ _ _ h=>by obtain⟨_,rfl⟩:=CK h;rfl
theorem Pa:AZ "law" "law" Ga ["_law_script"]:=fun _ _ _ _ _ _ _ h=>by obtain⟨_,rfl⟩:=CK h;rfl
theorem txt_mk {w:World}{K:Xa}{h:Heap}{mg:Str->Option Value}{fa:Addr}(X:K.In h)(G:h.Ns mainGlobals mg)(hfa:mg "law"=some (.ref fa))
  {C_Term:Addr} {C_Number:Addr} {C_Value:Addr} {C_Cell:Addr} {C_Joined:Addr} {C_Deed:Addr} {C_Program:Addr} {C_Draft:Addr} {C_FurrowError:Addr} {C_NoText:Addr} {f1 f2 f3 f4 f5 f6 f7 f8 f9 f10 f11 f12 f13 f14 f15 f16 f17 f18 f19 f20 f21 f22 f23 f24 f25 f26 f27 f28 f29 f30 f31 f32 f33 f34 f35 f36 f37 f38 f39 f40 f41 f42 f43 f44 f45 f46 f47:Addr} {d1 d2 d3 d4 d5 d6 d7 d8 d9 d10 d11 d12 d13 d14 d15 d16 d17 d18 d19 d20 d21 d22 d23 d24 d25 d26 d27 d28 d29 d30 d31 d32 d33 d34 d35 d36 d37 d38 d39 d40 d41 d42 d43 d44 d45 d46 d47:FuncData} {t_FIGURES:Tok} {t_LEAST_SIZE:Tok} {t_LETTERS:Tok} {t_MOST_DEEDS:Tok} {t_MOST_FIGURES:Tok} {t_MOST_LETTERS:Tok} {t_MOST_LOOPS:Tok} {t_MOST_SPOTS:Tok} {u_ROW_WORDS:Addr} {e_ROW_WORDS:Option Addr} {n_ROW_WORDS:Nat} {b_ROW_WORDS:Array (Option Value)} {t_ROW_WORDS0:Tok} {t_ROW_WORDS1:Tok} {t_ROW_WORDS2:Tok} {t_SIGNS:Tok} {u_STRENGTHS:Addr} {n_STRENGTHS:Nat} {h_STRENGTHS0:Int} {k_STRENGTHS0 s_STRENGTHS0:Tok} {h_STRENGTHS1:Int} {k_STRENGTHS1 s_STRENGTHS1:Tok} {h_STRENGTHS2:Int} {k_STRENGTHS2 s_STRENGTHS2:Tok} {h_STRENGTHS3:Int} {k_STRENGTHS3 s_STRENGTHS3:Tok}
  (a_Term:ClA K C_Term "Term")
  (a_Number:ClA K C_Number "Number")
  (a_Value:ClA K C_Value "Value")
  (a_Cell:ClA K C_Cell "Cell")
  (a_Joined:ClA K C_Joined "Joined")
  (a_Deed:ClA K C_Deed "Deed")
  (a_Program:ClA K C_Program "Program")
  (a_Draft:ClA K C_Draft "Draft")
  (a_FurrowError:PySem.W.nsIn K mainGlobals "FurrowError"=some (some (.ref C_FurrowError)))
  (a_NoText:PySem.W.nsIn K mainGlobals "NoText"=some (some (.ref C_NoText)))
  (h1:F6 K C_NoText "__init__" "NoText.__init__" J7 f1 d1)
  (h2:F6 K C_Number "__init__" "Number.__init__" Ia f2 d2)
  (h3:F6 K C_Value "__init__" "Value.__init__" Ie f3 d3)
  (h4:F6 K C_Cell "__init__" "Cell.__init__" J9 f4 d4)
  (h5:F6 K C_Joined "__init__" "Joined.__init__" JG f5 d5)
  (h6:F6 K C_Deed "__init__" "Deed.__init__" Im f6 d6)
  (h7:F6 K C_Program "__init__" "Program.__init__" Jq f7 d7)
  (h8:Bb K "made_of" Hh f8 d8)
  (h9:Bb K "number_of" IF f9 d9)
  (h10:Bb K "is_name" IG f10 d10)
  (h11:Bb K "risen" J5 f11 d11)
  (h12:Bb K "fallen" Jk f12 d12)
  (h13:Bb K "spot_of" JF f13 d13)
  (h14:Bb K "bare_row" Jz f14 d14)
  (h15:Bb K "words_of" Hl f15 d15)
  (h16:Bb K "part_end" Jj f16 d16)
  (h17:Bb K "cell_of" Gv f17 d17)
  (h18:Bb K "part_of" Ju f18 d18)
  (h19:Bb K "parts_of" Iy f19 d19)
  (h20:Bb K "join_waiting" Jg f20 d20)
  (h21:Bb K "term_of" Ik f21 d21)
  (h22:F6 K C_Draft "__init__" "Draft.__init__" J6 f22 d22)
  (h23:Bb K "spots_known" Hb f23 d23)
  (h24:Bb K "names_known" JN f24 d24)
  (h25:Bb K "tables_kept" Jh f25 d25)
  (h26:Bb K "deed_taken" Ii f26 d26)
  (h27:Bb K "size_taken" IE f27 d27)
  (h28:Bb K "loop_taken" Iu f28 d28)
  (h29:Bb K "end_taken" JL f29 d29)
  (h30:Bb K "taken" Ij f30 d30)
  (h31:Bb K "read" II f31 d31)
  (h32:Bb K "_law_cell_at" Iz f32 d32)
  (h33:Bb K "_law_whole" IK f33 d33)
  (h34:Bb K "_law_stream" Jf f34 d34)
  (h35:Bb K "_law_names" Ht f35 d35)
  (h36:Bb K "_law_number" JM f36 d36)
  (h37:Bb K "_law_spot_text" Js f37 d37)
  (h38:Bb K "_law_spot" Io f38 d38)
  (h39:Bb K "_law_cell" G8 f39 d39)
  (h40:Bb K "_law_leaf" JK f40 d40)
  (h41:Bb K "_law_both" Je f41 d41)
  (h42:Bb K "_law_term" J4 f42 d42)
  (h43:Bb K "_law_loop" GB f43 d43)
  (h44:Bb K "_law_deed" Hi f44 d44)
  (h45:Bb K "_law_program" IA f45 d45)
  (h46:Bb K "_law_opened" IQ f46 d46)
  (h47:Bb K "law" Ga f47 d47)
  (n_Number_n:PySem.W.findIn K (.ref C_Number) "n"=some none)
  (n_Value_name:PySem.W.findIn K (.ref C_Value) "name"=some none)
  (n_Cell_table:PySem.W.findIn K (.ref C_Cell) "table"=some none)
  (n_Cell_spots:PySem.W.findIn K (.ref C_Cell) "spots"=some none)
  (n_Joined_sign:PySem.W.findIn K (.ref C_Joined) "sign"=some none)
  (n_Joined_left:PySem.W.findIn K (.ref C_Joined) "left"=some none)
  (n_Joined_right:PySem.W.findIn K (.ref C_Joined) "right"=some none)
  (n_Deed_names:PySem.W.findIn K (.ref C_Deed) "names"=some none)
  (n_Deed_lows:PySem.W.findIn K (.ref C_Deed) "lows"=some none)
  (n_Deed_highs:PySem.W.findIn K (.ref C_Deed) "highs"=some none)
  (n_Deed_table:PySem.W.findIn K (.ref C_Deed) "table"=some none)
  (n_Deed_spots:PySem.W.findIn K (.ref C_Deed) "spots"=some none)
  (n_Deed_term:PySem.W.findIn K (.ref C_Deed) "term"=some none)
  (n_Deed_path:PySem.W.findIn K (.ref C_Deed) "path"=some none)
  (n_Program_size:PySem.W.findIn K (.ref C_Program) "size"=some none)
  (n_Program_deeds:PySem.W.findIn K (.ref C_Program) "deeds"=some none)
  (n_Draft_size:PySem.W.findIn K (.ref C_Draft) "size"=some none)
  (n_Draft_deeds:PySem.W.findIn K (.ref C_Draft) "deeds"=some none)
  (n_Draft_tables:PySem.W.findIn K (.ref C_Draft) "tables"=some none)
  (n_Draft_names:PySem.W.findIn K (.ref C_Draft) "names"=some none)
  (n_Draft_lows:PySem.W.findIn K (.ref C_Draft) "lows"=some none)
  (n_Draft_highs:PySem.W.findIn K (.ref C_Draft) "highs"=some none)
  (n_Draft_path:PySem.W.findIn K (.ref C_Draft) "path"=some none)
  (hn0:PySem.W.specialIn K (.builtin "object.__class__") "__get__"=some (some (.builtin "getset_descriptor.__get__"))) (ht0:PySem.W.takesIn K (.builtin "object.__class__")=some true)
  (ha_Number:PySem.W.findIn K (.ref C_Number) "__class__"=some (some (.builtin "object.__class__"))) (hm_Number:PySem.W.mroIn K C_Number (.type "object")=some true)
  (is_Number_Term:PySem.W.kitOne K (.ref C_Number) (.ref C_Term)=some true)
  (is_Number_Number:PySem.W.kitOne K (.ref C_Number) (.ref C_Number)=some true)
  (is_Number_Value:PySem.W.kitOne K (.ref C_Number) (.ref C_Value)=some false)
  (is_Number_Cell:PySem.W.kitOne K (.ref C_Number) (.ref C_Cell)=some false)
  (is_Number_Joined:PySem.W.kitOne K (.ref C_Number) (.ref C_Joined)=some false)
  (is_Number_Deed:PySem.W.kitOne K (.ref C_Number) (.ref C_Deed)=some false)
  (is_Number_Program:PySem.W.kitOne K (.ref C_Number) (.ref C_Program)=some false)
  (is_Number_Draft:PySem.W.kitOne K (.ref C_Number) (.ref C_Draft)=some false)
  (ha_Value:PySem.W.findIn K (.ref C_Value) "__class__"=some (some (.builtin "object.__class__"))) (hm_Value:PySem.W.mroIn K C_Value (.type "object")=some true)
  (is_Value_Term:PySem.W.kitOne K (.ref C_Value) (.ref C_Term)=some true)
  (is_Value_Number:PySem.W.kitOne K (.ref C_Value) (.ref C_Number)=some false)
  (is_Value_Value:PySem.W.kitOne K (.ref C_Value) (.ref C_Value)=some true)
  (is_Value_Cell:PySem.W.kitOne K (.ref C_Value) (.ref C_Cell)=some false)
  (is_Value_Joined:PySem.W.kitOne K (.ref C_Value) (.ref C_Joined)=some false)
  (is_Value_Deed:PySem.W.kitOne K (.ref C_Value) (.ref C_Deed)=some false)
  (is_Value_Program:PySem.W.kitOne K (.ref C_Value) (.ref C_Program)=some false)
  (is_Value_Draft:PySem.W.kitOne K (.ref C_Value) (.ref C_Draft)=some false)
  (ha_Cell:PySem.W.findIn K (.ref C_Cell) "__class__"=some (some (.builtin "object.__class__"))) (hm_Cell:PySem.W.mroIn K C_Cell (.type "object")=some true)
  (is_Cell_Term:PySem.W.kitOne K (.ref C_Cell) (.ref C_Term)=some true)
  (is_Cell_Number:PySem.W.kitOne K (.ref C_Cell) (.ref C_Number)=some false)
  (is_Cell_Value:PySem.W.kitOne K (.ref C_Cell) (.ref C_Value)=some false)
  (is_Cell_Cell:PySem.W.kitOne K (.ref C_Cell) (.ref C_Cell)=some true)
  (is_Cell_Joined:PySem.W.kitOne K (.ref C_Cell) (.ref C_Joined)=some false)
  (is_Cell_Deed:PySem.W.kitOne K (.ref C_Cell) (.ref C_Deed)=some false)
  (is_Cell_Program:PySem.W.kitOne K (.ref C_Cell) (.ref C_Program)=some false)
  (is_Cell_Draft:PySem.W.kitOne K (.ref C_Cell) (.ref C_Draft)=some false)
  (ha_Joined:PySem.W.findIn K (.ref C_Joined) "__class__"=some (some (.builtin "object.__class__"))) (hm_Joined:PySem.W.mroIn K C_Joined (.type "object")=some true)
  (is_Joined_Term:PySem.W.kitOne K (.ref C_Joined) (.ref C_Term)=some true)
  (is_Joined_Number:PySem.W.kitOne K (.ref C_Joined) (.ref C_Number)=some false)
  (is_Joined_Value:PySem.W.kitOne K (.ref C_Joined) (.ref C_Value)=some false)
  (is_Joined_Cell:PySem.W.kitOne K (.ref C_Joined) (.ref C_Cell)=some false)
  (is_Joined_Joined:PySem.W.kitOne K (.ref C_Joined) (.ref C_Joined)=some true)
  (is_Joined_Deed:PySem.W.kitOne K (.ref C_Joined) (.ref C_Deed)=some false)
  (is_Joined_Program:PySem.W.kitOne K (.ref C_Joined) (.ref C_Program)=some false)
  (is_Joined_Draft:PySem.W.kitOne K (.ref C_Joined) (.ref C_Draft)=some false)
  (is_str_Term:PySem.W.kitOne K (.type "str") (.ref C_Term)=some false)
  (is_str_Number:PySem.W.kitOne K (.type "str") (.ref C_Number)=some false)
  (is_str_Value:PySem.W.kitOne K (.type "str") (.ref C_Value)=some false)
  (is_str_Cell:PySem.W.kitOne K (.type "str") (.ref C_Cell)=some false)
  (is_str_Joined:PySem.W.kitOne K (.type "str") (.ref C_Joined)=some false)
  (is_str_Deed:PySem.W.kitOne K (.type "str") (.ref C_Deed)=some false)
  (is_str_Program:PySem.W.kitOne K (.type "str") (.ref C_Program)=some false)
  (is_str_Draft:PySem.W.kitOne K (.type "str") (.ref C_Draft)=some false)
  (ha_Deed:PySem.W.findIn K (.ref C_Deed) "__class__"=some (some (.builtin "object.__class__"))) (hm_Deed:PySem.W.mroIn K C_Deed (.type "object")=some true)
  (is_Deed_Term:PySem.W.kitOne K (.ref C_Deed) (.ref C_Term)=some false)
  (is_Deed_Number:PySem.W.kitOne K (.ref C_Deed) (.ref C_Number)=some false)
  (is_Deed_Value:PySem.W.kitOne K (.ref C_Deed) (.ref C_Value)=some false)
  (is_Deed_Cell:PySem.W.kitOne K (.ref C_Deed) (.ref C_Cell)=some false)
  (is_Deed_Joined:PySem.W.kitOne K (.ref C_Deed) (.ref C_Joined)=some false)
  (is_Deed_Deed:PySem.W.kitOne K (.ref C_Deed) (.ref C_Deed)=some true)
  (is_Deed_Program:PySem.W.kitOne K (.ref C_Deed) (.ref C_Program)=some false)
  (is_Deed_Draft:PySem.W.kitOne K (.ref C_Deed) (.ref C_Draft)=some false)
  (ha_Program:PySem.W.findIn K (.ref C_Program) "__class__"=some (some (.builtin "object.__class__"))) (hm_Program:PySem.W.mroIn K C_Program (.type "object")=some true)
  (is_Program_Term:PySem.W.kitOne K (.ref C_Program) (.ref C_Term)=some false)
  (is_Program_Number:PySem.W.kitOne K (.ref C_Program) (.ref C_Number)=some false)
  (is_Program_Value:PySem.W.kitOne K (.ref C_Program) (.ref C_Value)=some false)
  (is_Program_Cell:PySem.W.kitOne K (.ref C_Program) (.ref C_Cell)=some false)
  (is_Program_Joined:PySem.W.kitOne K (.ref C_Program) (.ref C_Joined)=some false)
  (is_Program_Deed:PySem.W.kitOne K (.ref C_Program) (.ref C_Deed)=some false)
  (is_Program_Program:PySem.W.kitOne K (.ref C_Program) (.ref C_Program)=some true)
  (is_Program_Draft:PySem.W.kitOne K (.ref C_Program) (.ref C_Draft)=some false)
  (ha_Draft:PySem.W.findIn K (.ref C_Draft) "__class__"=some (some (.builtin "object.__class__"))) (hm_Draft:PySem.W.mroIn K C_Draft (.type "object")=some true)
  (is_Draft_Term:PySem.W.kitOne K (.ref C_Draft) (.ref C_Term)=some false)
  (is_Draft_Number:PySem.W.kitOne K (.ref C_Draft) (.ref C_Number)=some false)
  (is_Draft_Value:PySem.W.kitOne K (.ref C_Draft) (.ref C_Value)=some false)
  (is_Draft_Cell:PySem.W.kitOne K (.ref C_Draft) (.ref C_Cell)=some false)
  (is_Draft_Joined:PySem.W.kitOne K (.ref C_Draft) (.ref C_Joined)=some false)
  (is_Draft_Deed:PySem.W.kitOne K (.ref C_Draft) (.ref C_Deed)=some false)
  (is_Draft_Program:PySem.W.kitOne K (.ref C_Draft) (.ref C_Program)=some false)
  (is_Draft_Draft:PySem.W.kitOne K (.ref C_Draft) (.ref C_Draft)=some true)
  (xga_FurrowError:PySem.W.findIn K (.ref C_FurrowError) "__getattribute__"=some (some (.builtin "BaseException.__getattribute__"))) (xgh_FurrowError:PySem.W.findIn K (.ref C_FurrowError) "__getattr__"=some none) (xbe_FurrowError:PySem.W.mroIn K C_FurrowError (.type "BaseException")=some true) (xsa_FurrowError:PySem.W.findIn K (.ref C_FurrowError) "__setattr__"=some (some (.builtin "object.__setattr__"))) (xhd_FurrowError:PySem.W.hasDictIn K C_FurrowError=true) (qmt_FurrowError:EX.mroTail K C_FurrowError=true) (xob_FurrowError:PySem.W.mroIn K C_FurrowError (.type "object")=some true) (qct_FurrowError:Jw K C_FurrowError []=true) (xca_FurrowError:PySem.W.findIn K (.ref C_FurrowError) "__class__"=some (some (.builtin "object.__class__"))) (kc_FurrowError:PySem.W.keepIn K (.ref C_FurrowError)=true)
  (xin_FurrowError:PySem.W.findIn K (.ref C_FurrowError) "__init__"=some (some (.builtin "ValueError.__init__")))
  (xga_NoText:PySem.W.findIn K (.ref C_NoText) "__getattribute__"=some (some (.builtin "BaseException.__getattribute__"))) (xgh_NoText:PySem.W.findIn K (.ref C_NoText) "__getattr__"=some none) (xbe_NoText:PySem.W.mroIn K C_NoText (.type "BaseException")=some true) (xsa_NoText:PySem.W.findIn K (.ref C_NoText) "__setattr__"=some (some (.builtin "object.__setattr__"))) (xhd_NoText:PySem.W.hasDictIn K C_NoText=true) (qmt_NoText:EX.mroTail K C_NoText=true) (xob_NoText:PySem.W.mroIn K C_NoText (.type "object")=some true) (qct_NoText:Jw K C_NoText [C_FurrowError]=true) (xca_NoText:PySem.W.findIn K (.ref C_NoText) "__class__"=some (some (.builtin "object.__class__"))) (kc_NoText:PySem.W.keepIn K (.ref C_NoText)=true)
  (n_NoText_line:PySem.W.findIn K (.ref C_NoText) "line"=some none)
  (dnd:([C_FurrowError,C_NoText]:List Addr).Nodup)
  (xbg:PySem.W.specialIn K (.ref C_FurrowError) "__getattribute__"=some (some (.builtin "type.__getattribute__"))) (xbr:PySem.W.readsIn K C_FurrowError (.type "type")=true) (xbf:PySem.W.findCls K (.ref C_FurrowError) (.type "type") "__init__"=some (.val (.builtin "ValueError.__init__")))
  (z_abs:PySem.W.nsIn K mainGlobals "abs"=some none)
  (z_all:PySem.W.nsIn K mainGlobals "all"=some none)
  (z_bool:PySem.W.nsIn K mainGlobals "bool"=some none)
  (z_enumerate:PySem.W.nsIn K mainGlobals "enumerate"=some none)
  (z_int:PySem.W.nsIn K mainGlobals "int"=some none)
  (z_isinstance:PySem.W.nsIn K mainGlobals "isinstance"=some none)
  (z_len:PySem.W.nsIn K mainGlobals "len"=some none)
  (z_list:PySem.W.nsIn K mainGlobals "list"=some none)
  (z_max:PySem.W.nsIn K mainGlobals "max"=some none)
  (z_range:PySem.W.nsIn K mainGlobals "range"=some none)
  (z_str:PySem.W.nsIn K mainGlobals "str"=some none)
  (z_tuple:PySem.W.nsIn K mainGlobals "tuple"=some none)
  (g_FIGURES:PySem.W.nsIn K mainGlobals "FIGURES"=some (some (.str "0123456789" t_FIGURES)))
  (g_LEAST_SIZE:PySem.W.nsIn K mainGlobals "LEAST_SIZE"=some (some (.int 2 t_LEAST_SIZE)))
  (g_LETTERS:PySem.W.nsIn K mainGlobals "LETTERS"=some (some (.str "abcdefghijklmnopqrstuvwxyz" t_LETTERS)))
  (g_MOST_DEEDS:PySem.W.nsIn K mainGlobals "MOST_DEEDS"=some (some (.int 6 t_MOST_DEEDS)))
  (g_MOST_FIGURES:PySem.W.nsIn K mainGlobals "MOST_FIGURES"=some (some (.int 18 t_MOST_FIGURES)))
  (g_MOST_LETTERS:PySem.W.nsIn K mainGlobals "MOST_LETTERS"=some (some (.int 8 t_MOST_LETTERS)))
  (g_MOST_LOOPS:PySem.W.nsIn K mainGlobals "MOST_LOOPS"=some (some (.int 3 t_MOST_LOOPS)))
  (g_MOST_SPOTS:PySem.W.nsIn K mainGlobals "MOST_SPOTS"=some (some (.int 3 t_MOST_SPOTS)))
  (g_ROW_WORDS:PySem.W.nsIn K mainGlobals "ROW_WORDS"=some (some (.ref u_ROW_WORDS)))
  (q_ROW_WORDS:K.lookup u_ROW_WORDS=some ⟨.type "tuple",e_ROW_WORDS,.seq #[.str "for" t_ROW_WORDS0,.str "end" t_ROW_WORDS1,.str "size" t_ROW_WORDS2] n_ROW_WORDS,b_ROW_WORDS⟩)
  (g_SIGNS:PySem.W.nsIn K mainGlobals "SIGNS"=some (some (.str "+-*()" t_SIGNS)))
  (g_STRENGTHS:PySem.W.nsIn K mainGlobals "STRENGTHS"=some (some (.ref u_STRENGTHS)))
  (q_STRENGTHS:K.lookup u_STRENGTHS=some ⟨.type "dict",none,.dict #[⟨h_STRENGTHS0,.str "(" k_STRENGTHS0,.int 0 s_STRENGTHS0⟩,⟨h_STRENGTHS1,.str "+" k_STRENGTHS1,.int 1 s_STRENGTHS1⟩,⟨h_STRENGTHS2,.str "-" k_STRENGTHS2,.int 1 s_STRENGTHS2⟩,⟨h_STRENGTHS3,.str "*" k_STRENGTHS3,.int 2 s_STRENGTHS3⟩] n_STRENGTHS,#[]⟩)
  (hh_STRENGTHS0:h_STRENGTHS0=hashStr w "(")
  (hh_STRENGTHS1:h_STRENGTHS1=hashStr w "+")
  (hh_STRENGTHS2:h_STRENGTHS2=hashStr w "-")
  (hh_STRENGTHS3:h_STRENGTHS3=hashStr w "*")
  (qsm_STRENGTHS:(u_STRENGTHS==sysModules)=false) :
  ∃a:Ad,Tx w K mg a/\fa=a.f_M/\(∀(s:Shared) (v:Value),BindsTo s a.d_M ⟨[v],[]⟩ [("_law_script",v)]):=by
 have e:=hfa.symm.trans (AK X G h47.a)
 cases e
 obtain⟨_,_,_,_,_,_,_,_,_,rfl,_⟩:=h47.F.ex
 exact⟨⟨f1,d1,f2,d2,f3,d3,f4,d4,f5,d5,f6,d6,f7,d7,f8,d8,f9,d9,f10,d10,f11,d11,f12,d12,f13,d13,f14,d14,f15,d15,f16,d16,f17,d17,f18,d18,f19,d19,f20,d20,f21,d21,f22,d22,f23,d23,f24,d24,f25,d25,f26,d26,f27,d27,f28,d28,f29,d29,f30,d30,f31,d31,f32,d32,f33,d33,f34,d34,f35,d35,f36,d36,f37,d37,f38,d38,f39,d39,f40,d40,f41,d41,f42,d42,f43,d43,f44,d44,f45,d45,f46,d46,fa,_,C_Term,C_Number,C_Value,C_Cell,C_Joined,C_Deed,C_Program,C_Draft,C_FurrowError,C_NoText,.str "0123456789" t_FIGURES,.int 2 t_LEAST_SIZE,.str "abcdefghijklmnopqrstuvwxyz" t_LETTERS,.int 6 t_MOST_DEEDS,.int 18 t_MOST_FIGURES,.int 8 t_MOST_LETTERS,.int 3 t_MOST_LOOPS,.int 3 t_MOST_SPOTS,u_ROW_WORDS,.str "+-*()" t_SIGNS,u_STRENGTHS⟩,⟨h1.F,
  h1.F.binds Tr,
  h2.F,
  h2.F.binds VJ,
  h3.F,
  h3.F.binds QY,
  h4.F,
  h4.F.binds Qo,
  h5.F,
  h5.F.binds Ry,
  h6.F,
  h6.F.binds QN,
  h7.F,
  h7.F.binds UA,
  h8.F,
  h8.F.binds SO,
  AK X G h8.a,
  h9.F,
  h9.F.binds UQ,
  AK X G h9.a,
  h10.F,
  h10.F.binds R3,
  AK X G h10.a,
  h11.F,
  h11.F.binds OZ,
  AK X G h11.a,
  h12.F,
  h12.F.binds Pr,
  AK X G h12.a,
  h13.F,
  h13.F.binds Pt,
  AK X G h13.a,
  h14.F,
  h14.F.binds Td,
  AK X G h14.a,
  h15.F,
  h15.F.binds VL,
  AK X G h15.a,
  h16.F,
  h16.F.binds QW,
  AK X G h16.a,
  h17.F,
  h17.F.binds P9,
  AK X G h17.a,
  h18.F,
  h18.F.binds Uc,
  AK X G h18.a,
  h19.F,
  h19.F.binds Tf,
  AK X G h19.a,
  h20.F,
  h20.F.binds Ug,
  AK X G h20.a,
  h21.F,
  h21.F.binds TU,
  AK X G h21.a,
  h22.F,
  h22.F.binds Rx,
  h23.F,
  h23.F.binds P3,
  AK X G h23.a,
  h24.F,
  h24.F.binds Ur,
  AK X G h24.a,
  h25.F,
  h25.F.binds Q1,
  AK X G h25.a,
  h26.F,
  h26.F.binds VM,
  AK X G h26.a,
  h27.F,
  h27.F.binds Se,
  AK X G h27.a,
  h28.F,
  h28.F.binds UR,
  AK X G h28.a,
  h29.F,
  h29.F.binds S3,
  AK X G h29.a,
  h30.F,
  h30.F.binds Q5,
  AK X G h30.a,
  h31.F,
  h31.F.binds QD,
  AK X G h31.a,
  h32.F,
  h32.F.binds QE,
  AK X G h32.a,
  h33.F,
  h33.F.binds TC,
  AK X G h33.a,
  h34.F,
  h34.F.binds Vq,
  AK X G h34.a,
  h35.F,
  h35.F.binds Vh,
  AK X G h35.a,
  h36.F,
  h36.F.binds UY,
  AK X G h36.a,
  h37.F,
  h37.F.binds Ve,
  AK X G h37.a,
  h38.F,
  h38.F.binds Vd,
  AK X G h38.a,
  h39.F,
  h39.F.binds RM,
  AK X G h39.a,
  h40.F,
  h40.F.binds Ra,
  AK X G h40.a,
  h41.F,
  h41.F.binds Qy,
  AK X G h41.a,
  h42.F,
  h42.F.binds SI,
  AK X G h42.a,
  h43.F,
  h43.F.binds T3,
  AK X G h43.a,
  h44.F,
  h44.F.binds Pn,
  AK X G h44.a,
  h45.F,
  h45.F.binds OQ,
  AK X G h45.a,
  h46.F,
  h46.F.binds V0,
  AK X G h46.a,
  h47.F,
  h47.F.binds Pa,
  AK X G h47.a,
  ⟨a_Term.pg,a_Term.hd,a_Term.po,a_Term.sa⟩,
  AK X G a_Term.a,
  ⟨a_Number.pg,a_Number.hd,a_Number.po,a_Number.sa⟩,
  AK X G a_Number.a,
  ⟨a_Number.mi,h2.a,h2.i,a_Number.kc⟩,
  n_Number_n,
  ⟨a_Value.pg,a_Value.hd,a_Value.po,a_Value.sa⟩,
  AK X G a_Value.a,
  ⟨a_Value.mi,h3.a,h3.i,a_Value.kc⟩,
  n_Value_name,
  ⟨a_Cell.pg,a_Cell.hd,a_Cell.po,a_Cell.sa⟩,
  AK X G a_Cell.a,
  ⟨a_Cell.mi,h4.a,h4.i,a_Cell.kc⟩,
  n_Cell_table,
  n_Cell_spots,
  ⟨a_Joined.pg,a_Joined.hd,a_Joined.po,a_Joined.sa⟩,
  AK X G a_Joined.a,
  ⟨a_Joined.mi,h5.a,h5.i,a_Joined.kc⟩,
  n_Joined_sign,
  n_Joined_left,
  n_Joined_right,
  ⟨a_Deed.pg,a_Deed.hd,a_Deed.po,a_Deed.sa⟩,
  AK X G a_Deed.a,
  ⟨a_Deed.mi,h6.a,h6.i,a_Deed.kc⟩,
  n_Deed_names,
  n_Deed_lows,
  n_Deed_highs,
  n_Deed_table,
  n_Deed_spots,
  n_Deed_term,
  n_Deed_path,
  ⟨a_Program.pg,a_Program.hd,a_Program.po,a_Program.sa⟩,
  AK X G a_Program.a,
  ⟨a_Program.mi,h7.a,h7.i,a_Program.kc⟩,
  n_Program_size,
  n_Program_deeds,
  ⟨a_Draft.pg,a_Draft.hd,a_Draft.po,a_Draft.sa⟩,
  AK X G a_Draft.a,
  ⟨a_Draft.mi,h22.a,h22.i,a_Draft.kc⟩,
  n_Draft_size,
  n_Draft_deeds,
  n_Draft_tables,
  n_Draft_names,
  n_Draft_lows,
  n_Draft_highs,
  n_Draft_path,
  fun H x dx fs e=>.ins e ⟨a_Number.pg,a_Number.hd,a_Number.po,a_Number.sa⟩ ha_Number hn0 ht0 hm_Number,
  is_Number_Term,
  is_Number_Number,
  is_Number_Value,
  is_Number_Cell,
  is_Number_Joined,
  is_Number_Deed,
  is_Number_Program,
  is_Number_Draft,
  fun H x dx fs e=>.ins e ⟨a_Value.pg,a_Value.hd,a_Value.po,a_Value.sa⟩ ha_Value hn0 ht0 hm_Value,
  is_Value_Term,
  is_Value_Number,
  is_Value_Value,
  is_Value_Cell,
  is_Value_Joined,
  is_Value_Deed,
  is_Value_Program,
  is_Value_Draft,
  fun H x dx fs e=>.ins e ⟨a_Cell.pg,a_Cell.hd,a_Cell.po,a_Cell.sa⟩ ha_Cell hn0 ht0 hm_Cell,
  is_Cell_Term,
  is_Cell_Number,
  is_Cell_Value,
  is_Cell_Cell,
  is_Cell_Joined,
  is_Cell_Deed,
  is_Cell_Program,
  is_Cell_Draft,
  fun H x dx fs e=>.ins e ⟨a_Joined.pg,a_Joined.hd,a_Joined.po,a_Joined.sa⟩ ha_Joined hn0 ht0 hm_Joined,
  is_Joined_Term,
  is_Joined_Number,
  is_Joined_Value,
  is_Joined_Cell,
  is_Joined_Joined,
  is_Joined_Deed,
  is_Joined_Program,
  is_Joined_Draft,
  is_str_Term,
  is_str_Number,
  is_str_Value,
  is_str_Cell,
  is_str_Joined,
  is_str_Deed,
  is_str_Program,
  is_str_Draft,
  fun H x dx fs e=>.ins e ⟨a_Deed.pg,a_Deed.hd,a_Deed.po,a_Deed.sa⟩ ha_Deed hn0 ht0 hm_Deed,
  is_Deed_Term,
  is_Deed_Number,
  is_Deed_Value,
  is_Deed_Cell,
  is_Deed_Joined,
  is_Deed_Deed,
  is_Deed_Program,
  is_Deed_Draft,
  fun H x dx fs e=>.ins e ⟨a_Program.pg,a_Program.hd,a_Program.po,a_Program.sa⟩ ha_Program hn0 ht0 hm_Program,
  is_Program_Term,
  is_Program_Number,
  is_Program_Value,
  is_Program_Cell,
  is_Program_Joined,
  is_Program_Deed,
  is_Program_Program,
  is_Program_Draft,
  fun H x dx fs e=>.ins e ⟨a_Draft.pg,a_Draft.hd,a_Draft.po,a_Draft.sa⟩ ha_Draft hn0 ht0 hm_Draft,
  is_Draft_Term,
  is_Draft_Number,
  is_Draft_Value,
  is_Draft_Cell,
  is_Draft_Joined,
  is_Draft_Deed,
  is_Draft_Program,
  is_Draft_Draft,
  AK X G a_FurrowError,
  ⟨⟨xga_FurrowError,xgh_FurrowError,xbe_FurrowError,xsa_FurrowError,xhd_FurrowError,qmt_FurrowError,xob_FurrowError,(Gr qct_FurrowError).elim fun N z=>⟨N,_,z⟩⟩,xca_FurrowError,hn0,ht0⟩,
  Gr qct_FurrowError,
  ⟨⟨xga_FurrowError,xgh_FurrowError,xbe_FurrowError,xsa_FurrowError,xhd_FurrowError,qmt_FurrowError,xob_FurrowError,(Gr qct_FurrowError).elim fun N z=>⟨N,_,z⟩⟩,xin_FurrowError,kc_FurrowError⟩,
  AK X G a_NoText,
  ⟨⟨xga_NoText,xgh_NoText,xbe_NoText,xsa_NoText,xhd_NoText,qmt_NoText,xob_NoText,(Gr qct_NoText).elim fun N z=>⟨N,_,z⟩⟩,xca_NoText,hn0,ht0⟩,
  Gr qct_NoText,
  ⟨⟨xga_NoText,xgh_NoText,xbe_NoText,xsa_NoText,xhd_NoText,qmt_NoText,xob_NoText,(Gr qct_NoText).elim fun N z=>⟨N,_,z⟩⟩,h1.a,h1.i,kc_NoText⟩,
  n_NoText_line,
  dnd,
  ⟨xbg,xbr,xbf⟩,
  Eg X G z_abs,
  Eg X G z_all,
  Eg X G z_bool,
  Eg X G z_enumerate,
  Eg X G z_int,
  Eg X G z_isinstance,
  Eg X G z_len,
  Eg X G z_list,
  Eg X G z_max,
  Eg X G z_range,
  Eg X G z_str,
  Eg X G z_tuple,
  AK X G g_FIGURES,
  ⟨_,rfl⟩,
  AK X G g_LEAST_SIZE,
  ⟨_,rfl⟩,
  AK X G g_LETTERS,
  ⟨_,rfl⟩,
  AK X G g_MOST_DEEDS,
  ⟨_,rfl⟩,
  AK X G g_MOST_FIGURES,
  ⟨_,rfl⟩,
  AK X G g_MOST_LETTERS,
  ⟨_,rfl⟩,
  AK X G g_MOST_LOOPS,
  ⟨_,rfl⟩,
  AK X G g_MOST_SPOTS,
  ⟨_,rfl⟩,
  AK X G g_ROW_WORDS,
  rfl,
  fun H=>.inr ⟨_,_,_,q_ROW_WORDS,rfl,rfl,AD rfl,(.cons ⟨_,rfl⟩ (.cons ⟨_,rfl⟩ (.cons ⟨_,rfl⟩ .nil)))⟩,
  AK X G g_SIGNS,
  ⟨_,rfl⟩,
  AK X G g_STRENGTHS,
  rfl,
  fun P=>P5 q_STRENGTHS hh_STRENGTHS0 hh_STRENGTHS1 hh_STRENGTHS2 hh_STRENGTHS3 qsm_STRENGTHS (by decide +kernel)⟩,rfl,fun s v=>.of_eq rfl⟩
end Fw
open PySem PySem.W PyProof.Rows
namespace PySem.W.Fast
def tw10015787865879329037:=True
def tw10066025813739486590:=True
def tw10120404983847378691:=True
def tw10221535771485347712:=True
def tw10240733089752446847:=True
def tw10243381025233460489:=True
def tw10251042616456898210:=True
def tw10265001418210635694:=True
def tw10274959287172184024:=True
def tw10281493015639566007:=True
def tw10334788442065673562:=True
def tw10365976504739455484:=True
def tw1038654468861403686:=True
def tw10387450589431943768:=True
def tw10392606877798808125:=True
def tw1045057841744393477:=True
def tw10494211622343876302:=True
def tw10497297787596943218:=True
def tw10595079132702502319:=True
def tw1060804193854223796:=True
def tw10617121120689761751:=True
def tw10621908935154125525:=True
def tw10645884238763446327:=True
def tw10661353747762170465:=True
def tw10665340748181058732:=True
def tw10670010109685058638:=True
def tw10695901437152445536:=True
def tw10796052477364939340:=True
def tw10817599564368741696:=True
def tw10859619553821859426:=True
def tw10901666107078847619:=True
def tw10906195668589198078:=True
def tw10941479355131423439:=True
def tw11113033364713132869:=True
def tw11160207806264150754:=True
def tw11166075338049449175:=True
def tw11170540281129056971:=True
def tw11287209882278067928:=True
def tw11323583035383774593:=True
def tw11368875498707560821:=True
def tw11391054890304698273:=True
def tw11414334598443404830:=True
def tw11456606531984572800:=True
def tw11464385039907921280:=True
def tw11475767941725977077:=True
def tw11542939022804685033:=True
def tw11582808649506682261:=True
def tw11664569684276449331:=True
def tw1171724179586086318:=True
def tw11777134019567647125:=True
def tw11810514890755993756:=True
def tw11876635016019097014:=True
def tw11909274367619198920:=True
def tw11943441771076272816:=True
def tw11995269344415283349:=True
def tw1201182425301956298:=True
def tw1203807204638840733:=True
def tw12043608511464271215:=True
def tw12104387521960600881:=True
def tw12113998812430327290:=True
def tw12132385210164496257:=True
def tw12166743813479520861:=True
def tw12172423404618658603:=True
def tw12189900878988414053:=True
def tw12231980488999039582:=True
def tw12257340664312100070:=True
def tw12265670178377176461:=True
def tw12294538725717860048:=True
def tw12464586424167503723:=True
def tw1246853541478931563:=True
def tw12474688050374782531:=True
def tw12496809538026689819:=True
def tw12508417991501725919:=True
def tw1253208848732807423:=True
def tw12544260750535223785:=True
def tw12566116141866300770:=True
def tw12571045072589411993:=True
def tw12605919839670610986:=True
def tw12630672345817134043:=True
def tw12658882676475333126:=True
def tw12696769707871947220:=True
def tw1274393334735688535:=True
def tw12784232194804568136:=True
def tw12862642272625711653:=True
def tw12871626423589403574:=True
def tw12957352169152127095:=True
def tw1297584870459377999:=True
def tw12996236294623154827:=True
def tw13007231815936174441:=True
def tw13034743906678866614:=True
def tw13034944064448904367:=True
def tw13043792172355228026:=True
def tw13070388446539776607:=True
def tw13077009894325669587:=True
def tw13110202714415311342:=True
def tw13163370412617279049:=True
def tw13235190550055376148:=True
def tw13235190837507104885:=True
def tw13298101238095045663:=True
def tw13333021833478189042:=True
def tw13334438943460314944:=True
def tw13405142818193805427:=True
def tw13515048148264304258:=True
def tw13538336084106625074:=True
def tw13544522299102288441:=True
def tw13549486591813733141:=True
def tw1361168139313092478:=True
def tw13613815354855423610:=True
def tw13689057712354182850:=True
def tw13710188540817581518:=True
def tw13729993700114222594:=True
def tw13750840850689636779:=True
def tw13942880167033153236:=True
def tw13969335043361473335:=True
def tw1397878184669765753:=True
def tw14014905850594857286:=True
def tw14062094128111214461:=True
def tw14067641149835392143:=True
def tw14101163862578551029:=True
def tw1411463774306138759:=True
def tw14158735202123439154:=True
def tw14177944761620873501:=True
def tw1425311539900144501:=True
def tw14304478681162480859:=True
def tw1431410237263411551:=True
def tw14328290220650228748:=True
def tw14338203295036719277:=True
def tw14355566785777009218:=True
def tw14356296608617926644:=True
def tw14409792864754775082:=True
def tw1442748813575864953:=True
def tw14436547100079373598:=True
def tw14460152207629930156:=True
def tw14464009060150801751:=True
def tw1448840231045443862:=True
def tw14490873728766304778:=True
def tw14498278197326296907:=True
def tw14532162508307785695:=True
def tw14542265977841596545:=True
def tw1467956363247843502:=True
def tw14714353373998806664:=True
def tw14724582500801567994:=True
def tw14814473030848174378:=True
def tw14889814403313351588:=True
def tw14896128388146240770:=True
def tw14922386619407641088:=True
def tw1495314041608819032:=True
def tw14961090538094515531:=True
def tw15086015881904139278:=True
def tw15094200238886601847:=True
def tw15099638932583402817:=True
def tw15106437801136320139:=True
def tw15132843958591783442:=True
def tw15211457343644157244:=True
def tw1531871462465762929:=True
def tw15356178062688586071:=True
def tw15395760922118600509:=True
def tw15429818644468785831:=True
def tw15539022009691163080:=True
def tw15544638774242700183:=True
def tw15559337233949530049:=True
def tw15573193167005481318:=True
def tw15619801773775942833:=True
def tw15623350999856963993:=True
def tw1564231372281805023:=True
def tw15675565122226941814:=True
def tw15746641974720558534:=True
def tw15782123038009213531:=True
def tw15815905157765124707:=True
def tw15888161926294600648:=True
def tw15897961532272665923:=True
def tw15924446826951001471:=True
def tw15934511704277677348:=True
def tw15955510156422656768:=True
def tw15961591986820207193:=True
def tw15968948524523717841:=True
def tw16025052715763363748:=True
def tw160335538542261086:=True
def tw16101087277805705985:=True
def tw16101878703620875392:=True
def tw16104585392032845361:=True
def tw16153561656584673140:=True
def tw16167055480328614398:=True
def tw16197221968364084050:=True
def tw16272412634484351051:=True
def tw16289914774405008497:=True
def tw16294778933873410695:=True
def tw16309961596780472745:=True
def tw16332705659473549273:=True
def tw16351373482792099724:=True
def tw16353580863828069135:=True
def tw16357772354939272145:=True
def tw16395866299163123175:=True
def tw16396134881311516754:=True
def tw164084034041155873:=True
def tw16428564425986657438:=True
def tw16432806978900786286:=True
def tw16477277599959265622:=True
def tw16478603879262702592:=True
def tw16537810390654107155:=True
def tw16586830813816773772:=True
def tw16620122608980710576:=True
def tw16634977918235838519:=True
def tw16664225877181263336:=True
def tw16788561342768927821:=True
def tw16811383397532429099:=True
def tw16813564983459330761:=True
def tw16874784416790449708:=True
def tw16905434874748605098:=True
def tw16905790614202969994:=True
def tw16909958497864176134:=True
def tw16922179434149643228:=True
def tw16947483986921940796:=True
def tw16947808168597406869:=True
def tw16948504552922348795:=True
def tw17106701146138473214:=True
def tw17143995087222043720:=True
def tw17165098395910369698:=True
def tw17193997679808461019:=True
def tw17201648772135203409:=True
def tw17234572707252759748:=True
def tw17270373514780801207:=True
def tw17314905166851497465:=True
def tw17315792333217496354:=True
def tw1737266851580355598:=True
def tw17383180766431084380:=True
def tw1742149192659575746:=True
def tw17440709777453234696:=True
def tw17474180268202160561:=True
def tw17525961583761679029:=True
def tw17541626918700791660:=True
def tw17556727748928997380:=True
def tw17584430768921419819:=True
def tw17615428280798215637:=True
def tw17626723367681678157:=True
def tw176359692650217381:=True
def tw17657573296232983838:=True
def tw17699390824427114315:=True
def tw1770844413971705476:=True
def tw17732187102987239810:=True
def tw17745603707220084324:=True
def tw17750885116627544515:=True
def tw17799907846310743527:=True
def tw17930813625567284063:=True
def tw17933410012163768270:=True
def tw18006363295747537905:=True
def tw18037223650561686735:=True
def tw18046006240751526531:=True
def tw18091241280003163501:=True
def tw18129571561806509519:=True
def tw18132438204925278384:=True
def tw18143859028013962721:=True
def tw1815076820240021297:=True
def tw18187230018999344777:=True
def tw1820742119827269044:=True
def tw18288566781433600602:=True
def tw18336322203662331628:=True
def tw1833673416570635283:=True
def tw18352119553527240096:=True
def tw18360879820499695237:=True
def tw18361786469123913086:=True
def tw18369112212038202872:=True
def tw18373040731769122998:=True
def tw18383510955799545609:=True
def tw18401419186653401592:=True
def tw18412520411243353941:=True
def tw1872045669152804214:=True
def tw1887406680097758068:=True
def tw2034728416537272235:=True
def tw2045793682402788014:=True
def tw2049740536647677905:=True
def tw2078459260394888881:=True
def tw2084096481679724990:=True
def tw209153068944452166:=True
def tw2107714731786529095:=True
def tw2113820958931918534:=True
def tw214079547741120908:=True
def tw2168789497192687323:=True
def tw2184115420727176431:=True
def tw2207487520545822854:=True
def tw223309243940886752:=True
def tw2248771930296341441:=True
def tw2285059529502621439:=True
def tw2289496444489930455:=True
def tw2302356501093676186:=True
def tw2360566904576575095:=True
def tw2450286969610162358:=True
def tw2453986451107637734:=True
def tw2551591042103318917:=True
def tw2563507722076792924:=True
def tw2574441037232583116:=True
def tw2654445082997175824:=True
def tw2665319817451171924:=True
def tw2667254753476734428:=True
def tw2696158549369031950:=True
def tw2705437419001058479:=True
def tw2740843727207445283:=True
def tw277639602380755170:=True
def tw2791582769494300259:=True
def tw2878088933855052436:=True
def tw2942363282399538508:=True
def tw2968901698741564109:=True
def tw3038355031800695436:=True
def tw3077490987701182310:=True
def tw3079468546663105561:=True
def tw3086818114028137033:=True
def tw3106075495918577402:=True
def tw3108590909679675354:=True
def tw3179942778653440784:=True
def tw3230429891892616431:=True
def tw3234043384426423362:=True
def tw3258601022988615976:=True
def tw3427640322383400007:=True
def tw3434524735763908900:=True
def tw3435591680872640776:=True
def tw3458393002131960237:=True
def tw3473353874921595023:=True
def tw3495241953459542550:=True
def tw3590810202616552196:=True
def tw359605401262315158:=True
def tw3598163329587037347:=True
def tw360110601656191789:=True
def tw3687153804953975787:=True
def tw3703612457368478092:=True
def tw3717768436676473392:=True
def tw3722168761707602743:=True
def tw373375516248735602:=True
def tw3740617624101397419:=True
def tw3878971178209672479:=True
def tw3904395274186995534:=True
def tw3952293431133935932:=True
def tw3992028570849285392:=True
def tw3992847230356390969:=True
def tw3997661445023660010:=True
def tw4010549613855004204:=True
def tw4014821753935460478:=True
def tw4022889895560780625:=True
def tw4094512323749092721:=True
def tw409534877398009469:=True
def tw4100880548410266032:=True
def tw4124934141126488464:=True
def tw4166824523849473755:=True
def tw4189115078130591903:=True
def tw4228245890086105865:=True
def tw4243213756296303042:=True
def tw4367791439895607287:=True
def tw4395804227791680152:=True
def tw4398797370217318792:=True
def tw4406020211956950450:=True
def tw4498308853067569027:=True
def tw4502964654750028754:=True
def tw4649764727664080995:=True
def tw4652207499319808936:=True
def tw4660298033808219174:=True
def tw4665321048408828206:=True
def tw4747910333591424576:=True
def tw4757716500676986344:=True
def tw4807136224531846229:=True
def tw4863246820900220340:=True
def tw488688788923887595:=True
def tw5025759684737469096:=True
def tw5057302452553428984:=True
def tw5073371305095589330:=True
def tw514904661076998405:=True
def tw5159034479019808569:=True
def tw5259678863345686847:=True
def tw5325800028382309231:=True
def tw5335060796355248599:=True
def tw539932543541165306:=True
def tw5415608545944220909:=True
def tw5424542459401158594:=True
def tw5426890312850033338:=True
def tw5441413487960888128:=True
def tw5449294583117150590:=True
def tw5451065492815351804:=True
def tw549368505820944788:=True
def tw550261908117901378:=True
def tw5509092673179912535:=True
def tw553500189451746030:=True
def tw5537780759404953964:=True
def tw5581525962211349563:=True
def tw5642309245572060927:=True
def tw5644845978904668634:=True
def tw5716540493949895108:=True
def tw5730037481683374769:=True
def tw5734511729442143525:=True
def tw5752621927878703061:=True
def tw5776790476548801460:=True
def tw5790899640823292655:=True
def tw5830083342308129641:=True
def tw5850049627231063873:=True
def tw5946387246100986122:=True
def tw6032228085580474613:=True
def tw6141479088612438362:=True
def tw6168297602001631910:=True
def tw6229313727639823200:=True
def tw624021822993882000:=True
def tw6243161564128835794:=True
def tw628713436111086023:=True
def tw6324820539944084342:=True
def tw6354333799344144013:=True
def tw6371215607878224703:=True
def tw6377784710054869958:=True
def tw6417108791406839045:=True
def tw6431844129949064502:=True
def tw6446902874801302434:=True
def tw6460641375928951530:=True
def tw647176048114066853:=True
def tw6477104466983682984:=True
def tw6512395247800400351:=True
def tw6536885547670150136:=True
def tw6545187750152774410:=True
def tw6556139267341558695:=True
def tw6556959652961885885:=True
def tw6689785022969391662:=True
def tw6699310236565590837:=True
def tw6720002112114505857:=True
def tw6747765262169915595:=True
def tw6768210130641327537:=True
def tw6791397107056688787:=True
def tw6814383035911047892:=True
def tw6850498714855501609:=True
def tw6850625793078378216:=True
def tw6907973628619089271:=True
def tw6924917899573672674:=True
def tw6970218243571066216:=True
def tw6970987318914321527:=True
def tw7043100257889822230:=True
def tw7074927006187512993:=True
def tw7098847831855486719:=True
def tw7133590021151689997:=True
def tw714795750784469818:=True
def tw7276831431325194494:=True
def tw7313373164382468416:=True
def tw7381082081776697279:=True
def tw7387555956695128391:=True
def tw7425848830733044177:=True
def tw7460612609389766454:=True
def tw7468474101184076757:=True
def tw7503474223415634663:=True
def tw7550148858780558109:=True
def tw7597203288998526220:=True
def tw7651052209325160976:=True
def tw7654821032269796152:=True
def tw7670067184833541686:=True
def tw7714777205658952435:=True
def tw772506892176079319:=True
def tw7750955038509097468:=True
def tw7769126821867937662:=True
def tw7792679470274930834:=True
def tw7796222478464407929:=True
def tw78327955324449565:=True
def tw7850880877309809685:=True
def tw788554200207801354:=True
def tw7938727505333390940:=True
def tw7966406569854896322:=True
def tw8074817177284573939:=True
def tw8142864859836865402:=True
def tw8181253917333140321:=True
def tw8235121440265566154:=True
def tw8511089553835505708:=True
def tw8592323367485637612:=True
def tw8667952821915528935:=True
def tw868075432252618129:=True
def tw8757776699206036353:=True
def tw877121690437294153:=True
def tw8800573963823215172:=True
def tw8855823607044260198:=True
def tw8892173578913993943:=True
def tw8959668883431961605:=True
def tw8979477764666090931:=True
def tw9011724392253876850:=True
def tw9047324115978807622:=True
def tw9086291131069229707:=True
def tw9142449538253954532:=True
def tw9173757417128567518:=True
def tw917945537277347972:=True
def tw923184821439834993:=True
def tw9240371245347833995:=True
def tw924189791719345561:=True
def tw9270492161013859122:=True
def tw9350255815254857614:=True
def tw9384615466668588604:=True
def tw9386988632154849331:=True
def tw9399211181164110402:=True
def tw9437284875417975478:=True
def tw9531310001912711145:=True
def tw9574285073678237719:=True
def tw969896869897790322:=True
def tw9724665392077953455:=True
def tw9734627478197880149:=True
def tw9839827745092238443:=True
def tw9858182713037754987:=True
def tw986792247874907407:=True
def tw987418311315189241:=True
def tw9912826418400898439:=True
def tw9979519412990843768:=True
end PySem.W.Fast
set_option maxRecDepth 100000 in
set_option maxHeartbeats 0 in
theorem PySem.Challenge.cw_furrow_k28_what_lacks_at_the_end_holds : PySem.Challenge.rw_furrow_k28_what_lacks_at_the_end.Holds := by
 w_on;o_law;k_head;(case hw=>w_witness2)
 k_fill
 refine L2.law_walk (l:=PySem.Challenge.rw_furrow_k28_what_lacks_at_the_end) (x:="_law_script") 90 (by decide) rfl rfl (fun w h Y=>PySem.W.kIn_of Y) ?F
 case F=>
  intro w mg fa h KX G hmg
  suffices hh:∃a:Fw.Ad,Fw.Tx w _ mg a/\fa=a.f_M/\(∀(s:Shared) (v:Value),BindsTo s a.d_M ⟨[v],[]⟩ [("_law_script",v)]) by
   obtain⟨a,T,e,b⟩:=hh
   subst e
   exact⟨a.d_M,b,fun base _ _=>Fw.ok_law T⟩
  refine' Fw.txt_mk KX G hmg ?a_Term ?a_Number ?a_Value ?a_Cell ?a_Joined ?a_Deed ?a_Program ?a_Draft ?a_FurrowError ?a_NoText ?h1 ?h2 ?h3 ?h4 ?h5 ?h6 ?h7 ?h8 ?h9 ?h10 ?h11 ?h12 ?h13 ?h14 ?h15 ?h16 ?h17 ?h18 ?h19 ?h20 ?h21 ?h22 ?h23 ?h24 ?h25 ?h26 ?h27 ?h28 ?h29 ?h30 ?h31 ?h32 ?h33 ?h34 ?h35 ?h36 ?h37 ?h38 ?h39 ?h40 ?h41 ?h42 ?h43 ?h44 ?h45 ?h46 ?h47 ?n_Number_n ?n_Value_name ?n_Cell_table ?n_Cell_spots ?n_Joined_sign ?n_Joined_left ?n_Joined_right ?n_Deed_names ?n_Deed_lows ?n_Deed_highs ?n_Deed_table ?n_Deed_spots ?n_Deed_term ?n_Deed_path ?n_Program_size ?n_Program_deeds ?n_Draft_size ?n_Draft_deeds ?n_Draft_tables ?n_Draft_names ?n_Draft_lows ?n_Draft_highs ?n_Draft_path ?hn0 ?ht0 ?ha_Number ?hm_Number ?is_Number_Term ?is_Number_Number ?is_Number_Value ?is_Number_Cell ?is_Number_Joined ?is_Number_Deed ?is_Number_Program ?is_Number_Draft ?ha_Value ?hm_Value ?is_Value_Term ?is_Value_Number ?is_Value_Value ?is_Value_Cell ?is_Value_Joined ?is_Value_Deed ?is_Value_Program ?is_Value_Draft ?ha_Cell ?hm_Cell ?is_Cell_Term ?is_Cell_Number ?is_Cell_Value ?is_Cell_Cell ?is_Cell_Joined ?is_Cell_Deed ?is_Cell_Program ?is_Cell_Draft ?ha_Joined ?hm_Joined ?is_Joined_Term ?is_Joined_Number ?is_Joined_Value ?is_Joined_Cell ?is_Joined_Joined ?is_Joined_Deed ?is_Joined_Program ?is_Joined_Draft ?is_str_Term ?is_str_Number ?is_str_Value ?is_str_Cell ?is_str_Joined ?is_str_Deed ?is_str_Program ?is_str_Draft ?ha_Deed ?hm_Deed ?is_Deed_Term ?is_Deed_Number ?is_Deed_Value ?is_Deed_Cell ?is_Deed_Joined ?is_Deed_Deed ?is_Deed_Program ?is_Deed_Draft ?ha_Program ?hm_Program ?is_Program_Term ?is_Program_Number ?is_Program_Value ?is_Program_Cell ?is_Program_Joined ?is_Program_Deed ?is_Program_Program ?is_Program_Draft ?ha_Draft ?hm_Draft ?is_Draft_Term ?is_Draft_Number ?is_Draft_Value ?is_Draft_Cell ?is_Draft_Joined ?is_Draft_Deed ?is_Draft_Program ?is_Draft_Draft ?xga_FurrowError ?xgh_FurrowError ?xbe_FurrowError ?xsa_FurrowError ?xhd_FurrowError ?qmt_FurrowError ?xob_FurrowError ?qct_FurrowError ?xca_FurrowError ?kc_FurrowError ?xin_FurrowError ?xga_NoText ?xgh_NoText ?xbe_NoText ?xsa_NoText ?xhd_NoText ?qmt_NoText ?xob_NoText ?qct_NoText ?xca_NoText ?kc_NoText ?n_NoText_line ?dnd ?xbg ?xbr ?xbf ?z_abs ?z_all ?z_bool ?z_enumerate ?z_int ?z_isinstance ?z_len ?z_list ?z_max ?z_range ?z_str ?z_tuple ?g_FIGURES ?g_LEAST_SIZE ?g_LETTERS ?g_MOST_DEEDS ?g_MOST_FIGURES ?g_MOST_LETTERS ?g_MOST_LOOPS ?g_MOST_SPOTS ?g_ROW_WORDS ?q_ROW_WORDS ?g_SIGNS ?g_STRENGTHS ?q_STRENGTHS ?hh_STRENGTHS0 ?hh_STRENGTHS1 ?hh_STRENGTHS2 ?hh_STRENGTHS3 ?qsm_STRENGTHS
  any_goals first|refine'⟨?_,L2.fun_mk ?_ ?_ ?_⟩|refine'⟨?_,?_,L2.fun_mk ?_ ?_ ?_⟩|refine' Fw.ClA.mk ?_ ?_ ?_ ?_ ?_ ?_ ?_
  any_goals first|k_is|kit_is|exact rfl|kernel_rfl|decide
#print axioms PySem.Challenge.cw_furrow_k28_what_lacks_at_the_end_holds
