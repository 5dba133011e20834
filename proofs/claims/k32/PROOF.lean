import PyProof.Rows.All
import Wide.All
import OpenK.AllK
import Wide.FinOn
import Lean
import PyProof.EqAt
import PyProof.EqKinds
import PyProof.TupleCall
import PyProof.ListMulRoad
import PyProof.DictItems
import KE.KItemsList
import PySem.Challenge.RW_furrow_k32_too_many
set_option genSizeOf false
set_option compiler.extract_closed false
set_option Elab.async false
set_option linter.all false
set_option maxRecDepth 100000
set_option maxHeartbeats 4000000
noncomputable section
abbrev XJ:=PySem.W.Frag
def A5:=@PySem.wpAny_bind
def Ac:=@List.length_append
def Ae:=@if_neg
def Ah:=@if_pos
def Al:=@PySem.wpAny_pure
def An:=@Nat.le_refl
def Ao:=@List.length_map
def AD:=@PySem.Heap.lt_size
def AE:=@List.mem_cons
def AH:=@PySem.W.mg_of
def AI:=@PySem.Heap.get?_push_of_some
def AN:=@List.length_singleton
def AW:=@List.mem_map
def AX:=@List.mem_cons_self
def AZ:=@Option.some.inj
def B1:=@List.mem_cons_of_mem
def B5:=@List.size_toArray
def B6:=@List.length_cons
def B7:=@Int.emod_nonneg
def B8:=@Int.emod_lt_of_pos
def Be:=@List.getElem?_eq_getElem
def Bl:=@Nat.le_trans
def Br:=@Nat.ne_of_lt
def Bu:=@List.map_cons
def Bv:=@List.map_append
def BE:=@Nat.lt_of_lt_of_le
def BF:=@Nat.zero_le
def BG:=@List.length_take
def BK:=@List.mem_append_right
def BR:=@List.getElem?_eq_some_iff
def BV:=@PySem.Heap.get?_push_size
def BW:=@List.mem_singleton
def C1:=@List.getElem?_map
def Cb:=@List.sum_cons
def Cc:=@decide_eq_true
def Cj:=@List.mem_append
def Ck:=@List.mem_append_left
def Cw:=@decide_eq_false
def CL:=@List.take_append_of_le_length
def CM:=@PySem.wpAny_mono
def CV:=@List.getD_eq_getElem?_getD
def CY:=@List.not_mem_nil
def CZ:=@Nat.lt_or_ge
def D8:=@Nat.ne_of_gt
def Di:=@List.mem_range
def Dj:=@PySem.wpAny_field
def Dv:=@Nat.lt_irrefl
def Dy:=@List.take_of_length_le
def Dz:=@List.length_range
def DA:=@Nat.le_add_right
def DG:=@Bool.false_ne_true
def DH:=@List.mem_of_getElem?
def DT:=@List.append_nil
def DU:=@List.getElem?_append_right
def DV:=@List.take_length
def DW:=@List.pairwise_cons
def DX:=@List.map_map
def Ei:=@List.append_assoc
def EA:=@PySem.F.plainAttrs_list
def EB:=@PySem.F.slot_list_append
def EC:=@PySem.F.type_list_append
def ET:=@Nat.le_of_lt
def EU:=@Bool.and_eq_true
def EV:=@Nat.sub_self
def EW:=@PySem.W.mg_none_of
def EY:=@PySem.wpAny_holding
def Fj:=@List.getElem?_append_left
def Fk:=@PySem.Heap.get?_update_other
def Fl:=@List.mem_flatMap
def Fm:=@PySem.wpAny_Call_Name_kw
def Fn:=@PySem.call_meets
def FS:=@PyProof.Rows.callWith_type1
def FT:=@List.nodup_cons
def FU:=@Int.toNat_natCast
def FV:=@List.lookup_cons
def FW:=@List.getElem_mem
def FX:=@List.pairwise_append
def FY:=@List.cons.inj
def FZ:=@if_true
def GA:=@Bool.eq_iff_iff
def GB:=@Nat.le_succ
def GC:=@List.map_take
def GD:=@beq_iff_eq
def GE:=@PySem.wpAny_call
def GF:=@PySem.wpAny_newObj_type
def Ho:=@PySem.Heap.size_push
def Hq:=@Nat.lt_of_succ_lt_succ
def Hr:=@List.sum_nil
def Hs:=@Nat.succ_pos
def Ht:=@beq_eq_false_iff_ne
def Hu:=@PySem.wpAny_passesOwn
def Hv:=@if_false
def Hw:=@PySem.wpAny_call_entry
def Hx:=@PySem.wpAny_seqItems
def Hy:=@PySem.wpAny_setField_rec
def Hz:=@PySem.wpAny_loadPart_at
def IV:=@List.getElem?_take_of_lt
def IW:=@List.any_cons
def IX:=@List.find?_cons
def IY:=@List.getElem?_range
def IZ:=@List.take_zero
def J0:=@List.drop_eq_getElem_cons
def J3:=@List.mem_iff_getElem?
def J4:=@Nat.not_lt_zero
def J5:=@Int.natCast_add
def J6:=@PySem.wpAny_truthy_bool
def J7:=@PySem.codeAny_mono
def J8:=@of_decide_eq_true
def Kt:=@Nat.lt_succ_self
def Ku:=@PySem.mem_of_lookup
def Kv:=@List.length_drop
def Kw:=@List.map_nil
def Kx:=@List.nodup_nil
def Ky:=@Nat.min_eq_left
def Kz:=@PySem.Heap.get?_update_self
def KA:=@List.pairwise_iff_getElem
def KB:=@List.append_inj'
def KC:=@Int.le_refl
def KD:=@Int.mul_nonneg
def KF:=@Int.add_mul
def KG:=@List.mem_of_mem_take
def KH:=@PySem.wpAny_execs_nil
def KI:=@PySem.sizeLine_eq
def KJ:=@PySem.wpAny_typeOf
def KL:=@PySem.wpAny_standAt
def KM:=@PySem.wpAny_setField
def KN:=@PySem.wpAny_attempt
def M6:=@List.getElem?_set_self
def M7:=@Array.length_toList
def M8:=@PySem.W.callWith_K
def M9:=@List.of_mem_zip
def Ma:=@PyProof.Rows.slot_tuple_getitem
def Mb:=@Option.map_some
def Mc:=@Option.map_eq_some_iff
def Md:=@Nat.lt_of_le_of_lt
def Me:=@List.forIn_cons
def Mf:=@List.map_congr_left
def Mg:=@PySem.Heap.SameBut.update
def Mh:=@Nat.lt_or_eq_of_le
def Mi:=@Bool.false_eq_true
def Mj:=@Nat.le_of_succ_le_succ
def Ml:=@List.pairwise_map
def Mm:=@List.getElem?_take
def Mn:=@List.take_take
def Mo:=@Prod.mk.inj
def Mp:=@List.eq_nil_of_length_eq_zero
def Mq:=@Int.natCast_nonneg
def Mr:=@List.flatMap_cons
def Ms:=@Array.getElem?_eq_some_iff
def Mt:=@PySem.Value.ref.inj
def Mu:=@List.drop_length
def Mv:=@List.flatMap_append
def Mw:=@PySem.wpAny_isSubtype_exc
def Ph:=@List.filterMap_cons
def Pi:=@List.getElem?_set_ne
def Pj:=@PySem.W.any_some
def Pk:=@PySem.W.cellsFrom_some
def Pn:=@List.length_replicate
def Po:=@PySem.F.slot_tuple_add
def Pq:=@PySem.F.entry_tuple_add
def Pr:=@PySem.F.args_tuple_add_2
def Pt:=@PySem.Heap.DictOf.new
def Pu:=@List.any_eq_true
def Px:=@List.mem_iff_getElem
def Py:=@Array.getElem?_eq_getElem
def Pz:=@List.find?_cons_of_neg
def PB:=@List.getLast?_append
def PC:=@List.pairwise_flatMap
def PD:=@List.length_flatMap
def PF:=@Int.mul_le_mul_of_nonneg_right
def PJ:=@Nat.pow_le_pow_right
def PK:=@List.sum_append
def PL:=@List.range_succ
def PM:=@PySem.wpAny_pyIter_tuple
def PN:=@PySem.noFill_tuple_add
def PP:=@decide_eq_true_eq
def PQ:=@PySem.wpAny_isInstance
def PR:=@PySem.wpAny_pyIter_zip
def PU:=@PySem.codeAny_call_builtin
def PX:=@PySem.wpAny_dictEpoch
def PY:=@PySem.wpAny_isOneOf_valiter
def XH:=@PySem.wpAny_typeNameOfWhole_valiter
namespace L2
open PySem PySem.Spec PyProof.Rows
abbrev Ap:=Sum Int Str
def GW:Ap->Value->Bool
 |.inl k,v=>Value.isInt k v
 |.inr x,v=>Value.isStrOf x v
def T1 (w:World):Ap->Int
 |.inl k=>hashInt k
 |.inr x=>hashStr w x
theorem F6:∀{k:Ap} {v:Value},GW k v=true->(∃i t,k=Sum.inl i/\v=Value.int i t)\/(∃x t,k=Sum.inr x/\v=Value.str x t)
 |
  .inl i,v,h=>by
  obtain⟨t,e⟩:=Value.isInt_shape (k:=i) (v:=v) h
  exact .inl ⟨i,t,rfl,e⟩
 |
  .inr x,v,h=>by
  obtain⟨t,e⟩:=Value.isStrOf_shape (x:=x) (v:=v) h
  exact .inr ⟨x,t,rfl,e⟩
theorem WS (i:Int)(t:Tok):GW (.inl i) (.int i t)=true:=by simp[GW,Value.isInt]
theorem UF (x:Str)(t:Tok):GW (.inr x) (.str x t)=true:=by simp[GW,Value.isStrOf]
theorem Ug (a b:Int):decide ((Sum.inl a:Ap)=Sum.inl b)=(a==b):=by
 by_cases e:a=b
 .subst e;simp
 .have h:¬(Sum.inl a:Ap)=Sum.inl b:=fun q=>e (Sum.inl.inj q)
  rw[Cw h]
  exact(Ht.mpr e).symm
theorem TY (a b:Str):decide ((Sum.inr a:Ap)=Sum.inr b)=decide (a=b):=by
 by_cases e:a=b
 .subst e;simp
 .have h:¬(Sum.inr a:Ap)=Sum.inr b:=fun q=>e (Sum.inr.inj q)
  rw[Cw h,Cw e]
theorem Rm (a:Int)(b:Str):decide ((Sum.inl a:Ap)=Sum.inr b)=false:=Cw (fun q=>nomatch q)
theorem Ub (a:Str)(b:Int):decide ((Sum.inr a:Ap)=Sum.inl b)=false:=Cw (fun q=>nomatch q)
def C5 (prog:Program)(w:World):PySem.KeyKind prog w Ap where
 is:=GW
 hash:=T1 w
 inj:=fun v a b ha hb=>by
  rcases F6 ha with⟨i,t,rfl,rfl⟩|⟨x,t,rfl,rfl⟩
  .rcases F6 hb with⟨j,u,rfl,e⟩|⟨y,u,rfl,e⟩
   .injection e with e1 _;rw[e1]
   .exact nomatch e
  .rcases F6 hb with⟨j,u,rfl,e⟩|⟨y,u,rfl,e⟩
   .exact nomatch e
   .injection e with e1 _;rw[e1]
 byValue:=fun k v h=>by
  rcases F6 h with⟨i,t,rfl,rfl⟩|⟨x,t,rfl,rfl⟩<;>rfl
 pyHash:=fun hv h=>by
  rcases F6 hv with⟨i,t,rfl,rfl⟩|⟨x,t,rfl,rfl⟩
  .exact wpAny_pyHash_int h
  .exact wpAny_pyHash_str h
 eqBool:=fun hu hv h=>by
  rcases F6 hu with⟨i,t,rfl,rfl⟩|⟨x,t,rfl,rfl⟩
  .rcases F6 hv with⟨j,u,rfl,rfl⟩|⟨y,u,rfl,rfl⟩
   .rw[Ug]at h;exact wpAny_eqBool_int h
   .rw[Rm]at h;exact SeqAt.EqAt.int_str i t y u _ _ _ _ h
  .rcases F6 hv with⟨j,u,rfl,rfl⟩|⟨y,u,rfl,rfl⟩
   .rw[Ub]at h;exact SeqAt.EqAt.str_int x t j u _ _ _ _ h
   .rw[TY]at h;exact wpAny_eqBool_str h
 «strs» := fun k x t v h=>by
  rcases F6 h with⟨i,u,rfl,e⟩|⟨y,u,rfl,e⟩
  .exact nomatch e
  .injection e with e1 _
   subst e1
   cases v<;>rfl
theorem Tj (prog:Program)(w:World)(i:Int)(t:Tok):(C5 prog w).is (.inl i) (.int i t)=true:=WS i t
theorem R4 (prog:Program)(w:World)(x:Str)(t:Tok):(C5 prog w).is (.inr x) (.str x t)=true:=UF x t
inductive V where
 |non|bl (b:Bool)|int (i:Int)|str (x:Str)|byt (b:Array UInt8)|flt (b:UInt64)|ref (a:Addr)|ty (n:String)
 deriving DecidableEq
def Ax:V->Value->Prop
 |.non,u=>u=Value.none
 |.bl b,u=>u=Value.bool b
 |.int i,u=>∃t,u=Value.int i t
 |.str x,u=>∃t,u=Value.str x t
 |.byt b,u=>∃t,u=Value.bytes b t
 |.flt b,u=>∃t,u=Value.float b t
 |.ref a,u=>u=Value.ref a
 |.ty n,u=>u=Value.type n
abbrev Aw:List V->List Value->Prop:=Paired Ax
theorem Aw.length {xs:List V}{us:List Value}(r:Aw xs us):xs.length=us.length:=Paired.length r
theorem Aw.get:∀{xs:List V} {us:List Value} {i:Nat} {x:V},Aw xs us->xs[i]?=some x->∃u,us[i]?=some u/\Ax x u
 |_,_,_,_,.nil,e=>by simp at e
 |_,_,0,_,.cons r _,e=>by simp at e;subst e;exact⟨_,rfl,r⟩
 |
  _,_,i+1,x,.cons _ t,e=>by
  obtain⟨u,h1,h2⟩:=Aw.get (i:=i) (x:=x) t (by simpa using e)
  exact⟨u,by simpa using h1,h2⟩
theorem Aw.append:∀{xs ys:List V} {us ws:List Value},Aw xs us->Aw ys ws->Aw (xs++ys) (us++ws)
 |_,_,_,_,.nil,s=>s
 |_,_,_,_,.cons r t,s=>.cons r (Aw.append t s)
theorem Aw.take:∀{xs:List V} {us:List Value} (n:Nat),Aw xs us->Aw (xs.take n) (us.take n)
 |_,_,0,_=>.nil
 |_,_,_+1,.nil=>.nil
 |_,_,n+1,.cons r t=>.cons r (Aw.take n t)
theorem Aw.drop:∀{xs:List V} {us:List Value} (n:Nat),Aw xs us->Aw (xs.drop n) (us.drop n)
 |_,_,0,r=>r
 |_,_,_+1,.nil=>.nil
 |_,_,n+1,.cons _ t=>Aw.drop n t
def DO:Option V->Option Value->Prop
 |some v,some u=>Ax v u
 |none,none=>True
 |_,_=>False
def KV {κ:Type}:List (κ×V)->List (κ×Value)->Prop:=Paired fun(p:κ×V) (q:κ×Value)=>p.1=q.1/\Ax p.2 q.2
def kV:Ap->V
 |.inl i=>.int i
 |.inr x=>.str x
inductive HO where
 |lst (xs:List V)
 |tup (xs:List V)
 |dK (kvs:List (Ap×V))|dT (kvs:List (List Ap×V))
 |set (S:Int->Bool) (n:Nat)
 |ins (C dx:Addr) (fs:List (Str×V))
 |own (x:Addr)
 |xd (fs:List (Str×V))
 |met (f x:Addr)
 |rng (lo hi:Int)
 |frz (o:Obj) (u:HO)
 |tbl (ps:Array Value)
 |ext (φ:Heap->Prop)
abbrev Hp:=Addr->Option HO
def upd (H:Hp)(a:Addr)(o:HO):Hp:=fun b=>if b=a then some o else H b
theorem A6 {H:Hp}{a:Addr}{o:HO}:upd H a o a=some o:=by unfold upd;rw[Ah rfl]
theorem Ag {H:Hp}{a b:Addr}{o:HO}(h:b≠a):upd H a o b=H b:=by unfold upd;rw[Ae h]
theorem LD {H:Hp}{a:Addr}{o u:HO}:upd (upd H a o) a u=upd H a u:=by
 funext b;unfold upd;split<;>rfl
theorem Jl {H:Hp}{a b:Addr}{o u:HO}(h:H a=some o)(h':H b=some u)(d:o≠u):a≠b:=by
 intro e;subst e;rw[h]at h';exact d (AZ h')
theorem Az {H:Hp}{a b:Addr}{o:HO}(h:H a=some o)(h':H b=none):a≠b:=by
 intro e;subst e;rw[h]at h';cases h'
section
variable (P:Program)(w:World)
def EH (h:Heap)(a:Addr)(its:Array Value):Prop := ∃o,h.get? a=some o/\o.cls = .type "tuple"/\(∃n,o.data = .seq its n)/\o.dict=none
theorem EH.tup {h:Heap}{a:Addr}{its:Array Value}(x:EH h a its):IsTup h a its:=let ⟨o,e,c,d,_⟩:=x;⟨o,e,c,d⟩
theorem EH.new (h:Heap)(its:Array Value):EH (h.push {cls:=.type "tuple",data:=.seq its}) h.objs.size its:=⟨_,BV _ rfl,rfl,⟨_,rfl⟩,rfl⟩
def Bw (H:Hp)(h:Heap)(a:Addr):HO->Prop
 |.lst xs=>xs.length<=sizeLine/\∃(its:List Value) (n:Nat),Aw xs its/\h.get? a=some {cls:=.type "list",data:=.seq its.toArray n}
 |.tup xs=>xs.length<=sizeLine/\∃its:List Value,Aw xs its/\EH h a its.toArray
 |.dK kvs=>kvs.length<=sizeLine/\(a==sysModules)=false/\∃vs,KV kvs vs/\h.DictOf (C5 P w) a vs
 |.dT kvs=>kvs.length<=sizeLine/\(a==sysModules)=false/\∃xs:List (List Ap×Addr×Value),
  Paired (fun(p:List Ap×V) (q:List Ap×Addr×Value)=>p.1=q.1/\H q.2.1=some (.tup (p.1.map kV))/\Ax p.2 q.2.2) kvs xs/\
  ∃o es ep,h.get? a=some o/\o.ExactDict/\o.data = .dict es ep/\es.toList=xs.map (entryOfKey (tupleKind (C5 P w)))/\(xs.map (·.1)).Nodup
 |.set S n=>h.SetOf (intKind P w) a S n
 |.ins C dx fs=>H dx=some (.own a)/\fs.length<=1000/\dx≠a/\h.get? a=some (PySem.W.instObj C dx)/\
  ∃mA,h.Ns1 dx mA/\(∀f,DO (fs.lookup f) (mA f))/\PySem.Within mA (fs.map (·.1))
 |.own _=>∃o,h.get? a=some o
 |.xd fs=>∃mA,h.Ns1 a mA/\∀f,DO (fs.lookup f) (mA f)
 |.rng lo hi=>∃t u v,h.get? a=some {cls:=.type "range",data:=.fields #[.int lo t,.int hi u,.int 1 v]}
 |.frz o u=>h.get? a=some o/\Bw H h a u
 |.tbl ps=>h.get? a=some {cls:=.none,data:=.fields ps}
 |.met f x=>h.get? a=some (PySem.W.methodObj (.ref f) (.ref x))
 |.ext φ=>φ h/\(∃o,h.get? a=some o)/\∀h1 h2:Heap,φ h1->(∀o,h1.get? a=some o->h2.get? a=some o)->φ h2
def B4 (H:Hp)(h:Heap):Prop := ∀a o,H a=some o->Bw P w H h a o
end
section
variable {P:Program}{w:World}{H H':Hp}{h h':Heap}{a:Addr}{o:HO}
theorem Bw.lt (x:Bw P w H h a o):a<h.objs.size:=by
 cases o with
 |lst xs=>obtain⟨_,_,_,_,e⟩:=x;exact AD e
 |tup xs=>obtain⟨_,_,_,p⟩:=x;exact p.tup.lt
 |dK kvs=>obtain⟨_,_,_,_,o,_,_,e,_⟩:=x;exact AD e
 |dT kvs=>obtain⟨_,_,_,_,o,_,_,e,_⟩:=x;exact AD e
 |set S n=>obtain⟨o,_,_,_,e,_⟩:=x;exact AD e
 |ins C dx fs=>obtain⟨_,_,_,e,_⟩:=x;exact AD e
 |own y=>obtain⟨_,e⟩:=x;exact AD e
 |xd fs=>obtain⟨_,⟨_,_,_,e,_⟩,_⟩:=x;exact AD e
 |rng lo hi=>obtain⟨_,_,_,e⟩:=x;exact AD e
 |frz ob u=>obtain⟨e,_⟩:=x;exact AD e
 |tbl ps=>exact AD (show h.get? a=some _ from x)
 |met f y=>exact AD (show h.get? a=some _ from x)
 |ext φ=>obtain⟨_,⟨_,e⟩,_⟩:=x;exact AD e
theorem Paired.mapP {α β:Type}{F G:α->β->Prop}:∀{l₁:List α} {l₂:List β},Paired F l₁ l₂->(∀a b,F a b->G a b)->Paired G l₁ l₂
 |_,_,.nil,_=>.nil
 |_,_,.cons r t,f=>.cons (f _ _ r) (Paired.mapP t f)
theorem Bw.stay (x:Bw P w H h a o)(k:∀b u,(b=a\/H b=some (.own a))->h.get? b=some u->h'.get? b=some u)
  (ho:∀b,H b=some (.own a)->H' b=some (.own a)) (ht:∀b xs,H b=some (.tup xs)->H' b=some (.tup xs)):Bw P w H' h' a o:=by
 induction o with
 |lst xs=>obtain⟨z,its,n,r,e⟩:=x;exact⟨z,its,n,r,k _ _ (.inl rfl) e⟩
 |tup xs=>obtain⟨z,its,r,ob,e,c⟩:=x;exact⟨z,its,r,ob,k _ _ (.inl rfl) e,c⟩
 |dK kvs=>obtain⟨z,y,vs,r,ob,es,ep,e,c⟩:=x;exact⟨z,y,vs,r,ob,es,ep,k _ _ (.inl rfl) e,c⟩
 |
  dT kvs=>
  obtain⟨z,y,xs,r,ob,es,ep,e,c⟩:=x
  exact⟨z,y,xs,Paired.mapP r fun p q z=>⟨z.1,ht _ _ z.2.1,z.2.2⟩,ob,es,ep,k _ _ (.inl rfl) e,c⟩
 |set S n=>obtain⟨ob,es,ep,t,e,c⟩:=x;exact⟨ob,es,ep,t,k _ _ (.inl rfl) e,c⟩
 |
  ins C dx fs=>
  obtain⟨d,z,ne,e,mA,⟨od,es,ep,e2,c⟩,r⟩:=x
  exact⟨ho _ d,z,ne,k _ _ (.inl rfl) e,mA,⟨od,es,ep,k _ _ (.inr d) e2,c⟩,r⟩
 |own y=>obtain⟨ob,e⟩:=x;exact⟨ob,k _ _ (.inl rfl) e⟩
 |xd fs=>obtain⟨mA,⟨od,es,ep,e,c⟩,r⟩:=x;exact⟨mA,⟨od,es,ep,k _ _ (.inl rfl) e,c⟩,r⟩
 |rng lo hi=>obtain⟨t,u,v,e⟩:=x;exact⟨t,u,v,k _ _ (.inl rfl) e⟩
 |frz ob u ih=>obtain⟨e,q⟩:=x;exact⟨k _ _ (.inl rfl) e,ih q⟩
 |
  tbl ps=>
  have e:h.get? a=some {cls:=.none,data:=.fields ps}:=x
  show h'.get? a=some {cls:=.none,data:=.fields ps}
  exact k a _ (.inl rfl) e
 |
  met f y=>
  have e:h.get? a=some (PySem.W.methodObj (.ref f) (.ref y)):=x
  show h'.get? a=some (PySem.W.methodObj (.ref f) (.ref y))
  exact k a _ (.inl rfl) e
 |ext φ=>obtain⟨p,⟨o,e⟩,st⟩:=x;exact⟨st _ _ p fun o q=>k _ _ (.inl rfl) q,⟨o,k _ _ (.inl rfl) e⟩,st⟩
theorem B4.lt (x:B4 P w H h)(e:H a=some o):a<h.objs.size:=(x a o e).lt
theorem B4.fresh (x:B4 P w H h)(e:h.objs.size<=a):H a=none:=by
 cases q:H a with
 |none=>rfl
 |some u=>exact absurd (BE (x.lt q) e) (Dv _)
theorem B4.kept (x:B4 P w H h)(k:∀b u,h.get? b=some u->h'.get? b=some u):B4 P w H h':=fun a o e=>
 (x a o e).stay (fun b u _ q=>k b u q) (fun _ q=>q) fun _ _ q=>q
theorem B4.laid (x:B4 P w H h)(k:∀b u,h.get? b=some u->h'.get? b=some u)(hp:h.objs.size<=a)(new:Bw P w (upd H a o) h' a o):B4 P w (upd H a o) h':=fun b u e=>by
 have hn:=x.fresh hp
 by_cases hb:b=a
 .subst hb;rw[A6]at e;cases e;exact new
 .rw[Ag hb]at e
  exact(x b u e).stay (fun c v _ q=>k c v q) (fun c q=>by rw[Ag (Az q hn)];exact q) fun c xs q=>by rw[Ag (Az q hn)];exact q
end
def Rd (H:Hp)(a:Addr)(u:HO):Prop:=H a=some u\/∃o,H a=some (.frz o u)
theorem Rd.ok {P:Program}{w:World}{H:Hp}{h:Heap}{a:Addr}{u:HO}(r:Rd H a u)(x:B4 P w H h):Bw P w H h a u:=by
 rcases r with r|⟨o,r⟩
 .exact x a u r
 .obtain⟨_,q⟩:=x a _ r
  exact q
def IQ:Option HO->Prop
 |some (.lst _)=>True
 |some (.dK _)=>True
 |some (.dT _)=>True
 |some (.set _ _)=>True
 |some (.ins _ _ _)=>True
 |some (.ext _)=>True
 |_=>False
section
variable {P:Program}{w:World}{H:Hp}{h h':Heap}{x e:Addr}{o':HO}
theorem B4.write (ok:B4 P w H h)(mu:IQ (H x))(he:e=x\/H e=some (.own x))(k:∀b u,b≠e->h.get? b=some u->h'.get? b=some u)(heo:∃u,h'.get? e=some u)
  (new:Bw P w (upd H x o') h' x o'):B4 P w (upd H x o') h':=fun b u q=>by
 have nown:∀c y,H c=some (.own y)->c≠x:=fun c y r z=>by subst z;rw[r]at mu;exact mu
 have ntup:∀c xs,H c=some (.tup xs)->c≠x:=fun c xs r z=>by subst z;rw[r]at mu;exact mu
 by_cases hb:b=x
 .subst hb;rw[A6]at q;cases q;exact new
 .rw[Ag hb]at q
  by_cases hbe:b=e
  .have q':H b=some (.own x):=by
    rcases he with z|z
    .exact absurd (hbe.trans z) hb
    .rw[hbe];exact z
   rw[q]at q';cases q'
   obtain⟨v,hv⟩:=heo
   exact⟨v,by rw[hbe];exact hv⟩
  .refine(ok b u q).stay (fun c v hc r=>k c v ?_ r) (fun c r=>by rw[Ag (nown c b r)];exact r) fun c xs r=>by rw[Ag (ntup c xs r)];exact r
   rcases hc with rfl|hc
   .exact hbe
   .rintro rfl
    rcases he with z|z
    .exact nown c b hc z
    .rw[hc]at z;cases z;exact hb rfl
end
structure Un (fs ex:List Addr)(H H':Hp)(h h':Heap):Prop where
 keep:∀b o,h.get? b=some o->H b=none->b∉fs->b∉ex->h'.get? b=some o
 slot:∀b o,h.get? b=some o->H b=none->b∈fs->b∉ex->∃sl,h'.get? b=some {o with slots:=sl}
 free:∀b o,h.get? b=some o->H b=none->b∉ex->H' b=none
 there:∀b o,h.get? b=some o->b∉ex->∃o',h'.get? b=some o'
 tups:∀b xs,H b=some (.tup xs)->H' b=some (.tup xs)
 frzs:∀b o u,H b=some (.frz o u)->H' b=some (.frz o u)
 tbls:∀b ps,H b=some (.tbl ps)->∃more,H' b=some (.tbl (ps++more))
section
variable {fs fs' ex ex':List Addr}{H H1 H2:Hp}{h h1 h2 h':Heap}{a x e:Addr}{o:HO}
theorem Un.any (u:Un fs ex H H1 h h1){b:Addr}{ob:Obj}(q:h.get? b=some ob)(n:H b=none)(hx:b∉ex):∃sl,h1.get? b=some {ob with slots:=sl}:=by
 by_cases hb:b∈fs
 .exact u.slot b ob q n hb hx
 .exact⟨ob.slots,u.keep b ob q n hb hx⟩
theorem Un.kept (k:∀b u,h.get? b=some u->h'.get? b=some u):Un fs ex H H h h':=
 ⟨fun b ob q _ _ _=>k b ob q,fun b ob q _ _ _=>⟨ob.slots,k b ob q⟩,fun _ _ _ n _=>n,fun b ob q _=>⟨ob,k b ob q⟩,fun _ _ q=>q,fun _ _ _ q=>q,fun _ ps q=>⟨#[],by rw[q];simp⟩⟩
theorem Un.refl:Un fs ex H H h h:=Un.kept fun _ _ q=>q
theorem Un.laid (k:∀b u,h.get? b=some u->h'.get? b=some u)(hp:h.objs.size<=a)(hn:H a=none):Un fs ex H (upd H a o) h h' where
 keep:=fun b u q _ _ _=>k b u q
 slot:=fun b u q _ _ _=>⟨u.slots,k b u q⟩
 free:=fun b u q n _=>by rw[Ag (Br (BE (AD q) hp))];exact n
 there:=fun b u q _=>⟨u,k b u q⟩
 tups:=fun b xs q=>by rw[Ag (Az q hn)];exact q
 frzs:=fun b u xs q=>by rw[Ag (Az q hn)];exact q
 tbls:=fun b ps q=>⟨#[],by rw[Ag (Az q hn),q];simp⟩
theorem Un.write (mu:IQ (H x))(he:e=x\/H e=some (.own x))(k:∀b u,b≠e->h.get? b=some u->h'.get? b=some u)(heo:∃u,h'.get? e=some u):Un fs ex H (upd H x o) h h':=by
 have hx:∀b,H b=none->b≠x:=fun b n z=>by subst z;rw[n]at mu;exact mu
 have hb:∀b,H b=none->b≠e:=fun b n z=>by
  subst z
  rcases he with r|r
  .exact hx b n r
  .rw[n]at r;cases r
 have hm:∀b u,H b=some u->¬IQ (some u)->b≠x:=fun b u q nm z=>by subst z;rw[q]at mu;exact nm mu
 refine⟨fun b u q n _ _=>k b u (hb b n) q,fun b u q n _ _=>⟨u.slots,k b u (hb b n) q⟩,fun b u q n _=>by rw[Ag (hx b n)];exact n,fun b u q _=>?_,
  fun b xs q=>by rw[Ag (hm b _ q fun z=>z)];exact q,fun b u xs q=>by rw[Ag (hm b _ q fun z=>z)];exact q,fun b ps q=>⟨#[],by rw[Ag (hm b _ q fun z=>z),q];simp⟩⟩
 by_cases hbe:b=e
 .subst hbe;exact heo
 .exact⟨u,k b u hbe q⟩
end
def JO (h:Heap)(H:Hp):List Addr:=(List.range h.objs.size).filter fun a=>(H a).isSome
def Fc (h:Heap)(H:Hp):Heap:=PySem.W.hideAll h (JO h H)
theorem To (h:Heap)(H:Hp):(Fc h H).objs.size=h.objs.size:=PySem.W.hideAll_size _ _
theorem Qn {h:Heap}{H:Hp}{b:Addr}{o:Obj}(e:h.get? b=some o)(n:H b=none):(Fc h H).get? b=some o:=
 PySem.W.hideAll_get _ e fun hm=>by
  have q:(H b).isSome=true:=(List.mem_filter.mp hm).2
  rw[n]at q;simp at q
theorem Sw {h:Heap}{H:Hp}{b:Addr}{o:Obj}(e:(Fc h H).get? b=some o):h.get? b=some o/\H b=none:=by
 have e':h.get? b=some o:=PySem.W.of_hideAll (JO h H) e
 refine⟨e',?_⟩
 cases q:H b with
 |none=>rfl
 |
  some x=>
  have hm:b∈JO h H:=List.mem_filter.mpr ⟨Di.mpr (AD e'),by simp[q]⟩
  have z:(Fc h H).get? b=none:=PySem.W.hideAll_none (JO h H) hm
  rw[z]at e;cases e
structure Mod (K:XJ)(mg:Str->Option Value)(base:Heap):Prop where
 kin:K.In base
 glob:base.Ns mainGlobals mg
 blt:∃mb,base.Ns builtinsNs mb/\∀x:Str,x≠"__name__"->mb x=bootBuiltins x
 nolimit:base.NoLimit
structure Cx where
 prog:Program
 w:World
 K:XJ
 mg:Str->Option Value
 base:Heap
 A:Around
 N:List Str
 s₀:Shared
 H₀:Hp
 env:Env
 outer:List Env
 stack:List Env
 ex:List Addr
 fn:Str->Bool
 calm:Bool
 pn:List (Addr×Obj)
 xe:Value->Shared->Prop
def Dq (l:List Env):List Addr:=l.filterMap (·.frame)
abbrev Cx.fs (X:Cx):List Addr:=Dq X.outer
def Kc (sc:Scope)(x:Str):Prop:=sc.names.lookup x=some .local\/sc.names.lookup x=some .cell\/sc.names.lookup x=some .free
def GM (sc:Scope)(x:Str):Prop:=sc.names.lookup x=some .local\/sc.names.lookup x=some .cell
def QW (env:Env)(h:Heap)(m:Str->Option Value)(x:Str)(u:Value):Prop:=
 (env.kindOf x=some .local/\m x=some u)\/((env.kindOf x=some .cell\/env.kindOf x=some .free)/\∃c,env.cells.lookup x=some c/\h.IsCell c (some u))
structure Cx.Ok (X:Cx):Prop where
 mod:Mod X.K X.mg X.base
 kind:X.env.scope.kind = .function
 glob:X.env.globals=mainGlobals
 blt:X.env.builtins=builtinsNs
 above:X.s₀.heap.objs.size<=X.env.locals
 inj:∀x y c,X.env.cells.lookup x=some c->X.env.cells.lookup y=some c->x=y
 has:∀x,(X.env.kindOf x=some .cell\/X.env.kindOf x=some .free)->∃c,X.env.cells.lookup x=some c
 cab:∀x c,X.fn x=true->X.env.cells.lookup x=some c->X.s₀.heap.objs.size<=c
 hd:X.calm=true->X.A.handled=none
 frames:X.A.frames=some X.stack
 stk:X.stack=X.outer\/(X.stack=X.env::X.outer/\X.env.frame=some X.env.locals)
 exf:∀b∈X.ex,b≠X.env.locals/\∀x c,X.env.cells.lookup x=some c->c≠b
 bs:∀b o,X.base.get? b=some o->X.s₀.heap.get? b=some o/\X.H₀ b=none
 bsz:X.base.objs.size<=X.s₀.heap.objs.size
 noex:∀b o,X.base.get? b=some o->b∉X.ex
 exfs:∀b∈X.ex,b∉X.fs
 funs:X.s₀.heap.FunFrames X.base X.outer
 frf:∀b∈X.fs,X.H₀ b=none
structure A2 (X:Cx)(pins:List (Addr×Obj))(σ:List (Option V))(H:Hp)(s:Shared):Prop where
 ok:X.Ok
 os:s.os=X.s₀.os
 bare:AllBare s.gens
 base:Un X.fs X.ex X.H₀ H X.s₀.heap s.heap
 loc:∃m,s.heap.Ns X.env.locals m/\∀(i:Nat) (x:Str) (v:V),X.N[i]?=some x->σ[i]?=some (some v)->Kc X.env.scope x->∃u,Ax v u/\QW X.env s.heap m x u
 cell:∀x c,X.env.cells.lookup x=some c->∃v,s.heap.IsCell c v
 free:H X.env.locals=none
 freeC:∀x c,X.env.cells.lookup x=some c->H c=none
 pin:∀p∈X.pn++pins,s.heap.get? p.1=some p.2/\H p.1=none/\p.1≠X.env.locals/\p.1∉X.fs/\∀v,p.2.data≠.cell v
 hok:B4 X.prog X.w H s.heap
 len:σ.length=X.N.length
section
variable {X:Cx}{pins:List (Addr×Obj)}{σ:List (Option V)}{H H':Hp}{s:Shared}{h':Heap}
theorem Cx.Ok.nofr (ok:X.Ok){b:Addr}{o:Obj}(e:X.base.get? b=some o):b∉X.fs:=fun hb=>by
 have:=(ok.funs.mem hb).1
 rw[e]at this;cases this
theorem A2.bs (I:A2 X pins σ H s):∀b o,X.base.get? b=some o->s.heap.get? b=some o/\H b=none:=fun b o e=>
 ⟨I.base.keep b o (I.ok.bs b o e).1 (I.ok.bs b o e).2 (I.ok.nofr e) (I.ok.noex b o e),I.base.free b o (I.ok.bs b o e).1 (I.ok.bs b o e).2 (I.ok.noex b o e)⟩
theorem A2.bk (I:A2 X pins σ H s):∀b o,X.base.get? b=some o->s.heap.get? b=some o:=fun b o e=>(I.bs b o e).1
theorem A2.mod (I:A2 X pins σ H s):Mod X.K X.mg X.base:=I.ok.mod
theorem A2.kIn (I:A2 X pins σ H s):X.K.In s.heap:=I.ok.mod.kin.keeps I.bk
theorem A2.lt (I:A2 X pins σ H s):X.env.locals<s.heap.objs.size:=let ⟨_,hn,_⟩:=I.loc;hn.lt
theorem A2.sz (I:A2 X pins σ H s):X.s₀.heap.objs.size<=s.heap.objs.size:=Bl I.ok.above (ET I.lt)
theorem A2.nofs (I:A2 X pins σ H s){a:Addr}(h:s.heap.objs.size<=a):a∉X.fs:=fun hb=>by
 obtain⟨_,o,ho,_⟩:=I.ok.funs.mem hb
 exact absurd (BE (AD ho) (Bl I.sz h)) (Dv _)
theorem A2.cne (I:A2 X pins σ H s):∀x c,X.env.cells.lookup x=some c->c≠X.env.locals:=fun x c e z=>by
 obtain⟨v,o,ho,hd⟩:=I.cell x c e
 obtain⟨m,⟨o',es,ep,ho',hd',_⟩,_⟩:=I.loc
 rw[z,ho']at ho;cases ho;rw[hd']at hd;cases hd
theorem A2.funs (I:A2 X pins σ H s):s.heap.FunFrames X.base X.outer:=by
 have all:∀(l:List Env),(∀b∈Dq l,b∈X.fs)->X.s₀.heap.FunFrames X.base l->s.heap.FunFrames X.base l:=by
  intro l
  induction l with
  |nil=>intro _ _;trivial
  |
   cons env r ih=>
   intro hs hl
   obtain⟨hk,⟨L,o,hf,hn,ho,hd⟩,hr⟩:=hl
   have hL:L∈X.fs:=hs L (by unfold Dq;rw[Ph,hf];exact AX)
   obtain⟨sl,e⟩:=I.base.slot L o ho (I.ok.frf L hL) hL fun z=>I.ok.exfs L z hL
   exact⟨hk,⟨L,_,hf,hn,e,hd⟩,ih (fun b hb=>hs b (by unfold Dq;rw[Ph,hf];exact B1 _ hb)) hr⟩
 exact all X.outer (fun _ hb=>hb) I.ok.funs
theorem A2.stack (I:A2 X pins σ H s):s.heap.FunFrames X.base X.stack:=by
 rcases I.ok.stk with e|⟨e,hf⟩
 .rw[e];exact I.funs
 .rw[e]
  obtain⟨m,hn,_⟩:=I.loc
  refine .cons (by rw[I.ok.kind];decide) hf hn ?_ I.funs
  exact Heap.get?_none_of_le (Bl I.ok.bsz I.ok.above)
theorem A2.stkSub (I:A2 X pins σ H s):∀b∈Dq X.stack,b∈X.env.locals::X.fs:=fun b hb=>by
 rcases I.ok.stk with e|⟨e,hf⟩
 .rw[e]at hb;exact B1 _ hb
 .rw[e]at hb
  unfold Dq at hb
  rw[Ph,hf]at hb
  exact hb
theorem A2.stkFree (I:A2 X pins σ H s):∀b∈Dq X.stack,H b=none:=fun b hb=>by
 rcases AE.mp (I.stkSub b hb) with e|hb
 .rw[e];exact I.free
 .obtain⟨_,o,ho,_⟩:=I.ok.funs.mem hb
  exact I.base.free b o ho (I.ok.frf b hb) fun z=>I.ok.exfs b z hb
theorem A2.step {g':Array GenState}{t':Nat}{d':Drawn}{ch:List Addr}(I:A2 X pins σ H s)
  (hch:∀b∈ch,(b∈X.ex\/X.s₀.heap.objs.size<=b)/\b≠X.env.locals/\(∀x c,X.env.cells.lookup x=some c->c≠b)/\∀p∈X.pn++pins,p.1≠b)
  (keep:∀b o,b≠X.env.locals->b∉X.fs->b∉ch->s.heap.get? b=some o->H b=none->h'.get? b=some o)
  (slot:∀b o,b≠X.env.locals->b∈X.fs->b∉ch->s.heap.get? b=some o->H b=none->∃sl,h'.get? b=some {o with slots:=sl}) (free:∀b o,b∉ch->s.heap.get? b=some o->H b=none->H' b=none)
  (there:∀b o,b∉ch->s.heap.get? b=some o->∃o',h'.get? b=some o')
  (tups:∀b xs,H b=some (.tup xs)->H' b=some (.tup xs)) (frzs:∀b o u,H b=some (.frz o u)->H' b=some (.frz o u)) (tbls:∀b ps,H b=some (.tbl ps)->∃more,H' b=some (.tbl (ps++more)))
  (ns:∀m,s.heap.Ns X.env.locals m->h'.Ns X.env.locals m) (hok:B4 X.prog X.w H' h') (hg:AllBare g') :
  A2 X pins σ H' {s with heap:=h',gens:=g',drawn:=d',toks:=t'}:=by
 have neL:∀b o,X.s₀.heap.get? b=some o->b≠X.env.locals:=fun b o e=>Br (BE (AD e) I.ok.above)
 have neC:∀b o,X.s₀.heap.get? b=some o->b∉X.ex->b∉ch:=fun b o e hx hb=>by
  rcases(hch b hb).1 with z|z
  .exact hx z
  .exact absurd (BE (AD e) z) (Dv _)
 have cellK:∀x c,X.env.cells.lookup x=some c->∀v,s.heap.IsCell c v->h'.IsCell c v:=fun x c e v ⟨o,ho,hd⟩=>by
  have nch:c∉ch:=fun z=>(hch c z).2.2.1 x c e rfl
  by_cases hc:c∈X.fs
  .obtain⟨sl,q⟩:=slot c o (I.cne x c e) hc nch ho (I.freeC x c e)
   exact⟨_,q,hd⟩
  .exact⟨o,keep c o (I.cne x c e) hc nch ho (I.freeC x c e),hd⟩
 refine⟨I.ok,I.os,hg,⟨fun b o e n hb hx=>?_,fun b o e n hb hx=>?_,fun b o e n hx=>?_,fun b o e hx=>?_,fun b xs e=>tups b xs (I.base.tups b xs e),fun b o xs e=>frzs b o xs (I.base.frzs b o xs e),fun b ps e=>?_⟩,?_,fun x c e=>?_,?_,fun x c e=>?_,fun p hp=>?_,hok,I.len⟩
 .exact keep b o (neL b o e) hb (neC b o e hx) (I.base.keep b o e n hb hx) (I.base.free b o e n hx)
 .obtain⟨sl,e1⟩:=I.base.slot b o e n hb hx
  obtain⟨sl',e2⟩:=slot b _ (neL b o e) hb (neC b o e hx) e1 (I.base.free b o e n hx)
  exact⟨sl',e2⟩
 .obtain⟨o',e1⟩:=I.base.there b o e hx
  exact free b o' (neC b o e hx) e1 (I.base.free b o e n hx)
 .obtain⟨o',e1⟩:=I.base.there b o e hx
  exact there b o' (neC b o e hx) e1
 .obtain⟨m1,e1⟩:=I.base.tbls b ps e
  obtain⟨m2,e2⟩:=tbls b _ e1
  exact⟨m1++m2,by rw[e2,Array.append_assoc]⟩
 .obtain⟨m,hn,hl⟩:=I.loc
  refine⟨m,ns m hn,fun i x v e1 e2 e3=>?_⟩
  obtain⟨u,r,l⟩:=hl i x v e1 e2 e3
  refine⟨u,r,?_⟩
  rcases l with l|⟨k,c,e,z⟩
  .exact .inl l
  .exact .inr ⟨k,c,e,cellK x c e _ z⟩
 .obtain⟨v,z⟩:=I.cell x c e
  exact⟨v,cellK x c e v z⟩
 .obtain⟨m,⟨o,_,_,ho,_⟩,_⟩:=I.loc
  exact free _ o (fun z=>(hch _ z).2.1 rfl) ho I.free
 .obtain⟨v,o,ho,hd⟩:=I.cell x c e
  exact free c o (fun z=>(hch c z).2.2.1 x c e rfl) ho (I.freeC x c e)
 .obtain⟨e,n,ne,nf,d⟩:=I.pin p hp
  have nch:p.1∉ch:=fun z=>(hch p.1 z).2.2.2 p hp rfl
  exact⟨keep p.1 p.2 ne nf nch e n,free p.1 p.2 nch e n,ne,nf,d⟩
theorem A2.un {t':Nat}(I:A2 X pins σ H s)(u:Un X.fs [] H H' s.heap h')(hok:B4 X.prog X.w H' h'):A2 X pins σ H' {s with heap:=h',toks:=t'}:=by
 obtain⟨m,⟨o,es,ep,ho,r⟩,_⟩:=id I.loc
 obtain⟨sl,hL⟩:=u.any ho I.free (by simp)
 exact I.step (g':=s.gens) (d':=s.drawn) (ch:=[]) (fun _ z=>nomatch z) (fun b o _ hb _ e n=>u.keep b o e n hb (by simp)) (fun b o _ hb _ e n=>u.slot b o e n hb (by simp)) (fun b o _ e n=>u.free b o e n (by simp)) (fun b o _ e=>u.there b o e (by simp)) u.tups u.frzs u.tbls (fun m' hm=>by
  obtain⟨o',es',ep',ho',r'⟩:=hm
  rw[ho]at ho';cases ho'
  exact⟨_,es',ep',hL,r'⟩) hok I.bare
theorem A2.call {g':Array GenState}{t':Nat}{d':Drawn}{ch:List Addr}(I:A2 X pins σ H s)(u:Un (Dq X.stack) ch H H' s.heap h')(hok:B4 X.prog X.w H' h')(hg:AllBare g')
  (hch:∀b∈ch,(b∈X.ex\/X.s₀.heap.objs.size<=b)/\b≠X.env.locals/\(∀x c,X.env.cells.lookup x=some c->c≠b)/\∀p∈X.pn++pins,p.1≠b) :
  A2 X pins σ H' {s with heap:=h',gens:=g',drawn:=d',toks:=t'}:=by
 obtain⟨m,⟨o,es,ep,ho,r⟩,_⟩:=id I.loc
 obtain⟨sl,hL⟩:=u.any ho I.free fun z=>(hch _ z).2.1 rfl
 exact I.step (ch:=ch) hch (fun b o hL hb hc e n=>u.keep b o e n (fun z=>(AE.mp (I.stkSub b z)).elim hL hb) hc) (fun b o _ _ hc e n=>u.any e n hc) (fun b o hc e n=>u.free b o e n hc) (fun b o hc e=>u.there b o e hc) u.tups u.frzs u.tbls (fun m' hm=>by
  obtain⟨o',es',ep',ho',r'⟩:=hm
  rw[ho]at ho';cases ho'
  exact⟨_,es',ep',hL,r'⟩) hok hg
theorem A2.turned {t':Nat}{it:Addr}(I:A2 X pins σ H s)(k:∀b o,b≠it->s.heap.get? b=some o->h'.get? b=some o)(hn:H it=none)(hL:it≠X.env.locals)
  (h1:it∈X.ex\/X.s₀.heap.objs.size<=it) (h2:∀x c,X.env.cells.lookup x=some c->c≠it) (h3:∀p∈X.pn++pins,p.1≠it):A2 X pins σ H {s with heap:=h',toks:=t'}:=by
 have nit:∀b u,H b=some u->b≠it:=fun b u e z=>by rw[z,hn]at e;cases e
 refine I.step (g':=s.gens) (d':=s.drawn) (ch:=[it]) (fun b hb=>?_) (fun b o _ _ hc e _=>k b o (fun z=>hc (by simp[z])) e) (fun b o _ _ hc e _=>⟨o.slots,k b o (fun z=>hc (by simp[z])) e⟩) (fun _ _ _ _ n=>n)
  (fun b o hc e=>⟨o,k b o (fun z=>hc (by simp[z])) e⟩) (fun _ _ e=>e) (fun _ _ _ e=>e) (fun b ps e=>⟨#[],by rw[e];simp⟩) (fun m hm=>?_) (fun b u e=>?_) I.bare
 .have e:b=it:=by simpa using hb
  subst e
  exact⟨h1,hL,h2,h3⟩
 .obtain⟨o,es,ep,ho,r⟩:=hm
  exact⟨o,es,ep,k _ o (Ne.symm hL) ho,r⟩
 .refine(I.hok b u e).stay (fun c v hc q=>k c v ?_ q) (fun _ q=>q) fun _ _ q=>q
  rcases hc with z|z
  .rw[z];exact nit b u e
  .exact nit c _ z
theorem A2.tok (I:A2 X pins σ H s)(t:Nat):A2 X pins σ H {s with toks:=t}:=I.un (h':=s.heap) (t':=t) Un.refl I.hok
theorem A2.kept {t':Nat}(I:A2 X pins σ H s)(k:∀b u,s.heap.get? b=some u->h'.get? b=some u):A2 X pins σ H {s with heap:=h',toks:=t'}:=I.un (Un.kept k) (I.hok.kept k)
theorem A2.laid {a:Addr}{o:HO}{t':Nat}(I:A2 X pins σ H s)(k:∀b u,s.heap.get? b=some u->h'.get? b=some u)(hp:s.heap.objs.size<=a)(new:Bw X.prog X.w (upd H a o) h' a o) :
 A2 X pins σ (upd H a o) {s with heap:=h',toks:=t'}:=I.un (Un.laid k hp (I.hok.fresh hp)) (I.hok.laid k hp new)
theorem A2.write {x e:Addr}{o:HO}{t':Nat}(I:A2 X pins σ H s)(mu:IQ (H x))(he:e=x\/H e=some (.own x))(k:∀b u,b≠e->s.heap.get? b=some u->h'.get? b=some u)(heo:∃u,h'.get? e=some u)
 (new:Bw X.prog X.w (upd H x o) h' x o):A2 X pins σ (upd H x o) {s with heap:=h',toks:=t'}:=I.un (Un.write mu he k heo) (I.hok.write mu he k heo new)
theorem A2.weak {σ':List (Option V)}(I:A2 X pins σ H s)(hl:σ'.length=σ.length)(w:∀(i:Nat) v,σ'[i]?=some (some v)->σ[i]?=some (some v)):A2 X pins σ' H s:=
 ⟨I.ok,I.os,I.bare,I.base,let ⟨m,hn,hl'⟩:=I.loc;⟨m,hn,fun i x v e1 e2 e3=>hl' i x v e1 (w i v e2) e3⟩,I.cell,I.free,I.freeC,I.pin,I.hok,hl.trans I.len⟩
theorem A2.pins_of {pins':List (Addr×Obj)}(I:A2 X pins σ H s)(h:∀p∈pins',s.heap.get? p.1=some p.2/\H p.1=none/\p.1≠X.env.locals/\p.1∉X.fs/\∀v,p.2.data≠.cell v):A2 X pins' σ H s:=
 ⟨I.ok,I.os,I.bare,I.base,I.loc,I.cell,I.free,I.freeC,fun p hp=>(Cj.mp hp).elim (fun z=>I.pin p (Ck _ z)) (h p),I.hok,I.len⟩
theorem Lx {N:List Str}(hN:N.Nodup){i j:Nat}{x:Str}(a:N[i]?=some x)(b:N[j]?=some x):i=j:=by
 obtain⟨h1,e1⟩:=BR.mp a
 obtain⟨h2,e2⟩:=BR.mp b
 exact(List.getElem_inj hN).mp (e1.trans e2.symm)
theorem Vf {M:Model}{A:Around}{E:Value->Shared->Prop}{i:Nat}{x:Str}{v:V}{u:Value}{Q:Unit->Shared->Prop}(I:A2 X pins σ H s)(hN:X.N.Nodup)(hi:X.N[i]?=some x)(hx:GM X.env.scope x)(r:Ax v u)
  (h:∀s',A2 X pins (σ.set i (some v)) H s'->(∃a,Heap.SameBut a s.heap s'.heap/\(a=X.env.locals\/X.env.cells.lookup x=some a))->Q () s') (hf:X.fn x=true\/X.env.scope.names.lookup x=some .local:=by first|exact .inl rfl|exact .inr rfl|assumption):wpAny M A (storeName X.env x u) Q E s:=by
 obtain⟨m,hn,hl⟩:=id I.loc
 have hcls:(X.env.scope.kind == .class||(X.env.scope.kind == .module&&X.env.locals != X.env.globals))=false:=by rw[I.ok.kind];rfl
 have hiσ:i<σ.length:=by rw[I.len];exact(BR.mp hi).1
 have cne:=I.cne
 have tracked:∀{a:Addr} {h':Heap},(∃o,s.heap.get? a=some o/\H a=none)->Heap.SameBut a s.heap h'->B4 X.prog X.w H h':=fun{a h'} ha hs b ob e=>by
  obtain⟨_,_,hfree⟩:=ha
  refine(I.hok b ob e).stay (fun c w' hc q=>(hs.2 c ?_).trans q) (fun _ q=>q) fun _ _ q=>q
  rintro rfl
  rcases hc with rfl|hc
  .rw[hfree]at e;cases e
  .rw[hfree]at hc;cases hc
 rcases hx with hk|hk
 .refine wpAny_storeName_local hk hn (fun h' hn' hs=>?_) hcls
  obtain⟨oL,_,_,hoL,_⟩:=id hn
  refine h _ ⟨I.ok,I.os,I.bare,⟨fun b o e n hb hx=>?_,fun b o e n hb hx=>?_,I.base.free,fun b o e hx=>?_,I.base.tups,I.base.frzs,I.base.tbls⟩,⟨_,hn',fun j y v' e1 e2 e3=>?_⟩,fun y c e=>?_,I.free,I.freeC,fun p hp=>?_,tracked ⟨oL,hoL,I.free⟩ hs,by simpa using I.len⟩ ⟨_,hs,.inl rfl⟩
  .exact(hs.2 b (Br (BE (AD e) I.ok.above))).trans (I.base.keep b o e n hb hx)
  .obtain⟨sl,e1⟩:=I.base.slot b o e n hb hx
   exact⟨sl,(hs.2 b (Br (BE (AD e) I.ok.above))).trans e1⟩
  .obtain⟨o',e1⟩:=I.base.there b o e hx
   exact⟨o',(hs.2 b (Br (BE (AD e) I.ok.above))).trans e1⟩
  .by_cases hj:j=i
   .subst hj
    rw[hi]at e1;cases e1
    rw[M6 hiσ]at e2
    cases e2
    exact⟨u,r,.inl ⟨hk,by simp⟩⟩
   .rw[Pi (Ne.symm hj)]at e2
    obtain⟨u',r',q⟩:=hl j y v' e1 e2 e3
    refine⟨u',r',?_⟩
    rcases q with⟨k,e⟩|⟨k,c,e,z⟩
    .refine .inl ⟨k,?_⟩
     have:y≠x:=fun e=>hj (Lx hN e1 (e▸hi))
     simp[this,e]
    .exact .inr ⟨k,c,e,z.sameBut hs (cne y c e)⟩
  .obtain⟨w',z⟩:=I.cell y c e
   exact⟨w',z.sameBut hs (cne y c e)⟩
  .obtain⟨e,n,ne,nf,d⟩:=I.pin p hp
   exact⟨(hs.2 p.1 ne).trans e,n,ne,nf,d⟩
 .have hfn:X.fn x=true:=by
   rcases hf with z|z
   .exact z
   .rw[z]at hk;cases hk
  obtain⟨c,hc⟩:=I.ok.has x (.inl hk)
  obtain⟨w',z⟩:=I.cell x c hc
  refine wpAny_storeName_cell I.ok.kind hk hc z (fun h' hc' hs=>?_)
  obtain⟨oc,hoc,hocd⟩:=id z
  refine h {s with heap:=h'} ⟨I.ok,I.os,I.bare,⟨fun b o e n hb hx=>?_,fun b o e n hb hx=>?_,I.base.free,fun b o e hx=>?_,I.base.tups,I.base.frzs,I.base.tbls⟩,⟨m,hn.sameBut hs (Ne.symm (cne x c hc)),fun j y v' e1 e2 e3=>?_⟩,fun y c' e=>?_,I.free,I.freeC,fun p hp=>?_,tracked ⟨oc,hoc,I.freeC x c hc⟩ hs,by simpa using I.len⟩ ⟨c,hs,.inr hc⟩
  .exact(hs.2 b (Br (BE (AD e) (I.ok.cab x c hfn hc)))).trans (I.base.keep b o e n hb hx)
  .obtain⟨sl,e1⟩:=I.base.slot b o e n hb hx
   exact⟨sl,(hs.2 b (Br (BE (AD e) (I.ok.cab x c hfn hc)))).trans e1⟩
  .obtain⟨o',e1⟩:=I.base.there b o e hx
   exact⟨o',(hs.2 b (Br (BE (AD e) (I.ok.cab x c hfn hc)))).trans e1⟩
  .by_cases hj:j=i
   .subst hj
    rw[hi]at e1;cases e1
    rw[M6 hiσ]at e2
    cases e2
    exact⟨u,r,.inr ⟨.inl hk,c,hc,hc'⟩⟩
   .rw[Pi (Ne.symm hj)]at e2
    obtain⟨u',r',q⟩:=hl j y v' e1 e2 e3
    refine⟨u',r',?_⟩
    rcases q with q|⟨k,c',e,z'⟩
    .exact .inl q
    .refine .inr ⟨k,c',e,z'.sameBut hs ?_⟩
     rintro rfl
     exact hj (Lx hN e1 (I.ok.inj _ _ _ e hc▸hi))
  .by_cases hcc:c'=c
   .subst hcc;exact⟨_,hc'⟩
   .obtain⟨w2,z2⟩:=I.cell y c' e
    exact⟨w2,z2.sameBut hs hcc⟩
  .obtain⟨e,n,ne,nf,d⟩:=I.pin p hp
   refine⟨(hs.2 p.1 ?_).trans e,n,ne,nf,d⟩
   intro q
   rw[q,hoc]at e
   have q':oc=p.2:=AZ e
   exact d w' (by rw[←q'];exact hocd)
theorem Ik {M:Model}{A:Around}{E:Value->Shared->Prop}{i:Nat}{x:Str}{v:V}{u:Value}{Q:Unit->Shared->Prop}(I:A2 X pins σ H s)(hN:X.N.Nodup)(hi:X.N[i]?=some x)(hx:GM X.env.scope x)(r:Ax v u)
  (h:∀s',A2 X pins (σ.set i (some v)) H s'->Q () s') (hf:X.fn x=true\/X.env.scope.names.lookup x=some .local:=by first|exact .inl rfl|exact .inr rfl|assumption):wpAny M A (storeName X.env x u) Q E s:=
 Vf I hN hi hx r (fun s' I' _=>h s' I') hf
theorem A2.call' {s':Shared}{ch:List Addr}(I:A2 X pins σ H s)(ho:s'.os=s.os)(u:Un (Dq X.stack) ch H H' s.heap s'.heap)(hok:B4 X.prog X.w H' s'.heap)(hg:AllBare s'.gens)
  (hch:∀b∈ch,(b∈X.ex\/X.s₀.heap.objs.size<=b)/\b≠X.env.locals/\(∀x c,X.env.cells.lookup x=some c->c≠b)/\∀p∈X.pn++pins,p.1≠b):A2 X pins σ H' s':=by
 obtain⟨h',g',d',t',o'⟩:=s'
 have e:o'=s.os:=ho
 subst e
 exact I.call (g':=g') (t':=t') (d':=d') u hok hg hch
end
abbrev XK:=Value->Option Addr->Hp->Prop
abbrev St:=List (Option V)
abbrev VK:=V->Hp->Prop
abbrev TE:=St->Hp->VK->Prop
abbrev TT:=St->Hp->(Bool->Hp->Prop)->Prop
abbrev TA:=St->Hp->(List V->Hp->Prop)->Prop
structure CI where
 nx:St->Hp->Prop
 rt:VK
 bk:St->Hp->Prop:=fun _ _=>False
 ct:St->Hp->Prop:=fun _ _=>False
abbrev TS:=CI->St->Hp->Prop
def EP (X:Cx)(pins:List (Addr×Obj))(σ:St)(Q:VK)(u:Value)(s':Shared):Prop := ∃v H',A2 X pins σ H' s'/\Ax v u/\Q v H'
def TP (X:Cx)(pins:List (Addr×Obj))(σ:St)(Q:Bool->Hp->Prop)(b:Bool)(s':Shared):Prop := ∃H',A2 X pins σ H' s'/\Q b H'
def AP (X:Cx)(pins:List (Addr×Obj))(σ:St)(Q:List V->Hp->Prop)(us:List Value)(s':Shared):Prop := ∃vs H',A2 X pins σ H' s'/\Aw vs us/\Q vs H'
def SP (X:Cx)(pins:List (Addr×Obj))(D:CI)(f:Flow)(s':Shared):Prop:=
 match f with
 |.next=>∃σ' H',A2 X pins σ' H' s'/\D.nx σ' H'
 |.brk=>∃σ' H',A2 X pins σ' H' s'/\D.bk σ' H'
 |.cont=>∃σ' H',A2 X pins σ' H' s'/\D.ct σ' H'
 |.ret u=>∃v σ' H',A2 X pins σ' H' s'/\Ax v u/\D.rt v H'
def PE (X:Cx)(e:Expr)(t:TE):Prop:=
 ∀(pins:List (Addr×Obj)) (s:Shared) (σ:St) (H:Hp) (Q:VK),A2 X pins σ H s->t σ H Q->wpAny (model X.prog X.w) X.A (eval e X.env) (EP X pins σ Q) X.xe s
def PT (X:Cx)(e:Expr)(t:TT):Prop:=
 ∀(pins:List (Addr×Obj)) (s:Shared) (σ:St) (H:Hp) (Q:Bool->Hp->Prop),A2 X pins σ H s->t σ H Q->wpAny (model X.prog X.w) X.A (isTrue e X.env (eval e X.env)) (TP X pins σ Q) X.xe s
def PW (X:Cx)(e:Expr)(t:TT):Prop:=
 ∀(whole:Sem Value) (pins:List (Addr×Obj)) (s:Shared) (σ:St) (H:Hp) (Q:Bool->Hp->Prop),A2 X pins σ H s->t σ H Q->wpAny (model X.prog X.w) X.A (isTrue e X.env whole) (TP X pins σ Q) X.xe s
theorem PW.pt {X:Cx}{e:Expr}{t:TT}(h:PW X e t):PT X e t:=h _
def PA (X:Cx)(es:List Expr)(t:TA):Prop:=
 ∀(pos:Pos) (pins:List (Addr×Obj)) (s:Shared) (σ:St) (H:Hp) (Q:List V->Hp->Prop),A2 X pins σ H s->t σ H Q->wpAny (model X.prog X.w) X.A (spliced (backTo pos (starEach es X.env))) (AP X pins σ Q) X.xe s
def PS (X:Cx)(st:Stmt)(t:TS):Prop:=
 ∀(pins:List (Addr×Obj)) (s:Shared) (σ:St) (H:Hp) (D:CI),A2 X pins σ H s->t D σ H->wpAny (model X.prog X.w) X.A (exec st X.env) (SP X pins D) X.xe s
def CN (X:Cx)(st:List Stmt)(t:TS):Prop:=
 ∀(pins:List (Addr×Obj)) (s:Shared) (σ:St) (H:Hp) (D:CI),A2 X pins σ H s->t D σ H->wpAny (model X.prog X.w) X.A (execs st X.env) (SP X pins D) X.xe s
theorem As {α:Type}{t:Sem α}{Q Q':α->Shared->Prop}{M:Model}{A:Around}{E:Value->Shared->Prop}{s:Shared}(h:wpAny M A t Q E s)(hQ:∀a s,Q a s->Q' a s):wpAny M A t Q' E s:=CM h hQ fun _ _ x=>x
section
variable {X:Cx}
def L7 (i:Nat):TE:=fun σ H Q=>∃v,σ[i]?=some (some v)/\Q v H
def tC (v:V):TE:=fun _ H Q=>Q v H
theorem VE {i:Nat}{x:Str}{pos:Pos}(hN:X.N[i]?=some x)(hv:Kc X.env.scope x)(hd:(x==("__debug__":Str))=false:=by decide)(hcd:(x==("__classdict__":Str))=false:=by decide):PE X (.Name x pos) (L7 i):=by
 intro pins s σ H Q I h
 obtain⟨v,e,h⟩:=h
 obtain⟨m,hn,hl⟩:=I.loc
 obtain⟨u,r,l⟩:=hl i x v hN e hv
 have fin:EP X pins σ Q u s:=⟨v,H,I,r,h⟩
 rcases l with⟨hk,hm⟩|⟨hk,c,hc,hcell⟩
 .exact wpAny_Name (wpAny_loadName_local I.ok.kind hk hn hm fin) hd
 .rcases hk with hk|hk
  .exact wpAny_Name (wpAny_loadName_cell I.ok.kind hk hc hcell fin) hd
  .exact wpAny_Name (wpAny_loadName_free I.ok.kind hk hc hcell fin hcd) hd
theorem A1 {i j pos}:PE X (.Constant (.int i) j pos) (tC (.int i)):=fun _ _ _ H _ I h=>wpAny_Constant_int ⟨.int i,H,I.tok _,⟨_,rfl⟩,h⟩
theorem IJ {b j pos}:PE X (.Constant (.bool b) j pos) (tC (.bl b)):=fun _ _ _ H _ I h=>Constant_bool ⟨.bl b,H,I,rfl,h⟩
theorem GS {j pos}:PE X (.Constant .none j pos) (tC .non):=fun _ _ _ H _ I h=>Constant_none ⟨.non,H,I,rfl,h⟩
theorem BS {x j pos}:PE X (.Constant (.str x) j pos) (tC (.str x)):=fun _ _ _ H _ I h=>Calls.Constant_str ⟨.str x,H,I.tok _,⟨_,rfl⟩,h⟩
def Gl (X:Cx)(x:Str):Prop:=X.env.kindOf x=some .globalImplicit
theorem FD {E:Value->Shared->Prop}{pins:List (Addr×Obj)}{s:Shared}{σ:St}{H:Hp}{x:Str}{u:Value}{pos:Pos}{Q:Value->Shared->Prop}(I:A2 X pins σ H s)(hg:Gl X x)(hm:X.mg x=some u)(h:Q u s)
  (hd:(x==("__debug__":Str))=false:=by decide):wpAny (model X.prog X.w) X.A (eval (.Name x pos) X.env) Q E s:=
 Calls.Name_function_global I.ok.kind hg (Calls.loadGlobal_global (by rw[I.ok.glob];exact I.mod.glob.keeps I.bk) hm h) hd
theorem En {E:Value->Shared->Prop}{pins:List (Addr×Obj)}{s:Shared}{σ:St}{H:Hp}{x:Str}{u:Value}{pos:Pos}{Q:Value->Shared->Prop}(I:A2 X pins σ H s)(hg:Gl X x)(hm:X.mg x=none)(hv:bootBuiltins x=some u)(h:Q u s)
  (hn:x≠"__name__":=by decide) (hd:(x==("__debug__":Str))=false:=by decide):wpAny (model X.prog X.w) X.A (eval (.Name x pos) X.env) Q E s:=by
 obtain⟨mb,h1,h2⟩:=I.mod.blt
 exact Calls.Name_function_global I.ok.kind hg (Calls.loadGlobal_builtin (by rw[I.ok.glob];exact I.mod.glob.keeps I.bk) hm (by rw[I.ok.blt];exact h1.keeps I.bk) ((h2 x hn).trans hv) h) hd
theorem Gs {x:Str}{v:V}{u:Value}{pos:Pos}(hg:Gl X x)(hm:X.mg x=some u)(r:Ax v u)(hd:(x==("__debug__":Str))=false:=by decide):PE X (.Name x pos) (tC v):=
 fun _ _ _ H _ I h=>FD I hg hm ⟨v,H,I,r,h⟩ hd
theorem Vo {x:Str}{v:V}{u:Value}{pos:Pos}(hg:Gl X x)(hm:X.mg x=none)(hv:bootBuiltins x=some u)(r:Ax v u)(hn:x≠"__name__":=by decide)(hd:(x==("__debug__":Str))=false:=by decide):PE X (.Name x pos) (tC v):=
 fun _ _ _ H _ I h=>En I hg hm hv ⟨v,H,I,r,h⟩ hn hd
variable {a b:Expr}{ta tb:TE}{pos:Pos}
def tB (t:TE):TT:=fun σ H Q=>t σ H fun x H1=>∃c,x = .bl c/\Q c H1
theorem Gj {e:Expr}{t:TE}(h:PE X e t)(he:∀whole,isTrue e X.env whole=(do let v ←whole;standAt e.pos;holding [v] (truthy v)):=by intro _;rfl):PT X e (tB t):=by
 intro pins s σ H Q I hw
 refine isTrue_plain (As (h pins s σ H _ I hw) fun v s1 ⟨x,H1,I1,r1,q1⟩=>?_) (he _)
 obtain⟨d,rfl,q⟩:=q1
 cases r1
 exact J6 ⟨H1,I1,q⟩
variable {tA tB':TT}{rest:List Expr}
def VA (t u:TT):TT:=fun σ H Q=>t σ H fun c H1=>if c=true then u σ H1 Q else Q false H1
def Sf (t u:TT):TT:=fun σ H Q=>t σ H fun c H1=>if c=true then Q true H1 else u σ H1 Q
def RY (t:TT):TT:=fun σ H Q=>t σ H fun c H1=>Q (!c) H1
theorem Il (ha:PT X a tA):PW X (.BoolOp .And [a] pos) tA:=by
 intro wh pins s σ H Q I h
 refine isTrue_and (As (ha pins s σ H Q I h) fun c s1 e=>?_)
 cases c with
 |true=>exact isTrue_and_nil e
 |false=>exact e
theorem O4 (ha:PT X a tA):PW X (.BoolOp .Or [a] pos) tA:=by
 intro wh pins s σ H Q I h
 refine isTrue_or (As (ha pins s σ H Q I h) fun c s1 e=>?_)
 cases c with
 |false=>exact isTrue_or_nil e
 |true=>exact e
theorem Hf (ha:PT X a tA)(hb:PW X (.BoolOp .And (b::rest) pos) tB'):PW X (.BoolOp .And (a::b::rest) pos) (VA tA tB'):=by
 intro wh pins s σ H Q I h
 refine isTrue_and (As (ha pins s σ H _ I h) fun c s1 ⟨H1,I1,q1⟩=>?_)
 cases c with
 |true=>exact hb wh pins s1 σ H1 Q I1 q1
 |false=>exact⟨H1,I1,q1⟩
theorem Jd (ha:PT X a tA)(hb:PW X (.BoolOp .Or (b::rest) pos) tB'):PW X (.BoolOp .Or (a::b::rest) pos) (Sf tA tB'):=by
 intro wh pins s σ H Q I h
 refine isTrue_or (As (ha pins s σ H _ I h) fun c s1 ⟨H1,I1,q1⟩=>?_)
 cases c with
 |true=>exact⟨H1,I1,q1⟩
 |false=>exact hb wh pins s1 σ H1 Q I1 q1
theorem LZ (ha:PT X a tA):PT X (.UnaryOp .Not a pos) (RY tA):=by
 intro pins s σ H Q I h
 exact isTrue_not (ha pins s σ H (fun c H1=>Q (!c) H1) I h)
def V5 (ta tb:TE):TE:=fun σ H Q=>ta σ H fun x H1=>∃c,x = .bl c/\if c=true then tb σ H1 Q else Q (.bl false) H1
def XF (ta tb:TE):TE:=fun σ H Q=>ta σ H fun x H1=>∃c,x = .bl c/\if c=true then Q (.bl true) H1 else tb σ H1 Q
def W0 (ta:TE):TE:=fun σ H Q=>ta σ H fun x H1=>∃c,x = .bl c/\Q (.bl (!c)) H1
theorem JH {op}{t:TE}(h:PE X a t):PE X (.BoolOp op [a] pos) t:=fun pins s σ H Q I hw=>BoolOp_one (h pins s σ H Q I hw)
theorem Kq (ha:PE X a ta)(hb:PE X (.BoolOp .And (b::rest) pos) tb):PE X (.BoolOp .And (a::b::rest) pos) (V5 ta tb):=by
 intro pins s σ H Q I h
 refine BoolOp_and (As (ha pins s σ H _ I h) fun v s1 ⟨x,H1,I1,r1,q1⟩=>?_)
 obtain⟨c,rfl,q1⟩:=q1
 cases r1
 refine J6 ?_
 cases c with
 |true=>exact hb pins s1 σ H1 Q I1 q1
 |false=>exact⟨.bl false,H1,I1,rfl,q1⟩
theorem SW (ha:PE X a ta)(hb:PE X (.BoolOp .Or (b::rest) pos) tb):PE X (.BoolOp .Or (a::b::rest) pos) (XF ta tb):=by
 intro pins s σ H Q I h
 refine BoolOp_or (As (ha pins s σ H _ I h) fun v s1 ⟨x,H1,I1,r1,q1⟩=>?_)
 obtain⟨c,rfl,q1⟩:=q1
 cases r1
 refine J6 ?_
 cases c with
 |false=>exact hb pins s1 σ H1 Q I1 q1
 |true=>exact⟨.bl true,H1,I1,rfl,q1⟩
theorem Ol (ha:PE X a ta):PE X (.UnaryOp .Not a pos) (W0 ta):=by
 intro pins s σ H Q I h
 refine UnaryOp_ (As (ha pins s σ H _ I h) fun v s1 ⟨x,H1,I1,r1,q1⟩=>?_)
 obtain⟨c,rfl,q1⟩:=q1
 cases r1
 exact not_of (J6 ⟨.bl (!c),H1,I1,rfl,q1⟩)
end
def A7 (K:XJ)(H:Hp)(a:Addr)(xs:List V):Prop:=
 Rd H a (.lst xs)\/
  ∃(o:Obj) (its:Array Value) (n:Nat),K.lookup a=some o/\o.cls = .type "list"/\o.dict=none/\o.data = .seq its n/\its.size<=sizeLine/\Aw xs its.toList
def A8 (K:XJ)(H:Hp)(a:Addr)(xs:List V):Prop:=
 Rd H a (.tup xs)\/
  ∃(o:Obj) (its:Array Value) (n:Nat),K.lookup a=some o/\o.cls = .type "tuple"/\o.data = .seq its n/\its.size<=sizeLine/\Aw xs its.toList
def WR:Value->Option V
 |.none=>some .non
 |.bool b=>some (.bl b)
 |.int i _=>some (.int i)
 |.str x _=>some (.str x)
 |.bytes b _=>some (.byt b)
 |.float b _=>some (.flt b)
 |.ref a=>some (.ref a)
 |.type n=>some (.ty n)
 |_=>none
theorem Ax.abs {x:V}{u:Value}(r:Ax x u):WR u=some x:=by
 cases x with
 |non=>cases r;rfl
 |bl _=>cases r;rfl
 |int _=>obtain⟨t,rfl⟩:=r;rfl
 |str _=>obtain⟨t,rfl⟩:=r;rfl
 |byt _=>obtain⟨t,rfl⟩:=r;rfl
 |flt _=>obtain⟨t,rfl⟩:=r;rfl
 |ref _=>cases r;rfl
 |ty _=>cases r;rfl
theorem Ax.inj {x y:V}{u:Value}(r:Ax x u)(q:Ax y u):x=y:=AZ (r.abs.symm.trans q.abs)
theorem Aw.inj:∀{xs ys:List V} {us:List Value},Aw xs us->Aw ys us->xs=ys:=by
 intro xs
 induction xs with
 |
  nil=>
  intro ys us h k
  cases h
  cases k
  rfl
 |
  cons x xs ih=>
  intro ys us h k
  cases h with
  |
   cons r t=>
   cases k with
   |cons r' t'=>rw[r.inj r',ih t t']
section
variable {X:Cx}{pins:List (Addr×Obj)}{σ:St}{H:Hp}{s:Shared}{a:Addr}{xs ys:List V}
theorem A7.of {K:XJ}(h:H a=some (.lst xs)):A7 K H a xs:=.inl (.inl h)
theorem A8.of {K:XJ}(h:H a=some (.tup xs)):A8 K H a xs:=.inl (.inl h)
theorem A2.list (I:A2 X pins σ H s)(h:A7 X.K H a xs):∃its:List Value,Aw xs its/\PlainL s.heap a its.toArray/\xs.length<=sizeLine:=by
 rcases h with h|⟨o,its,n,hk,hc,hd,hs,hz,r⟩
 .obtain⟨z,its,n,r,e⟩:=h.ok I.hok
  exact⟨its,r,⟨_,n,e,rfl,rfl,rfl⟩,z⟩
 .refine⟨its.toList,r,⟨o,n,I.kIn a o hk,hc,hd,by simpa using hs⟩,?_⟩
  have e:=r.length
  simp only[M7]at e
  omega
theorem A2.tuple (I:A2 X pins σ H s)(h:A8 X.K H a xs):∃its:List Value,Aw xs its/\IsTup s.heap a its.toArray/\xs.length<=sizeLine:=by
 rcases h with h|⟨o,its,n,hk,hc,hs,hz,r⟩
 .obtain⟨z,its,r,p⟩:=h.ok I.hok
  exact⟨its,r,p.tup,z⟩
 .refine⟨its.toList,r,⟨o,I.kIn a o hk,hc,n,by simpa using hs⟩,?_⟩
  have e:=r.length
  simp only[M7]at e
  omega
theorem A2.list_inj (I:A2 X pins σ H s)(h:A7 X.K H a xs)(h':A7 X.K H a ys):xs=ys:=by
 obtain⟨its,r,⟨o,n,e,_,_,d⟩,_⟩:=I.list h
 obtain⟨its',r',⟨o',n',e',_,_,d'⟩,_⟩:=I.list h'
 rw[e]at e';cases e'
 rw[d]at d'
 injection d' with d1 _
 have:its=its':=by simpa using congrArg Array.toList d1
 subst this
 exact r.inj r'
theorem A2.tuple_inj (I:A2 X pins σ H s)(h:A8 X.K H a xs)(h':A8 X.K H a ys):xs=ys:=by
 obtain⟨its,r,⟨o,e,_,n,d⟩,_⟩:=I.tuple h
 obtain⟨its',r',⟨o',e',_,n',d'⟩,_⟩:=I.tuple h'
 rw[e]at e';cases e'
 rw[d]at d'
 injection d' with d1 _
 have:its=its':=by simpa using congrArg Array.toList d1
 subst this
 exact r.inj r'
end
abbrev Cx.wish (X:Cx)(E:Value->Shared->Prop):Cx:={X with xe:=E}
abbrev Cx.nox (X:Cx):Cx:=X.wish fun _ _=>False
theorem Cx.Ok.wish {X:Cx}(ok:X.Ok)(E:Value->Shared->Prop):(X.wish E).Ok:=
 ⟨ok.mod,ok.kind,ok.glob,ok.blt,ok.above,ok.inj,ok.has,ok.cab,ok.hd,ok.frames,ok.stk,ok.exf,ok.bs,ok.bsz,ok.noex,ok.exfs,ok.funs,ok.frf⟩
theorem Cx.Ok.unwish {X:Cx}{E:Value->Shared->Prop}(ok:(X.wish E).Ok):X.Ok:=
 ⟨ok.mod,ok.kind,ok.glob,ok.blt,ok.above,ok.inj,ok.has,ok.cab,ok.hd,ok.frames,ok.stk,ok.exf,ok.bs,ok.bsz,ok.noex,ok.exfs,ok.funs,ok.frf⟩
section
variable {X:Cx}{pins:List (Addr×Obj)}{σ:St}{H:Hp}{s:Shared}{E:Value->Shared->Prop}
theorem A2.wish (I:A2 X pins σ H s)(E:Value->Shared->Prop):A2 (X.wish E) pins σ H s:=⟨I.ok.wish E,I.os,I.bare,I.base,I.loc,I.cell,I.free,I.freeC,I.pin,I.hok,I.len⟩
theorem A2.unwish (I:A2 (X.wish E) pins σ H s):A2 X pins σ H s:=⟨I.ok.unwish,I.os,I.bare,I.base,I.loc,I.cell,I.free,I.freeC,I.pin,I.hok,I.len⟩
theorem SP.unwish {D:CI}{f:Flow}{s':Shared}(h:SP (X.wish E) pins D f s'):SP X pins D f s':=by
 cases f with
 |next=>obtain⟨σ',H',I,q⟩:=h;exact⟨σ',H',I.unwish,q⟩
 |brk=>obtain⟨σ',H',I,q⟩:=h;exact⟨σ',H',I.unwish,q⟩
 |cont=>obtain⟨σ',H',I,q⟩:=h;exact⟨σ',H',I.unwish,q⟩
 |ret u=>obtain⟨v,σ',H',I,r,q⟩:=h;exact⟨v,σ',H',I.unwish,r,q⟩
theorem CN.nox {st:List Stmt}{t:TS}(h:CN X.nox st t):CN X st t:=fun pins s σ H D I hw=>
 CM (h pins s σ H D (I.wish _) hw) (fun _ _ q=>q.unwish) fun _ _ z=>False.elim z
end
section
variable {X:Cx}{st:Stmt}{rest:List Stmt}{t u:TS}{e:Expr}{te:TE}{pos:Pos}
def IR:TS:=fun D σ H=>D.nx σ H
def IH (t u:TS):TS:=fun D σ H=>t {D with nx:=u D} σ H
theorem Ce:CN X [] IR:=fun _ _ σ H _ I h=>KH ⟨σ,H,I,h⟩
theorem A9 (h1:PS X st t)(h2:CN X rest u):CN X (st::rest) (IH t u):=by
 intro pins s σ H D I h
 refine wpAny_execs_cons (As (h1 pins s σ H {D with nx:=u D} I h) fun f s1 q=>?_)
 cases f with
 |
  next=>
  obtain⟨σ',H',I',q⟩:=q
  exact h2 pins s1 σ' H' D I' q
 |ret v=>exact q
 |brk=>exact q
 |cont=>exact q
theorem Af (h1:PS X st t):CN X [st] t:=by
 intro pins s σ H D I h
 refine wpAny_execs_cons (As (h1 pins s σ H D I h) fun f s1 q=>?_)
 cases f with
 |next=>exact KH q
 |ret v=>exact q
 |brk=>exact q
 |cont=>exact q
theorem A2.quiet {pins:List (Addr×Obj)}{σ:St}{H:Hp}{s:Shared}(I:A2 X pins σ H s):interactive X.env=false:=by simp[interactive,I.ok.kind]
def VR (te:TE):TS:=fun D σ H=>te σ H fun _ H1=>D.nx σ H1
theorem Cp (he:PE X e te)(hs:swapsWith e none pos.line X.env=pure false:=by rfl):PS X (.Expr e pos) (VR te):=by
 intro pins s σ H D I h
 exact wpAny_Expr_any (As (he pins s σ H _ I h) fun v s1 ⟨x,H1,I1,r1,q1⟩=>⟨σ,H1,I1,q1⟩) I.quiet hs
def V2 (te:TE):TS:=fun D σ H=>te σ H D.rt
theorem AO (he:PE X e te):PS X (.Return (some e) pos) (V2 te):=by
 intro pins s σ H D I h
 exact wpAny_Return_some (As (he pins s σ H _ I h) fun v s1 ⟨x,H1,I1,r1,q1⟩=>⟨x,σ,H1,I1,r1,q1⟩)
def KY (c:TT)(t u:TS):TS:=fun D σ H=>c σ H fun b H1=>if b=true then t D σ H1 else u D σ H1
theorem BJ {c:Expr}{a b:List Stmt}{tc:TT}(hc:PT X c tc)(ha:CN X a t)(hb:CN X b u):PS X (.If c a b pos) (KY tc t u):=by
 intro pins s σ H D I h
 refine wpAny_If (As (hc pins s σ H _ I h) fun d s1 ⟨H1,I1,q1⟩=>?_)
 cases d with
 |true=>exact ha pins s1 σ H1 D I1 q1
 |false=>exact hb pins s1 σ H1 D I1 q1
end
abbrev TG:=V->St->Hp->(St->Hp->Prop)->Prop
abbrev Gc:=List V->St->Hp->(St->Hp->Prop)->Prop
def PG (X:Cx)(target:Expr)(t:TG):Prop:=
 ∀(pins:List (Addr×Obj)) (s:Shared) (σ:St) (H:Hp) (v:V) (u:Value) (Q:St->Hp->Prop),A2 X pins σ H s->Ax v u->t v σ H Q->
  wpAny (model X.prog X.w) X.A (assign target X.env u) (fun _ s'=>∃σ' H',A2 X pins σ' H' s'/\Q σ' H') X.xe s
def JQ (X:Cx)(ts:List Expr)(t:Gc):Prop:=
 ∀(pins:List (Addr×Obj)) (s:Shared) (σ:St) (H:Hp) (vs:List V) (us:List Value) (Q:St->Hp->Prop),A2 X pins σ H s->Aw vs us->t vs σ H Q->
  wpAny (model X.prog X.w) X.A (assignInOrder ((assignEach ts X.env).map (·.2)) us) (fun _ s'=>∃σ' H',A2 X pins σ' H' s'/\Q σ' H') X.xe s
section
variable {X:Cx}{pos:Pos}
def Am (i:Nat):TG:=fun v σ H Q=>Q (σ.set i (some v)) H
theorem B0 {i:Nat}{x:Str}(hN:X.N.Nodup)(hi:X.N[i]?=some x)(hx:GM X.env.scope x)(hf:X.fn x=true\/X.env.scope.names.lookup x=some .local:=by first|exact .inl rfl|exact .inr rfl|assumption):PG X (.Name x pos) (Am i):=by
 intro pins s σ H v u Q I r h
 exact wpAny_assign_Name (Ik I hN hi hx r (fun s' I'=>⟨_,H,I',h⟩) hf)
def U5:Gc:=fun vs σ H Q=>vs=[]/\Q σ H
def VZ (t:TG)(u:Gc):Gc:=fun vs σ H Q=>∃v r,vs=v::r/\t v σ H fun σ' H'=>u r σ' H' Q
theorem EN:JQ X [] U5:=by
 intro pins s σ H vs us Q I r h
 obtain⟨e,h⟩:=h
 subst e
 cases r
 exact assignInOrder_nil ⟨σ,H,I,h⟩
theorem Co {e:Expr}{es:List Expr}{t:TG}{u:Gc}(h1:PG X e t)(h2:JQ X es u)
  (hs:(assignEach (e::es) X.env).map (·.2)=assign e X.env::(assignEach es X.env).map (·.2):=by rfl):JQ X (e::es) (VZ t u):=by
 intro pins s σ H vs us Q I r h
 obtain⟨v,vr,e1,h⟩:=h
 subst e1
 cases r with
 |
  cons r rr=>
  rw[hs]
  refine assignInOrder_cons (As (h1 pins s σ H _ _ _ I r h) fun _ s1 ⟨σ1,H1,I1,q1⟩=>?_)
  exact h2 pins s1 σ1 H1 _ _ Q I1 rr q1
def Nd (K:XJ)(n:Nat)(t:Gc):TG:=fun v σ H Q=>∃a xs,v = .ref a/\A8 K H a xs/\xs.length=n/\t xs σ H Q
theorem ES {es:List Expr}{k:Nat}{t:Gc}{n:Nat}(hc:X.calm=true)(h:JQ X es t)
  (hn:(assignEach es X.env).length=n:=by rfl) (hst:(assignEach es X.env).findIdx? (·.1)=none:=by rfl):PG X (.Tuple es k pos) (Nd X.K n t):=by
 intro pins s σ H v u Q I r hw
 obtain⟨a,xs,e1,hq,hl,hw⟩:=hw
 subst e1
 cases r
 obtain⟨its,rv,ht,hz⟩:=I.tuple hq
 refine assign_Tuple_tuple (I.ok.hd hc) ht (by simp[hn,←hl,rv.length]) hst fun h' hx=>?_
 have I1:A2 X pins σ H {s with heap:=h'}:=I.kept (t':=s.toks) fun b o e=>hx b o (Br (AD e)) e
 exact h pins _ σ H xs _ Q I1 (by simpa using rv) hw
def Iq (te:TE)(g:TG):TS:=fun D σ H=>te σ H fun x H1=>g x σ H1 D.nx
theorem HV {tg e:Expr}{te:TE}{g:TG}(he:PE X e te)(hg:PG X tg g)(hs:swapsWithSole [tg] e pos.line X.env=pure false:=by rfl)(hw:swappedStores [tg] e X.env=pure none:=by rfl)
  (h1:(assignEach [tg] X.env).map (·.2)=[assign tg X.env]:=by rfl):PS X (.Assign [tg] e pos) (Iq te g):=by
 intro pins s σ H D I h
 refine wpAny_Assign_stores (As (he pins s σ H _ I h) fun v s1 ⟨x,H1,I1,r1,q1⟩=>?_) hs hw
 rw[h1]
 exact As (hg pins s1 σ H1 x v _ I1 r1 q1) fun _ s2 q=>q
theorem Ak {i:Nat}{x:Str}{e:Expr}{te:TE}{pos':Pos}(hN:X.N.Nodup)(hi:X.N[i]?=some x)(hx:GM X.env.scope x)(he:PE X e te)(hs:swapsWith e (some (.Name x pos')) pos.line X.env=pure false:=by rfl)(hf:X.fn x=true\/X.env.scope.names.lookup x=some .local:=by first|exact .inl rfl|exact .inr rfl|assumption) :
  PS X (.Assign [.Name x pos'] e pos) (Iq te (Am i)):=by
 intro pins s σ H D I h
 refine wpAny_Assign_Name (As (he pins s σ H _ I h) fun v s1 ⟨y,H1,I1,r1,q1⟩=>?_) hs
 exact Ik I1 hN hi hx r1 (fun s2 I2=>⟨_,H1,I2,q1⟩) hf
end
section
variable {X:Cx}{pos:Pos}
def P4 (c:TT)(tb:TS):TS:=fun D σ H=>∃W:Nat->St->Hp->Prop,(∃m,W m σ H)/\∀m σ H,W m σ H->
 c σ H fun b H1=>if b=true then ∃N:St->Hp->Prop,(∀σ' H',N σ' H'->∃m',m'<m/\W m' σ' H')/\tb {D with nx:=N,ct:=N,bk:=D.nx} σ H1 else D.nx σ H1
theorem Vz {c:Expr}{body:List Stmt}{tc:TT}{tb:TS}(hp:PassesOwn (model X.prog X.w) X.A X.env X.xe)(hc:PT X c tc)(hb:CN X body tb):PS X (.While c body [] pos) (P4 tc tb):=by
 intro pins s σ H D I h
 obtain⟨W,⟨m0,w0⟩,turn⟩:=h
 refine wpAny_While (codeAny_whileLoop (fun n s'=>∃σ' H',A2 X pins σ' H' s'/\W n σ' H') ?_ m0 ⟨σ,H,I,w0⟩)
 rintro n s1 ⟨σ1,H1,I1,w1⟩
 refine Hu hp (As (hc pins s1 σ1 H1 _ I1 (turn n σ1 H1 w1)) fun b s2 ⟨H2,I2,q2⟩=>?_)
 cases b with
 |
  true=>
  obtain⟨N,hN,q2⟩:=q2
  rw[Ah rfl]
  refine Hu hp (As (hb pins s2 σ1 H2 _ I2 q2) fun f s3 q3=>?_)
  cases f with
  |
   next=>
   obtain⟨σ3,H3,I3,n3⟩:=q3
   obtain⟨m',hm,w3⟩:=hN σ3 H3 n3
   exact⟨m',hm,σ3,H3,I3,w3⟩
  |
   cont=>
   obtain⟨σ3,H3,I3,n3⟩:=q3
   obtain⟨m',hm,w3⟩:=hN σ3 H3 n3
   exact⟨m',hm,σ3,H3,I3,w3⟩
  |brk=>exact q3
  |ret v=>exact q3
 |
  false=>
  rw[Ae DG]
  exact KH ⟨σ1,H2,I2,q2⟩
end
structure It where
 go:Nat->Hp->Prop
 yld:Nat->Hp->V->Hp->Prop
 stop:Nat->Hp->Prop
def E5 (X:Cx)(pins:List (Addr×Obj))(H:Hp)(b:Addr):Prop:=
 H b=none/\b≠X.env.locals/\b∉X.fs/\(b∈X.ex\/X.s₀.heap.objs.size<=b)/\(∀x c,X.env.cells.lookup x=some c->c≠b)/\∀p∈X.pn++pins,p.1≠b
theorem A2.fpOk {X:Cx}{pins:List (Addr×Obj)}{σ:St}{H H':Hp}{s:Shared}{b:Addr}(I:A2 X pins σ H s)(hb:s.heap.objs.size<=b)(hn:H' b=none):E5 X pins H' b:=by
 refine⟨hn,D8 (BE I.lt hb),I.nofs hb,.inr (Bl I.sz hb),fun x c e z=>?_,fun p hp z=>?_⟩
 .obtain⟨v,q⟩:=I.cell x c e
  exact absurd (BE q.lt (by rw[z];exact hb)) (Dv _)
 .exact absurd (BE (AD (I.pin p hp).1) (by rw[z];exact hb)) (Dv _)
structure IC (P:Program)(w:World)(K:XJ)(tg:Expr)(J:It)(fp:List Addr)(it:Addr)(tn:Nat->Heap->Prop):Prop where
 mem:it∈fp
 obj:∀i h,tn i h->∀b∈fp,∃o,h.get? b=some o/\∀v,o.data≠.cell v
 keep:∀i h h',tn i h->(∀b∈fp,∀o,h.get? b=some o->h'.get? b=some o)->tn i h'
 item:∀(X:Cx),X.prog=P->X.w=w->X.K=K->X.calm=true->∀(i:Nat) (pins:List (Addr×Obj)) (s:Shared) (σ:St) (H:Hp) (E:Value->Shared->Prop),A2 X pins σ H s->(∀b∈fp,E5 X pins H b)->tn i s.heap->J.go i H->
  wpAny (model P w) X.A (pyNext (.ref it)) (fun r s1=>∃u,r=some u/\
   wpAny (model P w) X.A (letOwnedTupleGo tg (.ref it) u) (fun _ s2=>∃x H',A2 X pins σ H' s2/\Ax x u/\J.yld i H x H'/\tn (i+1) s2.heap/\∀b∈fp,H' b=none) E s1) E s
 done:∀(X:Cx),X.prog=P->X.w=w->X.K=K->X.calm=true->∀(i:Nat) (pins:List (Addr×Obj)) (s:Shared) (σ:St) (H:Hp) (E:Value->Shared->Prop),A2 X pins σ H s->(∀b∈fp,E5 X pins H b)->tn i s.heap->J.stop i H->
  wpAny (model P w) X.A (pyNext (.ref it)) (fun r s1=>r=none/\A2 X pins σ H s1) E s
 self:∀(A:Around) (i:Nat) (s:Shared) (Q:Value->Shared->Prop) (E:Value->Shared->Prop),tn i s.heap->Q (.ref it) s->wpAny (model P w) A (pyIter (.ref it)) Q E s
abbrev TI:=St->Hp->(It->Hp->Prop)->Prop
def N9 (X:Cx)(pins:List (Addr×Obj))(σ:St)(tg:Expr)(R:It->Hp->Prop)(itv:Value)(s2:Shared):Prop:=
 ∃(it:Addr) (fp:List Addr) (tn:Nat->Heap->Prop) (J:It) (H':Hp),itv = .ref it/\A2 X pins σ H' s2/\IC X.prog X.w X.K tg J fp it tn/\tn 0 s2.heap/\(∀b∈fp,E5 X pins H' b)/\R J H'
def PI (X:Cx)(tg iter:Expr)(wi:TI):Prop:=
 ∀(pins:List (Addr×Obj)) (s:Shared) (σ:St) (H:Hp) (R:It->Hp->Prop),A2 X pins σ H s->wi σ H R->
  wpAny (model X.prog X.w) X.A (eval iter X.env) (fun v s1=>wpAny (model X.prog X.w) X.A (pyIter v) (N9 X pins σ tg R) X.xe s1) X.xe s
theorem L5 {M:Model}{A:Around}{E:Value->Shared->Prop}{s:Shared}{tg:Expr}{it:Addr}{u:Value}{o:Obj}{n:String}{vs:Array Value}{Q:Unit->Shared->Prop}(ho:s.heap.get? it=some o)(hc:o.cls = .type n)(hd:o.data = .fields vs)
  (hn:["enumerate","zip","dict_itemiterator","dict_reverseitemiterator","odict_iterator","itertools.zip_longest","itertools.pairwise"].contains n=false) (hQ:Q () s):wpAny M A (letOwnedTupleGo tg (.ref it) u) Q E s:=by
 unfold letOwnedTupleGo
 cases tg<;>first
  |exact Al hQ
  |(cases u<;>first
   |exact Al hQ
   |(
    refine A5 (wpAny_load ho ?_)
    rw[hc,hd]
    show wpAny M A (if(["enumerate","zip","dict_itemiterator","dict_reverseitemiterator","odict_iterator","itertools.zip_longest","itertools.pairwise"].contains n&&vs[0]?==some (rawInt _))=true then _ else _) Q E s
    rw[Ae (by intro h;rw[hn,Bool.false_and]at h;cases h)]
    exact Al hQ))
def Gg (K:XJ)(a:Addr):It:=
 ⟨fun i H=>∃xs x,A7 K H a xs/\xs[i]?=some x,fun i H x H'=>H'=H/\∀xs,A7 K H a xs->xs[i]?=some x,fun i H=>∃xs,A7 K H a xs/\xs.length<=i⟩
def Hd (K:XJ)(a:Addr):It:=
 ⟨fun i H=>∃xs x,A8 K H a xs/\xs[i]?=some x,fun i H x H'=>H'=H/\∀xs,A8 K H a xs->xs[i]?=some x,fun i H=>∃xs,A8 K H a xs/\xs.length<=i⟩
def G5 (lo:Int)(n:Nat):It:=⟨fun i _=>i<n,fun i H x H'=>H'=H/\x = .int (lo+i),fun i _=>n<=i⟩
theorem T2 {P:Program}{w:World}{K:XJ}{tg:Expr}(a it:Addr):IC P w K tg (Gg K a) [it] it (fun i h=>h.IsListIter it a i) where
 mem:=by simp
 obj:=fun i h st b hb=>by
  have e:b=it:=by simpa using hb
  subst e
  obtain⟨o,e,c,d⟩:=st
  exact⟨o,e,fun v z=>by rw[d]at z;cases z⟩
 keep:=fun i h h' st k=>st.at fun o e=>k it (by simp) o e
 item:=by
  intro X hP hw hK hc i pins s σ H E I hf st hg
  subst hP hw hK
  obtain⟨xs,x,hq,hx⟩:=hg
  obtain⟨its,rv,p,hz⟩:=I.list hq
  obtain⟨u,hu,ru⟩:=rv.get hx
  obtain⟨f0,f1,f2,f3,f4,f5⟩:=hf it (by simp)
  refine wpAny_pyNext_list_item st p.isList (x:=u) (by simpa using hu) fun h' st' sb=>?_
  have I1:A2 X pins σ H {s with heap:=h'}:=I.turned (t':=s.toks) (fun b o hb e=>(sb.2 b hb).trans e) f0 f1 f3 f4 f5
  obtain⟨o,e,c,d⟩:=id st'
  exact⟨u,rfl,L5 (s:={s with heap:=h'}) e c d (by decide) ⟨x,H,I1,ru,⟨rfl,fun ys hy=>by rw[I.list_inj hy hq];exact hx⟩,st',fun b hb=>(hf b hb).1⟩⟩
 done:=by
  intro X hP hw hK hc i pins s σ H E I hf st hg
  subst hP hw hK
  obtain⟨xs,hq,hx⟩:=hg
  obtain⟨its,rv,p,hz⟩:=I.list hq
  obtain⟨f0,f1,f2,f3,f4,f5⟩:=hf it (by simp)
  have hl:=rv.length
  exact wpAny_pyNext_list_end (I.ok.hd hc) st p.isList (by simp;omega) fun h' eb=>⟨rfl,I.turned (t':=s.toks) (fun b o hb e=>eb b o hb e) f0 f1 f3 f4 f5⟩
 self:=fun _ _ _ _ _ st h=>wpAny_pyIter_listiter st h
theorem Qi {P:Program}{w:World}{K:XJ}{tg:Expr}(a it:Addr):IC P w K tg (Hd K a) [it] it (fun i h=>h.IsTupleIter it a i) where
 mem:=by simp
 obj:=fun i h st b hb=>by
  have e:b=it:=by simpa using hb
  subst e
  obtain⟨o,e,c,d⟩:=st
  exact⟨o,e,fun v z=>by rw[d]at z;cases z⟩
 keep:=fun i h h' st k=>st.at fun o e=>k it (by simp) o e
 item:=by
  intro X hP hw hK hc i pins s σ H E I hf st hg
  subst hP hw hK
  obtain⟨xs,x,hq,hx⟩:=hg
  obtain⟨its,rv,p,hz⟩:=I.tuple hq
  obtain⟨u,hu,ru⟩:=rv.get hx
  obtain⟨f0,f1,f2,f3,f4,f5⟩:=hf it (by simp)
  refine wpAny_pyNext_tuple_item st (show s.heap.IsTuple a its.toArray from p) (x:=u) (by simpa using hu) fun h' st' sb=>?_
  have I1:A2 X pins σ H {s with heap:=h'}:=I.turned (t':=s.toks) (fun b o hb e=>(sb.2 b hb).trans e) f0 f1 f3 f4 f5
  obtain⟨o,e,c,d⟩:=id st'
  exact⟨u,rfl,L5 (s:={s with heap:=h'}) e c d (by decide) ⟨x,H,I1,ru,⟨rfl,fun ys hy=>by rw[I.tuple_inj hy hq];exact hx⟩,st',fun b hb=>(hf b hb).1⟩⟩
 done:=by
  intro X hP hw hK hc i pins s σ H E I hf st hg
  subst hP hw hK
  obtain⟨xs,hq,hx⟩:=hg
  obtain⟨its,rv,p,hz⟩:=I.tuple hq
  obtain⟨f0,f1,f2,f3,f4,f5⟩:=hf it (by simp)
  have hl:=rv.length
  exact wpAny_pyNext_tuple_end (I.ok.hd hc) st (show s.heap.IsTuple a its.toArray from p) (by simp;omega) fun h' eb=>⟨rfl,I.turned (t':=s.toks) (fun b o hb e=>eb b o hb e) f0 f1 f3 f4 f5⟩
 self:=fun _ _ _ _ _ st h=>wpAny_pyIter_tupleiter st h
theorem Wb {P:Program}{w:World}{K:XJ}{tg:Expr}(it:Addr)(lo:Int)(n:Nat):IC P w K tg (G5 lo n) [it] it (fun i h=>IsRangeIter h it (lo+(i:Nat)*1) ((n:Int)-(i:Nat)) 1) where
 mem:=by simp
 obj:=fun i h st b hb=>by
  have e:b=it:=by simpa using hb
  subst e
  exact⟨_,st,fun v z=>by
   have z':Data.fields _=Data.cell v:=z
   cases z'⟩
 keep:=fun i h h' st k=>k it (by simp) _ st
 item:=by
  intro X hP hw hK hc i pins s σ H E I hf st hg
  subst hP hw hK
  obtain⟨f0,f1,f2,f3,f4,f5⟩:=hf it (by simp)
  have W:=Walks.range (prog:=X.prog) (w:=X.w) (I.ok.hd hc) it lo 1 n
  refine W.item i s _ _ hg st fun v h' tk hv st' kk=>?_
  obtain⟨t,rfl⟩:=hv
  have I1:A2 X pins σ H {s with heap:=h',toks:=tk}:=I.turned (fun b o hb e=>kk b o (by simpa using hb) e) f0 f1 f3 f4 f5
  refine⟨_,rfl,L5 (s:={s with heap:=h',toks:=tk}) (n:="range_iterator") st' rfl rfl (by decide) ⟨.int (lo+i),H,I1,⟨t,?_⟩,⟨rfl,rfl⟩,st',fun b hb=>(hf b hb).1⟩⟩
  rw[Int.mul_one]
 done:=by
  intro X hP hw hK hc i pins s σ H E I hf st hg
  subst hP hw hK
  obtain⟨f0,f1,f2,f3,f4,f5⟩:=hf it (by simp)
  exact wpAny_pyNext_range_end (I.ok.hd hc) st (by have:n<=i:=hg;omega) fun h' eb=>⟨rfl,I.turned (t':=s.toks) (fun b o hb e=>eb b o hb e) f0 f1 f3 f4 f5⟩
 self:=fun _ _ _ _ _ st h=>wpAny_pyIter_rangeiter st h
section
variable {X:Cx}{tg:Expr}
def XA (K:XJ)(tl:TE):TI:=fun σ H R=>tl σ H fun x H1=>∃a,x = .ref a/\(∃xs,A7 K H1 a xs)/\R (Gg K a) H1
def UU (K:XJ)(tl:TE):TI:=fun σ H R=>tl σ H fun x H1=>∃a,x = .ref a/\(∃xs,A8 K H1 a xs)/\R (Hd K a) H1
theorem DR {l:Expr}{tl:TE}(hl:PE X l tl):PI X tg l (XA X.K tl):=by
 intro pins s σ H R I h
 refine As (hl pins s σ H _ I h) fun v s1 ⟨x,H1,I1,r1,q1⟩=>?_
 obtain⟨a,e,⟨xs,hq⟩,q⟩:=q1
 subst e
 cases r1
 obtain⟨its,rv,p,hz⟩:=I1.list hq
 refine wpAny_pyIter_list p.isList ?_
 refine⟨s1.heap.objs.size,[s1.heap.objs.size],_,_,H1,rfl,I1.kept (t':=s1.toks) fun b o e=>AI _ e,T2 a _,⟨_,BV _ rfl,rfl,rfl⟩,fun b hb=>?_,q⟩
 have e:b=s1.heap.objs.size:=by simpa using hb
 subst e
 exact I1.fpOk (An _) (I1.hok.fresh (An _))
theorem Pa {l:Expr}{tl:TE}(hl:PE X l tl):PI X tg l (UU X.K tl):=by
 intro pins s σ H R I h
 refine As (hl pins s σ H _ I h) fun v s1 ⟨x,H1,I1,r1,q1⟩=>?_
 obtain⟨a,e,⟨xs,hq⟩,q⟩:=q1
 subst e
 cases r1
 obtain⟨its,rv,p,hz⟩:=I1.tuple hq
 refine PM (show s1.heap.IsTuple a its.toArray from p) ?_
 refine⟨s1.heap.objs.size,[s1.heap.objs.size],_,_,H1,rfl,I1.kept (t':=s1.toks) fun b o e=>AI _ e,Qi a _,⟨_,BV _ rfl,rfl,rfl⟩,fun b hb=>?_,q⟩
 have e:b=s1.heap.objs.size:=by simpa using hb
 subst e
 exact I1.fpOk (An _) (I1.hok.fresh (An _))
theorem Nt {pins:List (Addr×Obj)}{σ:St}{H:Hp}{s:Shared}{R:It->Hp->Prop}{E:Value->Shared->Prop}{lo hi:Int}{t u v:Tok}{tk:Nat}(I:A2 X pins σ H s)(h1 : -(2 ^ 62)<=lo)(h2:lo<2 ^ 62)(h3 : -(2 ^ 62)<=hi)(h4:hi<2 ^ 62)
  (q:R (G5 lo (hi-lo).toNat) H):wpAny (model X.prog X.w) X.A (pyIter (.ref s.heap.objs.size)) (N9 X pins σ tg R) E {s with heap:=s.heap.push {cls:=.type "range",data:=.fields #[.int lo t,.int hi u,.int 1 v]},toks:=tk}:=by
 refine wpAny_pyIter_range (IsRange.new ..) (small_one h1 h2 h3 h4) ?_
 have I1:A2 X pins σ H {s with heap:=s.heap.push {cls:=.type "range",data:=.fields #[.int lo t,.int hi u,.int 1 v]},toks:=tk}:=I.kept fun b o e=>AI _ e
 refine⟨(s.heap.push {cls:=.type "range",data:=.fields #[.int lo t,.int hi u,.int 1 v]}).objs.size,[(s.heap.push {cls:=.type "range",data:=.fields #[.int lo t,.int hi u,.int 1 v]}).objs.size],_,_,H,rfl,
  I1.kept (t':=tk) fun b o e=>AI _ e,Wb _ lo (hi-lo).toNat,?_,fun b hb=>?_,q⟩
 .have e1:lo+((0:Nat):Int)*1=lo:=by simp
  have e2:(((hi-lo).toNat:Nat):Int)-((0:Nat):Int)=Builtin.Range.rangeSize lo hi 1:=by rw[rangeSize_one];split<;>omega
  show IsRangeIter _ _ (lo+((0:Nat):Int)*1) ((((hi-lo).toNat:Nat):Int)-((0:Nat):Int)) 1
  rw[e1,e2]
  exact BV _ rfl
 .have e:b=(s.heap.push {cls:=.type "range",data:=.fields #[.int lo t,.int hi u,.int 1 v]}).objs.size:=by simpa using hb
  subst e
  exact I1.fpOk (An _) (I1.hok.fresh (An _))
def T3 (ta:TA):TI:=fun σ H R=>ta σ H fun vs H1=>∃j:Int,vs=[.int j]/\-(2 ^ 62)<=j/\j<2 ^ 62/\R (G5 0 j.toNat) H1
def SJ (ta:TA):TI:=fun σ H R=>ta σ H fun vs H1=>∃i j:Int,vs=[.int i,.int j]/\(-(2 ^ 62)<=i/\i<2 ^ 62/\-(2 ^ 62)<=j/\j<2 ^ 62)/\R (G5 i (j-i).toNat) H1
theorem EZ {a:Expr}{ta:TA}{p pos:Pos}(hg:Gl X "range")(hm:X.mg "range"=none)(ha:PA X [a] ta)(hs:starEach [a] X.env=[(false,eval a X.env)]:=by rfl):PI X tg (.Call (.Name "range" p) [a] [] pos) (T3 ta):=by
 intro pins s σ H R I h
 refine Call_ (En I hg hm boot_range (FS (As (ha pos pins s σ H _ I h) fun us s1 ⟨vs,H1,I1,r1,q1⟩=>?_) hs rfl))
 obtain⟨j,e,q1,q2,q⟩:=q1
 subst e
 cases r1 with
 |
  cons r rr=>
  cases rr
  obtain⟨t,rfl⟩:=r
  exact call_range_1 (Nt I1 (by omega) (by omega) q1 q2 (by simpa using q))
theorem OV {a b:Expr}{ta:TA}{p pos:Pos}(hg:Gl X "range")(hm:X.mg "range"=none)(ha:PA X [a,b] ta)(hs:starEach [a,b] X.env=[(false,eval a X.env),(false,eval b X.env)]:=by rfl)(hs2:starEach [b] X.env=[(false,eval b X.env)]:=by rfl) :
  PI X tg (.Call (.Name "range" p) [a,b] [] pos) (SJ ta):=by
 intro pins s σ H R I h
 refine Call_ (En I hg hm boot_range (FS (As (ha pos pins s σ H _ I h) fun us s1 ⟨vs,H1,I1,r1,q1⟩=>?_) (by rw[hs,hs2]) (by rw[hs2];rfl)))
 obtain⟨i,j,e,⟨q1,q2,q3,q4⟩,q⟩:=q1
 subst e
 cases r1 with
 |
  cons r rr=>
  cases rr with
  |
   cons r' rr=>
   cases rr
   obtain⟨t,rfl⟩:=r
   obtain⟨t',rfl⟩:=r'
   exact call_range_2 (Nt I1 q1 q2 q3 q4 q)
def RC (wi:TI)(g:TG)(tb:TS):TS:=fun D σ H=>wi σ H fun J H1=>∃W:Nat->Nat->St->Hp->Prop,(∃m,W 0 m σ H1)/\∀i m σ H,W i m σ H->
 (J.stop i H/\D.nx σ H)\/(J.go i H/\∃N:St->Hp->Prop,(∀σ' H',N σ' H'->∃m',m'<m/\W (i+1) m' σ' H')/\∀x H',J.yld i H x H'->g x σ H' fun σ2 H2=>tb {D with nx:=N,ct:=N,bk:=D.nx} σ2 H2)
def GN (fp:List Addr)(h:Heap):List (Addr×Obj):=fp.filterMap fun b=>(h.get? b).map fun o=>(b,o)
theorem Ig {fp:List Addr}{h:Heap}{b:Addr}{o:Obj}(hb:b∈fp)(e:h.get? b=some o):(b,o)∈GN fp h:=List.mem_filterMap.mpr ⟨b,hb,by rw[e];rfl⟩
theorem RL {fp:List Addr}{h:Heap}{p:Addr×Obj}(hp:p∈GN fp h):p.1∈fp/\h.get? p.1=some p.2:=by
 obtain⟨b,hb,e⟩:=List.mem_filterMap.mp hp
 cases q:h.get? b with
 |none=>rw[q]at e;cases e
 |
  some o=>
  rw[q]at e
  have e':(b,o)=p:=AZ e
  subst e'
  exact⟨hb,q⟩
theorem A2.pinned {pins:List (Addr×Obj)}{σ:St}{H:Hp}{s:Shared}{fp:List Addr}(I:A2 X pins σ H s)(hf:∀b∈fp,E5 X pins H b)(ho:∀b∈fp,∃o,s.heap.get? b=some o/\∀v,o.data≠.cell v):A2 X (pins++GN fp s.heap) σ H s:=
 I.pins_of fun p hp=>(Cj.mp hp).elim (fun z=>I.pin p (BK _ z)) fun z=>by
  obtain⟨hb,e⟩:=RL z
  obtain⟨f0,f1,f2,_⟩:=hf p.1 hb
  obtain⟨o,e',d⟩:=ho p.1 hb
  rw[e]at e';cases e'
  exact⟨e,f0,f1,f2,d⟩
theorem A2.unpinned {pins pl:List (Addr×Obj)}{σ:St}{H:Hp}{s:Shared}(I:A2 X (pins++pl) σ H s):A2 X pins σ H s:=I.pins_of fun p hp=>I.pin p (BK _ (Ck _ hp))
theorem CH {iter:Expr}{body:List Stmt}{wi:TI}{g:TG}{tb:TS}{pos:Pos}(hp:PassesOwn (model X.prog X.w) X.A X.env X.xe)(hc:X.calm=true)(hi:PI X tg iter wi)(hg:PG X tg g)(hb:CN X body tb)
  (hs:∀x,foldedSetIterable iter X.env x=pure x:=by intro _;rfl):PS X (.For tg iter body [] pos) (RC wi g tb):=by
 intro pins s σ H D I h
 refine wpAny_For (As (hi pins s σ H _ I h) fun v s1 h1=>As h1 fun itv s2 h2=>?_) hs
 obtain⟨it,fp,tn,J,H2,e,I2,T,st2,f2,W,⟨m0,w0⟩,turn⟩:=h2
 subst e
 have stat:∀{H':Hp},(∀b∈fp,H' b=none)->∀b∈fp,E5 X pins H' b:=fun hn b hb=>⟨hn b hb,(f2 b hb).2⟩
 refine codeAny_forLoop_any (fun n s'=>∃i σ' H',A2 X pins σ' H' s'/\tn i s'.heap/\(∀b∈fp,H' b=none)/\W i n σ' H') ?_ m0 ⟨0,σ,H2,I2,st2,fun b hb=>(f2 b hb).1,w0⟩
 rintro n s3 ⟨i,σ3,H3,I3,st3,fr3,w3⟩
 rcases turn i n σ3 H3 w3 with⟨stop,qn⟩|⟨go,N,hN,step⟩
 .refine Hu hp (As (T.done X rfl rfl rfl hc i pins s3 σ3 H3 X.xe I3 (stat fr3) st3 stop) fun r s4 ⟨hr,I4⟩=>?_)
  subst hr
  exact KH ⟨σ3,H3,I4,qn⟩
 .refine Hu hp (As (T.item X rfl rfl rfl hc i pins s3 σ3 H3 X.xe I3 (stat fr3) st3 go) fun r s4 ⟨u,hr,h4⟩=>?_)
  subst hr
  refine Hu hp (As h4 fun _ s5 ⟨x,H5,I5,r5,y5,st5,fr5⟩=>?_)
  have I5':=I5.pinned (stat fr5) (T.obj _ _ st5)
  refine Hu hp (As (hg _ s5 σ3 H5 x u _ I5' r5 (step x H5 y5)) fun _ s6 ⟨σ6,H6,I6,q6⟩=>?_)
  refine Hu hp (As (hb _ s6 σ6 H6 _ I6 q6) fun f s7 q7=>?_)
  have again:∀{σ7:St} {H7:Hp},A2 X (pins++GN fp s5.heap) σ7 H7 s7->N σ7 H7->∃m,m<n/\∃i σ' H',A2 X pins σ' H' s7/\tn i s7.heap/\(∀b∈fp,H' b=none)/\W i m σ' H':=fun{σ7 H7} I7 n7=>by
   obtain⟨m',hm,w7⟩:=hN σ7 H7 n7
   refine⟨m',hm,i+1,σ7,H7,I7.unpinned,T.keep _ _ _ st5 fun b hb o e=>(I7.pin (b,o) (BK _ (BK _ (Ig hb e)))).1,fun b hb=>?_,w7⟩
   obtain⟨o,e,d⟩:=T.obj _ _ st5 b hb
   exact(I7.pin (b,o) (BK _ (BK _ (Ig hb e)))).2.1
  cases f with
  |next=>obtain⟨σ7,H7,I7,n7⟩:=q7;exact again I7 n7
  |cont=>obtain⟨σ7,H7,I7,n7⟩:=q7;exact again I7 n7
  |brk=>obtain⟨σ7,H7,I7,q7⟩:=q7;exact⟨σ7,H7,I7.unpinned,q7⟩
  |ret v=>obtain⟨x7,σ7,H7,I7,r7,q7⟩:=q7;exact⟨x7,σ7,H7,I7.unpinned,r7,q7⟩
end
theorem Hg {K:XJ}{a:Addr}{xs:List V}{g:TG}{tb:TS}{D:CI}{σ:St}{H:Hp}(Pv:Nat->St->Hp->Prop)(h0:Pv 0 σ H)(hl:∀i σ H,i<=xs.length->Pv i σ H->A7 K H a xs)
  (hs:∀i x σ H,xs[i]?=some x->Pv i σ H->g x σ H fun σ2 H2=>tb {D with nx:=Pv (i+1),ct:=Pv (i+1),bk:=D.nx} σ2 H2) (hd:∀σ H,Pv xs.length σ H->D.nx σ H) :
  ∃W:Nat->Nat->St->Hp->Prop,(∃m,W 0 m σ H)/\∀i m σ H,W i m σ H->
   ((Gg K a).stop i H/\D.nx σ H)\/((Gg K a).go i H/\∃N:St->Hp->Prop,(∀σ' H',N σ' H'->∃m',m'<m/\W (i+1) m' σ' H')/\∀x H',(Gg K a).yld i H x H'->g x σ H' fun σ2 H2=>tb {D with nx:=N,ct:=N,bk:=D.nx} σ2 H2):=by
 refine⟨fun i m σ H=>m=xs.length-i/\i<=xs.length/\Pv i σ H,⟨xs.length,by simp,BF _,h0⟩,?_⟩
 rintro i m σ H ⟨rfl,hi,p⟩
 have q:=hl i σ H hi p
 by_cases hlt:i<xs.length
 .refine .inr ⟨⟨xs,xs[i],q,by simp[hlt]⟩,Pv (i+1),fun σ' H' p'=>⟨xs.length-(i+1),by omega,rfl,hlt,p'⟩,fun x H' y=>?_⟩
  obtain⟨e,y⟩:=y
  subst e
  exact hs i x σ _ (y xs q) p
 .have e:i=xs.length:=by omega
  subst e
  exact .inl ⟨⟨xs,q,An _⟩,hd σ H p⟩
theorem Vn {K:XJ}{a:Addr}{xs:List V}{g:TG}{tb:TS}{D:CI}{σ:St}{H:Hp}(Pv:Nat->St->Hp->Prop)(h0:Pv 0 σ H)(hl:∀i σ H,i<=xs.length->Pv i σ H->A8 K H a xs)
  (hs:∀i x σ H,xs[i]?=some x->Pv i σ H->g x σ H fun σ2 H2=>tb {D with nx:=Pv (i+1),ct:=Pv (i+1),bk:=D.nx} σ2 H2) (hd:∀σ H,Pv xs.length σ H->D.nx σ H) :
  ∃W:Nat->Nat->St->Hp->Prop,(∃m,W 0 m σ H)/\∀i m σ H,W i m σ H->
   ((Hd K a).stop i H/\D.nx σ H)\/((Hd K a).go i H/\∃N:St->Hp->Prop,(∀σ' H',N σ' H'->∃m',m'<m/\W (i+1) m' σ' H')/\∀x H',(Hd K a).yld i H x H'->g x σ H' fun σ2 H2=>tb {D with nx:=N,ct:=N,bk:=D.nx} σ2 H2):=by
 refine⟨fun i m σ H=>m=xs.length-i/\i<=xs.length/\Pv i σ H,⟨xs.length,by simp,BF _,h0⟩,?_⟩
 rintro i m σ H ⟨rfl,hi,p⟩
 have q:=hl i σ H hi p
 by_cases hlt:i<xs.length
 .refine .inr ⟨⟨xs,xs[i],q,by simp[hlt]⟩,Pv (i+1),fun σ' H' p'=>⟨xs.length-(i+1),by omega,rfl,hlt,p'⟩,fun x H' y=>?_⟩
  obtain⟨e,y⟩:=y
  subst e
  exact hs i x σ _ (y xs q) p
 .have e:i=xs.length:=by omega
  subst e
  exact .inl ⟨⟨xs,q,An _⟩,hd σ H p⟩
theorem Ej {lo:Int}{n:Nat}{g:TG}{tb:TS}{D:CI}{σ:St}{H:Hp}(Pv:Nat->St->Hp->Prop)(h0:Pv 0 σ H)
  (hs:∀i σ H,i<n->Pv i σ H->g (.int (lo+i)) σ H fun σ2 H2=>tb {D with nx:=Pv (i+1),ct:=Pv (i+1),bk:=D.nx} σ2 H2) (hd:∀σ H,Pv n σ H->D.nx σ H) :
  ∃W:Nat->Nat->St->Hp->Prop,(∃m,W 0 m σ H)/\∀i m σ H,W i m σ H->
   ((G5 lo n).stop i H/\D.nx σ H)\/((G5 lo n).go i H/\∃N:St->Hp->Prop,(∀σ' H',N σ' H'->∃m',m'<m/\W (i+1) m' σ' H')/\∀x H',(G5 lo n).yld i H x H'->g x σ H' fun σ2 H2=>tb {D with nx:=N,ct:=N,bk:=D.nx} σ2 H2):=by
 refine⟨fun i m σ H=>m=n-i/\i<=n/\Pv i σ H,⟨n,by simp,BF _,h0⟩,?_⟩
 rintro i m σ H ⟨rfl,hi,p⟩
 by_cases hlt:i<n
 .refine .inr ⟨hlt,Pv (i+1),fun σ' H' p'=>⟨n-(i+1),by omega,rfl,hlt,p'⟩,fun x H' y=>?_⟩
  obtain⟨e,y⟩:=y
  subst e y
  exact hs i σ _ hlt p
 .have e:i=n:=by omega
  subst e
  exact .inl ⟨An _,hd σ H p⟩
abbrev R2:=V->V->Hp->VK->Prop
def BP (X:Cx)(f:Value->Value->Sem Value)(r:R2):Prop:=
 ∀(pins:List (Addr×Obj)) (s:Shared) (σ:St) (H:Hp) (x y:V) (v u:Value) (Q:VK),A2 X pins σ H s->Ax x v->Ax y u->r x y H Q->
  wpAny (model X.prog X.w) X.A (f v u) (EP X pins σ Q) X.xe s
def M5 (X:Cx)(f:Value->Sem Value)(r:V->Hp->VK->Prop):Prop:=
 ∀(pins:List (Addr×Obj)) (s:Shared) (σ:St) (H:Hp) (x:V) (v:Value) (Q:VK),A2 X pins σ H s->Ax x v->r x H Q->
  wpAny (model X.prog X.w) X.A (f v) (EP X pins σ Q) X.xe s
def Ey (X:Cx)(f:Value)(r:List V->Hp->VK->Prop):Prop:=
 ∀(pins:List (Addr×Obj)) (s:Shared) (σ:St) (H:Hp) (xs:List V) (us:List Value) (Q:VK),A2 X pins σ H s->Aw xs us->r xs H Q->
  wpAny (model X.prog X.w) X.A (call f us) (EP X pins σ Q) X.xe s
def Xz (X:Cx)(r:V->Hp->(Bool->Hp->Prop)->Prop):Prop:=
 ∀(pins:List (Addr×Obj)) (s:Shared) (σ:St) (H:Hp) (x:V) (v:Value) (Q:Bool->Hp->Prop),A2 X pins σ H s->Ax x v->r x H Q->
  wpAny (model X.prog X.w) X.A (truthy v) (TP X pins σ Q) X.xe s
def Iw (r:R2)(ta tb:TE):TE:=fun σ H Q=>ta σ H fun x H1=>tb σ H1 fun y H2=>r x y H2 Q
def Vr (r:V->Hp->VK->Prop)(ta:TE):TE:=fun σ H Q=>ta σ H fun x H1=>r x H1 Q
def rI (C:Int->Int->Prop)(g:Int->Int->V):R2:=fun x y H Q=>∃i j,x = .int i/\y = .int j/\C i j/\Q (g i j) H
def Fy (g:Int->Int->V):R2:=fun x y H Q=>∃i j,x = .int i/\y = .int j/\Q (g i j) H
def rU (g:Int->V):V->Hp->VK->Prop:=fun x H Q=>∃i,x = .int i/\Q (g i) H
section
variable {X:Cx}{a b c:Expr}{ta tb tc:TE}{pos:Pos}
theorem Ld (ha:PE X a ta)(hb:PE X b tb){pins:List (Addr×Obj)}{s:Shared}{σ:St}{H:Hp}{R:V->V->Hp->Prop}(I:A2 X pins σ H s)
  (h:ta σ H fun x H1=>tb σ H1 fun y H2=>R x y H2) {Q:Value->Shared->Prop} {f:Value->Value->Sem Value}
  (hf:∀v u s2 x y H2,A2 X pins σ H2 s2->Ax x v->Ax y u->R x y H2->wpAny (model X.prog X.w) X.A (f v u) Q X.xe s2) :
  wpAny (model X.prog X.w) X.A (eval a X.env) (fun v s₁=>wpAny (model X.prog X.w) X.A (eval b X.env) (fun u s₂=>wpAny (model X.prog X.w) X.A (f v u) Q X.xe s₂) X.xe s₁) X.xe s:=by
 refine As (ha pins s σ H _ I h) fun v s1 ⟨x,H1,I1,r1,q1⟩=>?_
 refine As (hb pins s1 σ H1 _ I1 q1) fun u s2 ⟨y,H2,I2,r2,q2⟩=>?_
 exact hf v u s2 x y H2 I2 r1 r2 q2
theorem A4 {op:Operator}{r:R2}(ho:BP X (binaryOp op) r)(ha:PE X a ta)(hb:PE X b tb):PE X (.BinOp a op b pos) (Iw r ta tb):=by
 intro pins s σ H Q I h
 exact wpAny_BinOp (Ld ha hb I h fun v u s2 x y H2 I2 rx ry q=>ho pins s2 σ H2 x y v u Q I2 rx ry q)
theorem Dt {op:UnaryOp}{r:V->Hp->VK->Prop}(ho:M5 X (unaryOp op) r)(ha:PE X a ta):PE X (.UnaryOp op a pos) (Vr r ta):=by
 intro pins s σ H Q I h
 exact UnaryOp_ (As (ha pins s σ H _ I h) fun v s1 ⟨x,H1,I1,r1,q1⟩=>ho pins s1 σ H1 x v Q I1 r1 q1)
theorem Jz {f:Value->Value->Sem Value}{C:Int->Int->Prop}{g:Int->Int->Int}
  (rule:∀(i j:Int) (t u:Tok) (s:Shared) (Q:Value->Shared->Prop) (E:Value->Shared->Prop),C i j->Q (.int (g i j) s.toks) {s with toks:=s.toks+1}->wpAny (model X.prog X.w) X.A (f (.int i t) (.int j u)) Q E s) :
  BP X f (rI C fun i j=>.int (g i j)):=by
 intro pins s σ H x y v u Q I rx ry h
 obtain⟨i,j,rfl,rfl,hc,q⟩:=h
 obtain⟨t,rfl⟩:=rx
 obtain⟨t',rfl⟩:=ry
 exact rule i j t t' s _ _ hc ⟨.int (g i j),H,I.tok _,⟨_,rfl⟩,q⟩
theorem MM {f:Value->Value->Sem Value}{g:Int->Int->Int}
  (rule:∀(i j:Int) (t u:Tok) (s:Shared) (Q:Value->Shared->Prop) (E:Value->Shared->Prop),Q (.int (g i j) s.toks) {s with toks:=s.toks+1}->wpAny (model X.prog X.w) X.A (f (.int i t) (.int j u)) Q E s) :
  BP X f (Fy fun i j=>.int (g i j)):=by
 intro pins s σ H x y v u Q I rx ry h
 obtain⟨i,j,rfl,rfl,q⟩:=h
 obtain⟨t,rfl⟩:=rx
 obtain⟨t',rfl⟩:=ry
 exact rule i j t t' s _ _ ⟨.int (g i j),H,I.tok _,⟨_,rfl⟩,q⟩
theorem M0 {f:Value->Value->Sem Value}{g:Int->Int->Bool}
  (rule:∀(i j:Int) (t u:Tok) (s:Shared) (Q:Value->Shared->Prop) (E:Value->Shared->Prop),Q (.bool (g i j)) s->wpAny (model X.prog X.w) X.A (f (.int i t) (.int j u)) Q E s) :
  BP X f (Fy fun i j=>.bl (g i j)):=by
 intro pins s σ H x y v u Q I rx ry h
 obtain⟨i,j,rfl,rfl,q⟩:=h
 obtain⟨t,rfl⟩:=rx
 obtain⟨t',rfl⟩:=ry
 exact rule i j t t' s _ _ ⟨.bl (g i j),H,I,rfl,q⟩
def QZ (i j:Int):Prop:=0<j/\j<1073741824
def RA (i j:Int):Prop:=0<=j/\j<=1000000/\i.natAbs<2 ^ 64
def KR (i j:Int):Prop:=(-(2 ^ 64)<i/\i<2 ^ 64)\/(-(2 ^ 64)<j/\j<2 ^ 64)
theorem KR.ok {i j:Int}(h:KR i j):IntMulOk i j:=by
 rcases h with⟨h1,h2⟩|⟨h1,h2⟩
 .exact .of_left (intBits_le_64 h1 h2)
 .exact .of_right (intBits_le_64 h1 h2)
theorem AU:BP X (binaryOp .Add) (Fy fun i j=>.int (i+j)):=MM fun _ _ _ _ _ _ _ q=>add_int q
theorem DS:BP X (binaryOp .Sub) (Fy fun i j=>.int (i-j)):=MM fun _ _ _ _ _ _ _ q=>sub_int q
theorem CT:BP X (binaryOp .Mult) (rI KR fun i j=>.int (i*j)):=Jz fun _ _ _ _ _ _ _ hc q=>mul_int q hc.ok
theorem BH:BP X (binaryOp .FloorDiv) (rI QZ fun i j=>.int (i/j)):=Jz fun i j _ _ _ _ _ hc q=>by
 have h1:(0:Int)<j:=hc.1
 have h2:j<1073741824:=hc.2
 exact floordiv_int (by omega) (by rw[Int.fdiv_eq_ediv_of_nonneg i (by omega)];exact q) (.inl (PyProof.noPylong_small (by omega)))
theorem AL:BP X (binaryOp .Mod) (rI (fun _ j=>0<j) fun i j=>.int (i%j)):=Jz fun i j _ _ _ _ _ hc q=>by
 have h1:(0:Int)<j:=hc
 exact mod_int' (by omega) (by rw[Int.fmod_eq_emod_of_nonneg i (by omega)];exact q)
theorem EG:BP X (binaryOp .Pow) (rI RA fun i j=>.int (i ^ j.toNat)):=Jz fun _ _ _ _ _ _ _ hc q=>pow_int_small hc.1 hc.2.1 hc.2.2 q
theorem QX {f:Value->Sem Value}{g:Int->Int}
  (rule:∀(i:Int) (t:Tok) (s:Shared) (Q:Value->Shared->Prop) (E:Value->Shared->Prop),Q (.int (g i) s.toks) {s with toks:=s.toks+1}->wpAny (model X.prog X.w) X.A (f (.int i t)) Q E s) :
  M5 X f (rU fun i=>.int (g i)):=by
 intro pins s σ H x v Q I rx h
 obtain⟨i,rfl,q⟩:=h
 obtain⟨t,rfl⟩:=rx
 exact rule i t s _ _ ⟨.int (g i),H,I.tok _,⟨_,rfl⟩,q⟩
theorem Dm:M5 X (unaryOp .USub) (rU fun i=>.int (-i)):=QX fun _ _ _ _ _ q=>neg_int q
end
def R7:V->V->Bool
 |.non,.non=>true|.non,.int _=>true|.int _,.non=>true|.non,.bl _=>true|.bl _,.non=>true|.non,.str _=>true|.str _,.non=>true
 |.int _,.int _=>true|.bl _,.bl _=>true|.str _,.str _=>true|.byt _,.byt _=>true
 |.int _,.str _=>true|.str _,.int _=>true|.bl _,.str _=>true|.str _,.bl _=>true
 |_,_=>false
def Uw:R2:=fun x y H Q=>R7 x y=true/\Q (.bl (decide (x=y))) H
theorem R8 {i j:Int}:decide (V.int i=V.int j)=(i==j):=by
 rw[GA]
 simp
theorem Ul {i j:Bool}:decide (V.bl i=V.bl j)=(i==j):=by
 rw[GA]
 simp
theorem SK {i j:Str}:decide (V.str i=V.str j)=(i==j):=by
 rw[GA]
 simp
theorem U2 {i j:Array UInt8}:decide (V.byt i=V.byt j)=(i.toList==j.toList):=by
 rw[GA]
 cases i
 cases j
 simp
section
variable {X:Cx}{a b c:Expr}{ta tb tc:TE}{pos:Pos}
theorem D3 {pins:List (Addr×Obj)}{σ:St}{H:Hp}{s:Shared}{Q:VK}{k k':Bool}(I:A2 X pins σ H s)(q:Q (.bl k) H)(e:k=k'):EP X pins σ Q (.bool k') s:=by
 subst e
 exact⟨.bl k,H,I,rfl,q⟩
theorem Dk:BP X (compareOp .Eq) Uw:=by
 intro pins s σ H x y v u Q I rx ry h
 obtain⟨hs,q⟩:=h
 cases x with
 |
  non=>
  cases rx
  cases y with
  |non=>cases ry;exact PySem.EqNone.eq_none_none (D3 I q (by simp))
  |bl j=>cases ry;exact PySem.EqNone.eq_none_bool (D3 I q (by simp))
  |int j=>obtain⟨t',rfl⟩:=ry;exact PySem.EqNone.eq_none_int (D3 I q (by simp))
  |str j=>obtain⟨t',rfl⟩:=ry;exact PySem.EqNone.eq_none_str (D3 I q (by simp))
  |_=>exact absurd (show false=true from hs) DG
 |
  bl i=>
  cases rx
  cases y with
  |non=>cases ry;exact PySem.EqNone.eq_bool_none (D3 I q (by simp))
  |bl j=>cases ry;exact eq_bool (D3 I q Ul)
  |str j=>obtain⟨t',rfl⟩:=ry;exact PySem.EqMixed.eq_bool_str (D3 I q (by simp))
  |_=>exact absurd (show false=true from hs) DG
 |
  int i=>
  obtain⟨t,rfl⟩:=rx
  cases y with
  |non=>cases ry;exact PySem.EqNone.eq_int_none (D3 I q (by simp))
  |int j=>obtain⟨t',rfl⟩:=ry;exact eq_int (D3 I q R8)
  |str j=>obtain⟨t',rfl⟩:=ry;exact PySem.EqMixed.eq_int_str (D3 I q (by simp))
  |_=>exact absurd (show false=true from hs) DG
 |
  str i=>
  obtain⟨t,rfl⟩:=rx
  cases y with
  |non=>cases ry;exact PySem.EqNone.eq_str_none (D3 I q (by simp))
  |bl j=>cases ry;exact PySem.EqMixed.eq_str_bool (D3 I q (by simp))
  |int j=>obtain⟨t',rfl⟩:=ry;exact PySem.EqMixed.eq_str_int (D3 I q (by simp))
  |str j=>obtain⟨t',rfl⟩:=ry;exact eq_str (D3 I q SK)
  |_=>exact absurd (show false=true from hs) DG
 |
  byt i=>
  obtain⟨t,rfl⟩:=rx
  cases y with
  |byt j=>obtain⟨t',rfl⟩:=ry;exact PySem.W.eq_bytes (D3 I q U2)
  |_=>exact absurd (show false=true from hs) DG
 |_=>cases y<;>exact absurd (show false=true from hs) DG
theorem LJ:BP X (compareOp .Lt) (Fy fun i j=>.bl (decide (i<j))):=M0 fun _ _ _ _ _ _ _ q=>lt_int q
theorem OK:BP X (compareOp .LtE) (Fy fun i j=>.bl (decide (i<=j))):=M0 fun _ _ _ _ _ _ _ q=>le_int q
theorem Gv:BP X (compareOp .Gt) (Fy fun i j=>.bl (decide (j<i))):=M0 fun _ _ _ _ _ _ _ q=>gt_int q
theorem NI:BP X (compareOp .Is) (fun x y H Q=>y = .non/\Q (.bl (decide (x = .non))) H):=by
 intro pins s σ H x y v u Q I rx ry h
 obtain⟨rfl,q⟩:=h
 cases ry
 refine is_none_gen (D3 I q ?_)
 cases x<;>first
  |(cases rx;rfl)
  |(obtain⟨t,rfl⟩:=rx;rfl)
theorem O2:BP X (compareOp .IsNot) (fun x y H Q=>y = .non/\Q (.bl (!decide (x = .non))) H):=by
 intro pins s σ H x y v u Q I rx ry h
 obtain⟨rfl,q⟩:=h
 cases ry
 refine isnot_none_gen (D3 I q ?_)
 cases x<;>first
  |(cases rx;rfl)
  |(obtain⟨t,rfl⟩:=rx;rfl)
theorem Bk (b:Expr){op:CmpOp}(h:op≠.In:=by decide)(h2:op≠.NotIn:=by decide):behindInMarks op b=false:=by
 have e1:(op==CmpOp.In)=false:=by cases op<;>first|rfl|exact absurd rfl h
 have e2:(op==CmpOp.NotIn)=false:=by cases op<;>first|rfl|exact absurd rfl h2
 cases b<;>simp[behindInMarks,e1,e2]
theorem OI {op:CmpOp}{r:R2}(ho:BP X (compareOp op) r)(ha:PE X a ta)(hb:PE X b tb)(hm:behindInMarks op b=false):PE X (.Compare a [op] [b] pos) (Iw r ta tb):=by
 intro pins s σ H Q I h
 exact wpAny_Compare1 (Ld ha hb I h fun v u s2 x y H2 I2 rx ry q=>ho pins s2 σ H2 x y v u Q I2 rx ry q) hm
def OZ (t:TE):TT:=fun σ H Q=>t σ H fun x H'=>∃k,x = .bl k/\Q k H'
theorem Bp {op:CmpOp}{r:R2}(ho:BP X (compareOp op) r)(ha:PE X a ta)(hb:PE X b tb)(hm:behindInMarks op b=false):PT X (.Compare a [op] [b] pos) (OZ (Iw r ta tb)):=by
 intro pins s σ H Q I h
 refine wpAny_isTrue_Compare1 (As (ha pins s σ H _ I h) fun v s1 ⟨x,H1,I1,r1,q1⟩=>As (hb pins s1 σ H1 _ I1 q1) fun u s2 ⟨y,H2,I2,r2,q2⟩=>
  As (ho pins s2 σ H2 x y v u _ I2 r1 r2 q2) fun c s3 ⟨z,H3,I3,r3,k,e,q3⟩=>?_) hm
 subst e
 cases r3
 exact J6 ⟨H3,I3,q3⟩
def N8 (K:XJ)(x:V)(H:Hp)(k:Bool):Prop:=
 match x with
 |.non=>k=false
 |.bl b=>k=b
 |.int i=>k=(i != 0)
 |.str y=>y.length<=sizeLine/\k=((y.length:Int) != 0)
 |.byt y=>y.size<=sizeLine/\k=((y.size:Int) != 0)
 |.ref p=>(∃xs,A7 K H p xs/\k=!xs.isEmpty)\/(∃xs,A8 K H p xs/\k=!xs.isEmpty)\/∃kvs,H p=some (.dK kvs)/\k=!kvs.isEmpty
 |_=>False
theorem X1 {κ:Type}{kvs:List (κ×V)}{vs:List (κ×Value)}(r:KV kvs vs):(!vs.isEmpty)=!kvs.isEmpty:=by
 cases r<;>rfl
theorem NH {xs:List V}{its:List Value}(r:Aw xs its):(!its.toArray.isEmpty)=!xs.isEmpty:=by
 cases r<;>simp
theorem GO:(sizeLine:Nat)<2 ^ 63:=by rw[KI];decide
theorem Sn:Xz X (fun x H Q=>∃k,N8 X.K x H k/\Q k H):=by
 intro pins s σ H x v Q I rx h
 obtain⟨k,e,q⟩:=h
 have hl:=GO
 have hs:sizeLine=16777216:=KI
 cases x with
 |
  non=>
  cases rx
  have e':k=false:=e
  subst e'
  exact truthy_none ⟨H,I,q⟩
 |
  bl b=>
  cases rx
  have e':k=b:=e
  subst e'
  exact J6 ⟨H,I,q⟩
 |
  int i=>
  obtain⟨t,rfl⟩:=rx
  have e':k=(i != 0):=e
  subst e'
  exact PySem.P.truthy_int ⟨H,I,q⟩
 |
  str y=>
  obtain⟨t,rfl⟩:=rx
  obtain⟨hy,e'⟩:y.length<=sizeLine/\k=((y.length:Int) != 0):=e
  subst e'
  exact PySem.P.truthy_str (by omega) ⟨H,I.tok _,q⟩
 |
  byt y=>
  obtain⟨t,rfl⟩:=rx
  obtain⟨hy,e'⟩:y.size<=sizeLine/\k=((y.size:Int) != 0):=e
  subst e'
  exact PySem.W.truthy_bytes (by omega) ⟨H,I.tok _,q⟩
 |
  ref p=>
  cases rx
  have e':(∃xs,A7 X.K H p xs/\k=!xs.isEmpty)\/(∃xs,A8 X.K H p xs/\k=!xs.isEmpty)\/∃kvs,H p=some (.dK kvs)/\k=!kvs.isEmpty:=e
  rcases e' with⟨xs,hx,e'⟩|⟨xs,hx,e'⟩|⟨kvs,hx,e'⟩
  .subst e'
   obtain⟨its,r,pl,hz⟩:=I.list hx
   have hlen:=r.length
   exact wpAny_truthy_list pl.isList (by simp only[B5];omega) ⟨H,I.tok _,by rw[NH r];exact q⟩
  .subst e'
   obtain⟨its,r,pl,hz⟩:=I.tuple hx
   have hlen:=r.length
   exact truthy_tuple pl (by simp only[B5];omega) ⟨H,I.tok _,by rw[NH r];exact q⟩
  .subst e'
   obtain⟨hz,hS,vs,r,m⟩:kvs.length<=sizeLine/\(p==sysModules)=false/\∃vs,KV kvs vs/\s.heap.DictOf (C5 X.prog X.w) p vs:=I.hok p _ hx
   have hlen:kvs.length=vs.length:=Paired.length r
   exact wpAny_truthy_dict hS m (by omega) ⟨H,I.tok _,by rw[X1 r];exact q⟩
 |_=>exact(show False from e).elim
theorem U8 (ha:PE X a ta)(he:∀whole,isTrue a X.env whole=(do let v ←whole;standAt a.pos;holding [v] (truthy v))) :
  PT X a (fun σ H Q=>ta σ H fun x H'=>∃k,N8 X.K x H' k/\Q k H'):=by
 intro pins s σ H Q I h
 exact isTrue_plain (As (ha pins s σ H _ I h) fun v s1 ⟨x,H1,I1,r1,q1⟩=>Sn pins s1 σ H1 x v Q I1 r1 q1) (he _)
theorem IE:BP X (binaryOp .Add) (fun x y H Q=>∃i j,x = .str i/\y = .str j/\i.length+j.length<=sizeLine/\Q (.str (i++j)) H):=by
 intro pins s σ H x y v u Q I rx ry h
 obtain⟨i,j,rfl,rfl,hz,q⟩:=h
 obtain⟨t,rfl⟩:=rx
 obtain⟨t',rfl⟩:=ry
 exact add_str (fun t' tk=>⟨.str (i++j),H,I.tok _,⟨_,rfl⟩,q⟩) hz
theorem FC {x:V}{us:List Value}(r:Aw [x] us):∃u,us=[u]/\Ax x u:=by
 cases r with
 |cons r1 r2=>cases r2;exact⟨_,rfl,r1⟩
theorem P0 {x y:V}{us:List Value}(r:Aw [x,y] us):∃u w',us=[u,w']/\Ax x u/\Ax y w':=by
 cases r with
 |
  cons r1 r2=>
  cases r2 with
  |cons r3 r4=>cases r4;exact⟨_,_,rfl,r1,r3⟩
theorem NU (hc:X.calm=true):Ey X (.builtin "max") (fun xs H Q=>∃i j,xs=[.int i,.int j]/\Q (.int (if j>i then j else i)) H):=by
 intro pins s σ H xs us Q I r h
 obtain⟨i,j,rfl,q⟩:=h
 obtain⟨u,w',rfl,⟨t,rfl⟩,⟨t',rfl⟩⟩:=P0 r
 refine max_two_ints (I.ok.hd hc) fun h' tk k=>⟨_,H,I.kept k,?_,q⟩
 by_cases hj:j>i
 .rw[Ah hj,Ah hj];exact⟨_,rfl⟩
 .rw[Ae hj,Ae hj];exact⟨_,rfl⟩
theorem W8 (hc:X.calm=true):Ey X (.builtin "min") (fun xs H Q=>∃i j,xs=[.int i,.int j]/\Q (.int (if j<i then j else i)) H):=by
 intro pins s σ H xs us Q I r h
 obtain⟨i,j,rfl,q⟩:=h
 obtain⟨u,w',rfl,⟨t,rfl⟩,⟨t',rfl⟩⟩:=P0 r
 refine min_two_ints (I.ok.hd hc) fun h' tk k=>⟨_,H,I.kept k,?_,q⟩
 by_cases hj:j<i
 .rw[Ah hj,Ah hj];exact⟨_,rfl⟩
 .rw[Ae hj,Ae hj];exact⟨_,rfl⟩
end
structure GY (h:Heap)(x dx C:Addr)(mA:Str->Option Value):Prop where
 obj:h.get? x=some (PySem.W.instObj C dx)
 ns:h.Ns1 dx mA
 ne:dx≠x
theorem Qr {h:Heap}{dx:Addr}{mA:Str->Option Value}(n:h.Ns1 dx mA):∃od,h.get? dx=some od/\∀name,PySem.W.lookIn name od=some (mA name):=by
 obtain⟨o,es,ep,ho,hd,hk,_,hm⟩:=n
 refine⟨o,ho,fun name=>?_⟩
 have e:=hm name
 unfold nsFind findBy at e
 rw[←Array.find?_toList]at e
 unfold PySem.W.lookIn
 rw[hd]
 dsimp only
 split
 .rename_i y q
  rw[q]at e
  exact congrArg some e
 .rename_i q
  rw[q]at e
  have a:es.toList.any (·.refKey)=false:=by
   rw[List.any_eq_false]
   intro y hy
   obtain⟨z,t,hkey⟩:=hk y (Array.mem_toList_iff.mp hy)
   simp[DictEntry.refKey,hkey]
  have a':¬es.toList.any (·.refKey)=true:=by rw[a];exact DG
  rw[Ae a']
  exact congrArg some e
theorem GY.look {h:Heap}{x dx C:Addr}{mA:Str->Option Value}(I:GY h x dx C mA):∃od,PySem.W.InstAt h x (PySem.W.instObj C dx) C (some od)/\∀name,PySem.W.lookIn name od=some (mA name):=
 let ⟨od,ho,hl⟩:=Qr I.ns
 ⟨od,⟨I.obj,rfl,rfl,ho⟩,hl⟩
section
variable {prog:Program}{w:World}{A:Around}{E:Value->Shared->Prop}{s:Shared}{K:XJ}{x dx C f:Addr}{mA:Str->Option Value}{name:Str}{v:Value}
theorem UN {expr:Bool}{Q:Value->Shared->Prop}(X:K.In s.heap)(I:GY s.heap x dx C mA)(hg:PySem.W.plainGet K C name=true)(hh:PySem.W.hasDictIn K C=true)
  (ha:PySem.W.findIn K (.ref C) name=some none) (hv:mA name=some v) (hv':PySem.W.handedIn v=true) (h:Q v {s with toks:=s.toks+1}) :
  wpAny (model prog w) A (getAttr (.ref x) name expr) Q E s:=by
 obtain⟨od,J,hl⟩:=I.look
 exact PySem.W.get_value X J (PySem.W.plainGet_of hg).1 (PySem.W.findObj_own hh ha rfl (by rw[hl,hv])) hv' h
theorem R1 {ns:List Str}{Q:Unit->Shared->Prop}(X:K.In s.heap)(I:GY s.heap x dx C mA)
  (hs:PySem.W.findIn K (.ref C) "__setattr__"=some (some (.builtin "object.__setattr__"))) (hp:PySem.W.plainOver K C=true) (ht:PySem.W.takerIn K C name=some none) (hh:PySem.W.hasDictIn K C=true)
  (hw:PySem.Within mA ns) (hsz:ns.length<=sizeLine)
  (h:∀h',GY h' x dx C (fun y=>if y=name then some v else mA y)->Heap.SameBut dx s.heap h'->Q () {s with heap:=h',toks:=s.toks+2}) :
  wpAny (model prog w) A (setAttr (.ref x) name v) Q E s:=by
 obtain⟨od,J,hl⟩:=I.look
 refine PySem.W.set_plain X J hs (PySem.W.osa_open (s:={s with toks:=s.toks+1}) (r:=none) X J hp ht fun b=>?_)
 obtain⟨cd,hc,hd'⟩:=Pj hh
 have hx:s.heap.get? x=some ⟨.ref C,some dx,.plain,#[]⟩:=I.obj
 refine A5 (Al (A5 (A5 (wpAny_loadPart hx (A5 (PySem.W.Looks.here (s:={s with toks:=s.toks+1}) (PySem.W.looks_clsIn X hc) ?_))))))
 rw[hd']
 refine Al (a:=some dx) (A5 (Al (A5 ?_)))
 refine wpAny_nsSet1 (s:={s with toks:=s.toks+1}) I.ns fun h' hn2 hs2=>?_
 obtain⟨oD,esD,epD,hoD,hdD,hcD⟩:=hn2.count (PySem.Within.cons name v hw)
 refine A5 (wpAny_lookBehind hoD (by rw[hdD];exact pastItsLine_dict (Bl hcD (by rw[B6];omega))) ?_)
 exact Al (h _ ⟨(hs2.2 _ (Ne.symm I.ne)).trans I.obj,hn2,I.ne⟩ hs2)
theorem Qf {R:Result->Shared->Prop}{vs:List Value}{kw:List (Str×Value)}(X:K.In s.heap)(hm:PySem.W.makesIn K C=true)
  (hi:PySem.W.findIn K (.ref C) "__init__"=some (some (.ref f))) (hf:PySem.W.typeIn K (.ref f)=some (.type "function"))
  (h:codeAny (model prog w) (A.under (.builtin "type.__call__" ⟨.ref C::vs,kw⟩)) (.call (.ref f) ⟨.ref (s.heap.objs.size+1)::vs,kw⟩) (PySem.W.InitBack (s.heap.objs.size+1) R)
   {s with heap:=(s.heap.push PySem.W.emptyDict).push (PySem.W.instObj C s.heap.objs.size)}) :
  codeAny (model prog w) A (.call (.ref C) ⟨vs,kw⟩) R s:=by
 obtain⟨hh,g,d,t,os⟩:=s
 exact PySem.W.make_core (PySem.W.makes_of X hm) (PySem.W.looks_findIn X hi) (fun self=>PySem.W.bind_fn X self hf) (.inl rfl) h
end
def D6 (f:Str)(v:V):List (Str×V)->List (Str×V)
 |[]=>[(f,v)]
 |(g,x)::r=>if g=f then(g,v)::r else(g,x)::D6 f v r
theorem Nv (f g:Str)(v:V):∀fs:List (Str×V),(D6 f v fs).lookup g=if g=f then some v else fs.lookup g
 |
  []=>by
  show List.lookup g [(f,v)]=_
  by_cases h:g=f
  .have hb:(g==f)=true:=GD.mpr h
   simp only[List.lookup,hb,Ah h]
  .have hb:(g==f)=false:=Ht.mpr h
   simp only[List.lookup,hb,Ae h]
 |
  (k,x)::r=>by
  have ih:=Nv f g v r
  rw[show D6 f v ((k,x)::r)=(if k=f then(k,v)::r else(k,x)::D6 f v r) from rfl]
  by_cases hk:k=f
  .rw[Ah hk]
   by_cases h:g=k
   .have hb:(g==k)=true:=GD.mpr h
    simp only[List.lookup,hb,Ah (h.trans hk)]
   .have hb:(g==k)=false:=Ht.mpr h
    simp only[List.lookup,hb,Ae (fun e:g=f=>h (e.trans hk.symm))]
  .rw[Ae hk]
   by_cases h:g=k
   .have hb:(g==k)=true:=GD.mpr h
    simp only[List.lookup,hb,Ae (fun e:g=f=>hk (h.symm.trans e))]
   .have hb:(g==k)=false:=Ht.mpr h
    simp only[List.lookup,hb]
    exact ih
theorem KO (f:Str)(v:V):∀fs:List (Str×V),f∈(D6 f v fs).map (·.1)/\∀g,g∈fs.map (·.1)->g∈(D6 f v fs).map (·.1)
 |[]=>⟨by simp[D6],fun g h=>by simp at h⟩
 |
  (k,x)::r=>by
  obtain⟨i1,i2⟩:=KO f v r
  rw[show D6 f v ((k,x)::r)=(if k=f then(k,v)::r else(k,x)::D6 f v r) from rfl]
  by_cases hk:k=f
  .rw[Ah hk]
   subst hk
   exact⟨by simp,fun g h=>by simpa using h⟩
  .rw[Ae hk]
   refine⟨?_,fun g h=>?_⟩
   .rw[Bu]
    exact B1 _ i1
   .rw[Bu]at h ⊢
    rcases AE.mp h with e|e
    .exact AE.mpr (.inl e)
    .exact B1 _ (i2 g e)
theorem P5 (f:Str)(v:V):∀fs:List (Str×V),(D6 f v fs).length<=fs.length+1
 |[]=>by simp[D6]
 |
  (k,x)::r=>by
  have ih:=P5 f v r
  rw[show D6 f v ((k,x)::r)=(if k=f then(k,v)::r else(k,x)::D6 f v r) from rfl]
  by_cases hk:k=f
  .rw[Ah hk,B6,B6];omega
  .rw[Ae hk,B6,B6];omega
theorem DO.some_of {v:V}{o:Option Value}(r:DO (some v) o):∃u,o=some u/\Ax v u:=by
 cases o with
 |none=>exact(show False from r).elim
 |some u=>exact⟨u,rfl,r⟩
theorem UL {v:V}{u:Value}(r:Ax v u):PySem.W.handedIn u=true:=by
 cases v with
 |non=>cases (show u=Value.none from r);rfl
 |bl b=>cases (show u=Value.bool b from r);rfl
 |int i=>obtain⟨t,e⟩:=(show ∃t,u=Value.int i t from r);cases e;rfl
 |str x=>obtain⟨t,e⟩:=(show ∃t,u=Value.str x t from r);cases e;rfl
 |byt b=>obtain⟨t,e⟩:=(show ∃t,u=Value.bytes b t from r);cases e;rfl
 |flt b=>obtain⟨t,e⟩:=(show ∃t,u=Value.float b t from r);cases e;rfl
 |ref a=>cases (show u=Value.ref a from r);rfl
 |ty n=>cases (show u=Value.type n from r);rfl
section
variable {P:Program}{w:World}{H H':Hp}{h h':Heap}{a C dx:Addr}{fs fs':List (Str×V)}
theorem Nk (hok:B4 P w H h)(e:H a=some (.ins C dx fs)):∃mA,GY h a dx C mA/\(∀f,DO (fs.lookup f) (mA f))/\PySem.Within mA (fs.map (·.1))/\fs.length<=1000/\H dx=some (.own a):=by
 obtain⟨d,z,ne,ob,mA,n,r,q⟩:=(show Bw P w H h a (.ins C dx fs) from hok a _ e)
 exact⟨mA,⟨ob,n,ne⟩,r,q,z,d⟩
end
structure Du (K:XJ)(C:Addr):Prop where
 pg:PySem.W.plainGet K C Str.empty=true
 hd:PySem.W.hasDictIn K C=true
 po:PySem.W.plainOver K C=true
 sa:PySem.W.findIn K (.ref C) "__setattr__"=some (some (.builtin "object.__setattr__"))
theorem Du.get {K:XJ}{C:Addr}(c:Du K C)(f:Str):PySem.W.plainGet K C f=true:=c.pg
def BB (K:XJ)(C:Addr)(f:Str):Prop:=PySem.W.findIn K (.ref C) f=some none
theorem BB.taker {K:XJ}{C:Addr}{f:Str}(n:BB K C f):PySem.W.takerIn K C f=some none:=by
 unfold PySem.W.takerIn
 rw[show PySem.W.findIn K (.ref C) f=some none from n]
 rfl
section
variable {X:Cx}{pins:List (Addr×Obj)}{σ:St}{H:Hp}{s:Shared}{a C dx:Addr}{fs:List (Str×V)}{f:Str}{v:V}{A:Around}{E:Value->Shared->Prop}
theorem Oj {b:Bool}{Q:Value->Shared->Prop}(I:A2 X pins σ H s)(e:H a=some (.ins C dx fs))(c:Du X.K C)(n:BB X.K C f)(l:fs.lookup f=some v)
  (h:∀u s',A2 X pins σ H s'->Ax v u->Q u s'):wpAny (model X.prog X.w) A (getAttr (.ref a) f b) Q E s:=by
 obtain⟨mA,O,r,_,_,_⟩:=Nk I.hok e
 obtain⟨u,hu,ru⟩:=DO.some_of (v:=v) (o:=mA f) (by rw[←l];exact r f)
 exact UN I.kIn O (c.get f) c.hd n hu (UL ru) (h u _ (I.tok _) ru)
theorem MN {y:V}{u:Value}{Q:Unit->Shared->Prop}(I:A2 X pins σ H s)(e:H a=some (.ins C dx fs))(c:Du X.K C)(n:BB X.K C f)(hl:fs.length<1000)(ry:Ax y u)
  (h:∀s',A2 X pins σ (upd H a (.ins C dx (D6 f y fs))) s'->Q () s'):wpAny (model X.prog X.w) A (setAttr (.ref a) f u) Q E s:=by
 obtain⟨mA,O,r,wi,_,ho⟩:=Nk I.hok e
 have hz:(fs.map (·.1)).length<=sizeLine:=by rw[Ao,KI];omega
 refine R1 I.kIn O c.sa c.po n.taker c.hd wi hz fun h' O' sb=>h _ ?_
 have hd:∃o,h'.get? dx=some o:=let ⟨o,_,_,e',_⟩:=O'.ns;⟨o,e'⟩
 refine I.write (x:=a) (e:=dx) (by rw[e];exact True.intro) (.inr ho) (fun b q hb z=>(sb.2 b hb).trans z) hd ?_
 refine⟨by rw[Ag O.ne];exact ho,?_,O.ne,O'.obj,_,O'.ns,fun g=>?_,fun g hg=>?_⟩
 .have:=P5 f y fs;omega
 .show DO ((D6 f y fs).lookup g) (if g=f then some u else mA g)
  rw[Nv]
  by_cases q:g=f
  .rw[Ah q,Ah q];exact ry
  .rw[Ae q,Ae q];exact r g
 .by_cases q:g=f
  .rw[q];exact(KO f y fs).1
  .refine(KO f y fs).2 g (wi g fun z=>hg ?_)
   show(if g=f then some u else mA g)=none
   rw[Ae q];exact z
theorem A2.made (I:A2 X pins σ H s):A2 X pins σ (upd (upd H s.heap.objs.size (.own (s.heap.objs.size+1))) (s.heap.objs.size+1) (.ins C s.heap.objs.size []))
  {s with heap:=(s.heap.push PySem.W.emptyDict).push (PySem.W.instObj C s.heap.objs.size)}:=by
 have e1:(s.heap.push PySem.W.emptyDict).get? s.heap.objs.size=some PySem.W.emptyDict:=BV s.heap rfl
 have e2:((s.heap.push PySem.W.emptyDict).push (PySem.W.instObj C s.heap.objs.size)).get? (s.heap.objs.size+1)=some (PySem.W.instObj C s.heap.objs.size):=by
  have:=BV (s.heap.push PySem.W.emptyDict) (o:=PySem.W.instObj C s.heap.objs.size) rfl
  rwa [Ho]at this
 have e3:(s.heap.push PySem.W.emptyDict).Ns s.heap.objs.size (fun _=>none):=⟨PySem.W.emptyDict,#[],_,e1,rfl,(fun e he=>absurd he (by simp)),fun _=>rfl⟩
 have I1:=I.laid (a:=s.heap.objs.size) (o:=.own (s.heap.objs.size+1)) (h':=s.heap.push PySem.W.emptyDict) (t':=s.toks) (fun b u q=>AI _ q) (An _) ⟨_,e1⟩
 refine I1.laid (a:=s.heap.objs.size+1) (o:=.ins C s.heap.objs.size []) (t':=s.toks) (fun b u q=>AI _ q) (Nat.le_of_eq (Ho _ _)) ?_
 have ne:s.heap.objs.size≠s.heap.objs.size+1:=Br (Kt _)
 refine⟨by rw[Ag ne,A6],BF _,ne,e2,fun _=>none,(Heap.Ns1.of_empty e3).at fun o q=>AI _ q,fun _=>True.intro,fun y hy=>absurd rfl hy⟩
theorem UG {prog:Program}{w:World}{env:Env}{e:Expr}{f:Str}{pos:Pos}{s:Shared}{Q:Value->Shared->Prop}(hb:attributeBase e f env (eval e env)=eval e env)
  (h:wpAny (model prog w) A (eval e env) (fun o s₁=>wpAny (model prog w) A (getAttr o f true) Q E s₁) E s):wpAny (model prog w) A (eval (.Attribute e f pos) env) Q E s:=
 Attribute_any_ h (by rw[arm_eval_Attribute,hb])
end
def S9 (K:XJ)(ta:TE)(f:Str):TE:=fun σ H Q=>ta σ H fun x H1=>∃a C dx fs v,x = .ref a/\H1 a=some (.ins C dx fs)/\Du K C/\BB K C f/\fs.lookup f=some v/\Q v H1
def Qp (K:XJ)(ta tv:TE)(f:Str):TS:=fun D σ H=>tv σ H fun y H1=>ta σ H1 fun x H2=>∃a C dx fs,x = .ref a/\H2 a=some (.ins C dx fs)/\Du K C/\BB K C f/\fs.length<1000/\
 D.nx σ (upd H2 a (.ins C dx (D6 f y fs)))
def ND (X:Cx)(op:Operator)(rd:V->V->Hp->VK->Prop):Prop:=
 ∀(pins:List (Addr×Obj)) (s:Shared) (σ:St) (H:Hp) (x y:V) (u v:Value) (Q:VK),A2 X pins σ H s->Ax x u->Ax y v->rd x y H Q->wpAny (model X.prog X.w) X.A (inplaceOp op u v) (EP X pins σ Q) X.xe s
def Td (K:XJ)(ta tv:TE)(rd:V->V->Hp->VK->Prop)(f:Str):TS:=fun D σ H=>ta σ H fun x H1=>∃a C dx fs v,x = .ref a/\H1 a=some (.ins C dx fs)/\Du K C/\BB K C f/\fs.lookup f=some v/\
 tv σ H1 fun y H2=>rd v y H2 fun z H3=>∃dx' fs',H3 a=some (.ins C dx' fs')/\fs'.length<1000/\D.nx σ (upd H3 a (.ins C dx' (D6 f z fs')))
section
variable {X:Cx}{o e value:Expr}{f:Str}{pos pos' tpos:Pos}{ta tv:TE}
theorem DF (he:PE X e ta)(hb:attributeBase e f X.env (eval e X.env)=eval e X.env):PE X (.Attribute e f pos) (S9 X.K ta f):=by
 intro pins s σ H Q I h
 refine UG hb (As (he pins s σ H _ I h) fun u s1 ⟨x,H1,I1,rx,a,C,dx,fs,v,ex,ea,c,n,l,q⟩=>?_)
 subst ex
 obtain rfl:u=Value.ref a:=rx
 exact Oj I1 ea c n l fun u' s2 I2 ru=>⟨v,H1,I2,ru,q⟩
theorem CB (ha:PE X o ta)(hv:PE X value tv)(hs:swapsWith value (some (.Attribute o f pos')) pos.line X.env=pure false):PS X (.Assign [.Attribute o f pos'] value pos) (Qp X.K ta tv f):=by
 intro pins s σ H D I h
 refine plainObj_wpAny_Assign_Attribute (As (hv pins s σ H _ I h) fun u s1 ⟨y,H1,I1,ry,q⟩=>As (ha pins s1 σ H1 _ I1 q) fun ov s2 ⟨x,H2,I2,rx,a,C,dx,fs,ex,ea,c,n,l,q2⟩=>?_) hs
 subst ex
 obtain rfl:ov=Value.ref a:=rx
 exact MN I2 ea c n l ry fun s3 I3=>⟨σ,_,I3,q2⟩
theorem TJ {op:Operator}{rd:V->V->Hp->VK->Prop}(ha:PE X o ta)(hv:PE X value tv)(hop:ND X op rd):PS X (.AugAssign (.Attribute o f tpos) op value pos) (Td X.K ta tv rd f):=by
 intro pins s σ H D I h
 refine wpAny_AugAssign_AttributeAny (As (ha pins s σ H _ I h) fun ov s1 ⟨x,H1,I1,rx,a,C,dx,fs,v,ex,ea,c,n,l,q⟩=>?_)
 subst ex
 obtain rfl:ov=Value.ref a:=rx
 refine Oj I1 ea c n l fun u s2 I2 ru=>As (hv pins s2 σ H1 _ I2 q) fun w3 s3 ⟨y,H2,I3,ry,q3⟩=>As (hop pins s3 σ H2 v y u w3 _ I3 ru ry q3) fun w4 s4 ⟨z,H3,I4,rz,dx',fs',ea',l',q4⟩=>?_
 exact MN I4 ea' c n l' rz fun s5 I5=>⟨σ,_,I5,q4⟩
def Ra:V->V->Hp->VK->Prop:=fun x y H Q=>∃i j,x = .int i/\y = .int j/\Q (.int (i-j)) H
theorem Rq:ND X .Sub Ra:=by
 rintro pins s σ H x y u v Q I rx ry ⟨i,j,rfl,rfl,q⟩
 obtain⟨t,rfl⟩:=(show ∃t,u=Value.int i t from rx)
 obtain⟨t',rfl⟩:=(show ∃t',v=Value.int j t' from ry)
 exact PyProof.Rows.isub_int ⟨.int (i-j),H,I.tok _,⟨_,rfl⟩,q⟩
end
section
variable {X:Cx}{pins:List (Addr×Obj)}{σ:St}{H:Hp}{s:Shared}{A:Around}{E:Value->Shared->Prop}{Q:Value->Shared->Prop}{c:Value}{b:Bool}
end
structure Bj (k:Nat)(A:Around):Prop where
 hd:A.handled=none
 dp:A.depth+3*k+5<recursionLimit
 un:A.units+16*k+200<cLine
 gd:A.guards=some []
theorem Bj.mono {j k:Nat}{A:Around}(r:Bj k A)(h:j<=k):Bj j A:=⟨r.hd,by have:=r.dp;omega,by have:=r.un;omega,r.gd⟩
theorem Bj.deeper {k:Nat}{A:Around}(r:Bj (k+1) A)(env:Env):Bj k (A.deeper env):=
 ⟨r.hd,by have:=r.dp;show A.depth+1+3*k+5<_;omega,by have:=r.un;show A.units+3+16*k+200<_;omega,r.gd⟩
theorem SM {A:Around}{C:Addr}{us:List Value}{kw:List (Str×Value)}:(A.under (.builtin "type.__call__" ⟨.ref C::us,kw⟩)).depth=A.depth+1:=by
 first|rfl|simp[Around.under,Code.weight,Code.isCreation,Code.isGuard,Code.isCaller,Code.frames,Code.isFrame,guardIds]
theorem Qj {A:Around}{C:Addr}{us:List Value}{kw:List (Str×Value)}:(A.under (.builtin "type.__call__" ⟨.ref C::us,kw⟩)).units=A.units+1:=by
 first|rfl|simp[Around.under,Code.cUnits,Code.frames,Code.isFrame]
theorem Vp {A:Around}{C:Addr}{us:List Value}{kw:List (Str×Value)}:(A.under (.builtin "type.__call__" ⟨.ref C::us,kw⟩)).guards=A.guards:=by
 have:Code.guards (.builtin "type.__call__" ⟨.ref C::us,kw⟩)=[]:=by first|rfl|simp[Code.guards,Code.isGuard,guardIds]
 show pushGuards (Code.guards (.builtin "type.__call__" ⟨.ref C::us,kw⟩)) A.guards=A.guards
 rw[this]
 cases A.guards<;>rfl
theorem Bj.make {k:Nat}{A:Around}(r:Bj (k+1) A)(C:Addr)(us:List Value)(kw:List (Str×Value)):Bj k (A.under (.builtin "type.__call__" ⟨.ref C::us,kw⟩)):=
 ⟨r.hd,by have:=r.dp;rw[SM];omega,by have:=r.un;rw[Qj];omega,by rw[Vp];exact r.gd⟩
theorem Bj.depth {k:Nat}{A:Around}(r:Bj k A):A.depth<recursionLimit:=by have:=r.dp;omega
theorem Bj.units {k:Nat}{A:Around}(r:Bj k A):A.units+64<cLine:=by have:=r.un;omega
def ON:TA:=fun _ H Q=>Q [] H
def MG (ta:TE)(tr:TA):TA:=fun σ H Q=>ta σ H fun x H1=>tr σ H1 fun xs H2=>Q (x::xs) H2
section
variable {X:Cx}{e:Expr}{es:List Expr}{te:TE}{t:TA}{pos:Pos}
theorem A3:PA X [] ON:=fun _ _ _ _ H Q I h=>Calls.spliced_nil ⟨[],H,I,.nil,h⟩
theorem A0 (ha:PE X e te)(hr:PA X es t)(hs:starEach (e::es) X.env=(false,eval e X.env)::starEach es X.env:=by rfl):PA X (e::es) (MG te t):=by
 intro pos pins s σ H Q I h
 rw[hs]
 show wpAny _ _ (spliced ((false,eval e X.env)::backTo pos (starEach es X.env))) _ _ s
 refine Calls.spliced_cons (As (ha pins s σ H _ I h) fun u s1 ⟨x,H1,I1,r1,q1⟩=>?_)
 exact As (hr pos pins s1 σ H1 _ I1 q1) fun us s2 ⟨xs,H2,I2,r2,q2⟩=>⟨x::xs,H2,I2,.cons r1 r2,q2⟩
def O8 (t:TA):TE:=fun σ H Q=>t σ H fun xs H1=>xs.length<=sizeLine/\∀p,H1 p=none->Q (.ref p) (upd H1 p (.tup xs))
def Ow (t:TA):TE:=fun σ H Q=>t σ H fun xs H1=>xs.length<=sizeLine/\∀p,H1 p=none->Q (.ref p) (upd H1 p (.lst xs))
theorem Bf {x1}(h:PA X es t):PE X (.Tuple es x1 pos) (O8 t):=by
 intro pins s σ H Q I hq
 refine wpAny_Tuple_spliced (As (h pos pins s σ H _ I hq) fun us s1 ⟨xs,H1,I1,r,z,q⟩=>⟨by rw[←r.length];exact z,?_⟩)
 have hf:H1 s1.heap.objs.size=none:=I1.hok.fresh (An _)
 refine⟨.ref s1.heap.objs.size,upd H1 s1.heap.objs.size (.tup xs),I1.laid (t':=s1.toks) (fun b u e=>AI _ e) (An _) ?_,rfl,q _ hf⟩
 exact⟨z,us,r,⟨_,BV _ rfl,rfl,⟨_,rfl⟩,rfl⟩⟩
theorem BL (h:PA X es t):PE X (.List es pos) (Ow t):=by
 intro pins s σ H Q I hq
 refine wpAny_List_spliced (As (h pos pins s σ H _ I hq) fun us s1 ⟨xs,H1,I1,r,z,q⟩=>⟨by rw[←r.length];exact z,?_⟩)
 have hf:H1 s1.heap.objs.size=none:=I1.hok.fresh (An _)
 refine⟨.ref s1.heap.objs.size,upd H1 s1.heap.objs.size (.lst xs),I1.laid (t':=s1.toks) (fun b u e=>AI _ e) (An _) ?_,rfl,q _ hf⟩
 exact⟨z,us,0,r,BV _ rfl⟩
end
abbrev Sp:=List V->Hp->VK->XK->Prop
abbrev DP:=List Env->Hp->Shared->XK->Value->Shared->Prop
structure Fb (P:Program)(w:World)(K:XJ)(mg:Str->Option Value)(base:Heap)(A:Around)(outer:List Env)(s:Shared)(H:Hp):Prop where
 frames:A.frames=some outer
 mod:Mod K mg base
 bs:∀b o,base.get? b=some o->s.heap.get? b=some o/\H b=none
 bsz:base.objs.size<=s.heap.objs.size
 funs:s.heap.FunFrames base outer
 frf:∀b∈Dq outer,H b=none
 hok:B4 P w H s.heap
 bare:AllBare s.gens
def CE (outer:List Env)(P:Program)(w:World)(H:Hp)(s:Shared)(Q:VK)(u:Value)(s':Shared):Prop:=
 ∃v H',s'.os=s.os/\AllBare s'.gens/\Un (Dq outer) [] H H' s.heap s'.heap/\B4 P w H' s'.heap/\Ax v u/\Q v H'
def CR (CX:DP)(outer:List Env)(P:Program)(w:World)(H:Hp)(s:Shared)(Q:VK)(E:XK)(r:Result)(s':Shared):Prop:=
 match r with
 |.ok (.ret u)=>CE outer P w H s Q u s'
 |.ok _=>False
 |.error e=>CX outer H s E e s'
structure AA (P:Program)(w:World)(K:XJ)(mg:Str->Option Value)(base:Heap)(CX:DP)(k:Nat)(f:Addr)(fd:FuncData)(ps:List Str)(sp:Sp):Prop where
 len:∀vs H Q E,sp vs H Q E->vs.length=ps.length
 run:∀(A:Around) (outer:List Env) (s:Shared) (H:Hp) (args:Args) (us:List Value) (vs:List V) (Q:VK) (E:XK),Bj k A->Fb P w K mg base A outer s H->BindsTo s fd args (ps.zip us)->Aw vs us->sp vs H Q E->
  codeAny (model P w) A (.call (.ref f) args) (CR CX outer P w H s Q E) s
theorem Fb.make {P:Program}{w:World}{K:XJ}{mg:Str->Option Value}{base:Heap}{A:Around}{outer:List Env}{s:Shared}{H:Hp}(e:Fb P w K mg base A outer s H)(C:Addr)(us:List Value)(kw:List (Str×Value)) :
 Fb P w K mg base (A.under (.builtin "type.__call__" ⟨.ref C::us,kw⟩)) outer s H:=⟨by first|exact e.frames|(simpa[Around.under,Code.envs,Code.isFrame,pushEnvs] using e.frames),e.mod,e.bs,e.bsz,e.funs,e.frf,e.hok,e.bare⟩
section
variable {X:Cx}{pins:List (Addr×Obj)}{σ:St}{H:Hp}{s s':Shared}
theorem A2.env0 (I:A2 X pins σ H s):Fb X.prog X.w X.K X.mg X.base X.A X.stack s H:=
 ⟨I.ok.frames,I.ok.mod,I.bs,Bl I.ok.bsz I.sz,I.stack,I.stkFree,I.hok,I.bare⟩
theorem A2.after {Q:VK}{u:Value}(I:A2 X pins σ H s)(h:CE X.stack X.prog X.w H s Q u s'):EP X pins σ Q u s':=by
 obtain⟨v,H',os,bare,un,hok,r,q⟩:=h
 obtain⟨hh,g,d,t,os'⟩:=s'
 obtain rfl:os'=s.os:=os
 exact⟨v,H',I.call (h':=hh) (g':=g) (d':=d) (t':=t) (ch:=[]) un hok bare (fun b z=>absurd z (by simp)),r,q⟩
end
def Nu (sp:Sp)(dvs:List V)(E:XK)(t:TA):TE:=fun σ H Q=>t σ H fun vs H1=>sp (vs++dvs) H1 Q E
def Ta (C:Addr)(sp:Sp)(dvs:List V)(E:XK)(t:TA):TE:=fun σ H Q=>t σ H fun vs H1=>∀x dx,H1 x=none->H1 dx=none->dx≠x->
 sp (.ref x::(vs++dvs)) (upd (upd H1 dx (.own x)) x (.ins C dx [])) (fun v H2=>v = .non/\Q (.ref x) H2) E
def AG (K:XJ)(fd:FuncData)(ps:List Str)(ds:List Value):Prop:=
 ∀(s:Shared) (us:List Value),K.In s.heap->(us++ds).length=ps.length->BindsTo s fd ⟨us,[]⟩ (ps.zip (us++ds))
theorem AG.all {K:XJ}{fd:FuncData}{ps:List Str}(h:∀us:List Value,us.length=ps.length->bindArgs fd ⟨us,[]⟩=pure (ps.zip us)):AG K fd ps []:=fun s us _ hl=>by
 rw[DT]at hl ⊢
 exact .of_eq (h us hl)
def Iv (CX:DP)(X:Cx)(E:XK):Prop := ∀(pins:List (Addr×Obj)) (σ:St) (H:Hp) (s:Shared) (e:Value) (s':Shared),A2 X pins σ H s->CX X.stack H s E e s'->X.xe e s'
section
variable {X:Cx}{CX:DP}{k:Nat}{f C:Addr}{fd:FuncData}{ps:List Str}{sp:Sp}{dvs:List V}{ds:List Value}{E:XK}{x m:Str}{p pos apos:Pos}{e o:Expr}{es:List Expr}{ta:TE}{t:TA}
theorem R0 {pins:List (Addr×Obj)}{σ:St}{H:Hp}{s:Shared}{Q:VK}{us:List Value}{vs:List V}(F:AA X.prog X.w X.K X.mg X.base CX k f fd ps sp)(hr:Bj k X.A)(hb:AG X.K fd ps ds)(hd:Aw dvs ds)(hx:Iv CX X E)
  (I:A2 X pins σ H s) (r:Aw vs us) (h:sp (vs++dvs) H Q E):wpAny (model X.prog X.w) X.A (call (.ref f) us) (EP X pins σ Q) X.xe s:=by
 have r2:Aw (vs++dvs) (us++ds):=r.append hd
 have hl:(us++ds).length=ps.length:=by rw[←r2.length];exact F.len _ _ _ _ h
 refine GE (J7 (F.run X.A X.stack s H ⟨us,[]⟩ (us++ds) (vs++dvs) Q E hr I.env0 (hb s us I.kIn hl) r2 h) fun r s' hq=>?_)
 cases r with
 |error e=>exact hx pins σ H s e s' I hq
 |
  ok fl=>
  cases fl with
  |ret u=>exact I.after hq
  |next=>exact False.elim hq
  |brk=>exact False.elim hq
  |cont=>exact False.elim hq
theorem Av (F:AA X.prog X.w X.K X.mg X.base CX k f fd ps sp)(hr:Bj k X.A)(hg:Gl X x)(hm:X.mg x=some (.ref f))(hk:PySem.W.keepIn X.K (.ref f)=true)(hb:AG X.K fd ps ds)(hd:Aw dvs ds)(hx:Iv CX X E)
  (ha:PA X (e::es) t) (hdb:(x==("__debug__":Str))=false:=by decide) (he:starEach (e::es) X.env=(false,eval e X.env)::starEach es X.env:=by rfl) (hpl:(backTo pos (starEach es X.env)).any (·.1)=false:=by rfl) :
  PE X (.Call (.Name x p) (e::es) [] pos) (Nu sp dvs E t):=by
 intro pins s σ H Q I h
 refine Fm (FD I hg hm ?_ hdb)
 refine M8 (h₀:=X.base) I.ok.mod.kin hk (As (ha pos pins s σ H _ I h) fun us s1 ⟨vs,H1,I1,r,q⟩=>⟨I1.kIn,?_⟩) he hpl
 exact R0 F hr hb hd hx I1 r q
structure Mk (K:XJ)(C f:Addr):Prop where
 makes:PySem.W.makesIn K C=true
 init:PySem.W.findIn K (.ref C) "__init__"=some (some (.ref f))
 fn:PySem.W.isFn K (.ref f)=true
 kp:PySem.W.keepIn K (.ref C)=true
theorem Xu {pins:List (Addr×Obj)}{σ:St}{H:Hp}{s:Shared}{Q:VK}{us:List Value}{vs:List V}(M:Mk X.K C f)(F:AA X.prog X.w X.K X.mg X.base CX k f fd ps sp)(hr:Bj (k+1) X.A)(hb:AG X.K fd ps ds)(hd:Aw dvs ds)
  (hx:Iv CX X E) (I:A2 X pins σ H s) (r:Aw vs us)
  (h:∀x dx,H x=none->H dx=none->dx≠x->sp (.ref x::(vs++dvs)) (upd (upd H dx (.own x)) x (.ins C dx [])) (fun v H2=>v = .non/\Q (.ref x) H2) E) :
  wpAny (model X.prog X.w) X.A (call (.ref C) us) (EP X pins σ Q) X.xe s:=by
 have hq:=h (s.heap.objs.size+1) s.heap.objs.size (I.hok.fresh (GB _)) (I.hok.fresh (An _)) (Br (Kt _))
 have I2:=A2.made (C:=C) I
 have r2:Aw (V.ref (s.heap.objs.size+1)::(vs++dvs)) (Value.ref (s.heap.objs.size+1)::(us++ds)):=.cons rfl (r.append hd)
 have hl:(Value.ref (s.heap.objs.size+1)::us++ds).length=ps.length:=by
  have e:=r2.length
  rw[F.len _ _ _ _ hq]at e
  exact e.symm
 refine GE (Qf (f:=f) I.kIn M.makes M.init (GD.mp M.fn) (J7 (F.run _ X.stack _ _ ⟨Value.ref (s.heap.objs.size+1)::us,[]⟩ (Value.ref (s.heap.objs.size+1)::(us++ds)) _ _ E (hr.make C us [])
  (I2.env0.make C us []) (hb _ (Value.ref (s.heap.objs.size+1)::us) I2.kIn hl) r2 hq) fun r s' hq'=>?_))
 cases r with
 |error e=>exact hx pins σ _ _ e s' I2 hq'
 |
  ok fl=>
  cases fl with
  |
   ret u=>
   obtain⟨v,H',I3,rv,ev,q3⟩:=I2.after hq'
   subst ev
   exact⟨rv,⟨V.ref (s.heap.objs.size+1),H',I3,rfl,q3⟩⟩
  |next=>exact False.elim hq'
  |brk=>exact False.elim hq'
  |cont=>exact False.elim hq'
theorem FG (M:Mk X.K C f)(F:AA X.prog X.w X.K X.mg X.base CX k f fd ps sp)(hr:Bj (k+1) X.A)(hg:Gl X x)(hm:X.mg x=some (.ref C))(hb:AG X.K fd ps ds)(hd:Aw dvs ds)(hx:Iv CX X E)
  (ha:PA X (e::es) t) (hdb:(x==("__debug__":Str))=false:=by decide) (he:starEach (e::es) X.env=(false,eval e X.env)::starEach es X.env:=by rfl) (hpl:(backTo pos (starEach es X.env)).any (·.1)=false:=by rfl) :
  PE X (.Call (.Name x p) (e::es) [] pos) (Ta C sp dvs E t):=by
 intro pins s σ H Q I h
 refine Fm (FD I hg hm ?_ hdb)
 refine M8 (h₀:=X.base) I.ok.mod.kin M.kp (As (ha pos pins s σ H _ I h) fun us s1 ⟨vs,H1,I1,r,q⟩=>⟨I1.kIn,?_⟩) he hpl
 exact Xu M F hr hb hd hx I1 r q
end
section
variable {X:Cx}{CX:DP}{k:Nat}{f C:Addr}{fd:FuncData}{ps ks:List Str}{sp:Sp}{E:XK}{x m:Str}{p pos apos kpos:Pos}{e o:Expr}{es:List Expr}{kws:List Keyword}{te ta:TE}{t tk:TA}{nm:Option Str}
variable {g:List Value->List Value->List Value}{gV:List V->List V->List V}
end
structure AK (N P:List Str)(sc:Scope):Prop where
 kind:sc.kind = .function
 co:sc.isCoroutine=false
 gen:sc.isGenerator=false
 nd:N.Nodup
 pre:N.take P.length=P
 par:∀x∈P,sc.names.lookup x=some .local\/sc.names.lookup x=some .cell
 nofree:∀y∈sc.names,y.2≠.free
theorem NJ {kindOf:Str->Option NameKind}{x:Str}:∀{binds:List (Str×Value)} {m:Str->Option Value},(∀v,(x,v)∉binds)->bindL kindOf binds m x=m x
 |[],_,_=>rfl
 |
  (n,v)::r,m,h=>by
  unfold bindL
  rw[NJ fun w hw=>h w (B1 _ hw)]
  split
  .have:x≠n:=by rintro rfl;exact h v AX
   simp[this]
  .rfl
theorem Np {kindOf:Str->Option NameKind}{x:Str}:∀{binds:List (Str×Value)} {m:Str->Option Value},(∀v,(x,v)∉binds)->bindC kindOf binds m x=m x
 |[],_,_=>rfl
 |
  (n,v)::r,m,h=>by
  unfold bindC
  rw[Np fun w hw=>h w (B1 _ hw)]
  split
  .rfl
  .have:x≠n:=by rintro rfl;exact h v AX
   simp[this]
theorem Oq {kindOf:Str->Option NameKind}{x:Str}{v:Value}:∀{P:List Str} {vs:List Value} {i:Nat} {m:Str->Option Value},P.Nodup->P[i]?=some x->vs[i]?=some v->kindOf x=some .local->
  bindL kindOf (P.zip vs) m x=some v
 |[],_,_,_,_,h,_,_=>by simp at h
 |_::_,[],_,_,_,_,h,_=>by simp at h
 |
  p::P,w::vs,0,m,nd,h1,h2,hk=>by
  simp at h1 h2;subst h1;subst h2
  show bindL kindOf ((p,w)::P.zip vs) m p=_
  unfold bindL
  rw[NJ fun v hv=>(FT.mp nd).1 (M9 hv).1,Ah hk]
  simp
 |
  p::P,w::vs,i+1,m,nd,h1,h2,hk=>by
  show bindL kindOf ((p,w)::P.zip vs) m x=_
  unfold bindL
  exact Oq (i:=i) (FT.mp nd).2 (by simpa using h1) (by simpa using h2) hk
theorem NV {kindOf:Str->Option NameKind}{x:Str}{v:Value}:∀{P:List Str} {vs:List Value} {i:Nat} {m:Str->Option Value},P.Nodup->P[i]?=some x->vs[i]?=some v->kindOf x≠some .local->
  bindC kindOf (P.zip vs) m x=some v
 |[],_,_,_,_,h,_,_=>by simp at h
 |_::_,[],_,_,_,_,h,_=>by simp at h
 |
  p::P,w::vs,0,m,nd,h1,h2,hk=>by
  simp at h1 h2;subst h1;subst h2
  show bindC kindOf ((p,w)::P.zip vs) m p=_
  unfold bindC
  rw[Np fun v hv=>(FT.mp nd).1 (M9 hv).1,Ae hk]
  simp
 |
  p::P,w::vs,i+1,m,nd,h1,h2,hk=>by
  show bindC kindOf ((p,w)::P.zip vs) m x=_
  unfold bindC
  exact NV (i:=i) (FT.mp nd).2 (by simpa using h1) (by simpa using h2) hk
def DM (N:List Str)(vs:List V):St:=vs.map some++List.replicate (N.length-vs.length) none
def DL (CX:DP)(P:Program)(w:World)(K:XJ)(mg:Str->Option Value)(base:Heap)(N:List Str)(qual:Str)(scope:Scope)(f:Addr)(cd:Value)(A:Around)(outer:List Env)(s:Shared)(H:Hp)(E:XK):Cx where
 prog:=P
 w:=w
 K:=K
 mg:=mg
 base:=base
 A:=A.deeper (envOfC qual scope s.heap.objs.size f cd)
 N:=N
 s₀:=s
 H₀:=H
 env:=envOfC qual scope s.heap.objs.size f cd
 outer:=outer
 stack:=envOfC qual scope s.heap.objs.size f cd::outer
 ex:=[]
 calm:=true
 fn:=fun _=>true
 pn:=[]
 xe:=fun e s'=>wpAny (model P w) (A.deeper (envOfC qual scope s.heap.objs.size f cd)) (leaving (envOfC qual scope s.heap.objs.size f cd) e) (fun _ s''=>CX outer H s E e s'') (fun e' s''=>CX outer H s E e' s'') s'
theorem Pg {sc:Scope}{n:Nat}{x:Str}(h:sc.names.lookup x=some .cell):∃c,(cellsFrom n sc.names []).lookup x=some c:=by
 have q:=Pk sc.names n [] (.inl h)
 exact Option.isSome_iff_exists.mp q
theorem Ou {CX:DP}{P:Program}{w:World}{K:XJ}{mg:Str->Option Value}{base:Heap}{N ps:List Str}{qual:Str}{scope:Scope}{f:Addr}{cd:Value}{A:Around}{outer:List Env}{s s1:Shared}{H:Hp}{E:XK}{us:List Value}{vs:List V}
  (S:AK N ps scope) (hd:A.handled=none) (e0:Fb P w K mg base A outer s H) (hl:vs.length=ps.length) (r:Aw vs us)
  (x:InCallC s s.heap.objs.size (bindL (envOfC qual scope s.heap.objs.size f cd).kindOf (ps.zip us) fun _=>none) (cellsFrom (s.heap.objs.size+1) scope.names []) (bindC (envOfC qual scope s.heap.objs.size f cd).kindOf (ps.zip us) fun _=>none) s1) :
  A2 (DL CX P w K mg base N qual scope f cd A outer s H E) [] (DM N vs) H s1:=by
 have hpl:ps.length<=N.length:=by have:=congrArg List.length S.pre;rw[BG]at this;omega
 obtain⟨h1,tk,rfl,hk⟩:=x.done
 have noA:∀b:Addr,b∉(DL CX P w K mg base N qual scope f cd A outer s H E).ex:=fun b z=>absurd (show b∈([]:List Addr) from z) (by simp)
 refine⟨⟨e0.mod,S.kind,rfl,rfl,An _,fun y z c h1 h2=>?_,fun y hy=>?_,fun y c _ h=>?_,fun _=>hd,Around.frames_deeper e0.frames,.inr ⟨rfl,rfl⟩,fun b z=>absurd z (noA b),e0.bs,e0.bsz,fun b _ _=>noA b,fun b z=>absurd z (noA b),e0.funs,e0.frf⟩,
  rfl,e0.bare,Un.kept hk,⟨_,x.toInCall.ns,fun i y v h1 h2 h3=>?_⟩,fun y c h=>⟨_,x.cell y c h⟩,e0.hok.fresh (An _),fun y c h=>?_,fun p hp=>absurd (show p∈([]:List (Addr×Obj)) from hp) (by simp),e0.hok.kept hk,?_⟩
 .exact name_of_addr x.apart (Ku h1) (Ku h2)
 .have hy:scope.names.lookup y=some .cell\/scope.names.lookup y=some .free:=hy
  rcases hy with hy|hy
  .exact Pg hy
  .exact absurd rfl (S.nofree _ (Ku hy))
 .exact ET (x.above y c (Ku h))
 .have hi:i<vs.length:=by
   unfold DM at h2
   by_cases hi:i<vs.length
   .exact hi
   .rw[DU (by simpa using hi)]at h2
    rw[List.getElem?_replicate]at h2
    split at h2<;>cases h2
  have ha:vs[i]?=some v:=by
   unfold DM at h2
   rw[Fj (by simpa using hi),C1]at h2
   cases e:vs[i]? with
   |none=>rw[e]at h2;cases h2
   |some a=>rw[e]at h2;cases h2;rfl
  obtain⟨u,hu,rv⟩:=r.get ha
  have hp:ps[i]?=some y:=by
   rw[←S.pre,IV (by omega)];exact h1
  have ndP:ps.Nodup:=by rw[←S.pre];exact S.nd.sublist (List.take_sublist _ _)
  refine⟨u,rv,?_⟩
  rcases S.par y (DH hp) with k|k
  .exact .inl ⟨k,Oq ndP hp hu k⟩
  .obtain⟨c,e⟩:=Pg (n:=s.heap.objs.size+1) k
   refine .inr ⟨.inl k,c,e,?_⟩
   have q:=x.cell y c e
   rw[NV ndP hp hu (by show scope.names.lookup y≠_;rw[k];decide)]at q
   exact q
 .exact e0.hok.fresh (ET (x.above y c (Ku h)))
 .unfold DM
  show _=N.length
  rw[Ac,Ao,Pn]
  omega
theorem MS {CX:DP}{P:Program}{w:World}{K:XJ}{mg:Str->Option Value}{base:Heap}{k:Nat}{f:Addr}{name qual:Str}{params:Arguments}{body:List Stmt}{scope:Scope}{dV kV doc pm cdv ct oc:Value}{an od:Option Addr}
  {osl:Array (Option Value)} {N ps:List Str} {sp:Sp} (lk:K.lookup f=some ⟨oc,od,.func (PySem.W.fnOf name qual params body scope dV kV doc pm an cdv ct),osl⟩) (hcd:PySem.W.codeIn K cdv qual=true) (S:AK N ps scope)
  (len:∀vs H Q E,sp vs H Q E->vs.length=ps.length)
  (hbody:∀(A:Around) (outer:List Env) (s:Shared) (H:Hp) (vs:List V) (Q:VK) (E:XK),Bj k (A.deeper (envOfC qual scope s.heap.objs.size f cdv))->sp vs H Q E->
   ∃t,CN (DL CX P w K mg base N qual scope f cdv A outer s H E) body t/\t {nx:=fun _ H'=>Q .non H',rt:=Q} (DM N vs) H) :
  AA P w K mg base CX (k+1) f (PySem.W.fnOf name qual params body scope dV kV doc pm an cdv ct) ps sp:=by
 refine⟨len,fun A outer s H args us vs Q E hr e0 hb r hsp=>?_⟩
 have hl:=len _ _ _ _ hsp
 have KX:K.In s.heap:=e0.mod.kin.keeps fun b o e=>(e0.bs b o e).1
 have lim:s.heap.NoLimit:=e0.mod.nolimit.keeps fun b o e=>(e0.bs b o e).1
 have hkind:∀y∈ps.zip us,scope.names.lookup y.1=some .local\/(scope.names.lookup y.1=some .cell/\((cellsFrom (s.heap.objs.size+1) scope.names []).lookup y.1).isSome=true):=fun⟨n,v⟩ hy=>by
  rcases S.par n (M9 hy).1 with q|q
  .exact .inl q
  .exact .inr ⟨q,Pk _ _ _ (.inl q)⟩
 refine codeAny_call_function hr.depth (KX _ _ lk) rfl S.co S.gen rfl (PySem.W.codeRec_of KX hcd) (hb _ _ _ _ ?_)
 refine wpAny_newFunctionEnv_cells S.kind hkind fun env he s1 x=>?_
 subst he
 refine⟨lim.keeps x.toInCall.keep,codeAny_func ?_⟩
 obtain⟨t,ht,hq⟩:=hbody A outer s H vs Q E (hr.deeper _) hsp
 have I:A2 (DL CX P w K mg base N qual scope f cdv A outer s H E) [] (DM N vs) H s1:=Ou S hr.hd e0 hl r x
 refine CM (ht [] s1 (DM N vs) H _ I hq) (fun fl s' hs=>?_) fun e s' hs=>hs
 have fin:∀{σ':St} {H':Hp} {v:V} {u:Value},A2 (DL CX P w K mg base N qual scope f cdv A outer s H E) [] σ' H' s'->Ax v u->Q v H'->CE outer P w H s Q u s':=
  fun{σ' H' v u} J rv q=>⟨v,H',J.os,J.bare,J.base,J.hok,rv,q⟩
 cases fl with
 |
  ret u=>
  obtain⟨v,σ',H',J,rv,q⟩:=hs
  exact fin J rv q
 |
  next=>
  obtain⟨σ',H',J,q⟩:=hs
  exact fin (v:=V.non) (u:=Value.none) J rfl q
 |
  brk=>
  obtain⟨_,_,_,q⟩:=hs
  exact False.elim q
 |
  cont=>
  obtain⟨_,_,_,q⟩:=hs
  exact False.elim q
section
variable {X:Cx}{x:Str}{p pos:Pos}{e:Expr}{es:List Expr}{t:TA}{id T:String}{r:List V->Hp->VK->Prop}
def Ni (r:List V->Hp->VK->Prop)(t:TA):TE:=fun σ H Q=>t σ H fun vs H1=>r vs H1 Q
theorem B9 (hc:Ey X (.builtin id) r)(hg:Gl X x)(hm:X.mg x=none)(hv:bootBuiltins x=some (.builtin id))(ha:PA X (e::es) t)(hn:x≠"__name__":=by decide)(hdb:(x==("__debug__":Str))=false:=by decide)
  (he:starEach (e::es) X.env=(false,eval e X.env)::starEach es X.env:=by rfl) (hpl:(backTo pos (starEach es X.env)).any (·.1)=false:=by rfl):PE X (.Call (.Name x p) (e::es) [] pos) (Ni r t):=by
 intro pins s σ H Q I h
 refine Fm (En I hg hm hv ?_ hn hdb)
 exact PyProof.Rows.callWith_builtin1 (As (ha pos pins s σ H _ I h) fun us s1 ⟨vs,H1,I1,r1,q1⟩=>hc pins s1 σ H1 vs us Q I1 r1 q1) he hpl
theorem FH (hc:Ey X (.type T) r)(hg:Gl X x)(hm:X.mg x=none)(hv:bootBuiltins x=some (.type T))(ha:PA X (e::es) t)(hn:x≠"__name__":=by decide)(hdb:(x==("__debug__":Str))=false:=by decide)
  (he:starEach (e::es) X.env=(false,eval e X.env)::starEach es X.env:=by rfl) (hpl:(backTo pos (starEach es X.env)).any (·.1)=false:=by rfl):PE X (.Call (.Name x p) (e::es) [] pos) (Ni r t):=by
 intro pins s σ H Q I h
 refine Fm (En I hg hm hv ?_ hn hdb)
 exact FS (As (ha pos pins s σ H _ I h) fun us s1 ⟨vs,H1,I1,r1,q1⟩=>hc pins s1 σ H1 vs us Q I1 r1 q1) he hpl
end
end L2
namespace HT
open PySem PyProof.Rows
def lexLt:List Int->List Int->Bool
 |[],[]=>false
 |[],_::_=>true
 |_::_,[]=>false
 |x::xs,y::ys=>if x=y then lexLt xs ys else decide (x<y)
section
open PySem.SeqAt
open PySem.AutoSeq1 (wpAny_loadPart')
open PySem.MeetsSeq PySem.MeetsSeq2 PySem.MeetsSeq3
end
section
variable {prog:Program}{w:World}{A:Around}{E:Value->Shared->Prop}{s:Shared}
theorem cat_tup {t b:Addr}{vs ws:List Value}{Q:Value->Shared->Prop}(ht:IsTup s.heap t vs.toArray)(hb:IsTup s.heap b ws.toArray)(hv:vs≠[])
  (h1:ws=[]->Q (.ref t) s) (h2:ws≠[]->Q (.ref s.heap.objs.size) {s with heap:=s.heap.push {cls:=.type "tuple",data:=.seq (vs++ws).toArray}})
  (hsz:vs.length+ws.length<=sizeLine):wpAny (model prog w) A (binaryOp .Add (.ref t) (.ref b)) Q E s:=by
 obtain⟨⟨cls,dd,data,sl⟩,ho,hc,n,hd⟩:=id ht
 obtain⟨⟨cls2,dd2,data2,sl2⟩,ho2,hc2,n2,hd2⟩:=id hb
 simp only at hc hd hc2 hd2
 subst hc hd hc2 hd2
 have e:vs.toArray++ws.toArray=(vs++ws).toArray:=by simp
 by_cases hw:ws=[]
 .exact concat_meets ⟨_,ho,rfl⟩ ⟨_,ho2,rfl⟩ PN seq_tuple_add Po Pq (Pr _ _)
   (tuple_addW1 t b vs.toArray ws.toArray n n2 dd dd2 sl sl2 (by simpa using hv) (by simp[hw])) ⟨ho,ho2,h1 hw⟩
 .refine concat_meets ⟨_,ho,rfl⟩ ⟨_,ho2,rfl⟩ PN seq_tuple_add Po Pq (Pr _ _)
   (tuple_addW2 t b vs.toArray ws.toArray n n2 dd dd2 sl sl2 (by simpa using hv) (by simpa using hw) (by rw[B5,B5];exact hsz)) ⟨ho,ho2,?_⟩
  rw[e]
  exact h2 hw
def sIx (n d:Nat):Option Int->Nat
 |none=>d
 |some v=>if v<0 then(v+(n:Int)).toNat else min v.toNat n
theorem sIx_none (n d:Nat):sIx n d none=d:=rfl
theorem sIx_nat (n d k:Nat):sIx n d (some (k:Int))=min k n:=by
 show(if(k:Int)<0 then((k:Int)+(n:Int)).toNat else min (k:Int).toNat n)=min k n
 rw[Ae (by omega),FU]
theorem sIx_le (n d:Nat)(hd:d<=n)(o:Option Int):sIx n d o<=n:=by
 cases o with
 |none=>exact hd
 |
  some v=>
  show(if v<0 then(v+(n:Int)).toNat else min v.toNat n)<=n
  by_cases hv:v<0
  .rw[Ah hv];omega
  .rw[Ae hv];exact Nat.min_le_right _ _
theorem Nh (v:Int)(n d:Nat):(if v<0 then max (v+(n:Int)) 0 else min v (n:Int))=((sIx n d (some v):Nat):Int):=by
 show(if v<0 then max (v+(n:Int)) 0 else min v (n:Int))=(((if v<0 then(v+(n:Int)).toNat else min v.toNat n):Nat):Int)
 by_cases hv:v<0
 .simp only[Ah hv];omega
 .simp only[Ae hv];omega
theorem Vx (lo hi:Option Int)(n:Nat):Builtin.Slice.sliceAdjust lo hi 1 (n:Int)=(((sIx n 0 lo:Nat):Int),((sIx n n hi:Nat):Int)):=by
 have h1:¬((1:Int)<0):=by omega
 unfold Builtin.Slice.sliceAdjust
 simp only[h1,Hv]
 refine Prod.ext ?_ ?_
 .cases lo with
  |none=>rfl
  |some v=>exact Nh v n 0
 .cases hi with
  |none=>rfl
  |some v=>exact Nh v n n
theorem TN (i j:Nat):Builtin.Slice.slicePlaces (i:Int) (j:Int) 1=j-i:=by
 unfold Builtin.Slice.slicePlaces
 have h1:(1:Int)>0:=by omega
 simp only[h1,FZ,Int.ediv_one]
 split<;>omega
theorem MK {v:Value}{o:Option Int}{Q:Option Int->Shared->Prop}(p:IsPart v o)(h:Q o s):wpAny (model prog w) A (Builtin.Slice.slicePartIndex v) Q E s:=by
 cases p with
 |none=>exact slicePart_none h
 |int i t=>exact slicePart_int h
theorem NW {sl:Addr}{vl vu:Value}{lo hi:Option Int}{n:Nat}{Q:Int×Int×Nat->Shared->Prop}(hs:s.heap.IsSliceOf sl vl vu .none)(pl:IsPart vl lo)(pu:IsPart vu hi)
  (h:Q (((sIx n 0 lo:Nat):Int),1,sIx n n hi-sIx n 0 lo) s):wpAny (model prog w) A (Builtin.Slice.sliceApplied (.ref sl) (pure (n:Int))) Q E s:=by
 obtain⟨os,hos,hcs,hds⟩:=id hs
 unfold Builtin.Slice.sliceApplied Builtin.Slice.sliceFields
 refine A5 (A5 (Dj hos hds (x:=vl) rfl (A5 (Dj hos hds (x:=vu) rfl (A5 (Dj hos hds (x:=.none) rfl (Al ?_)))))))
 refine A5 (slicePart_none ?_)
 show wpAny _ _ (if((1:Int)==0)=true then _ else _) _ _ s
 rw[Ae (by decide)]
 refine A5 (MK pl (A5 (MK pu (A5 (Al ?_)))))
 show wpAny _ _ (match Builtin.Slice.sliceAdjust lo hi 1 (n:Int) with|(lo,hi)=>pure (lo,(1:Int),Builtin.Slice.slicePlaces lo hi 1)) _ _ s
 rw[Vx lo hi n]
 show wpAny _ _ (pure (((sIx n 0 lo:Nat):Int),(1:Int),Builtin.Slice.slicePlaces ((sIx n 0 lo:Nat):Int) ((sIx n n hi:Nat):Int) 1)) _ _ s
 rw[TN]
 exact Al h
theorem Ui (xs:Array Value)(i k:Nat):((List.range k).filterMap fun(m:Nat)=>xs[((i:Int)+(m:Int)*1).toNat]?).toArray=((xs.toList.drop i).take k).toArray:=by
 have e:(fun(m:Nat)=>xs[((i:Int)+(m:Int)*1).toNat]?)=fun m=>xs[i+m]?:=by
  funext m
  have:((i:Int)+(m:Int)*1).toNat=i+m:=by omega
  rw[this]
 rw[e]
 have:=pick_run xs i k
 rw[List.filterMap_map]at this
 have e2:((fun x=>xs[x]?)∘fun x=>i+x)=fun m=>xs[i+m]?:=rfl
 rw[e2]at this
 rw[this]
theorem getItem_tuple_cut {t sl:Addr}{items:Array Value}{vl vu:Value}{lo hi:Option Int}{Q:Value->Shared->Prop}(ht:IsTup s.heap t items)(hs:s.heap.IsSliceOf sl vl vu .none)(pl:IsPart vl lo)(pu:IsPart vu hi)
  (hw:¬(sIx items.size 0 lo=0/\sIx items.size items.size hi=items.size))
  (h:Q (.ref s.heap.objs.size) {s with heap:=s.heap.push {cls:=.type "tuple",data:=.seq ((items.toList.drop (sIx items.size 0 lo)).take (sIx items.size items.size hi-sIx items.size 0 lo)).toArray}})
  (hsz:items.size<=sizeLine):wpAny (model prog w) A (getItem (.ref t) (.ref sl)) Q E s:=by
 have htake:sizeOk (.seq ((items.toList.drop (sIx items.size 0 lo)).take (sIx items.size items.size hi-sIx items.size 0 lo)).toArray):=by
  show((items.toList.drop (sIx items.size 0 lo)).take (sIx items.size items.size hi-sIx items.size 0 lo)).toArray.size<=sizeLine
  rw[B5,BG,Kv,M7]
  omega
 have hj:sIx items.size items.size hi<=items.size:=sIx_le _ _ (An _) hi
 obtain⟨os,hos,hcs,hds⟩:=id hs
 have hTs:s.TypeIs (.ref sl) "slice":=⟨os,hos,hcs⟩
 unfold getItem
 try with_reducible refine EY ?_
 first|refine A5 (Al ?_)|skip
 refine A5 (wpAny_sequenceKey ht.typeIs (by decide) ?_)
 refine A5 (wpAny_callSpecial?_slot (name:=Str.ofString "__getitem__") ht.typeIs Ma
  (Hw Ma ht.typeIs entry_tuple_getitem ?_ (args_tuple_getitem _ _)))
 show wpAny _ _ (Builtin.Tuple.tupleItemsOf (.ref t)>>=_) _ _ s
 refine A5 (tupleItemsOf_ ht ?_)
 refine A5 (KJ hTs ?_)
 rw[Ah (by decide)]
 refine A5 (NW hs pl pu ?_)
 have hno:¬((((sIx items.size 0 lo:Nat):Int)==0&&(1:Int)==1&&(sIx items.size items.size hi-sIx items.size 0 lo)==items.size)=true):=by
  intro q
  rw[EU,EU]at q
  have q1:((sIx items.size 0 lo:Nat):Int)=0:=eq_of_beq q.1.1
  have q2:sIx items.size items.size hi-sIx items.size 0 lo=items.size:=eq_of_beq q.2
  exact hw ⟨by omega,by omega⟩
 show wpAny _ _ (if(((sIx items.size 0 lo:Nat):Int)==0&&(1:Int)==1&&(sIx items.size items.size hi-sIx items.size 0 lo)==items.size)=true then _ else _) _ _ s
 rw[Ae hno,Ui]
 first
  |exact A5 (m:=Builtin.Tuple.tupleExact _) (GF (Al ⟨_,rfl,Al h⟩) htake)
  |exact A5 (m:=Builtin.Tuple.tupleExact _) (GF (A5 (Al (Al ⟨_,rfl,Al h⟩))) htake)
  |exact A5 (A5 (m:=Builtin.Tuple.tupleExact _) (GF (Al (Al ⟨_,rfl,Al h⟩)) htake))
  |exact A5 (A5 (m:=Builtin.Tuple.tupleExact _) (GF (Al ⟨_,rfl,Al h⟩) htake))
end
end HT
namespace L2
open PySem PySem.Spec PyProof.Rows
abbrev TO:=St->Hp->(Option Int->Hp->Prop)->Prop
def PO (X:Cx)(e:Option Expr)(t:TO):Prop:=
 ∀(pins:List (Addr×Obj)) (s:Shared) (σ:St) (H:Hp) (Q:Option Int->Hp->Prop),A2 X pins σ H s->t σ H Q->
  wpAny (model X.prog X.w) X.A (evalPart e X.env) (fun u s'=>∃o H',A2 X pins σ H' s'/\IsPart u o/\Q o H') X.xe s
def SC:TO:=fun _ H Q=>Q none H
def UD (t:TE):TO:=fun σ H Q=>t σ H fun x H1=>∃i,x = .int i/\Q (some i) H1
section
variable {X:Cx}{e:Expr}{te:TE}{lo hi:Option Expr}{tl th:TO}{pos p2:Pos}
theorem Eb:PO X none SC:=by
 intro pins s σ H Q I h
 rw[evalPart_none]
 exact Al ⟨none,H,I,.none,h⟩
theorem Ef (h:PE X e te):PO X (some e) (UD te):=by
 intro pins s σ H Q I hw
 rw[evalPart_some]
 refine As (h pins s σ H _ I hw) fun u s1 ⟨x,H1,I1,r1,q1⟩=>?_
 obtain⟨i,rfl,q⟩:=q1
 obtain⟨t,rfl⟩:=r1
 exact⟨some i,H1,I1,.int i t,q⟩
def HM (X:Cx)(r:V->Option Int->Option Int->Hp->VK->Prop):Prop:=
 ∀(pins:List (Addr×Obj)) (s:Shared) (σ:St) (H:Hp) (x:V) (v vl vu:Value) (lo hi:Option Int) (sl:Addr) (Q:VK),A2 X pins σ H s->Ax x v->s.heap.IsSliceOf sl vl vu .none->IsPart vl lo->IsPart vu hi->r x lo hi H Q->
  ∃T id,typeLookup (.type T) "__getitem__"=pure (some (.builtin id))/\s.TypeIs v T/\wpAny (model X.prog X.w) X.A (getItem v (.ref sl)) (EP X pins σ Q) X.xe s
def XG (r:V->Option Int->Option Int->Hp->VK->Prop)(te:TE)(tl th:TO):TE:=fun σ H Q=>te σ H fun x H1=>tl σ H1 fun l H2=>th σ H2 fun u H3=>r x l u H3 Q
theorem E3 {r:V->Option Int->Option Int->Hp->VK->Prop}(hr:HM X r)(he:PE X e te)(hl:PO X lo tl)(hu:PO X hi th):PE X (.Subscript e (.Slice lo hi none p2) pos) (XG r te tl th):=by
 intro pins s σ H Q I h
 refine Subscript_ (As (he pins s σ H _ I h) fun v s1 ⟨x,H1,I1,r1,q1⟩=>?_)
 refine wpAny_Slice (As (hl pins s1 σ H1 _ I1 q1) fun vl s2 ⟨l,H2,I2,pl,q2⟩=>As (hu pins s2 σ H2 _ I2 q2) fun vu s3 ⟨u,H3,I3,pu,q3⟩=>?_)
 rw[evalPart_none]
 refine Al ?_
 have I4:A2 X pins σ H3 {s3 with heap:=s3.heap.push {cls:=.type "slice",data:=.fields #[vl,vu,.none]}}:=I3.kept (t':=s3.toks) fun b ob q=>AI _ q
 obtain⟨T,id,hT,ht,hg⟩:=hr pins {s3 with heap:=s3.heap.push {cls:=.type "slice",data:=.fields #[vl,vu,.none]}} σ H3 x v vl vu l u s3.heap.objs.size Q I4 r1 (Heap.IsSliceOf.new ..) pl pu q3
 show wpAny (model X.prog X.w) X.A (subscriptTail e (.Slice lo hi none p2) v (.ref s3.heap.objs.size)) (EP X pins σ Q) X.xe {s3 with heap:=s3.heap.push {cls:=.type "slice",data:=.fields #[vl,vu,.none]}}
 exact tail_any (ops:=[.ref s3.heap.objs.size,v]) ht hT hg (by with_unfolding_all rfl)
def Cv (xs:List V)(lo hi:Option Int):List V:=(xs.drop (HT.sIx xs.length 0 lo)).take (HT.sIx xs.length xs.length hi-HT.sIx xs.length 0 lo)
theorem MX (xs:List V)(lo hi:Option Int):(Cv xs lo hi).length<=xs.length:=by
 unfold Cv
 rw[BG,Kv]
 omega
def Wx (K:XJ):V->Option Int->Option Int->Hp->VK->Prop:=fun x lo hi H Q=>∃a xs,x = .ref a/\A8 K H a xs/\
 ¬(HT.sIx xs.length 0 lo=0/\HT.sIx xs.length xs.length hi=xs.length)/\∀p,H p=none->Q (.ref p) (upd H p (.tup (Cv xs lo hi)))
theorem X2:HM X (Wx X.K):=by
 intro pins s σ H x v vl vu lo hi sl Q I rx hs pl pu h
 obtain⟨a,xs,rfl,hx,hw,q⟩:=h
 cases rx
 obtain⟨its,r,ht,hz⟩:=I.tuple hx
 have hlen:its.toArray.size=xs.length:=by rw[B5];exact r.length.symm
 refine⟨"tuple",_,PyProof.Rows.slot_tuple_getitem.lookup,ht.typeIs,?_⟩
 refine HT.getItem_tuple_cut ht hs pl pu (by rw[hlen];exact hw) ?_ (by rw[hlen];exact hz)
 rw[hlen]
 refine⟨.ref s.heap.objs.size,_,I.laid (t':=s.toks) (o:=.tup (Cv xs lo hi)) (fun b ob q=>AI _ q) (An _) ?_,rfl,q _ (I.hok.fresh (An _))⟩
 exact⟨Bl (MX xs lo hi) hz,_,(r.drop (HT.sIx xs.length 0 lo)).take (HT.sIx xs.length xs.length hi-HT.sIx xs.length 0 lo),EH.new _ _⟩
def QB (K:XJ):R2:=fun x y H Q=>∃a b xs ys,x = .ref a/\y = .ref b/\A8 K H a xs/\A8 K H b ys/\xs≠[]/\xs.length+ys.length<=sizeLine/\
 (ys=[]->Q (.ref a) H)/\(ys≠[]->∀p,H p=none->Q (.ref p) (upd H p (.tup (xs++ys))))
theorem Aw.nil_iff {xs:List V}{us:List Value}(r:Aw xs us):us=[]↔xs=[]:=by
 cases r with
 |nil=>simp
 |cons _ _=>simp
theorem Rw:BP X (binaryOp .Add) (QB X.K):=by
 intro pins s σ H x y v u Q I rx ry h
 obtain⟨a,b,xs,ys,rfl,rfl,ha,hb,hx,hz,q1,q2⟩:=h
 cases rx
 cases ry
 obtain⟨its,r1,p1,_⟩:=I.tuple ha
 obtain⟨its2,r2,p2,_⟩:=I.tuple hb
 refine HT.cat_tup p1 p2 (fun z=>hx (r1.nil_iff.mp z)) (fun z=>⟨.ref a,H,I,rfl,q1 (r2.nil_iff.mp z)⟩) (fun z=>?_) (by rw[←r1.length,←r2.length];exact hz)
 refine⟨.ref s.heap.objs.size,_,I.laid (t':=s.toks) (o:=.tup (xs++ys)) (fun b ob q=>AI _ q) (An _) ?_,rfl,q2 (fun w=>z (r2.nil_iff.mpr w)) _ (I.hok.fresh (An _))⟩
 exact⟨by rw[Ac];exact hz,_,r1.append r2,EH.new _ _⟩
end
def F1 (n:Nat)(i:Int):Option Nat:=if 0<=i then(if i<n then some i.toNat else none) else if -(n:Int)<=i then some (i+n).toNat else none
def BA {α:Type}(xs:List α)(i:Int):Option α:=(F1 xs.length i).bind fun j=>xs[j]?
theorem Uk {n:Nat}{i:Int}{j:Nat}(h:F1 n i=some j):seqIndex? i n=some j/\j<n/\-(n:Int)<=i/\i<n:=by
 unfold F1 at h
 by_cases h0:0<=i
 .rw[Ah h0]at h
  by_cases h1:i<n
  .rw[Ah h1]at h
   have e:i.toNat=j:=AZ h
   exact⟨by rw[seqIndex_of h0 h1,e],by omega,by omega,h1⟩
  .rw[Ae h1]at h;cases h
 .rw[Ae h0]at h
  by_cases h1 : -(n:Int)<=i
  .rw[Ah h1]at h
   have e:(i+n).toNat=j:=AZ h
   exact⟨by rw[seqIndex_neg (by omega) h1,e],by omega,h1,by omega⟩
  .rw[Ae h1]at h;cases h
theorem Lr {α:Type}{xs:List α}{i:Int}{v:α}(h:BA xs i=some v):∃j,seqIndex? i xs.length=some j/\xs[j]?=some v/\j<xs.length/\-(xs.length:Int)<=i/\i<xs.length:=by
 unfold BA at h
 cases e:F1 xs.length i with
 |none=>rw[e]at h;cases h
 |
  some j=>
  rw[e]at h
  obtain⟨h1,h2,h3,h4⟩:=Uk e
  exact⟨j,h1,h,h2,h3,h4⟩
theorem D7 {α:Type}{xs:List α}{j:Nat}{v:α}(h:xs[j]?=some v):BA xs (j:Int)=some v:=by
 have hj:j<xs.length:=(BR.mp h).1
 have e:F1 xs.length (j:Int)=some j:=by
  unfold F1
  rw[Ah (by omega),Ah (by omega)];simp
 unfold BA;rw[e];exact h
theorem Ij {α:Type}(xs:List α)(v:α):BA (xs++[v]) (-1)=some v:=by
 have hl:(xs++[v]).length=xs.length+1:=by simp
 have e:F1 (xs++[v]).length (-1)=some xs.length:=by
  unfold F1
  rw[hl,Ae (by decide),Ah (by omega)]
  congr 1
  omega
 unfold BA
 rw[e]
 show(xs++[v])[xs.length]?=some v
 simp
def Qs (b:Expr):Prop := ∀o i,subscripted b false o i=operate [o,i] (getItem o i)
def CU (X:Cx)(r:R2):Prop:=
 ∀(value slice:Expr) (pins:List (Addr×Obj)) (s:Shared) (σ:St) (H:Hp) (x y:V) (v u:Value) (Q:VK),A2 X pins σ H s->Ax x v->Ax y u->r x y H Q->
  subscripted slice false v u=operate [v,u] (getItem v u)->wpAny (model X.prog X.w) X.A (subscriptTail value slice v u) (EP X pins σ Q) X.xe s
def Tu (X:Cx)(id:String)(r:V->List V->Hp->VK->Prop):Prop:=
 ∀(pins:List (Addr×Obj)) (s:Shared) (σ:St) (H:Hp) (x:V) (xs:List V) (v:Value) (us:List Value) (Q:VK),A2 X pins σ H s->Ax x v->Aw xs us->r x xs H Q->
  wpAny (model X.prog X.w) X.A (call (.builtin id) (v::us)) (EP X pins σ Q) X.xe s
section
variable {X:Cx}{a b:Expr}{ta tb:TE}{pos:Pos}
theorem Ai {r:R2}(hr:CU X r)(ha:PE X a ta)(hb:PE X b tb)(hs:Qs b):PE X (.Subscript a b pos) (Iw r ta tb):=by
 intro pins s σ H Q I h
 exact Subscript_ (Ld ha hb I h fun v u s2 x y H2 I2 rx ry q=>hr a b pins s2 σ H2 x y v u Q I2 rx ry q (hs _ _))
def Uo (K:XJ):R2:=fun x y H Q=>∃p xs i v,x = .ref p/\y = .int i/\A7 K H p xs/\BA xs i=some v/\Q v H
def Do (K:XJ):R2:=fun x y H Q=>∃p xs i v,x = .ref p/\y = .int i/\A8 K H p xs/\BA xs i=some v/\Q v H
def SZ:R2:=fun x y H Q=>∃z i c,x = .str z/\y = .int i/\z.length<=sizeLine/\BA z.cps.toList i=some c/\Q (.str ⟨#[c]⟩) H
theorem B2:CU X (Uo X.K):=by
 intro value slice pins s σ H x y v u Q I rx ry h hs
 obtain⟨p,xs,i,z,rfl,rfl,hq,he,q⟩:=h
 cases rx
 obtain⟨t,rfl⟩:=ry
 obtain⟨its,r,pl,hz⟩:=I.list hq
 obtain⟨j,h1,h2,h3,h4,h5⟩:=Lr he
 obtain⟨w,ew,rw'⟩:=r.get h2
 have hl:=r.length
 have hn:=GO
 have fin:EP X pins σ Q w s:=⟨z,H,I,rw',q⟩
 by_cases h0:0<=i
 .have hj:i.toNat=j:=by
   rw[seqIndex_of h0 h5]at h1
   exact AZ h1
  exact item_listR pl.isList h0 (by omega) (by rw[hj];simpa using ew) fin hs
 .have hj:(i+(its.toArray.size:Int)).toNat=j:=by
   rw[seqIndex_neg (by omega) h4]at h1
   rw[B5,←hl]
   exact AZ h1
  exact subscriptTail_builtinR (x:=w) pl.isList.typeIs slot_list_getitem.lookup
   (wpAny_getItem_list_neg (Q:=fun r s'=>r=w/\EP X pins σ Q r s') pl.isList (by omega) (by rw[B5]<;>omega) (by omega) (by rw[hj];simpa using ew) ⟨rfl,fin⟩) hs
theorem AF:CU X (Do X.K):=by
 intro value slice pins s σ H x y v u Q I rx ry h hs
 obtain⟨p,xs,i,z,rfl,rfl,hq,he,q⟩:=h
 cases rx
 obtain⟨t,rfl⟩:=ry
 obtain⟨its,r,pl,hz⟩:=I.tuple hq
 obtain⟨j,h1,h2,h3,h4,h5⟩:=Lr he
 obtain⟨w,ew,rw'⟩:=r.get h2
 have hl:=r.length
 have hn:=GO
 have fin:EP X pins σ Q w s:=⟨z,H,I,rw',q⟩
 exact subscriptTail_builtinR (x:=w) pl.typeIs slot_tuple_getitem.lookup
  (getItem_tuple (j:=j) (Q:=fun r s'=>r=w/\EP X pins σ Q r s') pl (by omega) (by omega) (by rw[B5,←hl];exact h1) (by simpa using ew) ⟨rfl,fin⟩) hs
theorem NB:CU X SZ:=by
 intro value slice pins s σ H x y v u Q I rx ry h hs
 obtain⟨z,i,c,rfl,rfl,hz,he,q⟩:=h
 obtain⟨t,rfl⟩:=rx
 obtain⟨t',rfl⟩:=ry
 obtain⟨j,h1,h2,h3,h4,h5⟩:=Lr he
 have hl:z.cps.toList.length=z.length:=by simp[Str.length]
 rw[hl]at h1 h4 h5
 have hn:=GO
 exact tail_any (typeIs_str s z t) slot_str_getitem.lookup (getItem_str (c:=c) (by
  have e1:decide (i < -(2 ^ 63:Int))=false:=Cw (by omega)
  have e2:decide (i≥2 ^ 63)=false:=Cw (by omega)
  rw[e1,e2,Bool.or_false]) (by rw[h1];simpa using h2) ⟨.str ⟨#[c]⟩,H,I.tok _,⟨_,rfl⟩,q⟩) hs
theorem Rz (lo hi:Option Int)(n:Nat):(sliceBounds lo hi none n).1=((HT.sIx n 0 lo:Nat):Int)/\(sliceBounds lo hi none n).2.1=((HT.sIx n n hi:Nat):Int)/\(sliceBounds lo hi none n).2.2=1:=by
 refine⟨?_,?_,rfl⟩
 .cases lo with
  |none=>simp[sliceBounds,HT.sIx]
  |
   some i=>
   simp only[sliceBounds,HT.sIx,Option.getD_none,show(1:Int)>0 by decide,FZ]
   by_cases h:i<0
   .simp only[h,FZ]<;>omega
   .simp only[h,Hv]<;>omega
 .cases hi with
  |none=>simp[sliceBounds,HT.sIx]
  |
   some i=>
   simp only[sliceBounds,HT.sIx,Option.getD_none,show(1:Int)>0 by decide,FZ]
   by_cases h:i<0
   .simp only[h,FZ]<;>omega
   .simp only[h,Hv]<;>omega
theorem WX (its:List Value)(lo hi:Option Int):slicePick its.toArray lo hi none=((its.drop (HT.sIx its.length 0 lo)).take (HT.sIx its.length its.length hi-HT.sIx its.length 0 lo)).toArray:=by
 obtain⟨h1,h2,h3⟩:=Rz lo hi its.toArray.size
 unfold slicePick
 rw[h1,h2,h3]
 simp only[sliceRange_one,pick_run,B5]<;>rfl
def TZ (K:XJ):V->Option Int->Option Int->Hp->VK->Prop:=fun x lo hi H Q=>∃a xs,x = .ref a/\A7 K H a xs/\∀p,H p=none->Q (.ref p) (upd H p (.lst (Cv xs lo hi)))
theorem HL:HM X (TZ X.K):=by
 intro pins s σ H x v vl vu lo hi sl Q I rx hs pl pu h
 obtain⟨a,xs,rfl,hx,q⟩:=h
 cases rx
 obtain⟨its,r,ht,hz⟩:=I.list hx
 have hlen:=r.length
 refine⟨"list",_,slot_list_getitem.lookup,ht.isList.typeIs,?_⟩
 refine wpAny_getItem_list_slice ht.isList hs pl pu .none (by simp) ?_ (by rw[B5]<;>omega)
 rw[WX,←hlen]
 refine⟨.ref s.heap.objs.size,_,I.laid (t':=s.toks) (o:=.lst (Cv xs lo hi)) (fun b ob q=>AI _ q) (An _) ?_,rfl,q _ (I.hok.fresh (An _))⟩
 exact⟨Bl (MX xs lo hi) hz,_,0,(r.drop (HT.sIx xs.length 0 lo)).take (HT.sIx xs.length xs.length hi-HT.sIx xs.length 0 lo),BV _ rfl⟩
def Ee:V->Bool
 |.non=>true
 |.bl _=>true
 |.int _=>true
 |.str _=>true
 |_=>false
def DY:V->V->Bool
 |.non,.non=>true
 |.bl a,.bl b=>a==b
 |.bl a,.int b=>(if a then 1 else 0)==b
 |.int a,.bl b=>a==(if b then 1 else 0)
 |.int a,.int b=>a==b
 |.str a,.str b=>a==b
 |_,_=>false
theorem Lw {A:Around}{s:Shared}{y x:V}{u v:Value}(ry:Ax y u)(rx:Ax x v)(fy:Ee y=true)(fx:Ee x=true):SeqAt.EqAt A s u v (DY y x):=by
 cases y with
 |
  non=>
  cases ry
  cases x with
  |non=>cases rx;exact SeqAt.EqAt.same _
  |bl b=>cases rx;exact SeqAt.EqAt.none_bool b
  |int b=>obtain⟨t,rfl⟩:=rx;exact SeqAt.EqAt.none_int b t
  |str b=>obtain⟨t,rfl⟩:=rx;exact SeqAt.EqAt.none_str b t
  |_=>exact absurd (show false=true from fx) DG
 |
  bl a=>
  cases ry
  cases x with
  |non=>cases rx;exact SeqAt.EqAt.bool_none a
  |bl b=>cases rx;exact SeqAt.EqAt.bool_bool a b
  |int b=>obtain⟨t,rfl⟩:=rx;exact SeqAt.EqAt.bool_int a b t
  |str b=>obtain⟨t,rfl⟩:=rx;exact SeqAt.EqAt.bool_str a b t
  |_=>exact absurd (show false=true from fx) DG
 |
  int a=>
  obtain⟨t',rfl⟩:=ry
  cases x with
  |non=>cases rx;exact SeqAt.EqAt.int_none a t'
  |bl b=>cases rx;exact SeqAt.EqAt.int_bool a t' b
  |int b=>obtain⟨t,rfl⟩:=rx;exact SeqAt.EqAt.int_int a t' b t
  |str b=>obtain⟨t,rfl⟩:=rx;exact SeqAt.EqAt.int_str a t' b t
  |_=>exact absurd (show false=true from fx) DG
 |
  str a=>
  obtain⟨t',rfl⟩:=ry
  cases x with
  |non=>cases rx;exact SeqAt.EqAt.str_none a t'
  |bl b=>cases rx;exact SeqAt.EqAt.str_bool a t' b
  |int b=>obtain⟨t,rfl⟩:=rx;exact SeqAt.EqAt.str_int a t' b t
  |str b=>obtain⟨t,rfl⟩:=rx;exact SeqAt.EqAt.str_str a t' b t
  |_=>exact absurd (show false=true from fx) DG
 |_=>exact absurd (show false=true from fy) DG
def F7 (x:V)(u:Value):Bool:=match u with
 |.none=>DY .non x
 |.bool b=>DY (.bl b) x
 |.int i _=>DY (.int i) x
 |.str z _=>DY (.str z) x
 |_=>false
theorem Ny {x y:V}{u:Value}(r:Ax y u)(f:Ee y=true):F7 x u=DY y x:=by
 cases y with
 |non=>cases r;rfl
 |bl b=>cases r;rfl
 |int i=>obtain⟨t,rfl⟩:=r;rfl
 |str z=>obtain⟨t,rfl⟩:=r;rfl
 |_=>exact absurd (show false=true from f) DG
theorem Li {x:V}:∀{xs:List V} {us:List Value},Aw xs us->xs.all Ee=true->us.any (F7 x)=xs.any fun y=>DY y x
 |_,_,.nil,_=>rfl
 |
  y::xs,u::us,.cons r t,f=>by
  rw[List.all_cons,EU]at f
  rw[IW,IW,Ny r f.1,Li t f.2]
theorem Lq {A:Around}{s:Shared}{x:V}{v:Value}(rx:Ax x v)(fx:Ee x=true):∀{xs:List V} {us:List Value},Aw xs us->xs.all Ee=true->∀u∈us,SeqAt.EqAt A s u v (F7 x u)
 |_,_,.nil,_=>fun u hu=>by cases hu
 |
  y::xs,u::us,.cons r t,f=>fun u' hu=>by
  rw[List.all_cons,EU]at f
  rcases AE.mp hu with rfl|hu
  .rw[Ny r f.1];exact Lw r rx f.1 fx
  .exact Lq rx fx t f.2 u' hu
def HW (x:V)(xs:List V):Bool:=xs.any fun y=>DY y x
def RH (K:XJ)(neg:Bool):R2:=fun x y H Q=>∃p xs,y = .ref p/\(A7 K H p xs\/A8 K H p xs)/\Ee x=true/\xs.all Ee=true/\Q (.bl (if neg then !HW x xs else HW x xs)) H
theorem Se:BP X (compareOp .In) (RH X.K false):=by
 intro pins s σ H x y v u Q I rx ry h
 obtain⟨p,xs,rfl,hq,fx,fs,q⟩:=h
 cases ry
 rcases hq with hq|hq
 .obtain⟨its,r,pl,hz⟩:=I.list hq
  refine SeqAt.in_listAt (F7 x) pl.isList (fun w hw=>Lq rx fx r fs w (by simpa using hw)) ⟨.bl _,H,I,rfl,?_⟩
  rw[show its.toArray.any (F7 x)=its.any (F7 x) by simp,Li r fs]
  exact q
 .obtain⟨its,r,pl,hz⟩:=I.tuple hq
  refine SeqAt.in_tupleAt (F7 x) pl (fun w hw=>Lq rx fx r fs w (by simpa using hw)) ⟨.bl _,H,I,rfl,?_⟩
  rw[show its.toArray.any (F7 x)=its.any (F7 x) by simp,Li r fs]
  exact q
theorem BY:Ey X (.builtin "len") (fun xs H Q=>∃p ys,xs=[.ref p]/\(A7 X.K H p ys\/A8 X.K H p ys)/\Q (.int ys.length) H):=by
 intro pins s σ H xs us Q I r h
 obtain⟨p,ys,rfl,hq,q⟩:=h
 obtain⟨u,rfl,rx⟩:=FC r
 cases rx
 have hn:=GO
 rcases hq with hq|hq
 .obtain⟨its,r',pl,hz⟩:=I.list hq
  have hlen:=r'.length
  exact Calls.call_len_list pl.isList (by simp only[B5]<;>omega) ⟨.int ys.length,H,I.tok _,⟨s.toks+1,by rw[B5,hlen]⟩,q⟩
 .obtain⟨its,r',pl,hz⟩:=I.tuple hq
  have hlen:=r'.length
  exact len_tuple pl (by simp only[B5]<;>omega) ⟨.int ys.length,H,I.tok _,⟨s.toks+1,by rw[B5,hlen]⟩,q⟩
theorem WQ:Ey X (.builtin "len") (fun xs H Q=>∃z,xs=[.str z]/\z.length<=sizeLine/\Q (.int z.length) H):=by
 intro pins s σ H xs us Q I r h
 obtain⟨z,rfl,hz,q⟩:=h
 obtain⟨u,rfl,t,rfl⟩:=FC r
 have hn:=GO
 exact len_str (by omega) ⟨.int z.length,H,I.tok _,⟨_,rfl⟩,q⟩
theorem Qz:Ey X (.type "list") (fun xs H Q=>∃p ys,xs=[.ref p]/\(A7 X.K H p ys\/A8 X.K H p ys)/\∀l,H l=none->Q (.ref l) (upd H l (.lst ys))):=by
 intro pins s σ H xs us Q I r h
 obtain⟨p,ys,rfl,hq,q⟩:=h
 obtain⟨u,rfl,rx⟩:=FC r
 cases rx
 have fin:∀(its:List Value),Aw ys its->ys.length<=sizeLine->∀(h':Heap) (c':Nat),(∀b o',s.heap.get? b=some o'->h'.get? b=some o')->
   h'.get? s.heap.objs.size=some {cls:=.type "list",dict:=none,data:=.seq its.toArray c',slots := #[]}->EP X pins σ Q (.ref s.heap.objs.size) {s with heap:=h'}:=fun its r' hz h' c' kp e=>
  ⟨.ref s.heap.objs.size,_,I.laid (t':=s.toks) kp (An _) (show Bw X.prog X.w _ h' _ (.lst ys) from⟨hz,its,c',r',e⟩),rfl,q _ (I.hok.fresh (An _))⟩
 rcases hq with hq|hq
 .obtain⟨its,r',pl,hz⟩:=I.list hq
  have hlen:=r'.length
  obtain⟨o,ho,hc,n,hd⟩:=pl.isList
  exact call_list_seq p (.inl rfl) ho hc hd (fun h' c' kp e=>fin its r' hz h' c' kp e) (by simp only[B5]<;>omega)
 .obtain⟨its,r',pl,hz⟩:=I.tuple hq
  have hlen:=r'.length
  obtain⟨o,ho,hc,n,hd⟩:=pl
  exact call_list_seq p (.inr rfl) ho hc hd (fun h' c' kp e=>fin its r' hz h' c' kp e) (by simp only[B5]<;>omega)
theorem G6:Ey X (.type "tuple") (fun xs H Q=>∃p ys,xs=[.ref p]/\((A7 X.K H p ys/\∀l,H l=none->Q (.ref l) (upd H l (.tup ys)))\/(A8 X.K H p ys/\Q (.ref p) H))):=by
 intro pins s σ H xs us Q I r h
 obtain⟨p,ys,rfl,h⟩:=h
 obtain⟨u,rfl,rx⟩:=FC r
 cases rx
 rcases h with⟨hq,q⟩|⟨hq,q⟩
 .obtain⟨its,r',pl,hz⟩:=I.list hq
  have hlen:=r'.length
  refine call_tuple_list pl.isList (fun h' kp=>?_) (by simp only[B5]<;>omega)
  have I1:A2 X pins σ H {s with heap:=h'}:=I.kept (t':=s.toks) kp
  have I2:A2 X pins σ (upd H h'.objs.size (.tup ys)) {s with heap:=h'.push {cls:=.type "tuple",data:=.seq its.toArray}}:=
   I1.laid (t':=s.toks) (fun b o e=>AI _ e) (An _) (show Bw X.prog X.w _ _ _ (.tup ys) from⟨hz,its,r',EH.new _ _⟩)
  exact⟨.ref h'.objs.size,_,I2,rfl,q _ (I1.hok.fresh (An _))⟩
 .obtain⟨its,r',pl,hz⟩:=I.tuple hq
  exact call_tuple_same pl ⟨.ref p,H,I,rfl,q⟩
def OP (K:XJ)(T:String)(x:V)(H:Hp):Prop:=match x with
 |.str _=>T="str"
 |.int _=>T="int"
 |.ref p=>(T="list"/\∃xs,A7 K H p xs)\/(T="tuple"/\∃o,K.lookup p=some o/\o.cls = .type "tuple"/\o.dict=none)\/
  (T="dict"/\((∃kvs,H p=some (.dK kvs))\/∃kvs,H p=some (.dT kvs)))\/(T="set"/\∃S n,H p=some (.set S n))
 |_=>False
theorem S5 {pins:List (Addr×Obj)}{σ:St}{H:Hp}{s:Shared}{T:String}{x:V}{v:Value}(I:A2 X pins σ H s)(r:Ax x v)(ty:OP X.K T x H) :
  s.TypeIs v T/\∀a,v = .ref a->∃ob,s.heap.get? a=some ob/\ob.dict=none:=by
 cases x with
 |
  str z=>
  obtain⟨t,rfl⟩:=r
  cases (show T="str" from ty)
  exact⟨typeIs_str s z t,fun _ e=>nomatch e⟩
 |
  int i=>
  obtain⟨t,rfl⟩:=r
  cases (show T="int" from ty)
  exact⟨typeIs_int s i t,fun _ e=>nomatch e⟩
 |
  ref p=>
  cases r
  rcases ty with⟨rfl,xs,hq⟩|⟨rfl,o,hk,hc,hd⟩|⟨rfl,hk⟩|⟨rfl,S,n,hk⟩
  .obtain⟨its,_,pl,_⟩:=I.list hq
   refine⟨pl.isList.typeIs,fun a e=>?_⟩
   cases e
   obtain⟨o,n,e,c,hd,_⟩:=pl
   exact⟨o,e,hd⟩
  .refine⟨⟨o,I.kIn p o hk,hc⟩,fun a e=>?_⟩
   cases e
   exact⟨o,I.kIn _ o hk,hd⟩
  .have z:∃o,s.heap.get? p=some o/\o.ExactDict:=by
    rcases hk with⟨kvs,hk⟩|⟨kvs,hk⟩
    .obtain⟨_,_,_,_,o,_,_,e,ex,_⟩:=I.hok p _ hk
     exact⟨o,e,ex⟩
    .obtain⟨_,_,_,_,o,_,_,e,ex,_⟩:=I.hok p _ hk
     exact⟨o,e,ex⟩
   obtain⟨o,e,ex⟩:=z
   refine⟨⟨o,e,ex.1⟩,fun a e2=>?_⟩
   cases e2
   exact⟨o,e,ex.2.1⟩
  .obtain⟨o,_,_,_,e,ex,_⟩:=I.hok p _ hk
   refine⟨⟨o,e,ex.1⟩,fun a e2=>?_⟩
   cases e2
   exact⟨o,e,ex.2.1⟩
 |_=>exact False.elim ty
def Rh (K:XJ)(T:String)(r:V->List V->Hp->VK->Prop)(to:TE)(t:TA):TE:=fun σ H Q=>to σ H fun x H1=>OP K T x H1/\t σ H1 fun xs H2=>r x xs H2 Q
variable {o e:Expr}{es:List Expr}{to:TE}{t:TA}{name:Str}{apos cpos:Pos}{T id:String}{r:V->List V->Hp->VK->Prop}
theorem Ec (pa:PlainAttrs T)(slot:Slot T name id)(hty:typeOf (.builtin id)=pure (.type "method_descriptor"))(hm:Tu X id r)(ho:PE X o to)(ha:PA X (e::es) t)
  (hbase:attributeBase o name X.env (eval o X.env)=eval o X.env:=by rfl)
  (hfew:((backTo cpos (starEach (e::es) X.env)).all (fun x=>!x.1)&&(backToKw cpos (keywordEach [] X.env)).all (fun x=>x.1.isSome)
   && decide ((e::es).length+([]:List Keyword).length+(if([]:List Keyword).isEmpty then 0 else 1)<30))=true:=by rfl)
  (hline:(apos.endLine==cpos.line)=true:=by rfl) (hs:starEach (e::es) X.env=(false,eval e X.env)::starEach es X.env:=by rfl) (hplain:(backTo cpos (starEach es X.env)).any (·.1)=false:=by rfl) :
  PE X (.Call (.Attribute o name apos) (e::es) [] cpos) (Rh X.K T r to t):=by
 intro pins s σ H Q I h
 refine wpAny_Call_method_late hbase hfew hline rfl (As (ho pins s σ H _ I h) fun v s1 ⟨x,H1,I1,r1,ty,q1⟩=>?_)
 obtain⟨h1,h2⟩:=S5 I1 r1 ty
 refine⟨T,id,pa,slot,hty,h1,h2,?_⟩
 have hA:=ha cpos pins s1 σ H1 _ I1 q1
 rw[hs]at hA ⊢
 refine Calls.callWith_builtin (by show(false||(backTo cpos (starEach es X.env)).any (·.1))=false;rw[hplain]<;>rfl) (Calls.evalArgs_plain ?_)
 exact As hA fun us s2 ⟨vs,H2,I2,r2,q2⟩=>hm pins s2 σ H2 x vs v us Q I2 r1 r2 q2
end
def T9 (X:Cx)(id:String)(r:V->List V->Hp->VK->Prop):Prop:=
 ∀(pins:List (Addr×Obj)) (s:Shared) (σ:St) (H:Hp) (x:V) (xs:List V) (v:Value) (us:List Value) (Q:VK),A2 X pins σ H s->Ax x v->Aw xs us->r x xs H Q->
  wpAny (model X.prog X.w) X.A (call (.builtin id) (v::us)) (EP X pins σ Q) X.xe s
theorem Aw.one:∀{x:V} {us:List Value},Aw [x] us->∃u,us=[u]/\Ax x u:=by
 intro x us h
 cases h with
 |
  cons r q=>
  cases q
  exact⟨_,rfl,r⟩
section
variable {X:Cx}{pins:List (Addr×Obj)}{σ:St}{H:Hp}{s:Shared}{l b:Addr}{xs ys zs:List V}
theorem A2.lset {its its':List Value}{n:Nat}{f:Array Value->Array Value}{t':Nat}(I:A2 X pins σ H s)(hH:H l=some (.lst xs))
  (e:s.heap.get? l=some {cls:=.type "list",data:=.seq its.toArray n}) (hf:f its.toArray=its'.toArray) (hv:Aw ys its') (hz:ys.length<=sizeLine) :
  A2 X pins σ (upd H l (.lst ys)) {s with heap:=s.heap.update l (Obj.mapSeq f),toks:=t'}:=by
 have q:=PySem.IsL.update e f
 rw[hf]at q
 refine I.write (x:=l) (e:=l) (by rw[hH];exact trivial) (.inl rfl) (fun b' u hb hu=>(Fk s.heap (Obj.mapSeq f) (Ne.symm hb)).trans hu) ⟨_,q⟩ ?_
 exact⟨hz,its',_,hv,q⟩
theorem A2.lnew {its:List Value}{t':Nat}(I:A2 X pins σ H s)(hv:Aw ys its)(hz:ys.length<=sizeLine) :
  A2 X pins σ (upd H s.heap.objs.size (.lst ys)) {s with heap:=s.heap.push {cls:=.type "list",data:=.seq its.toArray},toks:=t'}:=
 I.laid (fun _ _ q=>AI _ q) (An _) ⟨hz,its,0,hv,BV _ rfl⟩
theorem A2.fresh (I:A2 X pins σ H s):H s.heap.objs.size=none:=I.hok.fresh (An _)
theorem A2.lstM (I:A2 X pins σ H s)(hH:H l=some (.lst xs)):xs.length<=sizeLine/\∃(its:List Value) (n:Nat),Aw xs its/\xs.length=its.length/\s.heap.get? l=some {cls:=.type "list",data:=.seq its.toArray n}:=by
 obtain⟨z,its,n,r,e⟩:=I.hok l _ hH
 exact⟨z,its,n,r,r.length,e⟩
end
section
variable {X:Cx}
def Sy:V->List V->Hp->VK->Prop:=fun x vs H Q=>∃l xs y,x = .ref l/\vs=[y]/\H l=some (.lst xs)/\xs.length<sizeLine/\Q .non (upd H l (.lst (xs++[y])))
theorem Eg:T9 X "list.append" Sy:=by
 intro pins s σ H x vs v us Q I rx rv h
 obtain⟨l,xs,y,rfl,rfl,hH,hz,q⟩:=h
 cases rx
 obtain⟨u,rfl,ru⟩:=rv.one
 obtain⟨z,its,n,r,hl,e⟩:=I.lstM hH
 refine Fn F.slot_list_append ⟨_,e,rfl⟩ F.entry_list_append (F.args_list_append_2 _ _) (PySem.list_append l its.toArray n u (by rw[B5];omega)) ⟨e,?_⟩
 refine⟨.non,_,I.lset (its':=its++[u]) hH e (by simp) (r.append (.cons ru .nil)) ?_,rfl,q⟩
 rw[Ac,AN]
 omega
def RO:R2:=fun x y H Q=>∃l b xs zs,x = .ref l/\y = .ref b/\H l=some (.lst xs)/\H b=some (.lst zs)/\xs.length+zs.length<=sizeLine/\∀p,H p=none->Q (.ref p) (upd H p (.lst (xs++zs)))
theorem Gu:BP X (binaryOp .Add) RO:=by
 intro pins s σ H x y v u Q I rx ry h
 obtain⟨l,b,xs,zs,rfl,rfl,hH,hB,hz,q⟩:=h
 cases rx
 cases ry
 obtain⟨z,its,n,r,hl,e⟩:=I.lstM hH
 obtain⟨z2,its2,n2,r2,hl2,e2⟩:=I.lstM hB
 refine PySem.P.add_list e e2 ?_ (by rw[B5,B5];omega)
 have ea:its.toArray++its2.toArray=(its++its2).toArray:=by simp
 rw[ea]
 exact⟨.ref _,_,I.lnew (t':=s.toks) (r.append r2) (by rw[Ac];omega),rfl,q _ I.fresh⟩
end
section
variable {prog:Program}{w:World}{A:Around}{E:Value->Shared->Prop}{s:Shared}
set_option maxRecDepth 100000 in
end
section
variable {X:Cx}
end
section
variable {κ:Type}[DecidableEq κ]
def Bg (kvs:List (κ×V))(k:κ):Option V:=(kvs.find? fun kv=>decide (kv.1=k)).map (·.2)
def BO (kvs:List (κ×V))(k:κ)(v:V):List (κ×V):=
 if(kvs.any fun kv=>decide (kv.1=k))=true then kvs.map (fun kv=>if kv.1=k then(kv.1,v) else kv) else kvs++[(k,v)]
theorem E9 {p:κ×V}{r:List (κ×V)}{k:κ}(e:p.1=k):Bg (p::r) k=some p.2:=by simp[Bg,IX,e]
theorem El {p:κ×V}{r:List (κ×V)}{k:κ}(e:¬p.1=k):Bg (p::r) k=Bg r k:=by simp[Bg,IX,e]
theorem FN (k:κ):∀kvs:List (κ×V),(kvs.any fun kv=>decide (kv.1=k))=(Bg kvs k).isSome
 |[]=>rfl
 |
  p::r=>by
  rw[IW]
  by_cases e:p.1=k
  .simp only[E9 e,Cc e,Bool.true_or,Option.isSome_some]
  .rw[El e,Cw e,Bool.false_or];exact FN k r
theorem MP (k j:κ)(y:V):∀kvs:List (κ×V),Bg (kvs.map fun kv=>if kv.1=k then(kv.1,y) else kv) j=(Bg kvs j).map fun x=>if j=k then y else x
 |[]=>rfl
 |
  p::r=>by
  have ih:=MP k j y r
  rw[Bu]
  by_cases h:p.1=k
  .rw[Ah h]
   by_cases e:p.1=j
   .rw[E9 (p:=(p.1,y)) e,E9 e,Mb,Ah (e.symm.trans h)]
   .rw[El (p:=(p.1,y)) e,El e,ih]
  .rw[Ae h]
   by_cases e:p.1=j
   .rw[E9 (p:=p) e,E9 e,Mb,Ae (fun z=>h (e.trans z))]
   .rw[El (p:=p) e,El e,ih]
theorem MA (k j:κ)(y:V):∀kvs:List (κ×V),Bg kvs k=none->Bg (kvs++[(k,y)]) j=if j=k then some y else Bg kvs j
 |
  [],_=>by
  by_cases e:k=j
  .rw[Ah e.symm];exact E9 (p:=(k,y)) e
  .rw[Ae (fun z=>e z.symm)];exact El (p:=(k,y)) e
 |
  p::r,hn=>by
  rw[List.cons_append]
  have hk:¬p.1=k:=fun z=>by rw[E9 z]at hn;cases hn
  rw[El hk]at hn
  have ih:=MA k j y r hn
  by_cases e:p.1=j
  .rw[E9 e,E9 e,Ae (fun z=>hk (e.trans z))]
  .rw[El e,El e,ih]
theorem N6 (kvs:List (κ×V))(k j:κ)(y:V):Bg (BO kvs k y) j=if j=k then some y else Bg kvs j:=by
 unfold BO
 by_cases a:(kvs.any fun kv=>decide (kv.1=k))=true
 .rw[Ah a,MP]
  rw[FN]at a
  by_cases e:j=k
  .obtain⟨x,hx⟩:=Option.isSome_iff_exists.mp a
   rw[Ah e,e,hx,Mb,Ah rfl]
  .rw[Ae e]
   cases Bg kvs j with
   |none=>rfl
   |some x=>rw[Mb,Ae e]
 .rw[Ae a]
  refine MA k j y kvs ?_
  rw[FN]at a
  cases q:Bg kvs k with
  |none=>rfl
  |some x=>rw[q]at a;exact(a rfl).elim
theorem LU (kvs:List (κ×V))(k:κ)(v:V):(BO kvs k v).length<=kvs.length+1:=by
 unfold BO
 split
 .rw[Ao];omega
 .rw[Ac,B6,List.length_nil];omega
theorem N3 {kvs:List (κ×V)}{k:κ}(v:V)(h:Bg kvs k=none):BO kvs k v=kvs++[(k,v)]:=by
 unfold BO
 rw[FN,h]
 exact Ae (by decide)
theorem DO.isSome_eq {o:Option V}{u:Option Value}(r:DO o u):o.isSome=u.isSome:=by
 cases o with
 |
  none=>cases u with
  |none=>rfl
  |some _=>exact(show False from r).elim
 |
  some _=>cases u with
  |none=>exact(show False from r).elim
  |some _=>rfl
theorem KV.val {kvs:List (κ×V)}{vs:List (κ×Value)}(r:KV kvs vs)(k:κ):DO (Bg kvs k) (valueAt vs k):=by
 unfold KV at r
 induction r with
 |nil=>exact True.intro
 |
  @cons p q ps qs h t ih=>
  obtain⟨h1,h2⟩:=h
  by_cases e:p.1=k
  .have e':q.1=k:=h1.symm.trans e
   have b:valueAt (q::qs) k=some q.2:=by simp[valueAt,IX,e']
   rw[E9 e,b];exact h2
  .have e':¬q.1=k:=fun z=>e (h1.trans z)
   have b:valueAt (q::qs) k=valueAt qs k:=by simp[valueAt,IX,e']
   rw[El e,b];exact ih
theorem KV.any {kvs:List (κ×V)}{vs:List (κ×Value)}(r:KV kvs vs)(k:κ):(kvs.any fun kv=>decide (kv.1=k))=vs.any fun kv=>decide (kv.1=k):=by
 unfold KV at r
 induction r with
 |nil=>rfl
 |cons h t ih=>rw[IW,IW,ih,h.1]
theorem KV.repl {kvs:List (κ×V)}{vs:List (κ×Value)}(r:KV kvs vs)(k:κ){y:V}{u:Value}(ry:Ax y u) :
  KV (kvs.map fun kv=>if kv.1=k then(kv.1,y) else kv) (vs.map fun kv=>if kv.1=k then(kv.1,u) else kv):=by
 unfold KV at r ⊢
 induction r with
 |nil=>exact .nil
 |
  @cons p q ps qs h t ih=>
  rw[Bu,Bu]
  refine .cons ?_ ih
  obtain⟨h1,h2⟩:=h
  by_cases e:p.1=k
  .rw[Ah e,Ah (h1.symm.trans e)];exact⟨h1,ry⟩
  .rw[Ae e,Ae (fun z=>e (h1.trans z))];exact⟨h1,h2⟩
theorem KV.put {kvs:List (κ×V)}{vs:List (κ×Value)}(r:KV kvs vs)(k:κ){y:V}{u:Value}(ry:Ax y u):KV (BO kvs k y) (stored vs k u):=by
 unfold BO stored
 rw[r.any k]
 by_cases e:(vs.any fun kv=>decide (kv.1=k))=true
 .rw[Ah e,Ah e];exact r.repl k ry
 .rw[Ae e,Ae e];exact Paired.snoc r ⟨rfl,ry⟩
theorem KV.length {kvs:List (κ×V)}{vs:List (κ×Value)}(r:KV kvs vs):kvs.length=vs.length:=Paired.length r
end
theorem Jk {P:Program}{w:World}{k:Ap}{u:Value}(r:Ax (kV k) u):(C5 P w).is k u=true:=by
 cases k with
 |inl i=>obtain⟨t,e⟩:=(show ∃t,u=Value.int i t from r);subst e;exact Tj P w i t
 |inr x=>obtain⟨t,e⟩:=(show ∃t,u=Value.str x t from r);subst e;exact R4 P w x t
theorem P7 {P:Program}{w:World}:∀{ks:List Ap} {us:List Value},Aw (ks.map kV) us->ItemsAre (C5 P w) ks us
 |[],_,r=>by rw[Kw]at r;cases r;exact .nil
 |
  k::ks,_,r=>by
  rw[Bu]at r
  cases r with
  |cons h t=>exact .cons (Jk h) (P7 t)
abbrev KT (H:Hp):List (List Ap×V)->List (List Ap×Addr×Value)->Prop:=Paired fun p q=>p.1=q.1/\H q.2.1=some (.tup (p.1.map kV))/\Ax p.2 q.2.2
theorem KT.val {H:Hp}{kvs:List (List Ap×V)}{xs:List (List Ap×Addr×Value)}(r:KT H kvs xs)(k:List Ap):DO (Bg kvs k) ((atKey xs k).map (·.2)):=by
 induction r with
 |nil=>exact True.intro
 |
  @cons p q ps qs h t ih=>
  obtain⟨h1,_,h2⟩:=h
  by_cases e:p.1=k
  .have e':q.1=k:=h1.symm.trans e
   have b:atKey (q::qs) k=some q.2:=by simp[atKey,IX,e']
   rw[E9 e,b];exact h2
  .have e':¬q.1=k:=fun z=>e (h1.trans z)
   have b:atKey (q::qs) k=atKey qs k:=by simp[atKey,IX,e']
   rw[El e,b];exact ih
theorem KT.repl {H:Hp}{kvs:List (List Ap×V)}{xs:List (List Ap×Addr×Value)}(r:KT H kvs xs)(k:List Ap){y:V}{u:Value}(ry:Ax y u) :
  KT H (kvs.map fun kv=>if kv.1=k then(kv.1,y) else kv) (xs.map (putAt k u)):=by
 induction r with
 |nil=>exact .nil
 |
  @cons p q ps qs h t ih=>
  rw[Bu,Bu]
  refine .cons ?_ ih
  obtain⟨h1,h2,h3⟩:=h
  unfold putAt
  by_cases e:p.1=k
  .rw[Ah e,Ah (h1.symm.trans e)];exact⟨h1,h2,ry⟩
  .rw[Ae e,Ae (fun z=>e (h1.trans z))];exact⟨h1,h2,h3⟩
theorem KT.put {H:Hp}{kvs:List (List Ap×V)}{xs:List (List Ap×Addr×Value)}(r:KT H kvs xs)(k:List Ap){b:Addr}{y:V}{u:Value}(hb:H b=some (.tup (k.map kV)))(ry:Ax y u) :
  KT H (BO kvs k y) (storedH xs k b u):=by
 have e:(kvs.any fun kv=>decide (kv.1=k))=(atKey xs k).isSome:=by
  rw[FN,(r.val k).isSome_eq,Option.isSome_map]
 unfold BO storedH
 rw[e]
 by_cases q:(atKey xs k).isSome=true
 .rw[Ah q,Ah q];exact r.repl k ry
 .rw[Ae q,Ae q];exact Paired.snoc r ⟨rfl,hb,ry⟩
theorem KT.keeps {H H':Hp}{kvs:List (List Ap×V)}{xs:List (List Ap×Addr×Value)}(r:KT H kvs xs)(ht:∀b ys,H b=some (.tup ys)->H' b=some (.tup ys)):KT H' kvs xs:=
 Paired.mapP r fun _ _ z=>⟨z.1,ht _ _ z.2.1,z.2.2⟩
section
variable {P:Program}{w:World}{H:Hp}{h:Heap}{a:Addr}
theorem N4 {u:HO}(ok:B4 P w H h)(e:Rd H a u):Bw P w H h a u:=e.ok ok
theorem K5 {kvs:List (Ap×V)}(ok:B4 P w H h)(e:Rd H a (.dK kvs)):kvs.length<=sizeLine/\(a==sysModules)=false/\∃vs,KV kvs vs/\h.DictOf (C5 P w) a vs:=
 show Bw P w H h a (.dK kvs) from N4 ok e
theorem Vh {kvs:List (Ap×V)}(ok:B4 P w H h)(e:H a=some (.dK kvs)):kvs.length<=sizeLine/\(a==sysModules)=false/\∃vs,KV kvs vs/\h.DictOf (C5 P w) a vs:=K5 ok (.inl e)
theorem LL {ks:List Ap}(ok:B4 P w H h)(e:H a=some (.tup (ks.map kV))):(tupleKind (C5 P w)).is h ks a:=by
 obtain⟨_,its,r,o,h1,h2,⟨n,h3⟩,_⟩:=(show Bw P w H h a (.tup (ks.map kV)) from ok a _ e)
 exact⟨o,its.toArray,n,h1,h2,h3,by simpa using P7 r⟩
theorem JW {kvs:List (List Ap×V)}(ok:B4 P w H h)(e:Rd H a (.dT kvs)):kvs.length<=sizeLine/\(a==sysModules)=false/\
  ∃xs,KT H kvs xs/\h.DictOfH (tupleKind (C5 P w)) a xs:=by
 obtain⟨z,y,xs,r,o,es,ep,h1,h2,h3,h4,h5⟩:=(show Bw P w H h a (.dT kvs) from N4 ok e)
 refine⟨z,y,xs,r,o,es,ep,h1,h2,h3,h4,fun x hx=>?_,h5⟩
 have all:∀{l:List (List Ap×V)} {m:List (List Ap×Addr×Value)},KT H l m->∀x∈m,(tupleKind (C5 P w)).is h x.1 x.2.1:=by
  intro l m q
  induction q with
  |nil=>intro x hx;exact nomatch hx
  |
   @cons p q ps qs hq t ih=>
   intro x hx
   rcases AE.mp hx with e|hx
   .subst e
    exact LL ok (by rw[←hq.1];exact hq.2.1)
   .exact ih x hx
 exact all r x hx
theorem O5 {kvs:List (List Ap×V)}(ok:B4 P w H h)(e:H a=some (.dT kvs)):kvs.length<=sizeLine/\(a==sysModules)=false/\
 ∃xs,KT H kvs xs/\h.DictOfH (tupleKind (C5 P w)) a xs:=JW ok (.inl e)
end
def FQ (H:Hp)(a:Addr)(y:V)(r:Option V):Prop:=
 (∃kvs k,Rd H a (.dK kvs)/\y=kV k/\r=Bg kvs k)\/∃kvs k b,Rd H a (.dT kvs)/\y = .ref b/\H b=some (.tup (k.map kV))/\r=Bg kvs k
def FA (H:Hp)(a:Addr)(y v:V)(H':Hp):Prop:=
 (∃kvs k,H a=some (.dK kvs)/\y=kV k/\kvs.length<sizeLine/\H'=upd H a (.dK (BO kvs k v)))\/
 ∃kvs k b,H a=some (.dT kvs)/\y = .ref b/\H b=some (.tup (k.map kV))/\kvs.length<sizeLine/\H'=upd H a (.dT (BO kvs k v))
theorem FQ.k {H:Hp}{a:Addr}{kvs:List (Ap×V)}{k:Ap}(e:H a=some (.dK kvs)):FQ H a (kV k) (Bg kvs k):=.inl ⟨kvs,k,.inl e,rfl,rfl⟩
theorem FA.k {H:Hp}{a:Addr}{kvs:List (Ap×V)}{k:Ap}{v:V}(e:H a=some (.dK kvs))(hl:kvs.length<sizeLine):FA H a (kV k) v (upd H a (.dK (BO kvs k v))):=.inl ⟨kvs,k,e,rfl,hl,rfl⟩
theorem FA.t {H:Hp}{a b:Addr}{kvs:List (List Ap×V)}{k:List Ap}{v:V}(e:H a=some (.dT kvs))(eb:H b=some (.tup (k.map kV)))(hl:kvs.length<sizeLine) :
 FA H a (.ref b) v (upd H a (.dT (BO kvs k v))):=.inr ⟨kvs,k,b,e,rfl,eb,hl,rfl⟩
section
variable {X:Cx}{pins:List (Addr×Obj)}{σ:St}{H:Hp}{s:Shared}{a:Addr}{y v:V}{u r:Value}{o:Option V}{A:Around}{E:Value->Shared->Prop}
theorem A2.big (I:A2 X pins σ H s):sysModules<s.heap.objs.size:=by
 have h:mainGlobals<s.heap.objs.size:=(I.mod.glob.keeps I.bk).lt
 exact Nat.lt_trans (by decide) h
theorem Qa {Q:Value->Shared->Prop}(hu:A.units+1<cLine)(I:A2 X pins σ H s)(g:FQ H a y (some v))(ry:Ax y u)(h:∀w' s',A2 X pins σ H s'->Ax v w'->Q w' s') :
  wpAny (model X.prog X.w) A (getItem (.ref a) u) Q E s:=by
 rcases g with⟨kvs,k,e,ey,l⟩|⟨kvs,k,b,e,ey,eb,l⟩
 .subst ey
  obtain⟨z,hd,vs,rel,dd⟩:=K5 I.hok e
  obtain⟨w',hw,rw'⟩:=DO.some_of (v:=v) (o:=valueAt vs k) (by rw[l];exact rel.val k)
  exact wpAny_getItem_of (Jk ry) dd.mapOf hw (h w' _ (I.tok _) rw')
 .subst ey
  cases (show u=Value.ref b from ry)
  obtain⟨z,hd,xs,rel,dd⟩:=JW I.hok e
  obtain⟨w',hw,rw'⟩:=DO.some_of (v:=v) (o:=(atKey xs k).map (·.2)) (by rw[l];exact rel.val k)
  obtain⟨p,hp,hp2⟩:=Mc.mp hw
  refine wpAny_getItem_heap (tupleKind_room_in1 hu) (LL I.hok eb) dd hp ?_
  rw[hp2]
  exact h w' _ (I.tok _) rw'
theorem LW {h':Heap}{t':Nat}{ob:HO}(I:A2 X pins σ H s)(mu:IQ (H a))(hs:Heap.SameBut a s.heap h')(he:∃q,h'.get? a=some q)(new:Bw X.prog X.w (upd H a ob) h' a ob) :
  A2 X pins σ (upd H a ob) {s with heap:=h',toks:=t'}:=
 I.write (x:=a) (e:=a) mu (.inl rfl) (fun b q hb z=>(hs.2 b hb).trans z) he new
theorem LQ {P:Program}{w:World}{H':Hp}{h':Heap}{kvs:List (Ap×V)}{vs:List (Ap×Value)}(z:kvs.length<=sizeLine)(hd:(a==sysModules)=false)(rel:KV kvs vs)(dd:h'.DictOf (C5 P w) a vs) :
 Bw P w H' h' a (.dK kvs):=⟨z,hd,vs,rel,dd⟩
theorem RQ {H':Hp}{Q:Unit->Shared->Prop}(hu:A.units+1<cLine)(I:A2 X pins σ H s)(g:FA H a y v H')(ry:Ax y u)(rv:Ax v r)(h:∀s',A2 X pins σ H' s'->Q () s') :
  wpAny (model X.prog X.w) A (setItem (.ref a) u r) Q E s:=by
 rcases g with⟨kvs,k,e,ey,l,eH⟩|⟨kvs,k,b,e,ey,eb,l,eH⟩
 .subst ey eH
  obtain⟨z,hd,vs,rel,dd⟩:=Vh I.hok e
  have hz:vs.length<=sizeLine:=by rw[←rel.length];exact z
  have hl:(BO kvs k v).length<=sizeLine:=by have:=LU kvs k v;omega
  refine wpAny_setItem_pairs (hsz:=hz) (Jk ry) dd fun h' dd' hs=>h _ ?_
  have he:∃q,h'.get? a=some q:=let ⟨q,_,_,hq,_⟩:=dd';⟨q,hq⟩
  exact LW I (by rw[e];exact True.intro) hs he (LQ hl hd (rel.put k rv) dd')
 .subst ey eH
  cases (show u=Value.ref b from ry)
  obtain⟨z,hd,xs,rel,dd⟩:=O5 I.hok e
  have hz:xs.length<=sizeLine:=by rw[←Paired.length rel];exact z
  have hl:(BO kvs k v).length<=sizeLine:=by have:=LU kvs k v;omega
  refine wpAny_setItem_heap (hsz:=hz) (tupleKind_room_in1 hu) (LL I.hok eb) dd fun h' dd' hs=>h _ ?_
  obtain⟨q,es,ep,hq,h2,h3,h4,_,h5⟩:=dd'
  refine LW I (by rw[e];exact True.intro) hs ⟨q,hq⟩ ⟨hl,hd,_,(rel.put k eb rv).keeps fun c ys ec=>?_,q,es,ep,hq,h2,h3,h4,h5⟩
  rw[Ag (Jl ec e (fun z=>nomatch z))]
  exact ec
end
section
variable {X:Cx}{pins:List (Addr×Obj)}{σ:St}{H:Hp}{s:Shared}{a:Addr}{kvs:List (Ap×V)}{k:Ap}{u:Value}{A:Around}{E:Value->Shared->Prop}
end
def Ng (i:Expr):Prop := ∀ov iv,subscripted i false ov iv=operate [ov,iv] (getItem ov iv)
theorem Vs {prog:Program}{w:World}{A:Around}{E:Value->Shared->Prop}{s:Shared}{env:Env}{value slice:Expr}{pos:Pos}{T id:String}{Q:Value->Shared->Prop}
  (hl:typeLookup (.type T) "__getitem__"=pure (some (.builtin id))) (hs:Ng slice)
  (h:wpAny (model prog w) A (eval value env) (fun o s₁=>wpAny (model prog w) A (eval slice env) (fun i s₂=>s₂.TypeIs o T/\wpAny (model prog w) A (getItem o i) Q E s₂) E s₁) E s) :
  wpAny (model prog w) A (eval (.Subscript value slice pos) env) Q E s:=by
 refine Subscript_ (CM h (fun o s₁ h₁=>CM h₁ (fun i s₂ h₂=>?_) fun _ _ x=>x) fun _ _ x=>x)
 obtain⟨hT,h₂⟩:=h₂
 unfold subscriptTail
 refine A5 ?_
 rw[getitemInPython_of_ne hT.not_modules]
 refine A5 (wpAny_specialOf hT hl ?_)
 have fin:wpAny (model prog w) A (subscripted slice false o i) (fun r s₃=>wpAny (model prog w) A (letTemporaryGo value o r>>=fun _=>pure r) Q E s₃) E s₂:=by
  rw[hs o i]
  exact wpAny_operating (CM h₂ (fun r s₃ h₃=>A5 (wpAny_letTemporaryGo (Al h₃))) fun _ _ x=>x)
 first
  |exact Al (A5 fin)
  |exact A5 (Al (A5 fin))
  |exact A5 fin
theorem Rb {X:Cx}{pins:List (Addr×Obj)}{σ:St}{H:Hp}{s:Shared}{a:Addr}{y:V}{o:Option V}(I:A2 X pins σ H s)(g:FQ H a y o):s.TypeIs (.ref a) "dict":=by
 rcases g with⟨kvs,k,e,_,_⟩|⟨kvs,k,b,e,_,_,_⟩
 .obtain⟨_,_,vs,_,dd⟩:=K5 I.hok e
  exact dd.typeIs
 .obtain⟨_,_,xs,_,dd⟩:=JW I.hok e
  exact dd.typeIs
def TU (td ty:TE):TE:=fun σ H Q=>td σ H fun x H1=>ty σ H1 fun y H2=>∃a v,x = .ref a/\FQ H2 a y (some v)/\Q v H2
def R5 (td ty tv:TE):TS:=fun D σ H=>tv σ H fun v H1=>td σ H1 fun x H2=>ty σ H2 fun y H3=>∃a H4,x = .ref a/\FA H3 a y v H4/\D.nx σ H4
section
variable {X:Cx}{o i e value:Expr}{pos pos' tpos:Pos}{td ty tv:TE}
theorem OQ (hu:X.A.units+1<cLine)(ho:PE X o td)(hi:PE X i ty)(hs:Ng i):PE X (.Subscript o i pos) (TU td ty):=by
 intro pins s σ H Q I h
 refine Vs PySem.F.slot_dict_getitem.lookup hs (As (ho pins s σ H _ I h) fun u s1 ⟨x,H1,I1,rx,q1⟩=>As (hi pins s1 σ H1 _ I1 q1) fun iv s2 ⟨y,H2,I2,ry,a,v,ex,g,q2⟩=>?_)
 subst ex
 obtain rfl:u=Value.ref a:=rx
 exact⟨Rb I2 g,Qa hu I2 g ry fun w' s3 I3 rw'=>⟨v,H2,I3,rw',q2⟩⟩
theorem OC (hu:X.A.units+1<cLine)(ho:PE X o td)(hi:PE X i ty)(hv:PE X value tv)(hs:swapsWith value (some (.Subscript o i pos')) pos.line X.env=pure false) :
  PS X (.Assign [.Subscript o i pos'] value pos) (R5 td ty tv):=by
 intro pins s σ H D I h
 refine wpAny_Assign_Subscript (As (hv pins s σ H _ I h) fun r s1 ⟨v,H1,I1,rv,q1⟩=>As (ho pins s1 σ H1 _ I1 q1) fun u s2 ⟨x,H2,I2,rx,q2⟩=>As (hi pins s2 σ H2 _ I2 q2) fun iv s3 ⟨y,H3,I3,ry,a,H4,ex,g,q3⟩=>?_) hs
 subst ex
 obtain rfl:u=Value.ref a:=rx
 exact RQ hu I3 g ry rv fun s4 I4=>⟨σ,H4,I4,q3⟩
end
theorem Wa {P:Program}{w:World}{H:Hp}(h:Heap)(hb:sysModules<h.objs.size):Bw P w H (h.push {cls:=.type "dict",data:=.dict #[]}) h.objs.size (.dK []):=
 ⟨BF _,Ht.mpr (Ne.symm (Br hb)),[],.nil,Pt h⟩
theorem Wu {P:Program}{w:World}{H:Hp}(h:Heap)(hb:sysModules<h.objs.size):Bw P w H (h.push {cls:=.type "dict",data:=.dict #[]}) h.objs.size (.dT []):=
 ⟨BF _,Ht.mpr (Ne.symm (Br hb)),[],.nil,_,#[],0,BV _ rfl,⟨rfl,rfl,rfl⟩,rfl,rfl,Kx⟩
def QM:TE:=fun _ H Q=>∀p,H p=none->Q (.ref p) (upd H p (.dK []))
def Wl:TE:=fun _ H Q=>∀p,H p=none->Q (.ref p) (upd H p (.dT []))
section
variable {X:Cx}{pos:Pos}
theorem UC:PE X (.Dict [] [] pos) QM:=fun pins s σ H Q I h=>
 wpAny_Dict_empty ⟨.ref s.heap.objs.size,_,I.laid (a:=s.heap.objs.size) (o:=.dK []) (t':=s.toks) (fun _ _ q=>AI _ q) (An _) (Wa s.heap I.big),rfl,h _ (I.hok.fresh (An _))⟩
theorem WA:PE X (.Dict [] [] pos) Wl:=fun pins s σ H Q I h=>
 wpAny_Dict_empty ⟨.ref s.heap.objs.size,_,I.laid (a:=s.heap.objs.size) (o:=.dT []) (t':=s.toks) (fun _ _ q=>AI _ q) (An _) (Wu s.heap I.big),rfl,h _ (I.hok.fresh (An _))⟩
end
def VJ (H:Hp)(a:Addr):Prop:=(∃kvs,Rd H a (.dK kvs))\/∃kvs,Rd H a (.dT kvs)
theorem X5 {X:Cx}{pins:List (Addr×Obj)}{σ:St}{H:Hp}{s:Shared}{a:Addr}(I:A2 X pins σ H s)(d:VJ H a) :
  s.TypeIs (.ref a) "dict"/\(∀b,Value.ref a = .ref b->∃ob,s.heap.get? b=some ob/\ob.dict=none)/\(a==sysModules)=false:=by
 rcases d with⟨kvs,e⟩|⟨kvs,e⟩
 .obtain⟨_,hd,vs,_,dd⟩:=K5 I.hok e
  refine⟨dd.typeIs,fun b q=>?_,hd⟩
  cases q
  obtain⟨ob,_,_,h1,h2,_⟩:=dd
  exact⟨ob,h1,h2.2.1⟩
 .obtain⟨_,hd,xs,_,dd⟩:=JW I.hok e
  refine⟨dd.typeIs,fun b q=>?_,hd⟩
  cases q
  obtain⟨ob,_,_,h1,h2,_⟩:=dd
  exact⟨ob,h1,h2.2.1⟩
section
variable {X:Cx}{pins:List (Addr×Obj)}{σ:St}{H:Hp}{s:Shared}{a:Addr}{y d:V}{u r:Value}{o:Option V}{A:Around}{E:Value->Shared->Prop}
end
section
variable {X:Cx}{o e f:Expr}{apos cpos:Pos}{td ty tx:TE}
end
section
variable {X:Cx}{pins:List (Addr×Obj)}{σ:St}{H:Hp}{s:Shared}{a:Addr}{kvs:List (Ap×V)}{A:Around}{E:Value->Shared->Prop}
end
section
variable {X:Cx}{pins:List (Addr×Obj)}{σ:St}{H:Hp}{s:Shared}{a:Addr}{y:V}{u:Value}{A:Around}{E:Value->Shared->Prop}
end
end L2
namespace Att
open PySem PySem.W PySem.Calls PyProof.Rows
theorem Sb {P:Params}{h:Heap}:∀(ns:List Int) (vs:List Value),WellAll P h vs (ns.map WData.int)->IntsAre vs ns:=by
 intro ns
 induction ns with
 |
  nil=>
  intro vs w
  rw[Kw]at w
  cases w
  exact .nil
 |
  cons n ns ih=>
  intro vs w
  rw[Bu]at w
  cases w with
  |
   cons a b=>
   cases a
   exact .cons _ _ (ih _ b)
theorem RJ {l:OpenLaw}{n:Nat}(hn:l.most=some n){P:Params}{h:Heap}{args:List WData}{vals:List Value}
  (hpre:l.row.toRowW.claim.pre args=true) (hwl:WellAll P h vals args) :
  ∃a vs ns,vals=[Value.ref a]/\args=[WData.list (ns.map WData.int)]/\h.get? a=some {cls:=.type "list",data:=.seq vs.toArray}/\IntsAre vs ns/\ns.length<=n:=by
 have hsh:WShape.hasAll [] args [.list .int]=true:=(pre_splitW hpre).1
 have hc:l.pre.holds [] {args:=args}=true:=(pre_splitW hpre).2
 obtain⟨d,r,rfl,h1,h2⟩:=hasAllW_cons hsh
 obtain rfl:=hasAllW_nil h2
 obtain⟨xs,rfl,h3⟩:=hasW_list h1
 obtain⟨ns,rfl⟩:=items_int h3
 have hlen:ns.length<=n:=by
  unfold OpenLaw.pre at hc
  have h4:(WTm.not (.lt (.lit (.int (n:Int))) (.len (.arg 0)))).holds [] {args:=[.list (ns.map .int)]}=true:=by
   have h4:=(holds_andW hc).1
   rw[hn]at h4
   exact h4
  have h5:=condW_of h4 (w_not (w_lt w_lit (w_len_list (w_arg rfl))))
  rw[Ao]at h5
  refine Nat.le_of_not_lt fun q=>?_
  have q':(n:Int)<((ns.length:Nat):Int):=by omega
  first
   |(rw[Cc q']at h5;exact absurd h5 (by decide))
   |(simp at h5;omega)
 cases hwl with
 |
  cons w1 w2=>
  cases w2
  cases w1 with
  |list ho hall=>exact⟨_,_,ns,rfl,rfl,ho,Sb ns _ hall,hlen⟩
theorem Ur (l:OpenLaw)(args:List WData):l.row.toRowW.claim.post args (.bool true) args=true:=
 postW_of (r:=l.row.toRowW) (X:=(true==true))
  (show WShape.has [] (.bool true) .bool=true by first|rfl|decide|simp[WShape.has,WShape.arms,WShape.armsAll])
  (show(WTm.eq .res (.lit (.bool true))).value [] {args:=args,res:=some (.bool true),after:=args}=some (.bool (true==true)) from w_eq_bool (w_res rfl) w_lit) rfl
theorem attach_call {l:OpenLaw}{n:Nat}{q:Program}{loose:List Str}{XP:(Str->Option Value)->Heap->Prop}{YP:World->Heap->Prop}{d:DefRec}
  (hn:l.most=some n) (hdf:d.params.defaults=[])
  (call:∀(w:World) (s₀ s₁:Shared) (mg mb:Str->Option Value) (fa:Addr) (o:Obj) (pm cd doc:Value) (a:Addr) (vs:List Value) (ns:List Int),
   Ground q loose [] XP w s₀ mg mb s₁.heap->YP w s₁.heap->
   s₁.heap.get? fa=some o->o.data = .func (docDef d.name d.params d.body d.scope pm cd doc)->s₁.heap.CodeRec cd d.name->mg d.name=some (.ref fa)->
   s₁.heap.get? a=some {cls:=.type "list",data:=.seq vs.toArray}->IntsAre vs ns->ns.length<=n->s₁.gens = #[]->
   codeAny (model l.prog w) callerA (.call (.ref fa) ⟨[.ref a],[]⟩) (fun r s'=>r = .ok (.ret (.bool true))/\OldK s₁.heap s'.heap/\s'.os=s₁.os/\AllBare s'.gens) s₁) :
  WalkO q loose XP YP l.row.toRowW d [] (fun f vs=>PySem.call f vs):=by
 intro w s₀ s₁ mg mb G Y fa o pm cd doc dV kV ho hd hcd hD hmg hg args vals as hpre hlay hrd hwl hlo
 obtain rfl:dV = .none:=Dflts.none hD hdf
 obtain rfl:kV = .none:=Dflts.noKw hD
 obtain⟨a,vs,ns,rfl,rfl,hobj,hints,hlen⟩:=RJ hn hpre hwl
 refine enter_call (J7 (call w s₀ s₁ mg mb fa o pm cd doc a vs ns G Y ho (fd_plain hd) hcd hmg hobj hints hlen hg) fun r s' hq=>?_)
 obtain⟨rfl,h2,h3,h4⟩:=hq
 exact⟨.inl ⟨.bool true,.bool true,[],rfl,fun _=>rfl,.bool true,Ur l _,fun _=>⟨List.Pairwise.nil,fun _ hm=>(nomatch hm)⟩⟩,h2,h3,h4⟩
section
variable {prog:Program}{w:World}{A:Around}{E:Value->Shared->Prop}{s:Shared}{K:Frag}
end
end Att
namespace L2
open PySem PySem.Spec PyProof.Rows
theorem Oy:∀{vs:List Value} {ns:List Int},IntsAre vs ns->Aw (ns.map V.int) vs
 |_,_,.nil=>.nil
 |_,_,.cons n t h=>.cons ⟨t,rfl⟩ (Oy h)
def Km (H:Hp):Prop := ∀b,H b=none\/∃o xs,H b=some (.frz o (.lst xs))
theorem Q4 {P:Program}{w:World}{K:XJ}{mg mb:Str->Option Value}{CX:DP}{k:Nat}{fa a:Addr}{fd:FuncData}{x:Str}{sp:Sp}{s₁:Shared}{vs:List Value}{ns:List Int}
  (KX:K.In s₁.heap) (hns:s₁.heap.Ns mainGlobals mg) (hb:s₁.heap.Ns builtinsNs mb) (hbb:∀x:Str,x≠"__name__"->mb x=bootBuiltins x) (hlim:s₁.heap.NoLimit) (hg:s₁.gens = #[])
  (ha:s₁.heap.get? a=some {cls:=.type "list",data:=.seq vs.toArray}) (hi:IntsAre vs ns) (hl:ns.length<=sizeLine) (hr:Bj k callerA)
  (F:∀base:Heap,K.In base->base.Ns mainGlobals mg->AA P w K mg base CX k fa fd [x] sp) (hbind:∀(s:Shared) (u:Value),BindsTo s fd ⟨[u],[]⟩ [(x,u)])
  (hsp:∀H:Hp,Km H->A7 K H a (ns.map V.int)->sp [.ref a] H (fun v _=>v = .bl true) fun _ _ _=>False)
  (hCX:∀H e s',CX [] H s₁ (fun _ _ _=>False) e s'->False) :
  codeAny (model P w) callerA (.call (.ref fa) ⟨[.ref a],[]⟩) (fun r s'=>r = .ok (.ret (.bool true))/\OldK s₁.heap s'.heap/\s'.os=s₁.os/\AllBare s'.gens) s₁:=by
 have rv:=Oy hi
 have lenV:=hi.length
 have core:∀H:Hp,Km H->A7 K H a (ns.map V.int)->B4 P w H s₁.heap->(∀b,H b≠none->b=a)->(H a≠none->K.lookup a=none)->
   codeAny (model P w) callerA (.call (.ref fa) ⟨[.ref a],[]⟩) (fun r s'=>r = .ok (.ret (.bool true))/\OldK s₁.heap s'.heap/\s'.os=s₁.os/\AllBare s'.gens) s₁:=by
  intro H hO hS hok hA hK
  have base_of:∀{b:Addr} {o:Obj},s₁.heap.get? b=some o->H b=none->(Fc s₁.heap H).get? b=some o:=fun e n=>Qn e n
  have noA:∀{b:Addr} {o:Obj} {es:Array DictEntry} {ep:Nat},s₁.heap.get? b=some o->o.data = .dict es ep->H b=none:=fun{b o es ep} e d=>by
   cases q:H b with
   |none=>rfl
   |
    some u=>
    have e':b=a:=hA b (by rw[q];simp)
    subst e'
    rw[ha]at e;cases e
    have d':Data.seq vs.toArray _=Data.dict es ep:=d
    cases d'
  have nsK:∀{b:Addr} {m:Str->Option Value},s₁.heap.Ns b m->(Fc s₁.heap H).Ns b m:=fun{b m} ⟨o,es,ep,e,d,r⟩=>⟨o,es,ep,base_of e (noA e d),d,r⟩
  have hKb:K.In (Fc s₁.heap H):=fun b o e=>base_of (KX b o e) (by
   cases q:H b with
   |none=>rfl
   |
    some u=>
    have e':b=a:=hA b (by rw[q];simp)
    subst e'
    rw[hK (by rw[q];simp)]at e;cases e)
  have hM:Mod K mg (Fc s₁.heap H):=⟨hKb,nsK hns,⟨mb,nsK hb,hbb⟩,let ⟨mc,h1,h2⟩:=hlim;⟨mc,nsK h1,h2⟩⟩
  have e0:Fb P w K mg (Fc s₁.heap H) callerA [] s₁ H:=⟨rfl,hM,fun b o e=>Sw e,Nat.le_of_eq (To _ _),trivial,fun b hb=>absurd (show b∈([]:List Addr) from hb) (by simp),hok,.of_eq hg⟩
  refine J7 ((F _ hKb (nsK hns)).run callerA [] s₁ H ⟨[.ref a],[]⟩ [.ref a] [.ref a] _ _ hr e0 (hbind s₁ (.ref a)) (.cons rfl .nil) (hsp H hO hS)) fun r s' h=>?_
  cases r with
  |error e=>exact(hCX H e s' h).elim
  |
   ok fl=>
   cases fl with
   |next=>exact False.elim h
   |brk=>exact False.elim h
   |cont=>exact False.elim h
   |
    ret u=>
    obtain⟨v,H',os,bare,un,hok',r',q⟩:=h
    have q':v = .bl true:=q
    subst q'
    obtain rfl:u=Value.bool true:=r'
    refine⟨rfl,OldK.of_keep fun b o e=>?_,os,bare⟩
    cases q:H b with
    |none=>exact un.keep b o e q (by intro z;exact absurd (show b∈([]:List Addr) from z) (by simp)) (by simp)
    |
     some u=>
     rcases hO b with z|⟨ob,xs,z⟩
     .rw[q]at z;cases z
     .have z2:=un.frzs b ob _ z
      obtain⟨e1,_⟩:=hok b _ z
      obtain⟨e2,_⟩:=hok' b _ z2
      rw[e]at e1;cases e1
      exact e2
 cases hk:K.lookup a with
 |
  some o=>
  have e:=KX a o hk
  rw[ha]at e
  cases e
  refine core (fun _=>none) (fun _=>.inl rfl) (.inr ⟨_,vs.toArray,_,hk,rfl,rfl,rfl,by rw[B5,lenV];exact hl,by simpa using rv⟩) (fun b u z=>by have z':(none:Option HO)=some u:=z;cases z') (fun b z=>absurd rfl z) fun z=>absurd rfl z
 |
  none=>
  refine core (fun b=>if b=a then some (.frz {cls:=.type "list",data:=.seq vs.toArray} (.lst (ns.map V.int))) else none) (fun b=>?_) (.inl (.inr ⟨{cls:=.type "list",data:=.seq vs.toArray},Ah rfl⟩)) (fun b u z=>?_) (fun b z=>?_) fun _=>hk
  .by_cases hb:b=a
   .exact .inr ⟨_,_,Ah hb⟩
   .exact .inl (Ae hb)
  .by_cases hb:b=a
   .have z':=(Ah hb).symm.trans z
    cases z'
    subst hb
    exact⟨ha,by rw[Ao];exact hl,vs,_,rv,ha⟩
   .have z':=(Ae hb).symm.trans z
    cases z'
  .by_cases hb:b=a
   .exact hb
   .exact absurd (Ae hb) z
theorem walk_of {l:PySem.W.OpenLaw}{n k:Nat}{q:Program}{loose:List Str}{XP:(Str->Option Value)->Heap->Prop}{YP:World->Heap->Prop}{d:DefRec}{K:Params->XJ}{CX:World->DP}{sp:World->Sp}{x:Str}
  (hn:l.most=some n) (hn2:n<=sizeLine) (hdf:d.params.defaults=[]) (hr:Bj k callerA)
  (hY:∀(w:World) (h:Heap),YP w h->(K w.params).In h)
  (F:∀(w:World) (mg:Str->Option Value) (fa:Addr) (h:Heap),(K w.params).In h->h.Ns mainGlobals mg->mg d.name=some (.ref fa)->
   ∃fd:FuncData,(∀(s:Shared) (u:Value),BindsTo s fd ⟨[u],[]⟩ [(x,u)])/\
    ∀base:Heap,(K w.params).In base->base.Ns mainGlobals mg->AA l.prog w (K w.params) mg base (CX w) k fa fd [x] (sp w))
  (hsp:∀(w:World) (H:Hp) (a:Addr) (ns:List Int),ns.length<=n->Km H->A7 (K w.params) H a (ns.map V.int)->sp w [.ref a] H (fun v _=>v = .bl true) fun _ _ _=>False)
  (hCX:∀(w:World) (H:Hp) (s:Shared) (e:Value) (s':Shared),CX w [] H s (fun _ _ _=>False) e s'->False) :
  PySem.W.WalkO q loose XP YP l.row.toRowW d [] (fun f vs=>PySem.call f vs):=by
 refine Att.attach_call hn hdf fun w s₀ s₁ mg mb fa o pm cd doc a vs ns G Y ho hd hcd hmg hobj hints hlen hg=>?_
 have KX:=hY w _ Y
 obtain⟨fd,hb,hF⟩:=F w mg fa _ KX G.T.g hmg
 exact Q4 KX G.T.g G.T.b G.T.builtins G.T.nolimit hg hobj hints (Bl hlen hn2) hr hF hb (fun H hO hS=>hsp w H a ns hlen hO hS) fun H e s'=>hCX w H s₁ e s'
def Fe (s:Stmt)(j:Nat):Stmt:=match s with
 |.ClassDef _ _ _ body _ _ _ _ _ _ _=>body.getD j (.Pass ⟨0,0,0,0⟩)
 |_=>.Pass ⟨0,0,0,0⟩
def IT (s:Stmt):Arguments:=match s with
 |.FunctionDef _ a _ _ _ _ _ _ _ _=>a
 |_=>{posonlyargs:=[],args:=[],vararg:=none,kwonlyargs:=[],kw_defaults:=[],kwarg:=none,defaults:=[]}
def Fq (s:Stmt):List Stmt:=match s with
 |.FunctionDef _ _ b _ _ _ _ _ _ _=>b
 |_=>[]
def Au (s:Stmt):Scope:=match s with
 |.FunctionDef _ _ _ _ _ _ sc _ _ _=>sc
 |_=>{kind:=.function,names:=[],isGenerator:=false,isCoroutine:=false}
abbrev AJ:DP:=fun _ _ _ _ _ _=>False
abbrev E0:XK:=fun _ _ _=>False
theorem Aq {X:Cx}:Iv AJ X E0:=fun _ _ _ _ _ _ _ h=>h.elim
structure AB (K:XJ)(x qual:Str)(st:Stmt)(f:Addr)(fd:FuncData):Prop where
 ex:∃(oc:Value) (od:Option Addr) (kV doc pm:Value) (an:Option Addr) (cdv ct:Value) (osl:Array (Option Value)),
  fd=PySem.W.fnOf x qual (IT st) (Fq st) (Au st) .none kV doc pm an cdv ct/\K.lookup f=some ⟨oc,od,.func fd,osl⟩/\PySem.W.codeIn K cdv qual=true
 kp:PySem.W.keepIn K (.ref f)=true
section
variable {P:Program}{w:World}{K:XJ}{mg:Str->Option Value}{base:Heap}
theorem AB.ok {x qual:Str}{st:Stmt}{f:Addr}{fd:FuncData}{N ps:List Str}{k:Nat}{sp:Sp}(F:AB K x qual st f fd)(S:AK N ps (Au st))(len:∀vs H Q E,sp vs H Q E->vs.length=ps.length)
  (hbody:∀(cdv:Value) (A:Around) (outer:List Env) (s:Shared) (H:Hp) (vs:List V) (Q:VK) (E:XK),Bj k (A.deeper (envOfC qual (Au st) s.heap.objs.size f cdv))->sp vs H Q E->
   ∃t,CN (DL AJ P w K mg base N qual (Au st) f cdv A outer s H E).nox (Fq st) t/\t {nx:=fun _ H'=>Q .non H',rt:=Q} (DM N vs) H):AA P w K mg base AJ (k+1) f fd ps sp:=by
 obtain⟨oc,od,kV,doc,pm,an,cdv,ct,osl,rfl,lk,hcd⟩:=F.ex
 refine MS lk hcd S len fun A outer s H vs Q E hr hsp=>?_
 obtain⟨t,h,q⟩:=hbody cdv A outer s H vs Q E hr hsp
 exact⟨t,h.nox,q⟩
theorem AB.binds {x qual:Str}{st:Stmt}{f:Addr}{fd:FuncData}{ps:List Str}(F:AB K x qual st f fd)
  (h:∀(kV doc pm:Value) (an:Option Addr) (cdv ct:Value) (us:List Value),us.length=ps.length->bindArgs (PySem.W.fnOf x qual (IT st) (Fq st) (Au st) .none kV doc pm an cdv ct) ⟨us,[]⟩=pure (ps.zip us)):AG K fd ps []:=by
 obtain⟨oc,od,kV,doc,pm,an,cdv,ct,osl,rfl,lk,hcd⟩:=F.ex
 exact .all (h kV doc pm an cdv ct)
theorem fun_mk {x qual:Str}{st:Stmt}{f:Addr}{oc:Value}{od an:Option Addr}{osl:Array (Option Value)}{kV doc pm cdv ct:Value}(l:K.lookup f=some ⟨oc,od,.func (PySem.W.fnOf x qual (IT st) (Fq st) (Au st) .none kV doc pm an cdv ct),osl⟩)
 (c:PySem.W.codeIn K cdv qual=true) (k:PySem.W.keepIn K (.ref f)=true):AB K x qual st f (PySem.W.fnOf x qual (IT st) (Fq st) (Au st) .none kV doc pm an cdv ct):=⟨⟨oc,od,kV,doc,pm,an,cdv,ct,osl,rfl,l,c⟩,k⟩
end
theorem JI {A:Around}{k:Nat}(hr:Bj k A):A.units+1<cLine:=Md (Nat.add_le_add_left (by decide:1<=64) _) hr.units
section
variable {X:Cx}
theorem pv (i:Nat){x:Str}{pos:Pos}(hN:X.N[i]?=some x:=by rfl)(hv:Kc X.env.scope x:=by first|exact Or.inl rfl|exact Or.inr (.inl rfl)|exact Or.inr (.inr rfl))(hd:(x==("__debug__":Str))=false:=by decide)
 (hcd:(x==("__classdict__":Str))=false:=by decide):PE X (.Name x pos) (L7 i):=VE hN hv hd hcd
end
theorem Bm {A B:Prop}(h:B):if false=true then A else B:=by
 rw[Ae DG]
 exact h
theorem Ca {A B:Prop}(h:A):if true=true then A else B:=by
 rw[Ah rfl]
 exact h
theorem Dp {c A B:Prop}[Decidable c](h1:c->A)(h2:¬c->B):if c then A else B:=by
 by_cases h:c
 .rw[Ah h]
  exact h1 h
 .rw[Ae h]
  exact h2 h
def Aa (H H':Hp):Prop := ∀b o,H b=some o->H' b=some o
theorem Aa.refl (H:Hp):Aa H H:=fun _ _ h=>h
theorem Aa.trans {H H1 H2:Hp}(a:Aa H H1)(b:Aa H1 H2):Aa H H2:=fun c o h=>b c o (a c o h)
theorem Aa.free {H H':Hp}(e:Aa H H'){l:Addr}(h:H' l=Option.none):H l=Option.none:=by
 cases q:H l with
 |none=>rfl
 |
  some o=>
  rw[e l o q]at h
  cases h
theorem Aa.seq {K:XJ}{H H':Hp}{a:Addr}{xs:List V}(e:Aa H H')(h:A7 K H a xs):A7 K H' a xs:=by
 rcases h with(h|⟨o,h⟩)|h
 .exact .inl (.inl (e _ _ h))
 .exact .inl (.inr ⟨o,e _ _ h⟩)
 .exact .inr h
section
variable {κ:Type}[DecidableEq κ]
theorem SA {kvs:List (κ×V)}{k:κ}(h:Bg kvs k=none):¬k∈kvs.map (·.1):=by
 intro m
 obtain⟨p,hp,e⟩:=AW.mp m
 have q:(kvs.any fun kv=>decide (kv.1=k))=true:=Pu.mpr ⟨p,hp,Cc e⟩
 rw[FN,h]at q
 exact absurd q (by simp)
theorem QO {kvs:List (κ×V)}{k:κ}{v:V}(h:Bg kvs k=some v):k∈kvs.map (·.1):=by
 have q:(kvs.any fun kv=>decide (kv.1=k))=true:=by
  rw[FN,h]
  all_goals rfl
 obtain⟨p,hp,e⟩:=Pu.mp q
 exact AW.mpr ⟨p,hp,J8 e⟩
end
theorem LA (env:Env):∀(l:List (Str×NameKind)) (cs:List (Str×Addr)),(∀n,(n,NameKind.free)∈l->∃c,env.cells.lookup n=some c)->(∀x c,cs.lookup x=some c->env.cells.lookup x=some c)->
  ∃cl,(forIn l cs fun x s=>if(x.snd==NameKind.free)=true then do let c ←cellOf env x.fst;pure (ForInStep.yield ((x.fst,c)::s)) else pure (ForInStep.yield s))=(pure cl:Sem (List (Str×Addr)))/\
   (∀x c,cl.lookup x=some c->env.cells.lookup x=some c)/\(∀n,(n,NameKind.free)∈l->∃c,cl.lookup n=some c)/\∀n c,cs.lookup n=some c->∃c',cl.lookup n=some c'
 |[],cs,_,h=>⟨cs,rfl,h,(fun _ z=>nomatch z),(fun n c e=>⟨c,e⟩)⟩
 |
  (n,k)::r,cs,hf,h=>by
  by_cases hk:k = .free
  .subst hk
   obtain⟨c,hc⟩:=hf n AX
   have e:cellOf env n=pure c:=by unfold cellOf;rw[hc]
   obtain⟨cl,e1,h1,h2,h3⟩:=LA env r ((n,c)::cs) (fun m hm=>hf m (B1 _ hm)) (fun x c' q=>by
    rw[FV]at q
    by_cases hx:x=n
    .subst hx;simp at q;subst q;exact hc
    .have:(x==n)=false:=by simpa using hx
     rw[this]at q;exact h x c' q)
   refine⟨cl,?_,h1,fun m hm=>?_,fun m c' q=>?_⟩
   .rw[Me]
    show((do let c ←cellOf env n;pure (ForInStep.yield ((n,c)::cs)))>>=_)=_
    rw[e]
    exact e1
   .rcases AE.mp hm with z|z
    .cases z;exact h3 n c (by simp)
    .exact h2 m z
   .by_cases hx:m=n
    .subst hx;exact h3 m c (by simp)
    .have:(m==n)=false:=by simpa using hx
     exact h3 m c' (by rw[FV,this];exact q)
  .have hb:(k==NameKind.free)=false:=by simpa using hk
   obtain⟨cl,e1,h1,h2,h3⟩:=LA env r cs (fun m hm=>hf m (B1 _ hm)) h
   refine⟨cl,?_,h1,fun m hm=>?_,h3⟩
   .rw[Me]
    dsimp only
    rw[hb]
    exact e1
   .rcases AE.mp hm with z|z
    .cases z;exact absurd rfl hk
    .exact h2 m z
theorem OU {scope:Scope}{env:Env}(h:∀n,(n,NameKind.free)∈scope.names->∃c,env.cells.lookup n=some c) :
  ∃cl,closureFor scope env=pure cl/\(∀x c,cl.lookup x=some c->env.cells.lookup x=some c)/\∀n,(n,NameKind.free)∈scope.names->∃c,cl.lookup n=some c:=by
 obtain⟨cl,e,h1,h2,_⟩:=LA env scope.names [] h (fun _ _ z=>by simp at z)
 refine⟨cl,?_,h1,h2⟩
 simp only[closureFor]
 rw[e]
 rfl
def CA (X:Cx)(scope:Scope)(N':List Str)(cl:List (Str×Addr))(C:Addr)(s:Shared)(H:Hp)(fp:List Addr)(pins:List (Addr×Obj)):Cx where
 prog:=X.prog
 w:=X.w
 K:=X.K
 mg:=X.mg
 base:=X.base
 A:=X.A
 N:=N'
 s₀:=s
 H₀:=H
 env:=compEnvC scope cl C X.env
 outer:=X.stack
 stack:=X.stack
 ex:=fp
 calm:=X.calm
 fn:=fun _=>false
 pn:=X.pn++pins
 xe:=fun _ _=>False
structure Hj (sc:Scope)(out:Scope):Prop where
 kind:sc.kind = .function
 cell:∀y∈sc.names,y.2≠.cell
 loc:∀y∈sc.names,y.2 = .local->sc.names.lookup y.1=some .local
 free:∀y∈sc.names,y.2 = .free->out.names.lookup y.1=some .cell\/out.names.lookup y.1=some .free
def BM (ρ:List (Option Nat))(σ:St):St:=ρ.map fun o=>match o with|some i=>(σ[i]?).getD none|none=>none
def II (sc:Scope)(env:Env)(N N':List Str)(ρ:List (Option Nat)):Prop:=
 ρ.length=N'.length/\∀(j i:Nat) (x:Str),ρ[j]?=some (some i)->N'[j]?=some x->N[i]?=some x/\Kc env.scope x/\(x,NameKind.free)∈sc.names
theorem NT {names:List (Str×NameKind)}{env:Env}{x:Str}{k:NameKind}(h:(names.map fun(n,k)=>if(k==NameKind.free&&env.scope.kind == .function&&env.kindOf n==some .cell) then(n,NameKind.cell) else(n,k)).lookup x=some k)
  (hk:k = .cell\/k = .free) (hc:∀y∈names,y.2≠.cell):(x,NameKind.free)∈names:=by
 induction names with
 |nil=>simp at h
 |
  cons p r ih=>
  obtain⟨n,k'⟩:=p
  by_cases hx:x=n
  .subst hx
   have hk':k' = .free:=by
    by_cases hc':(k'==NameKind.free&&env.scope.kind == .function&&env.kindOf x==some .cell)=true
    .simp only[EU,GD]at hc'
     exact hc'.1.1
    .simp only[Bu]at h
     rw[Ae hc']at h
     simp at h
     subst h
     rcases hk with z|z
     .exact absurd z (hc (x,k') AX)
     .exact z
   rw[hk'];exact AX
  .have hb:(x==n)=false:=by simpa using hx
   refine B1 _ (ih ?_ fun y hy=>hc y (B1 _ hy))
   simp only[Bu]at h
   by_cases hc':(k'==NameKind.free&&env.scope.kind == .function&&env.kindOf n==some .cell)=true
   .rw[Ah hc',FV,hb]at h;exact h
   .rw[Ae hc',FV,hb]at h;exact h
theorem RT:∀{names:List (Str×NameKind)} {env:Env} {x:Str},(x,NameKind.free)∈names->(names.map fun(n,k)=>if(k==NameKind.free&&env.scope.kind == .function&&env.kindOf n==some .cell) then(n,NameKind.cell) else(n,k)).lookup x=some .cell\/
  (names.map fun(n,k)=>if(k==NameKind.free&&env.scope.kind == .function&&env.kindOf n==some .cell) then(n,NameKind.cell) else(n,k)).lookup x=some .free\/names.lookup x≠some .free:=by
 intro names env x hm
 by_cases hl:names.lookup x=some .free
 .induction names with
  |nil=>simp at hl
  |
   cons p r ih=>
   obtain⟨n,k'⟩:=p
   by_cases hx:x=n
   .subst hx
    simp at hl
    subst hl
    by_cases hc':(NameKind.free==NameKind.free&&env.scope.kind == .function&&env.kindOf x==some .cell)=true
    .left;simp only[Bu];rw[Ah hc'];simp
    .right;left;simp only[Bu];rw[Ae hc'];simp
   .have hb:(x==n)=false:=by simpa using hx
    rw[FV,hb]at hl
    have hm':(x,NameKind.free)∈r:=by
     rcases AE.mp hm with z|z
     .cases z;exact absurd rfl hx
     .exact z
    have q:=ih hm' hl
    simp only[Bu]
    by_cases hc':(k'==NameKind.free&&env.scope.kind == .function&&env.kindOf n==some .cell)=true
    .rw[Ah hc',FV,hb,FV,hb];exact q
    .rw[Ae hc',FV,hb,FV,hb];exact q
 .exact .inr (.inr hl)
section
variable {X:Cx}{pins:List (Addr×Obj)}{σ:St}{H:Hp}{s:Shared}{scope:Scope}{N':List Str}{ρ:List (Option Nat)}{cl:List (Str×Addr)}{fp:List Addr}{C D:Addr}
theorem VX (I:A2 X pins σ H s)(S:Hj scope X.env.scope)(hf:∀b∈fp,E5 X pins H b)(h1:∀x c,cl.lookup x=some c->X.env.cells.lookup x=some c)(h2:∀n,(n,NameKind.free)∈scope.names->∃c,cl.lookup n=some c)
  (hC:s.heap.objs.size<=C) (hfs:∀b∈fp,b<s.heap.objs.size):(CA X scope N' cl C s H fp pins).Ok where
 mod:=I.ok.mod
 kind:=S.kind
 glob:=I.ok.glob
 blt:=I.ok.blt
 above:=hC
 inj:=fun x y c e1 e2=>I.ok.inj x y c (h1 x c e1) (h1 y c e2)
 has:=fun x hk=>h2 x (by
  rcases hk with hk|hk
  .exact NT (env:=X.env) hk (.inl rfl) S.cell
  .exact NT (env:=X.env) hk (.inr rfl) S.cell)
 cab:=fun _ _ z=>nomatch z
 hd:=I.ok.hd
 frames:=I.ok.frames
 stk:=.inl rfl
 exf:=fun b hb=>⟨Br (BE (hfs b hb) hC),fun x c e=>(hf b hb).2.2.2.2.1 x c (h1 x c e)⟩
 bs:=I.bs
 bsz:=Bl I.ok.bsz I.sz
 noex:=fun b o e hb=>by
  rcases(hf b hb).2.2.2.1 with z|z
  .exact I.ok.noex b o e z
  .exact absurd (BE (BE (AD e) I.ok.bsz) z) (Dv _)
 exfs:=fun b hb z=>by
  rcases AE.mp (I.stkSub b z) with q|q
  .exact(hf b hb).2.1 q
  .exact(hf b hb).2.2.1 q
 funs:=I.stack
 frf:=I.stkFree
theorem WC {h₁:Heap}{tk:Nat}(I:A2 X pins σ H s)(S:Hj scope X.env.scope)(hρ:II scope X.env X.N N' ρ)(hf:∀b∈fp,E5 X pins H b)(h1:∀x c,cl.lookup x=some c->X.env.cells.lookup x=some c)
  (h2:∀n,(n,NameKind.free)∈scope.names->∃c,cl.lookup n=some c) (hC:s.heap.objs.size<=C) (hfs:∀b∈fp,b<s.heap.objs.size) (hn:h₁.Ns C (fun _=>none)) (hk:∀b o,s.heap.get? b=some o->h₁.get? b=some o)
  (hl:∀x,(x,NameKind.free)∈scope.names->scope.names.lookup x=some .free) :
  A2 (CA X scope N' cl C s H fp pins) [] (BM ρ σ) H {s with heap:=h₁,toks:=tk} where
 ok:=VX I S hf h1 h2 hC hfs
 os:=rfl
 bare:=I.bare
 base:=Un.kept hk
 loc:=by
  refine⟨_,hn,fun j x v e1 e2 hv=>?_⟩
  obtain⟨m,hm,hl'⟩:=I.loc
  unfold BM at e2
  rw[C1]at e2
  cases hr:ρ[j]? with
  |none=>rw[hr]at e2;simp at e2
  |
   some o=>
   cases o with
   |none=>rw[hr]at e2;simp at e2
   |
    some i=>
    rw[hr]at e2
    obtain⟨q1,q2,q3⟩:=hρ.2 j i x hr e1
    have e3:σ[i]?=some (some v):=by
     cases hσ:σ[i]? with
     |none=>simp[hσ]at e2
     |some z=>simp[hσ]at e2;rw[e2]
    obtain⟨u,r,lk⟩:=hl' i x v q1 e3 q2
    refine⟨u,r,?_⟩
    obtain⟨c,hc⟩:=h2 x q3
    have hkind:(relabel scope X.env).names.lookup x=some .cell\/(relabel scope X.env).names.lookup x=some .free:=by
     rcases RT (env:=X.env) q3 with z|z|z
     .exact .inl z
     .exact .inr z
     .exact absurd (hl x q3) z
    refine .inr ⟨hkind,c,hc,?_⟩
    rcases lk with⟨k,_⟩|⟨_,c',e',z⟩
    .rcases S.free (x,.free) q3 rfl with z|z
     .have k':X.env.scope.names.lookup x=some .local:=k
      rw[z]at k';cases k'
     .have k':X.env.scope.names.lookup x=some .local:=k
      rw[z]at k';cases k'
    .have:=h1 x c hc
     rw[e']at this;cases this
     obtain⟨o,ho,hd⟩:=z
     exact⟨o,hk _ _ ho,hd⟩
 cell:=fun x c e=>by
  obtain⟨v,o,ho,hd⟩:=I.cell x c (h1 x c e)
  exact⟨v,o,hk _ _ ho,hd⟩
 free:=I.hok.fresh hC
 freeC:=fun x c e=>I.freeC x c (h1 x c e)
 pin:=fun p hp=>by
  have hp':p∈X.pn++pins:=by simpa[CA] using hp
  obtain⟨e,n,ne,nf,d⟩:=I.pin p hp'
  refine⟨hk _ _ e,n,Br (BE (AD e) hC),fun z=>?_,d⟩
  rcases AE.mp (I.stkSub p.1 z) with q|q
  .exact ne q
  .exact nf q
 hok:=I.hok.kept hk
 len:=by
  show(BM ρ σ).length=N'.length
  unfold BM
  rw[Ao];exact hρ.1
end
theorem B4.track {P:Program}{w:World}{H:Hp}{h:Heap}{D:Addr}{o:HO}(x:B4 P w H h)(n:H D=none)(new:Bw P w (upd H D o) h D o):B4 P w (upd H D o) h:=fun b u e=>by
 by_cases hb:b=D
 .subst hb;rw[A6]at e;cases e;exact new
 .rw[Ag hb]at e
  exact(x b u e).stay (fun c v _ q=>q) (fun c q=>by rw[Ag (Az q n)];exact q) fun c xs q=>by rw[Ag (Az q n)];exact q
section
variable {prog:Program}{w:World}{A:Around}{R:Result->Shared->Prop}{s:Shared}
theorem QT {elt target iter:Expr}{ifs:List Expr}{scope:Scope}{pos:Pos}{it acc:Value}{env:Env}(I:Nat->Shared->Prop)
  (turn:∀n s,I n s->wpAny (model prog w) A (pyNext it) (fun r s₁=>match r with
   |none=>R (.ok .next) s₁
   |some v=>wpAny (model prog w) A (letOwnedTupleGo target it v) (fun _ s₁'=>wpAny (model prog w) A (assign target env v) (fun _ s₂=>
    wpAny (model prog w) A (forIn ifs true fun c r=>if r=true then do let ok ←isTrue c env (eval c env);pure (ForInStep.yield ok) else pure (ForInStep.yield r)) (fun ok s₃=>
     if ok=true then wpAny (model prog w) A (eval elt env) (fun x s₄=>
      wpAny (model prog w) A (call (.builtin "list.append") [acc,x]) (fun _ s₅=>∃m,m<n/\I m s₅) (fun _ _=>False) s₄) (fun _ _=>False) s₃
     else ∃m,m<n/\I m s₃) (fun _ _=>False) s₂) (fun _ _=>False) s₁') (fun _ _=>False) s₁) (fun _ _=>False) s)
  (n:Nat) (h:I n s) :
  codeAny (model prog w) A (.compLoop (.ListComp elt [⟨target,iter,ifs,0⟩] scope pos) 0 it acc env) R s:=by
 refine codeAny_loop rfl I (fun n s hI=>?_) n h
 show wpAny _ A ((compTurn (.ListComp elt [⟨target,iter,ifs,0⟩] scope pos) 0 it acc env).onRaise (fun x=>do noteFrame x env;theTreesLotGoes x)) _ _ s
 refine wpAny_noted ?_
 rw[compTurn_list]
 refine A5 (KL (A5 (CM (turn n s hI) (fun r s₁ h₁=>?_) fun _ _ h'=>h'.elim)))
 cases r with
 |none=>exact Al h₁
 |
  some v=>
  refine A5 (CM h₁ (fun _ s₁' h₁=>?_) fun _ _ h'=>h'.elim)
  refine A5 (CM h₁ (fun _ s₂ h₂=>A5 (CM h₂ (fun ok s₃ h₃=>?_) fun _ _ h'=>h'.elim)) fun _ _ h'=>h'.elim)
  cases ok with
  |false=>exact Al ⟨rfl,h₃⟩
  |
   true=>
   exact A5 (A5 (CM h₃ (fun x s₄ h₄=>A5 (CM h₄ (fun _ s₅ h₅=>Al (Al ⟨rfl,h₅⟩)) fun _ _ h'=>h'.elim)) fun _ _ h'=>h'.elim))
end
def G4 (X:Cx)(ifs:List Expr)(t:TT):Prop:=
 ∀(pins:List (Addr×Obj)) (s:Shared) (σ:St) (H:Hp) (Q:Bool->Hp->Prop),A2 X pins σ H s->t σ H Q->
  wpAny (model X.prog X.w) X.A (forIn ifs true fun c r=>if r=true then do let ok ←isTrue c X.env (eval c X.env);pure (ForInStep.yield ok) else pure (ForInStep.yield r)) (TP X pins σ Q) X.xe s
def Xw:TT:=fun _ H Q=>Q true H
theorem Gz {X:Cx}:G4 X [] Xw:=fun _ _ _ H _ I h=>wpAny_tests_nil ⟨H,I,h⟩
theorem Sa {X:Cx}{c:Expr}{t:TT}(h:PT X c t):G4 X [c] t:=fun pins s σ H Q I hw=>wpAny_tests_one (h pins s σ H Q I hw)
def Jn (ρ:List (Option Nat))(σ σ2:St):Prop:=σ2.length=ρ.length/\∀(j:Nat) v,(BM ρ σ)[j]?=some (some v)->σ2[j]?=some (some v)
def IL (ρ:List (Option Nat))(g:TG)(tt:TT)(te:TE)(σ:St)(Q:VK)(J:It)(H1:Hp):Prop := ∃W:Nat->Nat->List V->Hp->Prop,(∃m,W 0 m [] H1)/\∀i m ys H',W i m ys H'->
 (J.stop i H'/\ys.length<=sizeLine/\∀p,H' p=none->Q (.ref p) (upd H' p (.lst ys)))\/
 (J.go i H'/\ys.length<sizeLine/\∃N:List V->Hp->Prop,(∀ys' H'',N ys' H''->∃m',m'<m/\W (i+1) m' ys' H'')/\∀x H2,J.yld i H' x H2->g x (BM ρ σ) H2 fun σ2 H3=>Jn ρ σ σ2/\tt σ2 H3 fun ok H4=>if ok=true then te σ2 H4 fun v H5=>N (ys++[v]) H5 else N ys H4)
def Io (ρ:List (Option Nat))(wi:TI)(g:TG)(tt:TT)(te:TE):TE:=fun σ H Q=>wi σ H fun J H1=>IL ρ g tt te σ Q J H1
theorem Oi {X:Cx}{elt iter tg:Expr}{ifs:List Expr}{scope:Scope}{pos:Pos}{N':List Str}{ρ:List (Option Nat)}{wi:TI}{g:TG}{tt:TT}{te:TE}{cl:List (Str×Addr)}{RR:Value->Addr->Result->Shared->Prop}(hc:X.calm=true)(hi:PI X tg iter wi)(S:Hj scope X.env.scope)(hρ:II scope X.env X.N N' ρ)
  (hl:∀x,(x,NameKind.free)∈scope.names->scope.names.lookup x=some .free)
  (inner:∀(cl:List (Str×Addr)) (C:Addr) (s:Shared) (H:Hp) (fp:List Addr) (pins:List (Addr×Obj)),PG (CA X scope N' cl C s H fp pins) tg g/\G4 (CA X scope N' cl C s H fp pins) ifs tt/\PE (CA X scope N' cl C s H fp pins) elt te)
  {pins:List (Addr×Obj)} {s:Shared} {σ:St} {H:Hp} {Q:VK} (I:A2 X pins σ H s) (h:Io ρ wi g tt te σ H Q)
  (h1:∀x c,cl.lookup x=some c->X.env.cells.lookup x=some c) (h2:∀n,(n,NameKind.free)∈scope.names->∃c,cl.lookup n=some c)
  (fin:∀D C s' H' m,A2 X pins σ H' s'->Q (.ref D) H'->s'.heap.Ns C m->E5 X pins H' C->RR (.ref D) C (.ok .next) s') :
  wpAny (model X.prog X.w) X.A (eval iter X.env) (fun x s₁=>wpAny (model X.prog X.w) X.A (pyIter x) (fun it s₂=>wpAny (model X.prog X.w) X.A (newList []) (fun acc s₃=>
   wpAny (model X.prog X.w) X.A (newFunctionEnv scope X.env.globals cl [] X.env.qual none .none (some X.env)) (fun cenv s₄=>
    codeAny (model X.prog X.w) X.A (.compStart (.ListComp elt [⟨tg,iter,ifs,0⟩] scope pos) 0 it acc {cenv with scope:=relabel scope X.env}) (RR acc cenv.locals) s₄) X.xe s₃) X.xe s₂) X.xe s₁) X.xe s:=by
 refine As (hi pins s σ H _ I h) fun v s1 h1'=>As h1' fun itv s2 hx=>?_
 obtain⟨it,fp,tn,J,H2,e,I2,T,st2,f2,W,⟨m0,w0⟩,turn⟩:=hx
 subst e
 have hfs:∀b∈fp,b<s2.heap.objs.size:=fun b hb=>by
  obtain⟨o,e,_⟩:=T.obj _ _ st2 b hb
  exact AD e
 refine GF (wpAny_newFunctionEnv S.cell (by intro y hy;simp at hy) (fun h₁ hns₁ hsb₁=>?_) S.kind)
 dsimp only at hns₁ hsb₁ ⊢
 generalize hH2:s2.heap.push {cls:=.type "list",dict:=none,data:=.seq ([]:List Value).toArray}=G at hns₁ hsb₁ ⊢
 have hC:G.objs.size=s2.heap.objs.size+1:=by rw[←hH2,Ho]
 have hDC:s2.heap.objs.size≠G.objs.size:=by rw[hC];exact Br (Kt _)
 have hCle:s2.heap.objs.size<=G.objs.size:=by rw[hC];exact GB _
 have old:∀b o,s2.heap.get? b=some o->h₁.get? b=some o:=fun b o e=>hsb₁.extBut b o (Br (BE (AD e) hCle)) (AI _ (hH2▸AI _ e))
 have hacc:h₁.get? s2.heap.objs.size=some {cls:=.type "list",dict:=none,data:=.seq ([]:List Value).toArray}:=hsb₁.extBut _ _ hDC (AI _ (hH2▸BV _ rfl))
 have hns₂:h₁.Ns G.objs.size (fun _=>none):=hns₁
 generalize hXX:CA X scope N' cl G.objs.size s2 H2 fp pins=XX at *
 have IN:∀(tk:Nat),A2 XX [] (BM ρ σ) H2 {s2 with heap:=h₁,toks:=tk}:=fun tk=>hXX▸WC (N':=N') I2 S hρ f2 h1 h2 hCle hfs hns₂ old hl
 obtain⟨pg,pt,pe⟩:=inner cl G.objs.size s2 H2 fp pins
 rw[hXX]at pg pt pe
 have eP:XX.prog=X.prog:=by rw[←hXX];rfl
 have eW:XX.w=X.w:=by rw[←hXX];rfl
 have eK:XX.K=X.K:=by rw[←hXX];rfl
 have eA:XX.A=X.A:=by rw[←hXX];rfl
 have eE:XX.env=compEnvC scope cl G.objs.size X.env:=by rw[←hXX];rfl
 have eL:XX.env.locals=G.objs.size:=by rw[eE];rfl
 have ec:XX.calm=true:=by rw[←hXX];exact hc
 have ex:XX.xe=fun _ _=>False:=by rw[←hXX];rfl
 have es0:XX.s₀=s2:=by rw[←hXX];rfl
 have eex:XX.ex=fp:=by rw[←hXX];rfl
 have efs:XX.fs=Dq X.stack:=by rw[←hXX];rfl
 have eH0:XX.H₀=H2:=by rw[←hXX];rfl
 have epn:XX.pn=X.pn++pins:=by rw[←hXX];rfl
 have ecl:XX.env.cells=cl:=by rw[eE];rfl
 have stat:∀{H':Hp} {ps:List (Addr×Obj)},(∀b∈fp,H' b=none)->(∀p∈ps,p.1=s2.heap.objs.size)->∀b∈fp,E5 XX ps H' b:=fun{H' ps} hn hp b hb=>by
  refine⟨hn b hb,?_,?_,?_,?_,?_⟩
  .rw[eL];exact Br (BE (hfs b hb) hCle)
  .rw[efs]
   intro z
   rcases AE.mp (I2.stkSub b z) with q|q
   .exact(f2 b hb).2.1 q
   .exact(f2 b hb).2.2.1 q
  .rw[eex];exact .inl hb
  .rw[ecl];exact fun x c e=>(f2 b hb).2.2.2.2.1 x c (h1 x c e)
  .intro p hp' z
   rw[epn]at hp'
   rcases Cj.mp hp' with q|q
   .exact(f2 b hb).2.2.2.2.2 p q z
   .rw[hp p q]at z
    exact absurd (hfs b hb) (by rw[z];exact Dv _)
 have nofsD:s2.heap.objs.size∉XX.fs:=by
  rw[efs];intro z
  rcases AE.mp (I2.stkSub _ z) with q|q
  .exact absurd I2.lt (by rw[←q];exact Dv _)
  .exact I2.nofs (An _) q
 have pinD:∀{σ':St} {H':Hp} {s':Shared} {its:List Value} {n:Nat},A2 XX [] σ' H' s'->H' s2.heap.objs.size=none->s'.heap.get? s2.heap.objs.size=some {cls:=.type "list",data:=.seq its.toArray n}->
   A2 XX [(s2.heap.objs.size,{cls:=.type "list",data:=.seq its.toArray n})] σ' H' s':=fun{σ' H' s' its n} I' hn ho=>I'.pins_of fun p hp=>by
  have e:p=(s2.heap.objs.size,{cls:=.type "list",data:=.seq its.toArray n}):=by simpa using hp
  subst e
  refine⟨ho,hn,by rw[eL];exact hDC,nofsD,fun v z=>?_⟩
  have z':Data.seq its.toArray n=Data.cell v:=z
  cases z'
 have loop:∀s₃:Shared,(∃tk,s₃={s2 with heap:=h₁,toks:=tk})->
   codeAny (model X.prog X.w) X.A (.compLoop (.ListComp elt [⟨tg,iter,ifs,0⟩] scope pos) 0 (.ref it) (.ref s2.heap.objs.size) (compEnvC scope cl G.objs.size X.env)) (RR (.ref s2.heap.objs.size) G.objs.size) s₃:=by
  rintro s₃ ⟨tk,rfl⟩
  refine QT (fun n s'=>∃i ys its k H',A2 XX [] (BM ρ σ) H' s'/\tn i s'.heap/\(∀b∈fp,H' b=none)/\H' s2.heap.objs.size=none/\Aw ys its/\
   s'.heap.get? s2.heap.objs.size=some {cls:=.type "list",data:=.seq its.toArray k}/\W i n ys H') ?_ m0
   ⟨0,[],[],0,H2,IN tk,T.keep _ _ _ st2 fun b _ o e=>old b o e,fun b hb=>(f2 b hb).1,I2.hok.fresh (An _),.nil,hacc,w0⟩
  rintro n s3 ⟨i,ys,its,k,H3,I3,st3,fr3,hD3,rv,ho3,w3⟩
  rcases turn i n ys H3 w3 with⟨stop,hz,qn⟩|⟨go,hz,N,hN,step⟩
  .have I3p:=pinD I3 hD3 ho3
   have q:=T.done XX eP eW eK ec i _ s3 (BM ρ σ) H3 (fun _ _=>False) I3p (stat fr3 (by simp)) st3 stop
   rw[eA]at q
   refine As q fun r s4 ⟨hr,I4⟩=>?_
   subst hr
   have ho4:=(I4.pin (s2.heap.objs.size,{cls:=.type "list",data:=.seq its.toArray k}) (by simp)).1
   obtain⟨m,hm,_⟩:=I4.loc
   rw[eL]at hm
   have hun:Un (Dq X.stack) fp H2 (upd H3 s2.heap.objs.size (.lst ys)) s2.heap s4.heap:=by
    have u:=I4.base
    rw[efs,eex,eH0,es0]at u
    refine⟨u.keep,u.slot,fun b o e n hx=>?_,u.there,fun b xs e=>?_,fun b o xs e=>?_,fun b ps e=>?_⟩
    .rw[Ag (Br (AD e))];exact u.free b o e n hx
    .have q:=u.tups b xs e
     rw[Ag (Az q hD3)];exact q
    .have q:=u.frzs b o xs e
     rw[Ag (Az q hD3)];exact q
    .obtain⟨more,q⟩:=u.tbls b ps e
     exact⟨more,by rw[Ag (Az q hD3)];exact q⟩
   have hok:B4 X.prog X.w (upd H3 s2.heap.objs.size (.lst ys)) s4.heap:=by
    have q:=I4.hok
    rw[eP,eW]at q
    exact q.track hD3 ⟨hz,its,k,rv,ho4⟩
   have hfr:∀b∈fp,(b∈X.ex\/X.s₀.heap.objs.size<=b)/\b≠X.env.locals/\(∀x c,X.env.cells.lookup x=some c->c≠b)/\∀p∈X.pn++pins,p.1≠b:=fun b hb=>⟨(f2 b hb).2.2.2.1,(f2 b hb).2.1,(f2 b hb).2.2.2.2.1,(f2 b hb).2.2.2.2.2⟩
   have IO:A2 X pins σ (upd H3 s2.heap.objs.size (.lst ys)) s4:=I2.call' (by have:=I4.os;rw[es0]at this;exact this) hun hok I4.bare hfr
   refine fin _ _ s4 _ m IO (qn _ hD3) hm (I2.fpOk hCle ?_)
   rw[Ag (Ne.symm hDC)]
   have:=I4.free
   rw[eL]at this
   exact this
  .have I3p:=pinD I3 hD3 ho3
   have q:=T.item XX eP eW eK ec i _ s3 (BM ρ σ) H3 (fun _ _=>False) I3p (stat fr3 (by simp)) st3 go
   rw[eA]at q
   refine As q fun r s4 ⟨u,hr,h4⟩=>?_
   subst hr
   refine As h4 fun _ s5 ⟨x,H5,I5,r5,y5,st5,fr5⟩=>?_
   have I5':=I5.pinned (stat fr5 (by simp)) (T.obj _ _ st5)
   have qa:=pg _ s5 (BM ρ σ) H5 x u _ I5' r5 (step x H5 y5)
   rw[eP,eW,eA,eE,ex]at qa
   refine As qa fun _ s6 ⟨σ6,H6,I6,⟨ou1,ou2⟩,q6⟩=>?_
   have hw6:(BM ρ σ).length=σ6.length:=by rw[ou1];unfold BM;rw[Ao]
   have qt:=pt _ s6 σ6 H6 _ I6 q6
   rw[eP,eW,eA,eE,ex]at qt
   refine As qt fun ok s7 ⟨H7,I7,q7⟩=>?_
   have back:∀{s8:Shared} {H8:Hp},A2 XX ([(s2.heap.objs.size,{cls:=.type "list",data:=.seq its.toArray k})]++GN fp s5.heap) σ6 H8 s8->tn (i+1) s8.heap/\(∀b∈fp,H8 b=none)/\H8 s2.heap.objs.size=none/\
     s8.heap.get? s2.heap.objs.size=some {cls:=.type "list",data:=.seq its.toArray k}:=fun{s8 H8} I8=>by
    refine⟨T.keep _ _ _ st5 fun b hb o e=>(I8.pin (b,o) (BK _ (BK _ (Ig hb e)))).1,fun b hb=>?_,?_,?_⟩
    .obtain⟨o,e,d⟩:=T.obj _ _ st5 b hb
     exact(I8.pin (b,o) (BK _ (BK _ (Ig hb e)))).2.1
    .exact(I8.pin (s2.heap.objs.size,{cls:=.type "list",data:=.seq its.toArray k}) (by simp)).2.1
    .exact(I8.pin (s2.heap.objs.size,{cls:=.type "list",data:=.seq its.toArray k}) (by simp)).1
   cases ok with
   |
    false=>
    obtain⟨m',hm,w7⟩:=hN _ _ q7
    obtain⟨b1,b2,b3,b4⟩:=back I7
    exact⟨m',hm,i+1,ys,its,k,H7,(I7.pins_of (pins':=[]) (fun _ z=>nomatch z)).weak hw6 ou2,b1,b2,b3,rv,b4,w7⟩
   |
    true=>
    have qe:=pe _ s7 σ6 H7 _ I7 q7
    rw[eP,eW,eA,eE,ex]at qe
    refine As qe fun y s8 ⟨v8,H8,I8,r8,n8⟩=>?_
    obtain⟨m',hm,w8⟩:=hN _ _ n8
    obtain⟨b1,b2,b3,b4⟩:=back I8
    have hlen:=rv.length
    refine Fn F.slot_list_append ⟨_,b4,rfl⟩ F.entry_list_append (F.args_list_append_2 _ _) (PySem.list_append s2.heap.objs.size its.toArray k y (by rw[B5];omega)) ⟨b4,?_⟩
    have qL:=PySem.IsL.update b4 (fun xs=>xs.push y)
    have I8':A2 XX [] σ6 H8 s8:=I8.pins_of (fun _ z=>nomatch z)
    have I9:A2 XX [] σ6 H8 {s8 with heap:=s8.heap.update s2.heap.objs.size (Obj.mapSeq fun xs=>xs.push y),toks:=s8.toks}:=I8'.turned (it:=s2.heap.objs.size) (fun b o hb e=>(Fk s8.heap _ (Ne.symm hb)).trans e) b3
     (by rw[eL];exact hDC) (.inr (by rw[es0];exact An _)) (by
      rw[ecl];intro x c e z
      obtain⟨v,qc⟩:=I2.cell x c (h1 x c e)
      exact absurd qc.lt (by rw[z];exact Dv _)) (by
      intro p hp z
      have hp':p∈X.pn++pins:=by rw[epn]at hp;simpa using hp
      exact absurd (AD (I2.pin p hp').1) (by rw[z];exact Dv _))
    have hnd:s2.heap.objs.size∉fp:=fun z=>Dv _ (hfs _ z)
    rw[show its.toArray.push y=(its++[y]).toArray by simp]at qL
    refine⟨m',hm,i+1,ys++[v8],its++[y],_,H8,I9.weak hw6 ou2,T.keep _ _ _ b1 fun b hb o e=>(Fk s8.heap _ (by rintro rfl;exact hnd hb)).trans e,b2,b3,rv.append (.cons r8 .nil),qL,w8⟩
 refine codeAny_compStart_list (loop _ ⟨_,rfl⟩) (T.self X.A 0 _ _ _ (T.keep _ _ _ st2 fun b _ o e=>old b o e) (loop _ ⟨_,rfl⟩))
theorem VL {X:Cx}{elt iter tg:Expr}{ifs:List Expr}{scope:Scope}{pos:Pos}(N':List Str)(ρ:List (Option Nat)){wi:TI}{g:TG}{tt:TT}{te:TE}(hc:X.calm=true)(hi:PI X tg iter wi)(S:Hj scope X.env.scope)(hρ:II scope X.env X.N N' ρ)
  (hl:∀x,(x,NameKind.free)∈scope.names->scope.names.lookup x=some .free)
  (inner:∀(cl:List (Str×Addr)) (C:Addr) (s:Shared) (H:Hp) (fp:List Addr) (pins:List (Addr×Obj)),PG (CA X scope N' cl C s H fp pins) tg g/\G4 (CA X scope N' cl C s H fp pins) ifs tt/\PE (CA X scope N' cl C s H fp pins) elt te)
  (hs:∀x,foldedSetIterable iter X.env x=pure x:=by intro _;rfl):PE X (.ListComp elt [⟨tg,iter,ifs,0⟩] scope pos) (Io ρ wi g tt te):=by
 intro pins s σ H Q I h
 obtain⟨cl,hcl,h1,h2⟩:=OU (scope:=scope) (env:=X.env) (fun n hn=>I.ok.has n (S.free (n,.free) hn rfl))
 rw[eval_ListComp]
 refine wpAny_comprehension_free (use:=none) rfl hs hcl S.kind S.loc ?_
 refine Oi (RR:=fun acc C=>compPost (model X.prog X.w) X.A X.xe none (EP X pins σ Q) acc C) hc hi S hρ hl inner I h h1 h2 ?_
 intro D C s' H' m I' q hm hf
 refine⟨m,hm,fun h' sb=>⟨.ref D,H',?_,rfl,q⟩⟩
 exact I'.turned (t':=s'.toks) (fun b o hb e=>(sb.2 b hb).trans e) hf.1 hf.2.1 hf.2.2.2.1 hf.2.2.2.2.1 hf.2.2.2.2.2
theorem Vu {X:Cx}{elt iter tg:Expr}{ifs:List Expr}{scope:Scope}{pos pos' spos:Pos}{i:Nat}{x:Str}(N':List Str)(ρ:List (Option Nat)){wi:TI}{g:TG}{tt:TT}{te:TE}(hN:X.N.Nodup)(hix:X.N[i]?=some x)(hx:GM X.env.scope x)
  (hc:X.calm=true) (hi:PI X tg iter wi) (S:Hj scope X.env.scope) (hρ:II scope X.env X.N N' ρ)
  (hl:∀x,(x,NameKind.free)∈scope.names->scope.names.lookup x=some .free)
  (inner:∀(cl:List (Str×Addr)) (C:Addr) (s:Shared) (H:Hp) (fp:List Addr) (pins:List (Addr×Obj)),PG (CA X scope N' cl C s H fp pins) tg g/\G4 (CA X scope N' cl C s H fp pins) ifs tt/\PE (CA X scope N' cl C s H fp pins) elt te)
  (hsw:swapsWith (.ListComp elt [⟨tg,iter,ifs,0⟩] scope pos) (some (.Name x pos')) spos.line X.env=pure true:=by rfl)
  (hs:∀x,foldedSetIterable iter X.env x=pure x:=by intro _;rfl) (hf:X.fn x=true\/X.env.scope.names.lookup x=some .local:=by first|exact .inl rfl|exact .inr rfl|assumption) :
  PS X (.Assign [.Name x pos'] (.ListComp elt [⟨tg,iter,ifs,0⟩] scope pos) spos) (Iq (Io ρ wi g tt te) (Am i)):=by
 intro pins s σ H Dn I h
 obtain⟨cl,hcl,h1,h2⟩:=OU (scope:=scope) (env:=X.env) (fun n hn=>I.ok.has n (S.free (n,.free) hn rfl))
 rw[exec_Assign_Name_used _ _ _ _ hsw]
 refine A5 (KL (A5 ?_))
 show wpAny _ X.A (do let _ ←comprehension (.ListComp elt [⟨tg,iter,ifs,0⟩] scope pos) scope X.env _ (newList []) false (eval iter X.env) (some (assign (.Name x pos') X.env))) _ _ s
 refine A5 (CM (wpAny_comprehension_free (use:=some (assign (.Name x pos') X.env)) (Q:=fun _ s'=>SP X pins Dn .next s') rfl hs hcl S.kind S.loc ?_) (fun _ s' hq=>Al (Al hq)) fun _ _ e=>e)
 refine Oi (RR:=fun acc C=>compPost (model X.prog X.w) X.A X.xe (some (assign (.Name x pos') X.env)) (fun _ s'=>SP X pins Dn .next s') acc C) hc hi S hρ hl inner I h h1 h2 ?_
 intro D C s' H' m I' q hm hfC
 obtain⟨oC,es,ep,hoC,hr⟩:=id hm
 have pin:A2 X (pins++GN [C] s'.heap) σ H' s':=I'.pinned (fun b hb=>by
  have e:b=C:=by simpa using hb
  subst e
  exact hfC) (fun b hb=>by
  have e:b=C:=by simpa using hb
  subst e
  exact⟨oC,hoC,fun v z=>by rw[hr.1]at z;cases z⟩)
 show wpAny _ X.A (assign (.Name x pos') X.env (.ref D)) _ _ _
 refine wpAny_assign_Name ?_
 refine Ik (M:=model X.prog X.w) (A:=X.A) (E:=X.xe) pin hN hix hx (v:=.ref D) (u:=.ref D) rfl (fun s'' I''=>?_) hf
 have pC:=(I''.pin (C,oC) (BK _ (BK _ (Ig (by simp) hoC))))
 refine⟨m,⟨oC,es,ep,pC.1,hr⟩,fun h' sb=>⟨_,H',?_,q⟩⟩
 have I2:A2 X pins (σ.set i (some (.ref D))) H' s'':=I''.unpinned
 exact I2.turned (t':=s''.toks) (fun b o hb e=>(sb.2 b hb).trans e) hfC.1 hfC.2.1 hfC.2.2.2.1 hfC.2.2.2.2.1 hfC.2.2.2.2.2
theorem Iu (σ:St)(o:Option Nat)(ρ:List (Option Nat)):BM (o::ρ) σ=(match o with|some i=>(σ[i]?).getD none|none=>none)::BM ρ σ:=rfl
theorem Xp {ρ:List (Option Nat)}{σ:St}(o:Option V):Jn (none::ρ) σ (o::BM ρ σ):=by
 refine⟨by unfold BM;simp,fun j v e=>?_⟩
 cases j with
 |zero=>rw[Iu]at e;simp at e
 |succ j=>rw[Iu]at e;simpa using e
theorem Nm {ρ:List (Option Nat)}{σ:St}(o o':Option V):Jn (none::none::ρ) σ (o::o'::BM ρ σ):=by
 refine⟨by unfold BM;simp,fun j v e=>?_⟩
 cases j with
 |zero=>rw[Iu]at e;simp at e
 |
  succ j=>
  rw[Iu,Iu]at e
  cases j with
  |zero=>simp at e
  |succ j=>simpa using e
theorem NM {J:It}{n:Nat}{X:Nat->V->Prop}{ρ:List (Option Nat)}{tt:TT}{te:TE}{σ:St}{H:Hp}{Q:VK}(Pv:Nat->List V->Hp->Prop)(h0:Pv 0 [] H)(hlen:n<=sizeLine)
  (hy:∀i ys H,i<=n->Pv i ys H->ys.length<=i) (hgo:∀i ys H,i<n->Pv i ys H->J.go i H) (hyl:∀i ys H x H',i<n->Pv i ys H->J.yld i H x H'->H'=H/\X i x) (hst:∀ys H,Pv n ys H->J.stop n H)
  (hs:∀i x ys H,i<n->X i x->Pv i ys H->tt (some x::BM ρ σ) H fun ok H4=>if ok=true then te (some x::BM ρ σ) H4 fun v H5=>Pv (i+1) (ys++[v]) H5 else Pv (i+1) ys H4)
  (hd:∀ys H,Pv n ys H->∀p,H p=none->Q (.ref p) (upd H p (.lst ys))) :
  IL (none::ρ) (Am 0) tt te σ Q J H:=by
 refine⟨fun i m ys H=>m=n-i/\i<=n/\Pv i ys H,⟨n,by simp,BF _,h0⟩,?_⟩
 rintro i m ys H ⟨rfl,hi,p⟩
 have hl:=hy i ys H hi p
 by_cases hlt:i<n
 .refine .inr ⟨hgo i ys H hlt p,by omega,Pv (i+1),fun ys' H'' p'=>⟨n-(i+1),by omega,rfl,hlt,p'⟩,fun x H' y=>?_⟩
  obtain⟨e,y2⟩:=hyl i ys H x H' hlt p y
  subst e
  exact⟨Xp _,hs i x ys _ hlt y2 p⟩
 .have e:i=n:=by omega
  subst e
  exact .inl ⟨hst ys H p,by omega,hd ys H p⟩
theorem Sr {K:XJ}{a:Addr}{xs:List V}{ρ:List (Option Nat)}{tt:TT}{te:TE}{σ:St}{H:Hp}{Q:VK}(Pv:Nat->List V->Hp->Prop)(h0:Pv 0 [] H)(hlen:xs.length<=sizeLine)(hl:∀i ys H,i<=xs.length->Pv i ys H->A8 K H a xs/\ys.length<=i)
  (hs:∀i x ys H,xs[i]?=some x->Pv i ys H->tt (some x::BM ρ σ) H fun ok H4=>if ok=true then te (some x::BM ρ σ) H4 fun v H5=>Pv (i+1) (ys++[v]) H5 else Pv (i+1) ys H4)
  (hd:∀ys H,Pv xs.length ys H->∀p,H p=none->Q (.ref p) (upd H p (.lst ys))) :
  IL (none::ρ) (Am 0) tt te σ Q (Hd K a) H:=
 NM (n:=xs.length) (X:=fun i x=>xs[i]?=some x) Pv h0 hlen (fun i ys H hi p=>(hl i ys H hi p).2) (fun i ys H hi p=>⟨xs,xs[i],(hl i ys H (ET hi) p).1,by simp[hi]⟩) (fun i ys H x H' hi p y=>⟨y.1,y.2 xs (hl i ys H (ET hi) p).1⟩)
  (fun ys H p=>⟨xs,(hl _ ys H (An _) p).1,An _⟩) (fun i x ys H _ e p=>hs i x ys H e p) hd
theorem Ha {K:XJ}{a:Addr}{xs:List V}{ρ:List (Option Nat)}{tt:TT}{te:TE}{σ:St}{H:Hp}{Q:VK}(Pv:Nat->List V->Hp->Prop)(h0:Pv 0 [] H)(hlen:xs.length<=sizeLine)(hl:∀i ys H,i<=xs.length->Pv i ys H->A7 K H a xs/\ys.length<=i)
  (hs:∀i x ys H,xs[i]?=some x->Pv i ys H->tt (some x::BM ρ σ) H fun ok H4=>if ok=true then te (some x::BM ρ σ) H4 fun v H5=>Pv (i+1) (ys++[v]) H5 else Pv (i+1) ys H4)
  (hd:∀ys H,Pv xs.length ys H->∀p,H p=none->Q (.ref p) (upd H p (.lst ys))) :
  IL (none::ρ) (Am 0) tt te σ Q (Gg K a) H:=
 NM (n:=xs.length) (X:=fun i x=>xs[i]?=some x) Pv h0 hlen (fun i ys H hi p=>(hl i ys H hi p).2) (fun i ys H hi p=>⟨xs,xs[i],(hl i ys H (ET hi) p).1,by simp[hi]⟩) (fun i ys H x H' hi p y=>⟨y.1,y.2 xs (hl i ys H (ET hi) p).1⟩)
  (fun ys H p=>⟨xs,(hl _ ys H (An _) p).1,An _⟩) (fun i x ys H _ e p=>hs i x ys H e p) hd
abbrev Bn (x:Str):List Nat:=x.cps.toList
theorem Nz (x:Str):(Bn x).length=x.length:=by simp[Bn,Str.length]
theorem JR {x y:Str}(h:Bn x=Bn y):x=y:=StrLaws.mk_of_toList (x:=x) h▸(StrLaws.mk_of_toList (x:=y) rfl).symm
theorem Ir (x y:Str):Bn (x++y)=Bn x++Bn y:=by simp[Bn,Str.cps_append]
theorem SG (l:List Nat):Bn ⟨l.toArray⟩=l:=by simp[Bn]
def Bb (l:List Nat):Str:=⟨l.toArray⟩
theorem D9 (l:List Nat):Bn (Bb l)=l:=by simp[Bn,Bb]
theorem MF (x:Str):Bb (Bn x)=x:=JR (D9 _)
def Fu {α:Type}(xs:List α)(lo hi:Option Int):List α:=(xs.drop (HT.sIx xs.length 0 lo)).take (HT.sIx xs.length xs.length hi-HT.sIx xs.length 0 lo)
theorem OT (n:Nat)(i:Int)(k:Nat):max 0 (min (if i<0 then i+(n:Int) else i) (n:Int))=((HT.sIx n k (some i):Nat):Int):=by
 unfold HT.sIx
 dsimp only
 split<;>omega
theorem WZ (lo hi:Option Int)(n:Nat):Builtin.Str.strSliceIndices lo hi 1 n=(List.range (HT.sIx n n hi-HT.sIx n 0 lo)).map (fun k=>HT.sIx n 0 lo+k):=by
 have e:Builtin.Str.strSliceIndices lo hi 1 n=sliceRange ((HT.sIx n 0 lo:Nat):Int) ((HT.sIx n n hi:Nat):Int) 1:=by
  unfold Builtin.Str.strSliceIndices
  simp only[show((1:Int)>0)=True by simp,FZ]
  congr 1
  .cases lo with
   |none=>rfl
   |some i=>exact OT n i 0
  .cases hi with
   |none=>rfl
   |some i=>exact OT n i n
 rw[e]
 unfold sliceRange
 simp only[show((1:Int)>0)=True by simp,FZ]
 generalize HT.sIx n 0 lo=a
 generalize HT.sIx n n hi=b
 by_cases h:(a:Int)<b
 .rw[Ah h,show(((b:Int)-a+1-1)/1).toNat=b-a by simp<;>omega]
  refine Mf fun k _=>?_
  omega
 .rw[Ae h,show b-a=0 by omega]
  rfl
theorem WI (x:Str)(lo hi:Option Int):Bn (Txt.slice x lo hi)=Fu (Bn x) lo hi:=by
 unfold Txt.slice Fu
 have hl:=Nz x
 rw[hl,WZ]
 have b1:=HT.sIx_le x.length 0 (BF _) lo
 have b2:=HT.sIx_le x.length x.length (An _) hi
 generalize HT.sIx x.length 0 lo=a at *
 generalize HT.sIx x.length x.length hi=b at *
 split
 .rename_i h
  have hb:b-a=x.length:=by simpa using h
  have ha:a=0:=by omega
  subst ha
  rw[List.drop_zero,hb,←hl,DV]
 .by_cases hab:a<=b
  .have q:=StrLaws.picks (Bn x) (b-a) a (by omega)
   have q2:(List.filterMap (fun x_1=>x.cps[x_1]?) (List.map (fun k=>a+k) (List.range (b-a))))=List.filterMap (fun x_1=>(Bn x)[x_1]?) (List.map (fun k=>a+k) (List.range (b-a))):=by
    simp[Bn]
   rw[SG,q2,q]
  .rw[show b-a=0 by omega]
   simp[Bn]
section
variable {X:Cx}
def SB:V->Option Int->Option Int->Hp->VK->Prop:=fun x lo hi H Q=>∃z,x = .str z/\z.length<=sizeLine/\Q (.str (Bb (Fu (Bn z) lo hi))) H
theorem Lc:HM X SB:=by
 intro pins s σ H x v vl vu lo hi sl Q I rx hs pl pu h
 obtain⟨z,rfl,hz,q⟩:=h
 obtain⟨t,rfl⟩:=rx
 rw[←WI,MF]at q
 refine⟨"str",_,F.slot_str_getitem.lookup,typeIs_str _ _ _,?_⟩
 have go:∀(l u:Option (Int×Tok)),l.map (·.1)=lo->u.map (·.1)=hi->s.heap.IsSlice sl l u none->wpAny (model X.prog X.w) X.A (getItem (.str z t) (.ref sl)) (EP X pins σ Q) X.xe s:=fun l u e1 e2 hS=>by
  subst e1 e2
  exact wpAny_getItem_str_slice hS rfl (post_val_or_str ⟨Bl (Txt.slice_le z _ _) hz,fun t' k=>⟨.str _,H,I.tok _,⟨_,rfl⟩,q⟩⟩)
 cases pl with
 |
  none=>
  cases pu with
  |none=>exact go none none rfl rfl hs
  |int j u=>exact go none (some (j,u)) rfl rfl hs
 |
  int i t'=>
  cases pu with
  |none=>exact go (some (i,t')) none rfl rfl hs
  |int j u=>exact go (some (i,t')) (some (j,u)) rfl rfl hs
end
section
variable {X:Cx}
def N7:V->Option Value
 |.ty n=>some (.type n)
 |.ref a=>some (.ref a)
 |_=>none
end
def Ed (sc out:Scope)(N N':List Str)(ρ:List (Option Nat)):Bool:=
 decide (sc.kind = .function)&&sc.names.all (fun y=>decide (y.2≠.cell))&&sc.names.all (fun y=>decide (y.2 = .local->sc.names.lookup y.1=some .local)) &&
 sc.names.all (fun y=>decide (y.2 = .free->sc.names.lookup y.1=some .free/\(out.names.lookup y.1=some .cell\/out.names.lookup y.1=some .free))) &&
 decide (ρ.length=N'.length)&&decide N'.Nodup &&
 (ρ.zip N').all (fun p=>match p.1 with|none=>true|some i=>decide (N[i]?=some p.2)&&decide (out.names.lookup p.2=some .local\/out.names.lookup p.2=some .cell\/out.names.lookup p.2=some .free)&&sc.names.any (fun y=>decide (y=(p.2,NameKind.free))))
structure Sm (sc:Scope)(env:Env)(N N':List Str)(ρ:List (Option Nat)):Prop where
 S:Hj sc env.scope
 sl:II sc env N N' ρ
 hl:∀x,(x,NameKind.free)∈sc.names->sc.names.lookup x=some .free
 nd:N'.Nodup
theorem Mx {sc:Scope}{env:Env}{N N':List Str}{ρ:List (Option Nat)}(h:Ed sc env.scope N N' ρ=true):Sm sc env N N' ρ:=by
 unfold Ed at h
 simp only[EU,PP,List.all_eq_true]at h
 obtain⟨⟨⟨⟨⟨⟨h1,h2⟩,h3⟩,h4⟩,h5⟩,h6⟩,h7⟩:=h
 refine⟨⟨h1,h2,h3,fun y hy e=>(h4 y hy e).2⟩,⟨h5,fun j i x e1 e2=>?_⟩,fun x hx=>(h4 _ hx rfl).1,h6⟩
 have hm:(some i,x)∈ρ.zip N':=by
  refine DH (i:=j) ?_
  rw[List.getElem?_zip_eq_some]
  exact⟨e1,e2⟩
 have q:=h7 _ hm
 simp only[EU,PP,Pu]at q
 obtain⟨⟨q1,q2⟩,y,hy,e⟩:=q
 exact⟨q1,q2,e▸hy⟩
theorem Gf {X:Cx}{elt iter tg:Expr}{ifs:List Expr}{scope:Scope}{pos:Pos}(N':List Str)(ρ:List (Option Nat)){wi:TI}{g:TG}{tt:TT}{te:TE}(hc:X.calm=true)(hi:PI X tg iter wi)(h:Ed scope X.env.scope X.N N' ρ=true)
  (inner:∀(cl:List (Str×Addr)) (C:Addr) (s:Shared) (H:Hp) (fp:List Addr) (pins:List (Addr×Obj)),PG (CA X scope N' cl C s H fp pins) tg g/\G4 (CA X scope N' cl C s H fp pins) ifs tt/\PE (CA X scope N' cl C s H fp pins) elt te)
  (hs:∀x,foldedSetIterable iter X.env x=pure x:=by intro _;rfl):PE X (.ListComp elt [⟨tg,iter,ifs,0⟩] scope pos) (Io ρ wi g tt te):=
 have F:=Mx h
 VL N' ρ hc hi F.S F.sl F.hl inner hs
theorem Wj {X:Cx}{elt iter tg:Expr}{ifs:List Expr}{scope:Scope}{pos pos' spos:Pos}{i:Nat}{x:Str}(N':List Str)(ρ:List (Option Nat)){wi:TI}{g:TG}{tt:TT}{te:TE}(hN:X.N.Nodup)(hix:X.N[i]?=some x)(hx:GM X.env.scope x)
  (hc:X.calm=true) (hi:PI X tg iter wi) (h:Ed scope X.env.scope X.N N' ρ=true)
  (inner:∀(cl:List (Str×Addr)) (C:Addr) (s:Shared) (H:Hp) (fp:List Addr) (pins:List (Addr×Obj)),PG (CA X scope N' cl C s H fp pins) tg g/\G4 (CA X scope N' cl C s H fp pins) ifs tt/\PE (CA X scope N' cl C s H fp pins) elt te)
  (hsw:swapsWith (.ListComp elt [⟨tg,iter,ifs,0⟩] scope pos) (some (.Name x pos')) spos.line X.env=pure true:=by rfl)
  (hs:∀x,foldedSetIterable iter X.env x=pure x:=by intro _;rfl) (hf:X.fn x=true\/X.env.scope.names.lookup x=some .local:=by first|exact .inl rfl|exact .inr rfl|assumption) :
  PS X (.Assign [.Name x pos'] (.ListComp elt [⟨tg,iter,ifs,0⟩] scope pos) spos) (Iq (Io ρ wi g tt te) (Am i)):=
 have F:=Mx h
 Vu N' ρ hN hix hx hc hi F.S F.sl F.hl inner hsw hs hf
def Lf (K:XJ):Sp:=fun vs H Q _=>∃(a:Addr) (ns:List Int),vs=[.ref a]/\A7 K H a (ns.map V.int)/\ns.length<=63/\Km H/\∀H',Q (.bl true) H'
theorem law_walk {l:PySem.W.OpenLaw}{q:Program}{loose:List Str}{XP:(Str->Option Value)->Heap->Prop}{YP:World->Heap->Prop}{d:DefRec}{K:Params->XJ}{x:Str}(k:Nat)(hk:k<=200)(hn:l.most=some 63)(hdf:d.params.defaults=[])
  (hY:∀(w:World) (h:Heap),YP w h->(K w.params).In h)
  (F:∀(w:World) (mg:Str->Option Value) (fa:Addr) (h:Heap),(K w.params).In h->h.Ns mainGlobals mg->mg d.name=some (.ref fa)->
   ∃fd:FuncData,(∀(s:Shared) (u:Value),BindsTo s fd ⟨[u],[]⟩ [(x,u)])/\∀base:Heap,(K w.params).In base->base.Ns mainGlobals mg->AA l.prog w (K w.params) mg base AJ k fa fd [x] (Lf (K w.params))) :
  PySem.W.WalkO q loose XP YP l.row.toRowW d [] (fun f vs=>PySem.call f vs):=
 L2.walk_of (n:=63) (k:=k) (x:=x) (CX:=fun _=>AJ) (sp:=fun w=>Lf (K w.params)) hn (by decide) hdf
  ⟨rfl,by
    have:callerA.depth+605<recursionLimit:=by decide
    omega,by
     have:callerA.units+3400<cLine:=by decide
     omega,rfl⟩ hY F (fun _ H a ns hl hO hS=>⟨a,ns,rfl,hS,hl,hO,fun _=>rfl⟩) fun _ _ _ _ _ z=>z
def Fz (l:List (Str×NameKind)):Scope:={kind:=.function,names:=l,isGenerator:=false,isCoroutine:=false,more:=[]}
theorem BU:bootBuiltins "len"=some (.builtin "len"):=by decide +kernel
theorem FM:bootBuiltins "isinstance"=some (.builtin "isinstance"):=by decide +kernel
theorem V4:bootBuiltins "min"=some (.builtin "min"):=by decide +kernel
theorem Oo:bootBuiltins "max"=some (.builtin "max"):=by decide +kernel
theorem Rc:bootBuiltins "sum"=some (.builtin "sum"):=by decide +kernel
theorem KW:bootBuiltins "list"=some (.type "list"):=by decide +kernel
theorem G3:bootBuiltins "tuple"=some (.type "tuple"):=by decide +kernel
theorem SH:bootBuiltins "dict"=some (.type "dict"):=by decide +kernel
theorem Bo {n:Nat}(h:n<=1000000):n<=sizeLine:=by rw[KI];omega
theorem Ar {n:Nat}(h:Nat.ble n 1000000=true):n<=sizeLine:=Bo (Nat.le_of_ble_eq_true h)
theorem DC {n:Nat}(h:n<1000000):n<sizeLine:=by rw[KI];omega
theorem Ab {H:Hp}{p:Addr}(h:H p=none)(o:HO):Aa H (upd H p o):=fun b u q=>by rw[Ag (Az q h)];exact q
theorem Aa.seqT {K:XJ}{H H':Hp}{a:Addr}{xs:List V}(e:Aa H H')(h:A8 K H a xs):A8 K H' a xs:=by
 rcases h with h|h
 .rcases h with h|⟨o,h⟩
  .exact .inl (.inl (e _ _ h))
  .exact .inl (.inr ⟨o,e _ _ h⟩)
 .exact .inr h
theorem dT {p:Prop}[Decidable p](h:decide p=true):p:=J8 h
theorem dF {p:Prop}[Decidable p](h:¬decide p=true):¬p:=fun z=>h (Cc z)
theorem GR {ns:List Int}{k:Int}(h0:0<=k)(h:k<(ns.length:Int)):BA (ns.map V.int) k=some (.int (ns.getD k.toNat 0)):=by
 have hk:k.toNat<ns.length:=by omega
 have ek:k=((k.toNat:Nat):Int):=by omega
 have q:BA (ns.map V.int) ((k.toNat:Nat):Int)=some (.int (ns.getD k.toNat 0)):=D7 (by rw[C1,Be hk];simp[CV,hk])
 rw[←ek]at q
 exact q
theorem E2 {α:Type}{l:List α}{i:Nat}{c:α}(h:l[i]?=some c):l.take (i+1)=l.take i++[c]:=by
 rw[List.take_succ,h];rfl
theorem F2 {t u:TS}{D:CI}{σ:St}{H:Hp}(M:St->Hp->Prop)(hu:∀σ' H',M σ' H'->u D σ' H')(ht:(∀σ' H',M σ' H'->u D σ' H')->t {D with nx:=u D} σ H):IH t u D σ H:=ht hu
theorem WD {p:Prop}[Decidable p](h:p):(!decide p)=false:=by rw[Cc h];rfl
theorem Su {p:Prop}[Decidable p](h:¬p):(!decide p)=true:=by rw[Cw h];rfl
theorem Ba {b:Bool}{A B:Prop}{v:Bool}(e:b=v)(h:if v=true then A else B):if b=true then A else B:=by rw[e];exact h
theorem GV (l:List Nat):(Bb l).length=l.length:=by rw[←Nz,D9]
theorem Na (x y:Str):(x++y).length=x.length+y.length:=Str.length_append x y
inductive Tr where
 |v (x:V)
 |lst (l:List Tr)
 |tup (l:List Tr)
mutual
inductive Bh (K:XJ)(H:Hp):V->Tr->Prop
 |flat {x:V}:Ee x=true->Bh K H x (.v x)
 |lst {p:Addr} {xs:List V} {l:List Tr}:A7 K H p xs->Bz K H xs l->Bh K H (.ref p) (.lst l)
 |tup {p:Addr} {xs:List V} {l:List Tr}:A8 K H p xs->Bz K H xs l->Bh K H (.ref p) (.tup l)
inductive Bz (K:XJ)(H:Hp):List V->List Tr->Prop
 |nil:Bz K H [] []
 |cons {x:V} {t:Tr} {xs:List V} {l:List Tr}:Bh K H x t->Bz K H xs l->Bz K H (x::xs) (t::l)
end
mutual
def Cm:Tr->Tr->Bool
 |.v x,.v y=>DY x y
 |.lst l,.lst m=>C7 l m
 |.tup l,.tup m=>C7 l m
 |_,_=>false
def C7:List Tr->List Tr->Bool
 |[],[]=>true
 |x::l,y::m=>Cm x y&&C7 l m
 |_,_=>false
end
mutual
def CJ:Tr->Tr->Bool
 |.v _,.v _=>true
 |.lst l,.lst m=>GL l m
 |.tup l,.tup m=>GL l m
 |_,_=>false
def GL:List Tr->List Tr->Bool
 |x::l,y::m=>CJ x y&&GL l m
 |_,_=>true
end
mutual
def E4:Tr->Nat
 |.v _=>0
 |.lst l=>Ft l+1
 |.tup l=>Ft l+1
def Ft:List Tr->Nat
 |[]=>0
 |x::l=>max (E4 x) (Ft l)
end
theorem QJ {x:V}(h:Ee x=true):DY x x=true:=by
 cases x<;>first|rfl|(simp[DY];done)|(simp[Ee]at h)
mutual
def F3:Tr->Bool
 |.v x=>Ee x
 |.lst l=>Fx l
 |.tup l=>Fx l
def Fx:List Tr->Bool
 |[]=>true
 |x::l=>F3 x&&Fx l
end
mutual
theorem Lo:∀t:Tr,F3 t=true->Cm t t=true
 |.v x,h=>by rw[Cm];exact QJ (by simpa[F3] using h)
 |.lst l,h=>by rw[Cm];exact KU l (by simpa[F3] using h)
 |.tup l,h=>by rw[Cm];exact KU l (by simpa[F3] using h)
theorem KU:∀l:List Tr,Fx l=true->C7 l l=true
 |[],_=>by rw[C7]
 |
  x::l,h=>by
  rw[Fx,EU]at h
  rw[C7,Lo x h.1,KU l h.2];rfl
end
mutual
theorem Bh.ok {K:XJ}{H:Hp}:∀{x:V} {t:Tr},Bh K H x t->F3 t=true
 |
  _,_,h=>by
  cases h with
  |flat h=>rw[F3];exact h
  |lst _ h=>rw[F3];exact h.ok
  |tup _ h=>rw[F3];exact h.ok
theorem Bz.ok {K:XJ}{H:Hp}:∀{xs:List V} {l:List Tr},Bz K H xs l->Fx l=true
 |
  _,_,h=>by
  cases h with
  |nil=>rw[Fx]
  |cons h r=>rw[Fx,h.ok,r.ok];rfl
end
theorem Bz.length {K:XJ}{H:Hp}:∀{xs:List V} {l:List Tr},Bz K H xs l->xs.length=l.length
 |
  _,_,h=>by
  cases h with
  |nil=>rfl
  |cons _ r=>simp[r.length]
theorem LV:∀{l m:List Tr},l.length≠m.length->C7 l m=false
 |[],[],h=>absurd rfl h
 |[],_::_,_=>by rw[C7]<;>simp
 |_::_,[],_=>by rw[C7]<;>simp
 |
  x::l,y::m,h=>by
  rw[C7,LV (l:=l) (m:=m) (fun e=>h (by simp[e])),Bool.and_false]
section
variable {X:Cx}{pins:List (Addr×Obj)}{σ:St}{H:Hp}{s:Shared}
mutual
theorem Bh.inj (I:A2 X pins σ H s):∀{t t':Tr} {x:V},Bh X.K H x t->Bh X.K H x t'->t=t'
 |
  _,_,_,h,h'=>by
  cases h with
  |
   flat h=>
   cases h' with
   |flat _=>rfl
   |lst _ _=>cases h
   |tup _ _=>cases h
  |
   lst hq hr=>
   cases h' with
   |flat h=>cases h
   |
    lst hq' hr'=>
    have e:=I.list_inj hq hq'
    subst e
    rw[Bz.inj I hr hr']
   |
    tup hq' hr'=>
    obtain⟨_,_,⟨o,n,e1,c1,_⟩,_⟩:=I.list hq
    obtain⟨_,_,⟨o',e2,c2,_⟩,_⟩:=I.tuple hq'
    rw[e1]at e2;cases e2
    rw[c1]at c2;simp at c2
  |
   tup hq hr=>
   cases h' with
   |flat h=>cases h
   |
    tup hq' hr'=>
    have e:=I.tuple_inj hq hq'
    subst e
    rw[Bz.inj I hr hr']
   |
    lst hq' hr'=>
    obtain⟨_,_,⟨o,n,e1,c1,_⟩,_⟩:=I.list hq'
    obtain⟨_,_,⟨o',e2,c2,_⟩,_⟩:=I.tuple hq
    rw[e1]at e2;cases e2
    rw[c1]at c2;simp at c2
theorem Bz.inj (I:A2 X pins σ H s):∀{l l':List Tr} {xs:List V},Bz X.K H xs l->Bz X.K H xs l'->l=l'
 |
  _,_,_,h,h'=>by
  cases h with
  |
   nil=>
   cases h'
   rfl
  |
   cons h r=>
   cases h' with
   |cons h2 r2=>rw[Bh.inj I h h2,Bz.inj I r r2]
end
theorem Vc {α:Type}{e:Nat->Bool}{f:α->Bool}:∀{l:List α},(∀j x,l[j]?=some x->e j=f x)->(List.range l.length).all e=l.all f:=by
 intro l h
 rw[GA]
 simp only[List.all_eq_true,Di]
 constructor
 .intro q x hx
  obtain⟨i,hi,hx⟩:=Px.mp hx
  rw[←h i x (by rw[Be hi,hx])]
  exact q i hi
 .intro q i hi
  rw[h i l[i] (Be hi)]
  exact q _ (FW hi)
theorem Oc:∀{l m:List Tr},l.length=m.length->C7 l m=(l.zip m).all fun p=>Cm p.1 p.2
 |[],[],_=>by rw[C7];rfl
 |[],_::_,h=>by simp at h
 |_::_,[],h=>by simp at h
 |
  x::l,y::m,h=>by
  rw[C7,Oc (l:=l) (m:=m) (by simpa using h)]
  rfl
theorem Bz.at {K:XJ}{H:Hp}:∀{xs:List V} {l:List Tr} {j:Nat} {t:Tr},Bz K H xs l->l[j]?=some t->∃x,xs[j]?=some x/\Bh K H x t
 |_,_,_,_,.nil,h=>by simp at h
 |_,_,0,_,.cons h _,e=>by simp at e;subst e;exact⟨_,rfl,h⟩
 |
  _,_,j+1,_,.cons _ r,e=>by
  obtain⟨x,h1,h2⟩:=r.at (j:=j) (by simpa using e)
  exact⟨x,by simpa using h1,h2⟩
theorem IF:∀{l m:List Tr} {j:Nat} {t t':Tr},GL l m=true->l[j]?=some t->m[j]?=some t'->CJ t t'=true
 |[],_,_,_,_,_,h,_=>by simp at h
 |_::_,[],_,_,_,_,_,h=>by simp at h
 |
  x::l,y::m,0,t,t',h,e1,e2=>by
  simp at e1 e2;subst e1 e2
  rw[GL,EU]at h;exact h.1
 |
  x::l,y::m,j+1,t,t',h,e1,e2=>by
  rw[GL,EU]at h
  exact IF (j:=j) h.2 (by simpa using e1) (by simpa using e2)
theorem Ih:∀{l:List Tr} {j:Nat} {t:Tr},l[j]?=some t->E4 t<=Ft l
 |[],_,_,h=>by simp at h
 |x::l,0,t,h=>by simp at h;subst h;rw[Ft];omega
 |
  x::l,j+1,t,h=>by
  have:=Ih (l:=l) (j:=j) (t:=t) (by simpa using h)
  rw[Ft];omega
theorem Kj {A:Around}{l m:List Tr}{xs ys:List V}{its jts:List Value}(hr:Bz X.K H xs l)(hr':Bz X.K H ys m)(rv:Aw xs its)(rv':Aw ys jts)
  (ih:∀(j:Nat) (t t':Tr) (x y:V) (u v:Value),l[j]?=some t->m[j]?=some t'->Bh X.K H x t->Ax x u->Bh X.K H y t'->Ax y v->SeqAt.EqAt A.in1 s u v (Cm t t')) :
  ∀j (h1:j<its.toArray.size) (h2:j<jts.toArray.size),SeqAt.EqAt A.in1 s its.toArray[j] jts.toArray[j] (match l[j]?,m[j]? with|some t,some t'=>Cm t t'|_,_=>true):=by
 intro j h1 h2
 have l1:=hr.length;have l2:=hr'.length;have l3:=rv.length;have l4:=rv'.length
 rw[B5]at h1 h2
 obtain⟨t,ht⟩:∃t,l[j]?=some t:=⟨l[j]'(by omega),Be (by omega)⟩
 obtain⟨t',ht'⟩:∃t',m[j]?=some t':=⟨m[j]'(by omega),Be (by omega)⟩
 obtain⟨x,hx,hxt⟩:=hr.at ht
 obtain⟨y,hy,hyt⟩:=hr'.at ht'
 obtain⟨u,hu,ru⟩:=rv.get hx
 obtain⟨v,hv,rw'⟩:=rv'.get hy
 rw[ht,ht']
 have e1:its.toArray[j]=u:=by
  have:=Be (l:=its) (i:=j) h1
  rw[hu]at this
  simpa using(AZ this).symm
 have e2:jts.toArray[j]=v:=by
  have:=Be (l:=jts) (i:=j) h2
  rw[hv]at this
  simpa using(AZ this).symm
 rw[e1,e2]
 exact ih j t t' x y u v ht ht' hxt ru hyt rw'
theorem OR {l m:List Tr}(h:l.length=m.length):(List.range l.length).all (fun j=>match l[j]?,m[j]? with|some t,some t'=>Cm t t'|_,_=>true)=C7 l m:=by
 rw[Oc h]
 have e:l.length=(l.zip m).length:=by rw[List.length_zip];omega
 rw[e]
 refine Vc fun j p hp=>?_
 obtain⟨h1,h2⟩:=List.getElem?_zip_eq_some.mp hp
 rw[h1,h2]
theorem Ox {A:Around}{p q:Addr}{xs ys:List V}{l m:List Tr}(I:A2 X pins σ H s)(hu:A.units<cLine)(hq:A7 X.K H p xs)(hr:Bz X.K H xs l)(hq':A7 X.K H q ys)(hr':Bz X.K H ys m)
  (ih:∀(j:Nat) (t t':Tr) (x y:V) (u v:Value),l[j]?=some t->m[j]?=some t'->Bh X.K H x t->Ax x u->Bh X.K H y t'->Ax y v->SeqAt.EqAt A.in1 s u v (Cm t t')) :
  SeqAt.RcAt A s (.ref p) (.ref q) (C7 l m)/\SeqAt.RcNeAt A s (.ref p) (.ref q) (!C7 l m):=by
 obtain⟨its,rv,pl,_⟩:=I.list hq
 obtain⟨jts,rv',pl',_⟩:=I.list hq'
 have l1:=hr.length;have l2:=hr'.length;have l3:=rv.length;have l4:=rv'.length
 by_cases hl:l.length=m.length
 .have e:its.toArray.size=l.length:=by rw[B5];omega
  have a:=SeqAt.RcAt.lists (A:=A) pl.isList pl'.isList (by rw[B5,B5];omega) hu (Kj hr hr' rv rv' ih)
  have b:=SeqAt.RcNeAt.lists (A:=A) pl.isList pl'.isList (by rw[B5,B5];omega) hu (Kj hr hr' rv rv' ih)
  rw[e,OR hl]at a b
  exact⟨a,b⟩
 .rw[LV hl]
  have hne:(its.toArray.size != jts.toArray.size)=true:=by
   rw[B5,B5]
   simp only[bne_iff_ne,ne_eq];omega
  exact⟨SeqAt.RcAt.lists_lengths pl.isList pl'.isList hne hu,SeqAt.RcNeAt.lists_lengths pl.isList pl'.isList hne hu⟩
theorem NN {A:Around}{p q:Addr}{xs ys:List V}{l m:List Tr}(I:A2 X pins σ H s)(hu:A.units<cLine)(hq:A8 X.K H p xs)(hr:Bz X.K H xs l)(hq':A8 X.K H q ys)(hr':Bz X.K H ys m)
  (ih:∀(j:Nat) (t t':Tr) (x y:V) (u v:Value),l[j]?=some t->m[j]?=some t'->Bh X.K H x t->Ax x u->Bh X.K H y t'->Ax y v->SeqAt.EqAt A.in1 s u v (Cm t t')) :
  SeqAt.RcAt A s (.ref p) (.ref q) (C7 l m)/\SeqAt.RcNeAt A s (.ref p) (.ref q) (!C7 l m):=by
 obtain⟨its,rv,pl,_⟩:=I.tuple hq
 obtain⟨jts,rv',pl',_⟩:=I.tuple hq'
 have l1:=hr.length;have l2:=hr'.length;have l3:=rv.length;have l4:=rv'.length
 have a:=SeqAt.RcAt.tuples (A:=A) (show s.heap.IsTuple p its.toArray from pl) (show s.heap.IsTuple q jts.toArray from pl') hu (Kj hr hr' rv rv' ih)
 have b:=SeqAt.RcNeAt.tuples (A:=A) (show s.heap.IsTuple p its.toArray from pl) (show s.heap.IsTuple q jts.toArray from pl') hu (Kj hr hr' rv rv' ih)
 have e:((List.range (min its.toArray.size jts.toArray.size)).all (fun j=>match l[j]?,m[j]? with|some t,some t'=>Cm t t'|_,_=>true)&&its.toArray.size==jts.toArray.size)=C7 l m:=by
  by_cases hl:l.length=m.length
  .have e1:min its.toArray.size jts.toArray.size=l.length:=by rw[B5,B5];omega
   have e2:(its.toArray.size==jts.toArray.size)=true:=by rw[B5,B5];simp;omega
   rw[e1,e2,OR hl,Bool.and_true]
  .have e2:(its.toArray.size==jts.toArray.size)=false:=by rw[B5,B5];simp;omega
   rw[e2,LV hl,Bool.and_false]
 rw[e]at a b
 exact⟨a,b⟩
theorem O3 (I:A2 X pins σ H s)(n:Nat):∀(A:Around) (t t':Tr) (x y:V) (u v:Value),E4 t<=n->A.units+n<cLine->CJ t t'=true->Bh X.K H x t->Ax x u->Bh X.K H y t'->Ax y v->SeqAt.EqAt A s u v (Cm t t'):=by
 induction n with
 |
  zero=>
  intro A t t' x y u v hd hu hs hx rx hy ry
  cases hx with
  |
   flat fx=>
   cases hy with
   |flat fy=>rw[Cm];exact Lw rx ry fx fy
   |lst _ _=>simp[CJ]at hs
   |tup _ _=>simp[CJ]at hs
  |lst _ _=>simp[E4]at hd
  |tup _ _=>simp[E4]at hd
 |
  succ n ih=>
  intro A t t' x y u v hd hu hs hx rx hy ry
  cases hx with
  |
   flat fx=>
   cases hy with
   |flat fy=>rw[Cm];exact Lw rx ry fx fy
   |lst _ _=>simp[CJ]at hs
   |tup _ _=>simp[CJ]at hs
  |
   @lst p xs l hq hr=>
   cases hy with
   |flat fy=>simp[CJ]at hs
   |tup _ _=>simp[CJ]at hs
   |
    @lst q ys m hq' hr'=>
    cases rx;cases ry
    rw[E4]at hd
    rw[CJ]at hs
    by_cases e:p=q
    .subst e
     have e1:=Bh.inj I (Bh.lst hq hr) (Bh.lst hq' hr')
     rw[←e1,Lo _ (Bh.lst hq hr).ok]
     exact SeqAt.EqAt.same _
    .rw[Cm]
     refine SeqAt.EqAt.of_refs e (Ox I (by omega) hq hr hq' hr' fun j t t' x y u v h1 h2 h3 h4 h5 h6=>?_).1
     exact ih A.in1 t t' x y u v (by have:=Ih h1;omega) (by show A.units+1+n<cLine;omega) (IF hs h1 h2) h3 h4 h5 h6
  |
   @tup p xs l hq hr=>
   cases hy with
   |flat fy=>simp[CJ]at hs
   |lst _ _=>simp[CJ]at hs
   |
    @tup q ys m hq' hr'=>
    cases rx;cases ry
    rw[E4]at hd
    rw[CJ]at hs
    by_cases e:p=q
    .subst e
     have e1:=Bh.inj I (Bh.tup hq hr) (Bh.tup hq' hr')
     rw[←e1,Lo _ (Bh.tup hq hr).ok]
     exact SeqAt.EqAt.same _
    .rw[Cm]
     refine SeqAt.EqAt.of_refs e (NN I (by omega) hq hr hq' hr' fun j t t' x y u v h1 h2 h3 h4 h5 h6=>?_).1
     exact ih A.in1 t t' x y u v (by have:=Ih h1;omega) (by show A.units+1+n<cLine;omega) (IF hs h1 h2) h3 h4 h5 h6
end
section
variable {X:Cx}
def O7 (K:XJ)(neg:Bool):R2:=fun x y H Q=>∃t t',Bh K H x t/\Bh K H y t'/\(∃p,x = .ref p)/\(∃p,y = .ref p)/\CJ t t'=true/\E4 t<=60/\Q (.bl (if neg then !Cm t t' else Cm t t')) H
theorem Xl {neg:Bool}(hu:X.A.units+64<cLine):BP X (compareOp (if neg then .NotEq else .Eq)) (O7 X.K neg):=by
 intro pins s σ H x y v u Q I rx ry h
 obtain⟨t,t',hx,hy,⟨p,rfl⟩,⟨q,rfl⟩,hs,hd,q'⟩:=h
 cases rx;cases ry
 have done:∀l m,SeqAt.RcAt X.A s (.ref p) (.ref q) (C7 l m)/\SeqAt.RcNeAt X.A s (.ref p) (.ref q) (!C7 l m)->Q (.bl (if neg then !C7 l m else C7 l m)) H->
   wpAny (model X.prog X.w) X.A (compareOp (if neg then .NotEq else .Eq) (.ref p) (.ref q)) (EP X pins σ Q) X.xe s:=fun l m hb hq=>by
  cases neg with
  |false=>exact hb.1 X.prog X.w X.xe _ ⟨.bl _,H,I,rfl,hq⟩
  |true=>exact hb.2 X.prog X.w X.xe _ ⟨.bl _,H,I,rfl,hq⟩
 cases hx with
 |flat fx=>cases fx
 |
  @lst _ xs l hq hr=>
  cases hy with
  |flat fy=>cases fy
  |tup _ _=>simp[CJ]at hs
  |
   @lst _ ys m hq' hr'=>
   rw[E4]at hd
   rw[CJ]at hs
   rw[Cm]at q'
   refine done l m (Ox I (by omega) hq hr hq' hr' fun j t t' x y u v h1 h2 h3 h4 h5 h6=>?_) q'
   exact O3 I 60 X.A.in1 t t' x y u v (by have:=Ih h1;omega) (by show X.A.units+1+60<cLine;omega) (IF hs h1 h2) h3 h4 h5 h6
 |
  @tup _ xs l hq hr=>
  cases hy with
  |flat fy=>cases fy
  |lst _ _=>simp[CJ]at hs
  |
   @tup _ ys m hq' hr'=>
   rw[E4]at hd
   rw[CJ]at hs
   rw[Cm]at q'
   refine done l m (NN I (by omega) hq hr hq' hr' fun j t t' x y u v h1 h2 h3 h4 h5 h6=>?_) q'
   exact O3 I 60 X.A.in1 t t' x y u v (by have:=Ih h1;omega) (by show X.A.units+1+60<cLine;omega) (IF hs h1 h2) h3 h4 h5 h6
theorem Qk (hu:X.A.units+64<cLine):BP X (compareOp .NotEq) (O7 X.K true):=Xl (neg:=true) hu
theorem TC {A:Around}{k:Nat}(hr:Bj k A):A.units+64<cLine:=by have:=hr.un;omega
end
section
variable {X:Cx}
end
theorem WO {k:Ap}{v:V}{kvs:List (Ap×V)}:(BO kvs k v).length<=kvs.length+1:=by
 unfold BO
 split
 .rw[Ao];omega
 .rw[Ac];simp
abbrev Eo:Str:="abcdefghijklmnopqrstuvwxyz"
theorem SR:Bn Eo=(List.range 26).map (97 + ·):=by decide +kernel
def Gr (x:Int):Nat:=97+(x%26).toNat
theorem P9 (x:Int):BA (Bn Eo) (x%26)=some (Gr x):=by
 have h0:=B7 x (show(26:Int)≠0 by decide)
 have h1:=B8 x (show(0:Int)<26 by decide)
 have e:x%26=(((x%26).toNat:Nat):Int):=by omega
 rw[e]
 refine D7 ?_
 rw[SR,C1,IY (by omega)]
 rfl
theorem NP:Eo.length<=sizeLine:=Bo (by decide +kernel)
def Gb:List (List Nat):=[Bn "for",Bn "end",Bn "size"]
theorem SL (z:List Nat):HW (.str (Bb z)) [.str "for",.str "end",.str "size"]=decide (z∈Gb):=by
 have key:∀y:Str,DY (.str y) (.str (Bb z))=decide (z=Bn y):=fun y=>by
  show(y==Bb z)=_
  rw[GA]
  simp only[GD,PP]
  exact⟨fun e=>by rw[e,D9],fun e=>by rw[e,MF]⟩
 unfold HW Gb
 simp only[IW,List.any_nil,key,Bool.or_false]
 rw[GA]
 simp
theorem HH {α:Type}(l:List α){k:Int}(h:0<=k):Fu l none (some k)=l.take k.toNat:=by
 unfold Fu
 have e:k=((k.toNat:Nat):Int):=by omega
 rw[HT.sIx_none,e,HT.sIx_nat,List.drop_zero,Nat.sub_zero]
 rw[show(((k.toNat:Nat):Int)).toNat=k.toNat by omega]
 by_cases h:k.toNat<=l.length
 .rw[Ky h]
 .rw[Nat.min_eq_right (by omega),Dy (by omega),Dy (by omega)]
theorem Wc {α:Type}(l:List α){i:Int}(hi:0<=i):Fu l (some i) none=l.drop i.toNat:=by
 unfold Fu
 have e1:i=((i.toNat:Nat):Int):=by omega
 rw[e1,HT.sIx_nat,HT.sIx_none,show(((i.toNat:Nat):Int)).toNat=i.toNat by omega]
 by_cases h:i.toNat<=l.length
 .rw[Ky h,Dy (by rw[Kv];omega)]
 .rw[Nat.min_eq_right (by omega),EV,IZ,List.drop_eq_nil_of_le (by omega)]
def S7 (C:Addr):Sp:=fun vs H Q _=>∃(x dx:Addr) (v1 v2 v3 v4 v5 v6 v7:V),vs=[.ref x,v1,v2,v3,v4,v5,v6,v7]/\H x=some (.ins C dx [])/\∀H',(∀b o,H b=some o->b≠x->H' b=some o)->(∃dx,H' x=some (.ins C dx [("names",v1),("lows",v2),("highs",v3),("table",v4),("spots",v5),("term",v6),("path",v7)]))->Q .non H'
theorem OH {α:Type}(l:List α)(x:α)(m:List α){n:Int}(hn:n = -((m.length:Int)+1)):BA (l++x::m) n=some x:=by
 unfold BA F1
 have hl:(l++x::m).length=l.length+(m.length+1):=by rw[Ac];rfl
 rw[hl,Ae (by omega),Ah (by omega)]
 show(l++x::m)[(n+((l.length+(m.length+1):Nat):Int)).toNat]?=some x
 rw[show(n+((l.length+(m.length+1):Nat):Int)).toNat=l.length by omega,DU (An _),EV]
 rfl
theorem HN (l m:List V)(hm:0<m.length){n:Int}(hn:n = -(m.length:Int)):Cv (l++m) none (some n)=l:=by
 unfold Cv
 have hl:(l++m).length=l.length+m.length:=Ac
 have e1:HT.sIx (l++m).length 0 none=0:=rfl
 have e2:HT.sIx (l++m).length (l++m).length (some n)=l.length:=by
  show(if n<0 then(n+((l++m).length:Int)).toNat else min n.toNat (l++m).length)=l.length
  rw[hl,Ah (by omega)]
  omega
 rw[e1,e2,List.drop_zero,Nat.sub_zero,List.take_left']
 rfl
theorem V1 {tt:TT}{ta tb:TS}{D:CI}{σ:St}{H:Hp}(M:Hp->Prop)(hb:∀H',M H'->tb D σ H')(h:(∀H',M H'->tb D σ H')->KY tt ta tb D σ H):KY tt ta tb D σ H:=h hb
theorem Fd {α:Type}{l:List α}{n:Nat}(h:l.length=n+1):∃p x,l=p++[x]/\p.length=n:=by
 have hne:l≠[]:=fun e=>by rw[e]at h;cases h
 exact⟨l.dropLast,l.getLast hne,(List.dropLast_concat_getLast hne).symm,by rw[List.length_dropLast];omega⟩
theorem GX {H H2:Hp}{x dx C:Addr}(hx:H x=none)(hdx:H dx=none)(k:∀b o,(upd (upd H dx (.own x)) x (.ins C dx [])) b=some o->b≠x->H2 b=some o):Aa H H2:=fun b o e=>by
 have n1:=Az e hx
 have n2:=Az e hdx
 exact k b o (by rw[Ag n1,Ag n2];exact e) n1
section
variable {X:Cx}{pins:List (Addr×Obj)}{σ:St}{H:Hp}{s:Shared}{h':Heap}
theorem A2.turnedL {t':Nat}{ch:List Addr}(I:A2 X pins σ H s)(k:∀b o,b∉ch->s.heap.get? b=some o->h'.get? b=some o)(hf:∀b∈ch,E5 X pins H b):A2 X pins σ H {s with heap:=h',toks:=t'}:=by
 have nit:∀b u,H b=some u->b∉ch:=fun b u e z=>by rw[(hf b z).1]at e;cases e
 have hL:X.env.locals∉ch:=fun z=>(hf _ z).2.1 rfl
 refine I.step (g':=s.gens) (d':=s.drawn) (ch:=ch) (fun b hb=>?_) (fun b o _ _ hc e _=>k b o hc e) (fun b o _ _ hc e _=>⟨o.slots,k b o hc e⟩) (fun _ _ _ _ n=>n)
  (fun b o hc e=>⟨o,k b o hc e⟩) (fun _ _ e=>e) (fun _ _ _ e=>e) (fun b ps e=>⟨#[],by rw[e];simp⟩) (fun m hm=>?_) (fun b u e=>?_) I.bare
 .obtain⟨f0,f1,f2,f3,f4,f5⟩:=hf b hb
  exact⟨f3,f1,f4,f5⟩
 .obtain⟨o,es,ep,ho,r⟩:=hm
  exact⟨o,es,ep,k _ o hL ho,r⟩
 .refine(I.hok b u e).stay (fun c v hc q=>k c v ?_ q) (fun _ q=>q) fun _ _ q=>q
  rcases hc with z|z
  .rw[z];exact nit b u e
  .exact nit c _ z
end
end L2
namespace Bd
end Bd
namespace L2
open PySem PySem.Spec PyProof.Rows Bd
section
variable {es:List Expr}{env:Env}{p:Pos}
theorem AC {c:Const}{n:Nat}:starEach (.Constant c n p::es) env=(false,eval (.Constant c n p) env)::starEach es env:=rfl
theorem Cq {x:Str}:starEach (.Name x p::es) env=(false,eval (.Name x p) env)::starEach es env:=rfl
theorem Ge {a b:Expr}{o:Operator}:starEach (.BinOp a o b p::es) env=(false,eval (.BinOp a o b p) env)::starEach es env:=rfl
theorem LN {f:Expr}{as:List Expr}{ks:List Keyword}:starEach (.Call f as ks p::es) env=(false,eval (.Call f as ks p) env)::starEach es env:=rfl
theorem K1 {a b:Expr}:starEach (.Subscript a b p::es) env=(false,eval (.Subscript a b p) env)::starEach es env:=rfl
theorem Lu {as:List Expr}{n:Nat}:starEach (.Tuple as n p::es) env=(false,eval (.Tuple as n p) env)::starEach es env:=rfl
theorem Xa {o:UnaryOp}{a:Expr}:starEach (.UnaryOp o a p::es) env=(false,eval (.UnaryOp o a p) env)::starEach es env:=rfl
end
@[irreducible] def F9 (X:Cx) (es:List Expr) (t:TA):Prop:=PA X es t
section
variable {X:Cx}{e:Expr}{es:List Expr}{te:TE}{t:TA}{pos:Pos}
theorem Cy:F9 X [] ON:=by unfold F9;exact A3
theorem Aj (ha:PE X e te)(hr:F9 X es t)(hs:starEach (e::es) X.env=(false,eval e X.env)::starEach es X.env):F9 X (e::es) (MG te t):=by unfold F9 at *;exact A0 ha hr hs
theorem Et (h:F9 X es t):PE X (.List es pos) (Ow t):=by unfold F9 at h;exact BL h
theorem FR {x1:Nat}(h:F9 X es t):PE X (.Tuple es x1 pos) (O8 t):=by unfold F9 at h;exact Bf h
end
theorem Vy {L:List Int}{i:Int}(h0:0<=i)(h1:i<(L.length:Int)):∃z∈L,BA (L.map V.int) i=some (.int z):=by
 have e:L[i.toNat]?=some L[i.toNat]:=Be (by omega)
 refine⟨L[i.toNat],FW _,?_⟩
 have h:BA (L.map V.int) ((i.toNat:Nat):Int)=some (.int L[i.toNat]):=D7 (by rw[C1,e];rfl)
 rwa [Int.toNat_of_nonneg h0]at h
theorem Ez {L:List Int}{i:Int}(n:Nat)(hn:L.length=n)(h0:0<=i)(h1:i<(n:Int)):∃z∈L,BA (L.map V.int) i=some (.int z):=Vy h0 (by rw[hn];exact h1)
theorem QS {c:TT}{tb:TS}{D:CI}{σ:St}{H:Hp}(k:Nat)(Pv:Nat->St->Hp->Prop)(h0:Pv 0 σ H)
  (hs:∀i σ H,i<=k->Pv i σ H->c σ H fun b H1=>if b=true then i<k/\tb {D with nx:=Pv (i+1),ct:=Pv (i+1),bk:=D.nx} σ H1 else D.nx σ H1)
  (mono:∀σ H Q Q',(∀b H1,Q b H1->Q' b H1)->c σ H Q->c σ H Q'):P4 c tb D σ H:=by
 refine⟨fun m σ H=>∃i,i<=k/\m=k-i/\Pv i σ H,⟨_,0,BF _,rfl,h0⟩,?_⟩
 rintro m σ H ⟨i,hi,rfl,p⟩
 refine mono σ H _ _ (fun b H1 q=>?_) (hs i σ H hi p)
 cases b with
 |true=>exact⟨Pv (i+1),fun σ' H' p'=>⟨k-(i+1),by have:=q.1;omega,i+1,by have:=q.1;omega,rfl,p'⟩,q.2⟩
 |false=>exact q
def TB (K:XJ):Sp:=fun vs H Q _=>∃(p:Addr) (ns:List Int) (k:Int),vs=[.ref p,.int k]/\A7 K H p (ns.map V.int)/\0<=k/\k<=1000000/\∀i:Int,Q (.int i) H
end L2
namespace Bd
end Bd
namespace L2
open PySem PySem.Spec PyProof.Rows
section
open Bd
theorem On:∀{ns:List Int} {its:List Value},Aw (ns.map V.int) its->IntsAre its ns
 |[],_,.nil=>.nil
 |n::ns,_,.cons ⟨t,h⟩ r=>by subst h;exact .cons n t (On r)
theorem Qg {X:Cx}(hc:X.calm=true):Ey X (.builtin "sum") (fun xs H Q=>∃(p:Addr) (ns:List Int),xs=[.ref p]/\A7 X.K H p (ns.map V.int)/\Q (.int ns.sum) H):=by
 intro pins s σ H xs us Q I r h
 obtain⟨p,ns,rfl,hq,q⟩:=h
 obtain⟨u,rfl,ru⟩:=FC r
 cases ru
 obtain⟨its,rv,pl,hz⟩:=I.list hq
 have hi:=On rv
 obtain⟨xs,ex⟩:=hi.allInts.items
 have hn:xs.toList.map (·.1)=ns:=by rw[←nums_intItems,←ex];exact hi.numsOf
 have hl:=pl.isList
 rw[ex]at hl
 refine sum_intListG (I.ok.hd hc) hl fun h' tk t' hk=>?_
 rw[preSum_eq,Dy (by simp),hn]
 exact⟨.int ns.sum,H,I.kept (t':=tk) hk,⟨_,rfl⟩,q⟩
end
section
open Bd
def Bx (c k:Int):Int:=((c+7919*k+1)*48271%2147483647)*((c+7919*k+1)*48271%2147483647)%2147483629
theorem F4 (c k:Int):0<=Bx c k/\Bx c k<2147483629:=⟨B7 _ (by decide),B8 _ (by decide)⟩
def Xe:Sp:=fun vs H Q _=>∃(c k:Int),vs=[.int c,.int k]/\Q (.int (Bx c k)) H
def Cz (m:Int)(n:Nat):List Nat:=(List.range n).map fun k:Nat=>Gr (m/((k:Int)+9))
theorem Gp (m:Int)(n:Nat):(Cz m n).length=n:=by unfold Cz;rw[Ao,Dz]
def BQ (m:Int):Nat:=(m%8).toNat
theorem L4 (m:Int):BQ m<=7:=by
 have:=B7 m (show(8:Int)≠0 by decide)
 have:=B8 m (show(0:Int)<8 by decide)
 unfold BQ;omega
def DK (m:Int):Nat:=(m/8%((BQ m:Int)+1)).toNat
theorem LC (m:Int):DK m<=BQ m/\((DK m:Nat):Int)=m/8%((BQ m:Int)+1):=by
 have:=B7 (m/8) (show((BQ m:Int)+1)≠0 by omega)
 have:=B8 (m/8) (show(0:Int)<(BQ m:Int)+1 by omega)
 unfold DK;omega
def Gq (m e:Int):List Nat:=(Cz m (BQ m)).take (DK m)++[Gr (m/72+5*e)]++(Cz m (BQ m)).drop (DK m)
def LF (m e:Int):List Nat:=(Cz m (BQ m)++Bn "qrstuvwx").take (5+e).toNat
def C6 (m e:Int):List Nat:=if m/5003%4=1 then LF m e else Gq m e
def De (m e:Int):List Nat:=if C6 m e∈Gb then C6 m e++[115] else C6 m e
theorem Lh (m e:Int):(Gq m e).length=BQ m+1:=by
 unfold Gq
 have:=(LC m).1
 rw[Ac,Ac,BG,Kv,Gp,AN]
 omega
theorem q8:(Bn "qrstuvwx").length=8:=by decide +kernel
theorem Jy {m e:Int}(h0:0<=e)(h1:e<=2):(LF m e).length=(5+e).toNat:=by
 unfold LF
 have:=L4 m
 rw[BG,Ac,Gp,q8]
 omega
theorem WE (m e:Int):(Gq m e)[DK m]?=some (Gr (m/72+5*e)):=by
 unfold Gq
 have:=(LC m).1
 rw[Ei,DU (by rw[BG,Gp];omega),BG,Gp,show DK m-min (DK m) (BQ m)=0 by omega]
 rfl
theorem Of {m i j:Int}(i0:0<=i)(i1:i<=2)(j0:0<=j)(j1:j<=2)(h:i≠j):C6 m i≠C6 m j:=fun e=>by
 unfold C6 at e
 by_cases c:m/5003%4=1
 .rw[Ah c,Ah c]at e
  have:=congrArg List.length e
  rw[Jy i0 i1,Jy j0 j1]at this
  omega
 .rw[Ae c,Ae c]at e
  have:=congrArg (fun l:List Nat=>l[DK m]?) e
  simp only[WE]at this
  have:=AZ this
  unfold Gr at this
  omega
theorem MH {m i j:Int}(i0:0<=i)(i1:i<=2)(hi:C6 m i∈Gb):(C6 m i).length=(C6 m j).length:=by
 have h4:∀l∈Gb,l.length<=4:=by decide +kernel
 unfold C6 at hi ⊢
 by_cases c:m/5003%4=1
 .rw[Ah c]at hi
  have:=h4 _ hi
  rw[Jy i0 i1]at this
  omega
 .rw[Ae c,Ae c,Lh,Lh]
theorem QE {m i j:Int}(i0:0<=i)(i1:i<=2)(j0:0<=j)(j1:j<=2)(h:i≠j):De m i≠De m j:=fun e=>by
 unfold De at e
 by_cases c1:C6 m i∈Gb<;>by_cases c2:C6 m j∈Gb
 .rw[Ah c1,Ah c2]at e
  exact Of i0 i1 j0 j1 h (List.append_cancel_right e)
 .rw[Ah c1,Ae c2]at e
  have:=congrArg List.length e
  rw[Ac,MH (j:=j) i0 i1 c1]at this
  simp at this
 .rw[Ae c1,Ah c2]at e
  have:=congrArg List.length e
  rw[Ac,MH (j:=i) j0 j1 c2]at this
  simp at this
 .rw[Ae c1,Ae c2]at e
  exact Of i0 i1 j0 j1 h e
theorem Os {m e:Int}(h0:0<=e)(h1:e<=2):1<=(C6 m e).length/\(C6 m e).length<=8:=by
 unfold C6
 have:=L4 m
 split
 .rw[Jy h0 h1];omega
 .rw[Lh];omega
theorem WW {m e:Int}(h0:0<=e)(h1:e<=2):1<=(De m e).length/\(De m e).length<=9:=by
 have:=Os (m:=m) h0 h1
 unfold De
 split
 .rw[Ac];simp;omega
 .omega
def RW:Sp:=fun vs H Q _=>∃(c e:Int),vs=[.int c,.int e]/\0<=e/\e<=2/\∀H',Aa H H'->Q (.str (Bb (De (Bx c 11) e))) H'
end
def Ja (C:Addr)(fs:List Str):Sp:=fun as H Q _=>∃(x dx:Addr) (vs:List V),as = .ref x::vs/\vs.length=fs.length/\H x=some (.ins C dx [])/\∀H',(∀b o,H b=some o->b≠x->H' b=some o)->(∃dx,H' x=some (.ins C dx (fs.zip vs)))->Q .non H'
mutual
theorem Bh.over {K:XJ}{H H':Hp}(e:Aa H H'):∀{t:Tr} {x:V},Bh K H x t->Bh K H' x t
 |.v _,_,.flat h=>.flat h
 |.lst _,_,.lst h r=>.lst (e.seq h) (Bz.over e r)
 |.tup _,_,.tup h r=>.tup (e.seqT h) (Bz.over e r)
theorem Bz.over {K:XJ}{H H':Hp}(e:Aa H H'):∀{l:List Tr} {xs:List V},Bz K H xs l->Bz K H' xs l
 |[],_,.nil=>.nil
 |_::_,_,.cons h r=>.cons (Bh.over e h) (Bz.over e r)
end
structure Cs where
 n:Addr
 v:Addr
 c:Addr
 j:Addr
theorem A7.updI {K:XJ}{H:Hp}{p x C dx:Addr}{fs:List (Str×V)}{ys:List V}{o:HO}(h:A7 K H p ys)(hx:H x=some (.ins C dx fs)):A7 K (upd H x o) p ys:=by
 rcases h with(h|⟨ob,h⟩)|h
 .refine .inl (.inl ?_)
  rw[Ag (fun e=>by rw[e,hx]at h;cases h)]
  exact h
 .refine .inl (.inr ⟨ob,?_⟩)
  rw[Ag (fun e=>by rw[e,hx]at h;cases h)]
  exact h
 .exact .inr h
def Wz (K:XJ)(C:Addr):Sp:=fun vs H Q _=>∃(x dx:Addr) (sz:V) (p:Addr) (ys:List V),vs=[.ref x,sz,.ref p]/\H x=some (.ins C dx [])/\A7 K H p ys/\∀(l:Addr) (H':Hp),H l=none->(∀b o,H b=some o->b≠x->H' b=some o)->H' l=some (.lst ys)->(∃dx,H' x=some (.ins C dx [("size",sz),("deeds",.ref l)]))->Q .non H'
end L2
namespace PySem
open Builtin
theorem Xd:fillsNumberSlot (.type "tuple") "mul"=pure false:=
 fillsNumberSlot_seq (id:="tuple.__mul__") (r:=some (.builtin "tuple.__rmul__")) F.slot_tuple_mul.lookup (by decide +kernel) F.slot_tuple_rmul.lookup (by decide +kernel)
theorem SO:seqRepeat? (.type "tuple")=pure (some (.builtin "tuple.__mul__")):=by
 unfold seqRepeat?
 rw[seqSlot_of (T:="tuple") (name:="__mul__") (id:="tuple.__mul__") F.slot_tuple_mul.lookup (by decide +kernel),seqSlot_of (T:="tuple") (name:="__rmul__") (id:="tuple.__rmul__") F.slot_tuple_rmul.lookup (by decide +kernel)]
 rfl
theorem QY (a:Int)(t:Tok)(l:Addr)(items:Array Value)(n:Nat)(dd:Option Addr)(sl:Array (Option Value)) :
  Meets (Builtin.«int.__rmul__» ⟨[.int a t,.ref l],[]⟩) (fun _ R s=>s.heap.get? l=some {cls:=.type "tuple",dict:=dd,data:=.seq items n,slots:=sl}/\R (.ok (.ret Value.notImplemented)) s):=
 .of_wp fun prog w A R s h=>by obtain⟨hp,g,d,tk,os⟩:=s;obtain⟨hl,h⟩:=h;wp_walk;exact⟨_,rfl,h⟩
open AutoSeq1 (wpAny_loadPart')
theorem Qq (l:Addr)(k:Tok)(items:Array Value)(n:Nat)(dd:Option Addr)(sl:Array (Option Value)) :
  Meets (Builtin.«tuple.__mul__» ⟨[.ref l,.int 1 k],[]⟩) (fun _ R s=>s.heap.get? l=some {cls:=.type "tuple",dict:=dd,data:=.seq items n,slots:=sl}/\R (.ok (.ret (Value.ref l))) {s with heap:=s.heap,toks:=s.toks}):=
 .of_wp fun prog w A R s h=>by obtain⟨hp,g,d,tk,os⟩:=s;obtain⟨hl,h⟩:=h;have f1:=AutoSeq1.idx_int;have f2:=AutoSeq1.sub_tuple_tuple;wp_walk using wpAny_loadPart' hl;exact⟨_,rfl,h⟩
theorem V7 (l:Addr)(k:Tok)(items:Array Value)(n:Nat)(dd:Option Addr)(sl:Array (Option Value))(hc0:¬items.isEmpty=true) :
  Meets (Builtin.«tuple.__mul__» ⟨[.ref l,.int 0 k],[]⟩) (fun _ R s=>s.heap.get? l=some {cls:=.type "tuple",dict:=dd,data:=.seq items n,slots:=sl}/\R (.ok (.ret (Value.ref s.heap.objs.size))) {s with heap:=s.heap.push {cls:=Value.type "tuple",data:=Data.seq #[]},toks:=s.toks}):=
 .of_wp fun prog w A R s h=>by obtain⟨hp,g,d,tk,os⟩:=s;obtain⟨hl,h⟩:=h;have f1:=AutoSeq1.idx_int;have f2:=AutoSeq1.sub_tuple_tuple;wp_walk using wpAny_loadPart' hl;exact⟨_,rfl,h⟩
end PySem
namespace L2
open PySem PySem.Spec PyProof.Rows
section
variable {X:Cx}
end
section
open Bd
def Ga (H:Hp)(vs:List V):Prop := ∀v∈vs,∃(t:Addr) (z:Str) (n:Int),v = .ref t/\H t=some (.tup [.str z,.int n])
theorem Ga.over {H H':Hp}{vs:List V}(h:Ga H vs)(e:Aa H H'):Ga H' vs:=fun v hv=>by
 obtain⟨t,z,n,h1,h2⟩:=h v hv
 exact⟨t,z,n,h1,e _ _ h2⟩
def FJ (H:Hp)(l:Addr):Prop := ∃vs,H l=some (.lst vs)/\0<vs.length/\vs.length<=100/\Ga H vs
theorem FJ.over {H H':Hp}{l:Addr}(h:FJ H l)(e:Aa H H'):FJ H' l:=by
 obtain⟨vs,h1,h2,h3,h4⟩:=h
 exact⟨vs,e _ _ h1,h2,h3,h4.over e⟩
def FI (H:Hp)(l:Addr):Prop := ∃vs,H l=some (.lst vs)/\vs.length=3/\∀v∈vs,∃(t:Addr) (z:Str) (m n:Int),v = .ref t/\H t=some (.tup [.str z,.int m,.int n])/\1<=m/\m<=3
theorem FI.over {H H':Hp}{l:Addr}(h:FI H l)(e:Aa H H'):FI H' l:=by
 obtain⟨vs,h1,h2,h3⟩:=h
 exact⟨vs,e _ _ h1,h2,fun v hv=>by obtain⟨t,z,m,n,a,b,c⟩:=h3 v hv;exact⟨t,z,m,n,a,e _ _ b,c⟩⟩
theorem Hc {vs:List V}{i:Int}(h0:0<=i)(h1:i<(vs.length:Int)):∃v∈vs,BA vs i=some v:=by
 have e:vs[i.toNat]?=some vs[i.toNat]:=Be (by omega)
 refine⟨vs[i.toNat],FW _,?_⟩
 have h:BA vs ((i.toNat:Nat):Int)=some vs[i.toNat]:=D7 e
 rwa [Int.toNat_of_nonneg h0]at h
def EK (H:Hp)(p:Addr):Prop := ∃xs,H p=some (.tup xs)/\xs.length<=3/\Ga H xs
theorem EK.over {H H':Hp}{p:Addr}(h:EK H p)(e:Aa H H'):EK H' p:=by
 obtain⟨xs,h1,h2,h3⟩:=h
 exact⟨xs,e _ _ h1,h2,h3.over e⟩
def WJ:Sp:=fun vs H Q _=>∃(n m off:Int) (b:Addr),vs=[.int n,.ref b,.int m,.int off]/\0<=n/\FJ H b/\1<=m/\m<=3/\∀(r:Addr) (H':Hp),Aa H H'->EK H' r->Q (.ref r) H'
def RD (H:Hp)(r:Addr):Prop := ∃z p,H r=some (.tup [.str z,.ref p])/\EK H p
def Xm:Sp:=fun vs H Q _=>∃(n:Int) (b h:Addr),vs=[.int n,.ref b,.ref h]/\0<=n/\FJ H b/\FI H h/\∀(r:Addr) (H':Hp),Aa H H'->RD H' r->Q (.ref r) H'
abbrev DB:=List (Str×Addr)
inductive CK (H:Hp):Nat->V->DB->Prop
 |n {t:Addr} (i:Int):H t=some (.tup [.str "n",.int i])->CK H 1 (.ref t) []
 |v {t:Addr} (z:Str):H t=some (.tup [.str "v",.str z])->CK H 1 (.ref t) []
 |c {t p:Addr} (z:Str):H t=some (.tup [.str "c",.str z,.ref p])->EK H p->CK H 1 (.ref t) [(z,p)]
 |j {t:Addr} {l r:V} {m n:Nat} {rs us:DB} (z:Str):z∈[Str.ofString "+",Str.ofString "-",Str.ofString "*"]->H t=some (.tup [.str z,l,r])->CK H m l rs->CK H n r us->CK H (m+n) (.ref t) (rs++us)
theorem CK.over {H H':Hp}(e:Aa H H'){n:Nat}{x:V}{rs:DB}(h:CK H n x rs):CK H' n x rs:=by
 induction h with
 |n i h=>exact .n i (e _ _ h)
 |v z h=>exact .v z (e _ _ h)
 |c z h hp=>exact .c z (e _ _ h) (hp.over e)
 |j z hz h _ _ a b=>exact .j z hz (e _ _ h) a b
theorem CK.pos {H:Hp}{n:Nat}{x:V}{rs:DB}(h:CK H n x rs):1<=n/\rs.length<=n/\∀r∈rs,EK H r.2:=by
 induction h with
 |n i h=>exact⟨An _,BF _,fun r hr=>by cases hr⟩
 |v z h=>exact⟨An _,BF _,fun r hr=>by cases hr⟩
 |c z h hp=>exact⟨An _,An _,fun r hr=>by rw[BW]at hr;subst hr;exact hp⟩
 |
  j z hz h _ _ a b=>
  refine⟨by omega,by rw[Ac];omega,fun r hr=>?_⟩
  rcases Cj.mp hr with hr|hr
  .exact a.2.2 r hr
  .exact b.2.2 r hr
def Tv:Sp:=fun vs H Q _=>∃(n:Int) (b h:Addr),vs=[.int n,.ref b,.ref h]/\0<=n/\n<4294967296/\FJ H b/\FI H h/\∀(x:V) (H':Hp) (rs:DB),Aa H H'->CK H' 1 x rs->Q x H'
def Ry:Sp:=fun vs H Q _=>∃(c:Int) (b h:Addr),vs=[.int c,.ref b,.ref h]/\FJ H b/\FI H h/\∀(x:V) (H':Hp) (m:Nat) (rs:DB),Aa H H'->m<=3->CK H' m x rs->Q x H'
inductive ED (c:Cs)(H:Hp):Nat->V->DB->Prop
 |num {x dx:Addr} (i:Int):H x=some (.ins c.n dx [("n",.int i)])->ED c H 1 (.ref x) []
 |val {x dx:Addr} (z:Str):H x=some (.ins c.v dx [("name",.str z)])->ED c H 1 (.ref x) []
 |cel {x dx p:Addr} (z:Str):H x=some (.ins c.c dx [("table",.str z),("spots",.ref p)])->ED c H 1 (.ref x) [(z,p)]
 |joi {x dx:Addr} {l r:V} {m n:Nat} {rs us:DB} (z:Str):H x=some (.ins c.j dx [("sign",.str z),("left",l),("right",r)])->ED c H m l rs->ED c H n r us->ED c H (m+n) (.ref x) (rs++us)
theorem ED.over {c:Cs}{H H':Hp}(e:Aa H H'){n:Nat}{x:V}{rs:DB}(h:ED c H n x rs):ED c H' n x rs:=by
 induction h with
 |num i h=>exact .num i (e _ _ h)
 |val z h=>exact .val z (e _ _ h)
 |cel z h=>exact .cel z (e _ _ h)
 |joi z h _ _ a b=>exact .joi z (e _ _ h) a b
def Nx (c:Cs)(n:Nat):Sp:=fun vs H Q _=>∃(x:V) (m:Nat) (rs:DB),vs=[x]/\m<=n/\CK H m x rs/\∀(y:V) (H':Hp),Aa H H'->ED c H' m y rs->Q y H'
def Ws (H:Hp)(v:V):Prop := ∃(p p1 p2:Addr) (nm b1 b2:Str) (n1 n2 ab tn:Int),v = .ref p/\H p=some (.tup [.str nm,.ref p1,.ref p2,.int ab,.int tn])/\H p1=some (.tup [.str b1,.int n1])/\H p2=some (.tup [.str b2,.int n2])/\0<=tn/\tn<=2
theorem O6 {K:XJ}{H:Hp}:∀{vs:List V},(∀v∈vs,Ws H v)->∃ts,Bz K H vs ts/\Ft ts<=2/\ts.length=vs.length
 |[],_=>⟨[],.nil,BF _,rfl⟩
 |
  v::vs,h=>by
  obtain⟨ts,h1,h2,h3⟩:=O6 (K:=K) (vs:=vs) fun x hx=>h x (B1 _ hx)
  obtain⟨p,p1,p2,nm,b1,b2,n1,n2,ab,tn,rfl,g0,g1,g2,_⟩:=h v AX
  refine⟨.tup [.v (.str nm),.tup [.v (.str b1),.v (.int n1)],.tup [.v (.str b2),.v (.int n2)],.v (.int ab),.v (.int tn)]::ts,.cons (.tup (A8.of g0) (.cons (.flat rfl) (.cons (.tup (A8.of g1) (.cons (.flat rfl) (.cons (.flat rfl) .nil))) (.cons (.tup (A8.of g2) (.cons (.flat rfl) (.cons (.flat rfl) .nil))) (.cons (.flat rfl) (.cons (.flat rfl) .nil)))))) h1,?_,by rw[B6,B6,h3]⟩
  simp only[E4,Ft]
  omega
theorem R6 {z:Str}(h:z∈[Str.ofString "+",Str.ofString "-",Str.ofString "*"]):z≠"n"/\z≠"v"/\z≠"c":=by
 have:∀z∈[Str.ofString "+",Str.ofString "-",Str.ofString "*"],z≠"n"/\z≠"v"/\z≠"c":=by decide +kernel
 exact this z h
theorem dS {x y:Str}(h:x≠y):decide (V.str x=V.str y)=false:=Cw fun e=>h (V.str.inj e)
def VC (K:XJ):Sp:=fun vs H Q _=>∃(p:Addr) (ns:List Int),vs=[.ref p]/\A7 K H p (ns.map V.int)/\∀(l:Addr) (H':Hp),Aa H H'->FI H' l->Q (.ref l) H'
theorem Th {K:XJ}{a:Addr}{xs:List V}{ρ:List (Option Nat)}{g:TG}{tt:TT}{te:TE}{σ:St}{H:Hp}{Q:VK}(Pv:Nat->List V->Hp->Prop)(h0:Pv 0 [] H)(hlen:xs.length<=sizeLine)(hl:∀i ys H,i<=xs.length->Pv i ys H->A7 K H a xs/\ys.length<=i)
  (hs:∀i x ys H,xs[i]?=some x->Pv i ys H->g x (BM ρ σ) H fun σ2 H3=>Jn ρ σ σ2/\tt σ2 H3 fun ok H4=>if ok=true then te σ2 H4 fun v H5=>Pv (i+1) (ys++[v]) H5 else Pv (i+1) ys H4)
  (hd:∀ys H,Pv xs.length ys H->∀p,H p=none->Q (.ref p) (upd H p (.lst ys))):IL ρ g tt te σ Q (Gg K a) H:=by
 refine⟨fun i m ys H=>m=xs.length-i/\i<=xs.length/\Pv i ys H,⟨_,rfl,BF _,h0⟩,?_⟩
 rintro i m ys H ⟨rfl,hi,p⟩
 obtain⟨hq,hy⟩:=hl i ys H hi p
 by_cases hlt:i<xs.length
 .refine .inr ⟨⟨xs,xs[i],hq,by simp[hlt]⟩,by omega,Pv (i+1),fun ys' H'' p'=>⟨xs.length-(i+1),by omega,rfl,hlt,p'⟩,fun x H' y=>?_⟩
  obtain⟨e,y2⟩:=y
  subst e
  exact hs i x ys _ (y2 xs hq) p
 .have e:i=xs.length:=by omega
  subst e
  exact .inl ⟨⟨xs,hq,An _⟩,by omega,hd ys H p⟩
end
section
open PySem.SeqAt
open PySem.AutoSeq1 (wpAny_loadPart')
open PySem.MeetsSeq PySem.MeetsSeq2 PySem.MeetsSeq3
end
def EE (n:Nat):List V:=(List.range n).map fun i:Nat=>V.int (i:Int)
def Sg (ta:TA):TE:=fun σ H Q=>ta σ H fun vs H1=>∃n:Nat,vs=[.int (n:Int)]/\n<=1000000/\∀l,H1 l=none->Q (.ref l) (upd H1 l (.lst (EE n)))
theorem Wq {n:Nat}{acc:Array Value}(h:ItemsOf (fun i v=>∃t,v = .int (0+(i:Int)*1) t) acc n):Aw (EE n) acc.toList:=by
 have key:∀(k:Nat) (l:List Value),(∀(j:Nat) (v:Value),l[j]?=some v->∃t,v=Value.int ((k+j:Nat):Int) t)->Aw ((List.range' k l.length).map fun i:Nat=>V.int (i:Int)) l:=by
  intro k l
  induction l generalizing k with
  |nil=>intro _;exact .nil
  |
   cons x l ih=>
   intro hl
   rw[B6,List.range'_succ,Bu]
   obtain⟨t,ht⟩:=hl 0 x rfl
   refine .cons ⟨t,by rw[ht];rfl⟩ (ih (k+1) fun j v hj=>?_)
   obtain⟨t',ht'⟩:=hl (j+1) v (by simpa using hj)
   exact⟨t',by rw[ht'];congr 1;omega⟩
 have hl:acc.toList.length=n:=by simpa using h.1
 have:=key 0 acc.toList fun j v hj=>by
  obtain⟨t,ht⟩:=h.2 j v (by simpa using hj)
  exact⟨t,by rw[ht];congr 1;omega⟩
 rw[hl]at this
 unfold EE
 rw[List.range_eq_range']
 exact this
theorem V0 {X:Cx}{a:Expr}{ta:TA}{p p2 pos pos2:Pos}(hc:X.calm=true)(hgl:Gl X "list")(hml:X.mg "list"=none)(hg:Gl X "range")(hm:X.mg "range"=none)(ha:PA X [a] ta)
  (hs:starEach [a] X.env=[(false,eval a X.env)]:=by rfl):PE X (.Call (.Name "list" p) [.Call (.Name "range" p2) [a] [] pos2] [] pos) (Sg ta):=by
 intro pins s σ H Q I h
 refine Fm (En I hgl hml KW ?_ (by decide) (by decide))
 refine FS ?_ rfl rfl
 show wpAny _ _ (spliced ((false,eval (.Call (.Name "range" p2) [a] [] pos2) X.env)::backTo pos (starEach [] X.env))) _ _ s
 refine Calls.spliced_cons ?_
 refine Call_ (En I hg hm boot_range (FS (As (ha pos2 pins s σ H _ I h) fun us s1 hx=>?_) hs rfl))
 obtain⟨vs,H1,I1,r1,n,e,hn,q⟩:=hx
 subst e
 obtain⟨u,rfl,ru⟩:=FC r1
 obtain⟨t,rfl⟩:=(show ∃t,u=Value.int (n:Int) t from ru)
 refine call_range_1 ?_
 refine Calls.spliced_nil ?_
 have p62:(2:Int) ^ 62=4611686018427387904:=by decide
 refine call_list_range (n:=n) (I1.ok.hd hc) (IsRange.new ..) (small_one (by decide) (by decide) (by omega) (by omega)) (by rw[rangeSize_one];split<;>omega) (by omega) fun h' tk acc c' hk hl hi=>?_
 have hsz:(s1.heap.push {cls:=.type "range",data:=.fields #[.int 0 s1.toks,.int (n:Int) t,.int 1 (s1.toks+1)]}).objs.size=s1.heap.objs.size+1:=Ho ..
 have hf:H1 (s1.heap.objs.size+1)=none:=I1.hok.fresh (GB _)
 have hul:(EE n).length<=sizeLine:=by unfold EE;rw[Ao,Dz];exact Bo hn
 change h'.get? (s1.heap.push {cls:=.type "range",data:=.fields #[.int 0 s1.toks,.int (n:Int) t,.int 1 (s1.toks+1)]}).objs.size=_ at hl
 rw[hsz]at hl
 refine⟨.ref (s1.heap.objs.size+1),upd H1 (s1.heap.objs.size+1) (.lst (EE n)),I1.laid (t':=tk) (o:=.lst (EE n)) (fun b o e=>hk b o (AI _ e)) (GB _) ⟨hul,acc.toList,c',Wq hi,by simpa using hl⟩,?_,q _ hf⟩
 show Value.ref _=Value.ref _
 rw[←hsz]
section
variable {prog:Program}{w:World}{A:Around}{E:Value->Shared->Prop}{s:Shared}
theorem N2 {it t:Addr}{k:Nat}{its:Array Value}{Q:Value->Shared->Prop}(a:s.heap.IsTupleIter it t k)(b:s.heap.IsTuple t its)
  (q:wpAny (model prog w) A.in1 (match its[k]? with
   |some x=>do setField (.ref it) 1 (rawInt (k+1));ret x
   |none=>do rule (toString "tuple_iterator.__next__"++toString ".end");setField (.ref it) 0 .none;Builtin.SmallTypes.stopIteration) (fun fin s'=>∃v,fin = .done (.ret v)/\Q v s') E s) :
  wpAny (model prog w) A (Builtin.SmallTypes.nextOf (.ref it)) Q E s:=by
 have ty:=a.typeIs
 obtain⟨o,g,c,d⟩:=a
 obtain⟨o2,g2,-,n2,d2⟩:=b
 unfold Builtin.SmallTypes.nextOf
 apply A5
 apply wpAny_callSpecial?_slot (name:=Str.ofString "__next__") ty F.slot_tuple_iterator_next
 refine Hw F.slot_tuple_iterator_next ty F.entry_tuple_iterator_next ?_ (F.args_tuple_iterator_next_1 _)
 unfold Builtin.«tuple_iterator.__next__»
 wp_walk using Dj g d (x:=.ref t) rfl
 rw[d]
 apply Al
 apply Al
 apply A5
 apply Hx g2 d2
 rw[show Int.toNat (k:Int)=k from rfl]
 exact CM q (fun fin s' ⟨v,e,z⟩=>⟨v,e,Al z⟩) fun _ _ z=>z
theorem Qb {it t:Addr}{k:Nat}{its:Array Value}{x:Value}{Q:Value->Shared->Prop}(a:s.heap.IsTupleIter it t k)(b:s.heap.IsTuple t its)(hx:its[k]?=some x)
  (q:∀h',h'.IsTupleIter it t (k+1)->Heap.SameBut it s.heap h'->Q x {s with heap:=h'}):wpAny (model prog w) A (Builtin.SmallTypes.nextOf (.ref it)) Q E s:=by
 apply N2 a b
 obtain⟨o,g,c,d⟩:=a
 rw[hx]
 apply A5
 apply KM g d (by simp)
 apply Al
 refine⟨x,rfl,q _ ⟨_,Kz _ g ?_,?_,?_⟩ (Mg ..)⟩
 .exact Obj.isFreed_of_fields (Obj.data_mapFields d _)
 .exact(Obj.cls_mapFields ..).trans c
 .rw[Obj.data_mapFields d];rfl
theorem VS {it t:Addr}{k:Nat}{its:Array Value}{Q:Value->Shared->Prop}(hh:A.handled=none)(a:s.heap.IsTupleIter it t k)(b:s.heap.IsTuple t its)(hx:its[k]?=none)
  (q:∀h' e,Heap.ExtBut it s.heap h'->(∃o,h'.get? e=some o/\o.cls = .type "StopIteration")->E (.ref e) {s with heap:=h'}):wpAny (model prog w) A (Builtin.SmallTypes.nextOf (.ref it)) Q E s:=by
 apply N2 a b
 obtain⟨o,g,c,d⟩:=a
 rw[hx]
 apply A5
 apply wpAny_rule
 apply A5
 apply KM g d (by simp)
 have h1:A.in1.handled=none:=hh
 wp_walk
 unfold raiseNew
 apply A5
 apply wpAny_handled
 rw[h1]
 show wpAny _ _ (throw _) _ _ _
 apply wpAny_throw
 exact q _ _ (((Mg ..).extBut.push _).push _) ⟨_,BV _ rfl,rfl⟩
theorem Hk (hh:A.handled=none)(it t:Addr)(ne:t≠it)(its:Array Value):Draws prog w A it [it,t] its.size (fun i v=>its[i]?=some v) (fun i h=>h.IsTupleIter it t i/\h.IsTuple t its) where
 live:=fun _ _ ⟨⟨o,g,_⟩,_⟩=>⟨o,g⟩
 frame:=fun _ _ _ ⟨⟨o,g,r⟩,⟨o2,g2,r2⟩⟩ k=>⟨⟨o,k it (by simp) o g,r⟩,⟨o2,k t (by simp) o2 g2,r2⟩⟩
 item:=fun i s Q E lt ⟨a,b⟩ q=>Qb a b (Py lt) fun h' a' sb=>q _ h' s.toks (Py lt) ⟨a',b.extBut sb.extBut ne⟩ sb
 done:=fun s Q E ⟨a,b⟩ q=>VS hh a b (by simp) q
end
structure ZA (z TI TO i1 i2:Addr)(f g:List Addr):Prop where
 zf:z∉f
 zg:z∉g
 of:TO∉f
 og:TO∉g
 nf:i2∉f
 ng:i1∉g
 Iz:TI≠z
 Oz:TO≠z
 az:i1≠z
 bz:i2≠z
 IO:TI≠TO
 Ia:TI≠i1
 Ib:TI≠i2
 Oa:TO≠i1
 Ob:TO≠i2
theorem mv {prog:Program}{w:World}{A:Around}{it:Addr}{f:List Addr}{n:Nat}{P:Nat->Value->Prop}{S:Nat->Heap->Prop}(D:Draws prog w A it f n P S){k:Nat}{h h':Heap}{a:Addr}(st:S k h)(b:Heap.ExtBut a h h')(na:a∉f):S k h':=
 D.frame k h h' st fun c hc o e=>b c o (fun q=>na (q▸hc)) e
section
variable {prog:Program}{w:World}{A:Around}{E:Value->Shared->Prop}{s:Shared}
theorem Rf {z TI TO i1 i2:Addr}{f g:List Addr}{m n k:Nat}{P R:Nat->Value->Prop}{S T:Nat->Heap->Prop}(Z:ZA z TI TO i1 i2 f g)(D1:Draws prog w A i1 f m P S)(D2:Draws prog w A i2 g n R T){a b:Value}{Q:Value->Shared->Prop}
  (hz:IsZip s.heap z TI TO .none) (hI:IsPair s.heap TI (.ref i1) (.ref i2)) (hO:IsPair s.heap TO a b) (s1:S k s.heap) (s2:T k s.heap) (le1:k<=m) (le2:k<=n)
  (q:k<m->k<n->∀x y h' tk,P k x->R k y->IsZip h' z TI TO (rawInt s.heap.objs.size)->IsPair h' TO x y->S (k+1) h'->T (k+1) h'->IsPair h' s.heap.objs.size x y->
   (∀c o,c≠z->c≠TO->c≠i1->c≠i2->s.heap.get? c=some o->h'.get? c=some o)->Q (.ref s.heap.objs.size) {s with heap:=h',toks:=tk})
  (qe:(k=m\/k=n)->∀h' e tk,(∀c o,c≠z->c≠TO->c≠i1->c≠i2->s.heap.get? c=some o->h'.get? c=some o)->(∃o,h'.get? e=some o/\o.cls = .type "StopIteration")->E (.ref e) {s with heap:=h',toks:=tk}) :
  wpAny (model prog w) A (Builtin.«zip.__next__» ⟨[.ref z],[]⟩) (fun fin s'=>∃v,fin = .done (.ret v)/\Q v s') E s:=by
 change wpAny _ _ (field (.ref z) 2>>=_) _ _ _
 apply A5
 apply Dj hz rfl (x:=.bool false) rfl
 change wpAny _ _ (field (.ref z) 3>>=_) _ _ _
 apply A5
 apply Dj hz rfl (x:=.ref TI) rfl
 apply A5
 apply Hx hI rfl
 change wpAny _ _ (Builtin.SmallTypes.ownedTupleIsFree (.ref z)>>=_) _ _ _
 apply A5
 unfold Builtin.SmallTypes.ownedTupleIsFree
 apply A5
 apply Dj hz rfl (x:=.none) rfl
 apply Al
 simp only[FZ]
 apply A5
 apply wpAny_rule
 apply A5
 apply Dj hz rfl (x:=.ref TO) rfl
 apply A5
 apply Hy hz (by simp)
 intro hA zA bA
 have zA':IsZip hA z TI TO .ellipsis:=zA
 clear zA
 have oA:IsPair hA TO a b:=bA.extBut _ _ Z.Oz hO
 have sA:=mv D1 s1 bA.extBut Z.zf
 have tA:=mv D2 s2 bA.extBut Z.zg
 apply A5
 simp only[List.zipIdx_cons,List.zipIdx_nil,Me,List.forIn_nil]
 apply A5
 apply A5
 apply wpAny_onRaise
 change wpAny _ _ (Builtin.SmallTypes.nextOf (.ref i1)>>=_) _ _ _
 apply A5
 rcases Mh le1 with l1|rfl
 rotate_left
 .apply D1.done _ _ _ sA
  rintro h' e kp ⟨o,ge,ce⟩
  have z':IsZip h' z TI TO .ellipsis:=kp _ _ Z.az.symm zA'
  have ne:e≠z:=fun q=>by subst q;rw[z']at ge;cases ge;simp at ce
  apply Hy z' (by simp)
  intro h2 _ b2
  exact qe (.inl rfl) h2 e s.toks (fun c o c1 _ c3 _ x=>b2.extBut _ _ c1 (kp _ _ c3 (bA.extBut _ _ c1 x))) ⟨o,b2.extBut _ _ ne ge,ce⟩
 apply D1.item k _ _ _ l1 sA
 intro x hB t1 px sB bB
 apply Al
 have oB:IsPair hB TO a b:=bB.extBut _ _ Z.Oa oA
 have zB:IsZip hB z TI TO .ellipsis:=bB.extBut _ _ Z.az.symm zA'
 have tB:=mv D2 tA bB.extBut Z.ng
 apply A5
 apply Hx oB rfl
 apply A5
 apply wpAny_updateSeq_pair oB
 intro hC oC bC
 have oC':IsPair hC TO x b:=oC
 clear oC
 have zC:IsZip hC z TI TO .ellipsis:=bC.extBut _ _ Z.Oz.symm zB
 have sC:=mv D1 sB bC.extBut Z.of
 have tC:=mv D2 tB bC.extBut Z.og
 apply A5
 apply wpAny_letGo
 apply Al
 apply A5
 apply A5
 apply wpAny_onRaise
 change wpAny _ _ (Builtin.SmallTypes.nextOf (.ref i2)>>=_) _ _ _
 apply A5
 have upC:∀c o,c≠z->c≠TO->c≠i1->s.heap.get? c=some o->hC.get? c=some o:=fun c o c1 c2 c3 e=>bC.extBut _ _ c2 (bB.extBut _ _ c3 (bA.extBut _ _ c1 e))
 rcases Mh le2 with l2|rfl
 rotate_left
 .apply D2.done _ _ _ tC
  rintro h' e kp ⟨o,ge,ce⟩
  have z':IsZip h' z TI TO .ellipsis:=kp _ _ Z.bz.symm zC
  have ne:e≠z:=fun q=>by subst q;rw[z']at ge;cases ge;simp at ce
  apply Hy z' (by simp)
  intro h2 _ b2
  exact qe (.inr rfl) h2 e t1 (fun c o c1 c2 c3 c4 x=>b2.extBut _ _ c1 (kp _ _ c4 (upC c o c1 c2 c3 x))) ⟨o,b2.extBut _ _ ne ge,ce⟩
 apply D2.item k _ _ _ l2 tC
 intro y hD t2 py tD bD
 apply Al
 have oD:IsPair hD TO x b:=bD.extBut _ _ Z.Ob oC'
 have zD:IsZip hD z TI TO .ellipsis:=bD.extBut _ _ Z.bz.symm zC
 have sD:=mv D1 sC bD.extBut Z.nf
 apply A5
 apply Hx oD rfl
 apply A5
 apply wpAny_updateSeq_pair oD
 intro hE oE bE
 have oE':IsPair hE TO x y:=oE
 clear oE
 have zE:IsZip hE z TI TO .ellipsis:=bE.extBut _ _ Z.Oz.symm zD
 have sE:=mv D1 sD bE.extBut Z.of
 have tE:=mv D2 tD bE.extBut Z.og
 have upE:∀c o,c≠z->c≠TO->c≠i1->c≠i2->s.heap.get? c=some o->hE.get? c=some o:=fun c o c1 c2 c3 c4 e=>bE.extBut _ _ c2 (bD.extBut _ _ c4 (upC c o c1 c2 c3 e))
 have sz:hE.objs.size=s.heap.objs.size:=by rw[bE.1,bD.1,bC.1,bB.1,bA.1]
 apply A5
 apply wpAny_letGo
 apply Al
 apply Al
 apply A5
 apply Hx oE' rfl
 apply A5
 refine wpAny_newTuple ?_
 change wpAny _ _ (Builtin.SmallTypes.ownedTupleHandOut (.ref z) (.ref hE.objs.size)>>=_) _ _ _
 apply A5
 unfold Builtin.SmallTypes.ownedTupleHandOut
 have zF:IsZip (hE.push {cls:=.type "tuple",data:=.seq #[x,y]}) z TI TO .ellipsis:=AI _ zE
 have pF:IsPair (hE.push {cls:=.type "tuple",data:=.seq #[x,y]}) hE.objs.size x y:=BV _ rfl
 apply A5
 apply Hy zF (by simp)
 intro hG zG bG
 have zG':IsZip hG z TI TO (rawInt hE.objs.size):=zG
 clear zG
 apply Hy zG' (by simp)
 intro hH zH bH
 have zH':IsZip hH z TI TO (rawInt hE.objs.size):=zH
 clear zH
 have far:hE.objs.size≠z:=D8 (AD zE)
 have up:Heap.ExtBut z hE hH:=fun c o c1 e=>bH.extBut _ _ c1 (bG.extBut _ _ c1 (AI _ e))
 have pH:IsPair hH hE.objs.size x y:=bH.extBut _ _ far (bG.extBut _ _ far pF)
 apply Al
 refine⟨_,rfl,?_⟩
 have:=q l1 l2 x y hH t2 px py (by rw[←sz];exact zH') (up _ _ Z.Oz oE') (mv D1 sE up Z.zf) (mv D2 tE up Z.zg) (by rw[←sz];exact pH) fun c o c1 c2 c3 c4 e=>up c o c1 (upE c o c1 c2 c3 c4 e)
 rw[←sz]at this
 exact this
theorem LO {z TI TO i1 i2:Addr}{f g:List Addr}{m n k:Nat}{P R:Nat->Value->Prop}{S T:Nat->Heap->Prop}(Z:ZA z TI TO i1 i2 f g)(D1:Draws prog w A.in1 i1 f m P S)(D2:Draws prog w A.in1 i2 g n R T){a b:Value}{Q:Option Value->Shared->Prop}
  (hz:IsZip s.heap z TI TO .none) (hI:IsPair s.heap TI (.ref i1) (.ref i2)) (hO:IsPair s.heap TO a b) (s1:S k s.heap) (s2:T k s.heap) (le1:k<=m) (le2:k<=n)
  (q:k<m->k<n->∀x y h' tk,P k x->R k y->IsZip h' z TI TO (rawInt s.heap.objs.size)->IsPair h' TO x y->S (k+1) h'->T (k+1) h'->IsPair h' s.heap.objs.size x y->
   (∀c o,c≠z->c≠TO->c≠i1->c≠i2->s.heap.get? c=some o->h'.get? c=some o)->Q (some (.ref s.heap.objs.size)) {s with heap:=h',toks:=tk})
  (qe:(k=m\/k=n)->∀h' tk,(∀c o,c≠z->c≠TO->c≠i1->c≠i2->s.heap.get? c=some o->h'.get? c=some o)->Q none {s with heap:=h',toks:=tk}) :
  wpAny (model prog w) A (pyNext (.ref z)) Q E s:=by
 have ty:s.TypeIs (.ref z) "zip":=⟨_,hz,rfl⟩
 unfold pyNext
 apply A5
 apply KN
 apply wpAny_callSpecial?_slot (name:=Str.ofString "__next__") ty F.slot_zip_next
 refine Hw F.slot_zip_next ty F.entry_zip_next (Rf Z D1 D2 hz hI hO s1 s2 le1 le2 ?_ ?_) (F.args_zip_next_1 _)
 .intro l1 l2 x y h' tk a1 a2 a3 a4 a5 a6 a7 a8
  exact Al (q l1 l2 x y h' tk a1 a2 a3 a4 a5 a6 a7 a8)
 .rintro l h' e tk kp ⟨o,ge,ce⟩
  exact A5 (PQ (T:="StopIteration") (b:=true) ⟨o,ge,ce⟩ isSubtype_stop (Al (qe l h' tk kp)))
end
def IM (K:XJ)(a b:Addr):It:=
 ⟨fun i H=>∃xs ys x y,A8 K H a xs/\A8 K H b ys/\xs[i]?=some x/\ys[i]?=some y,fun i H v H'=>∃x y T,(∀xs,A8 K H a xs->xs[i]?=some x)/\(∀ys,A8 K H b ys->ys[i]?=some y)/\H T=none/\v = .ref T/\H'=upd H T (.tup [x,y]),
  fun i H=>∃xs ys,A8 K H a xs/\A8 K H b ys/\i<=xs.length/\i<=ys.length/\(i=xs.length\/i=ys.length)⟩
theorem Q3 {P:Program}{w:World}{K:XJ}{elts:List Expr}{x1:Nat}{pos:Pos}(a b z TI TO i1 i2:Addr)(D:ZA z TI TO i1 i2 [i1,a] [i2,b])(na:a≠i1)(nb:b≠i2) :
  IC P w K (.Tuple elts x1 pos) (IM K a b) [z,TI,TO,i1,i2] z (fun i h=>IsZip h z TI TO .none/\IsPair h TI (.ref i1) (.ref i2)/\(∃p q,IsPair h TO p q)/\h.IsTupleIter i1 a i/\h.IsTupleIter i2 b i) where
 mem:=by simp
 obj:=fun i h st c hc=>by
  obtain⟨hz,hTI,⟨p,q,hTO⟩,h1,h2⟩:=st
  simp only[AE,CY,or_false]at hc
  rcases hc with rfl|rfl|rfl|rfl|rfl
  .exact⟨_,hz,fun v z=>by cases z⟩
  .exact⟨_,hTI,fun v z=>by cases z⟩
  .exact⟨_,hTO,fun v z=>by cases z⟩
  .obtain⟨o,e,c,d⟩:=h1
   exact⟨o,e,fun v z=>by rw[d]at z;cases z⟩
  .obtain⟨o,e,c,d⟩:=h2
   exact⟨o,e,fun v z=>by rw[d]at z;cases z⟩
 keep:=fun i h h' st k=>by
  obtain⟨hz,hTI,⟨p,q,hTO⟩,h1,h2⟩:=st
  exact⟨k z (by simp) _ hz,k TI (by simp) _ hTI,⟨p,q,k TO (by simp) _ hTO⟩,h1.at fun o e=>k i1 (by simp) o e,h2.at fun o e=>k i2 (by simp) o e⟩
 item:=by
  intro X hP hw hK hc i pins s σ H E I hf st hg
  subst hP hw hK
  obtain⟨xs,ys,x,y,hq1,hq2,hx,hy⟩:=hg
  obtain⟨its1,rv1,p1,_⟩:=I.tuple hq1
  obtain⟨its2,rv2,p2,_⟩:=I.tuple hq2
  obtain⟨hz,hTI,⟨pa,qa,hTO⟩,h1,h2⟩:=st
  have p1':s.heap.IsTuple a its1.toArray:=p1
  have p2':s.heap.IsTuple b its2.toArray:=p2
  have l1:=rv1.length
  have l2:=rv2.length
  obtain⟨b1,_⟩:=BR.1 hx
  obtain⟨b2,_⟩:=BR.1 hy
  have hn:X.A.in1.handled=none:=I.ok.hd hc
  have d1:=Hk (prog:=X.prog) (w:=X.w) hn i1 a na its1.toArray
  have d2:=Hk (prog:=X.prog) (w:=X.w) hn i2 b nb its2.toArray
  refine LO (k:=i) D d1 d2 hz hTI hTO ⟨h1,p1'⟩ ⟨h2,p2'⟩ (by simp;omega) (by simp;omega) (fun _ _ u v hh tk hu hv hz' hTO' h1' h2' hT hk=>⟨_,rfl,?_⟩) fun q=>absurd q (by simp;omega)
  obtain⟨u',hu',ru⟩:=rv1.get hx
  obtain⟨v',hv',rv⟩:=rv2.get hy
  have eu:u'=u:=by simpa[hu'] using hu
  have ev:v'=v:=by simpa[hv'] using hv
  subst eu ev
  refine wpAny_letOwnedTupleGo_zip hz' fun h3 hz3 hs3=>?_
  have hTn:H s.heap.objs.size=none:=I.hok.fresh (An _)
  have lts:∀c∈[z,TI,TO,i1,i2],c<s.heap.objs.size:=fun c hc=>by
   simp only[AE,CY,or_false]at hc
   rcases hc with rfl|rfl|rfl|rfl|rfl
   .exact AD hz
   .exact AD hTI
   .exact AD hTO
   .obtain⟨_,e,_⟩:=h1;exact AD e
   .obtain⟨_,e,_⟩:=h2;exact AD e
  have I1:A2 X pins σ (upd H s.heap.objs.size (.tup [x,y])) {s with heap:=s.heap.push {cls:=.type "tuple",data:=.seq #[u',v']}}:=I.laid (t':=s.toks) (o:=.tup [x,y]) (fun b o e=>AI _ e) (An _) ⟨Ar rfl,[u',v'],.cons ru (.cons rv .nil),EH.new _ _⟩
  have I2:A2 X pins σ (upd H s.heap.objs.size (.tup [x,y])) {s with heap:=h3,toks:=tk}:=by
   refine A2.turnedL (s:={s with heap:=s.heap.push {cls:=.type "tuple",data:=.seq #[u',v']}}) (h':=h3) (ch:=[z,TI,TO,i1,i2]) (t':=tk) I1 (fun b o hb q=>?_) (fun b hb=>?_)
   .simp only[AE,CY,or_false,not_or]at hb
    obtain⟨n1,n2,n3,n4,n5⟩:=hb
    show h3.get? b=some o
    rw[hs3.2 b n1]
    rcases Heap.get?_push_cases q with⟨rfl,rfl⟩|q
    .exact hT
    .exact hk b o n1 n3 n4 n5 q
   .obtain⟨f0,f1,f2,f3,f4,f5⟩:=hf b hb
    exact⟨by rw[Ag (Br (lts b hb))];exact f0,f1,f2,f3,f4,f5⟩
  have k3:∀c,c≠z->∀o,hh.get? c=some o->h3.get? c=some o:=fun c hc o e=>(hs3.2 c hc).trans e
  refine⟨.ref s.heap.objs.size,_,I2,rfl,⟨x,y,_,fun zs hy=>by rw[I.tuple_inj hy hq1];exact hx,fun zs hy'=>by rw[I.tuple_inj hy' hq2];exact hy,hTn,rfl,rfl⟩,⟨hz3,k3 TI D.Iz _ (hk TI _ D.Iz D.IO D.Ia D.Ib hTI),⟨u',v',k3 TO D.Oz _ hTO'⟩,h1'.1.at (k3 i1 D.az),h2'.1.at (k3 i2 D.bz)⟩,fun b hb=>?_⟩
  rw[Ag (Br (lts b hb))]
  exact(hf b hb).1
 done:=by
  intro X hP hw hK hc i pins s σ H E I hf st hg
  subst hP hw hK
  obtain⟨xs,ys,hq1,hq2,b1,b2,hl⟩:=hg
  obtain⟨its1,rv1,p1,_⟩:=I.tuple hq1
  obtain⟨its2,rv2,p2,_⟩:=I.tuple hq2
  obtain⟨hz,hTI,⟨pa,qa,hTO⟩,h1,h2⟩:=st
  have p1':s.heap.IsTuple a its1.toArray:=p1
  have p2':s.heap.IsTuple b its2.toArray:=p2
  have l1:=rv1.length
  have l2:=rv2.length
  have hn:X.A.in1.handled=none:=I.ok.hd hc
  have d1:=Hk (prog:=X.prog) (w:=X.w) hn i1 a na its1.toArray
  have d2:=Hk (prog:=X.prog) (w:=X.w) hn i2 b nb its2.toArray
  refine LO (k:=i) D d1 d2 hz hTI hTO ⟨h1,p1'⟩ ⟨h2,p2'⟩ (by simp;omega) (by simp;omega) (fun e1 e2=>absurd e2 (by simp at e1 ⊢;omega)) fun _ h' tk hk=>⟨rfl,?_⟩
  refine I.turnedL (ch:=[z,TI,TO,i1,i2]) (t':=tk) (fun b o hb q=>?_) hf
  simp only[AE,CY,or_false,not_or]at hb
  obtain⟨n1,n2,n3,n4,n5⟩:=hb
  exact hk b o n1 n3 n4 n5 q
 self:=fun _ _ _ _ _ st h=>by
  obtain⟨hz,_⟩:=st
  exact PR hz h
theorem Ov (a b:Addr)(xs ys:Array Value) :
  Meets (Builtin.«zip.__new__» ⟨[.type "zip",.ref a,.ref b],[]⟩) (fun _ R s=>s.heap.IsTuple a xs/\s.heap.IsTuple b ys/\
   ∀h',IsZip h' (s.heap.objs.size+4) (s.heap.objs.size+2) (s.heap.objs.size+3) .none->IsPair h' (s.heap.objs.size+2) (.ref s.heap.objs.size) (.ref (s.heap.objs.size+1))->IsPair h' (s.heap.objs.size+3) .none .none->
    h'.IsTupleIter s.heap.objs.size a 0->h'.IsTupleIter (s.heap.objs.size+1) b 0->(∀c o,s.heap.get? c=some o->h'.get? c=some o)->R (.ok (.ret (.ref (s.heap.objs.size+4)))) {s with heap:=h'}):=
 .of_wp fun prog w A R s h=>by
  obtain⟨hp,g,d,tk,os⟩:=s
  obtain⟨t1,t2,h⟩:=h
  have hs:=sub_zip
  have u1:Heap.IsTuple (Shared.heap ⟨hp,g,d,tk,os⟩) a xs:=t1
  have u2:Heap.IsTuple (Shared.heap ⟨hp.push {cls:=.type "tuple_iterator",data:=.fields #[.ref a,.int 0 0]},g,d,tk,os⟩) b ys:=Heap.IsTuple.push t2 _
  wp_walk using PM u1,PM u2
  refine⟨_,rfl,?_⟩
  have key:∀(n1 n2 n3 n4:Nat) (h':Heap),n1=hp.objs.size+1->n2=hp.objs.size+2->n3=hp.objs.size+3->n4=hp.objs.size+4->IsZip h' n4 n2 n3 .none->IsPair h' n2 (.ref hp.objs.size) (.ref n1)->IsPair h' n3 .none .none->
    h'.IsTupleIter hp.objs.size a 0->h'.IsTupleIter n1 b 0->(∀c o,hp.get? c=some o->h'.get? c=some o)->R (.ok (.ret (.ref n4))) ⟨h',g,d,tk,os⟩:=by
   rintro _ _ _ _ h' rfl rfl rfl rfl
   exact h h'
  refine key (hp.push {cls:=.type "tuple_iterator",data:=.fields #[.ref a,.int 0 0]}).objs.size _ _ _ _ ?e1 ?e2 ?e3 ?e4 (BV _ rfl) ?g5 ?g6 ?g7 ?g8 ?g9
  case g5=>exact AI _ (AI _ (BV _ rfl))
  case g6=>exact AI _ (BV _ rfl)
  case g7=>exact⟨_,AI _ (AI _ (AI _ (AI _ (BV _ rfl)))),rfl,rfl⟩
  case g8=>exact⟨_,AI _ (AI _ (AI _ (BV _ rfl))),rfl,rfl⟩
  case g9=>exact fun c o e=>AI _ (AI _ (AI _ (AI _ (AI _ e))))
  all_goals simp only[Ho]
def QR (K:XJ)(ta:TA):TI:=fun σ H R=>ta σ H fun vs H1=>∃a b:Addr,vs=[.ref a,.ref b]/\(∃xs,A8 K H1 a xs)/\(∃ys,A8 K H1 b ys)/\R (IM K a b) H1
theorem Re {X:Cx}{a b:Expr}{ta:TA}{p pos:Pos}{elts:List Expr}{x1:Nat}{pos2:Pos}(hg:Gl X "zip")(hm:X.mg "zip"=none)(ha:PA X [a,b] ta)(hs:starEach [a,b] X.env=[(false,eval a X.env),(false,eval b X.env)]:=by rfl)(hs2:starEach [b] X.env=[(false,eval b X.env)]:=by rfl) :
  PI X (.Tuple elts x1 pos2) (.Call (.Name "zip" p) [a,b] [] pos) (QR X.K ta):=by
 intro pins s σ H R I h
 refine Call_ (En I hg hm boot_zip (FS (As (ha pos pins s σ H _ I h) fun us s1 ⟨vs,H1,I1,r1,q1⟩=>?_) (by rw[hs,hs2]) (by rw[hs2];rfl)))
 obtain⟨l1,l2,rfl,⟨xs,hq1⟩,⟨ys,hq2⟩,q⟩:=q1
 cases r1 with
 |
  cons r rr=>
  cases rr with
  |
   cons r' rr=>
   cases rr
   cases r
   cases r'
   obtain⟨its1,rv1,p1,_⟩:=I1.tuple hq1
   obtain⟨its2,rv2,p2,_⟩:=I1.tuple hq2
   have lt1:l1<s1.heap.objs.size:=p1.lt
   have lt2:l2<s1.heap.objs.size:=p2.lt
   refine callType_new F.called_zip (by decide) (F.typeCall_zip_2 _ _) (F.newCall_zip_2 _ _) (fun obj=>F.args_object_init_3 obj _ _) F.entry_zip_new (Ov l1 l2 its1.toArray its2.toArray) ⟨p1,p2,fun h' hz hTI hTO h1 h2 hk=>⟨⟨_,hz,rfl⟩,?_⟩⟩
   refine PR hz ?_
   refine⟨_,[s1.heap.objs.size+4,s1.heap.objs.size+2,s1.heap.objs.size+3,s1.heap.objs.size,s1.heap.objs.size+1],_,_,H1,rfl,I1.kept (t':=s1.toks) hk,Q3 l1 l2 _ _ _ _ _ ⟨?_,?_,?_,?_,?_,?_,?_,?_,?_,?_,?_,?_,?_,?_,?_⟩ ?_ ?_,⟨hz,hTI,⟨_,_,hTO⟩,h1,h2⟩,fun b hb=>?_,q⟩
   case refine_18=>
    simp only[AE,CY,or_false]at hb
    have hb':s1.heap.objs.size<=b:=by
     rcases hb with rfl|rfl|rfl|rfl|rfl
     .exact DA _ 4
     .exact DA _ 2
     .exact DA _ 3
     .exact An _
     .exact DA _ 1
    exact I1.fpOk hb' (I1.hok.fresh hb')
   all_goals first
    |exact Br lt1
    |exact Br (BE lt2 (DA _ _))
    |(show(_:Nat)≠_;omega)
    |(
      simp only[AE,CY,or_false,not_or]
      exact⟨by show(_:Nat)≠_;omega,by first
       |exact D8 lt1
       |exact D8 lt2
       |exact D8 (BE lt1 (DA _ _))
       |exact D8 (BE lt2 (DA _ _))⟩)
def Sq:R2:=fun x y H Q=>∃(a b:Addr) (xs ys:List V),x = .ref a/\y = .ref b/\H a=some (.tup xs)/\H b=some (.tup ys)/\xs.length+ys.length<=sizeLine/\∀(p:Addr) (H':Hp),Aa H H'->H' p=some (.tup (xs++ys))->Q (.ref p) H'
theorem LM {X:Cx}:BP X (binaryOp .Add) Sq:=by
 intro pins s σ H x y v u Q I rx ry h
 obtain⟨a,b,xs,ys,rfl,rfl,ha,hb,hz,q⟩:=h
 by_cases c:xs=[]
 .subst c
  cases rx
  cases ry
  obtain⟨its,r1,p1,_⟩:=I.tuple (A8.of ha)
  obtain⟨its2,r2,p2,_⟩:=I.tuple (A8.of hb)
  obtain⟨⟨cls,dd,data,sl⟩,ho,hc,n,hd⟩:=id p1
  obtain⟨⟨cls2,dd2,data2,sl2⟩,ho2,hc2,n2,hd2⟩:=id p2
  simp only at hc hd hc2 hd2
  subst hc hd hc2 hd2
  have e:its=[]:=r1.nil_iff.mpr rfl
  exact concat_meets ⟨_,ho,rfl⟩ ⟨_,ho2,rfl⟩ PN seq_tuple_add Po Pq (Pr _ _)
   (tuple_addW0 a b its.toArray its2.toArray n n2 dd dd2 sl sl2 (by simp[e])) ⟨ho,ho2,.ref b,H,I,rfl,q b H (Aa.refl _) hb⟩
 .refine Rw pins s σ H (.ref a) (.ref b) v u Q I rx ry ⟨a,b,xs,ys,rfl,rfl,A8.of ha,A8.of hb,c,hz,fun z=>?_,fun z p hp=>?_⟩
  .subst z
   exact q a H (Aa.refl _) (by rw[DT];exact ha)
  .exact q p _ (Ab hp _) A6
end L2
namespace Fo
variable {W L:Type}
section
variable (hdr:Nat->Bool->W->L)(dl:Nat->Int->List (Int×Int)->L)
end
end Fo
namespace Fo
variable {W L:Type}
end Fo
namespace L2
open PySem PySem.Spec PyProof.Rows
def Ay {α:Type}(R:V->α->Prop)(xs:List V)(as:List α):Prop:=xs.length=as.length/\∀(i:Nat) (x:V) (a:α),xs[i]?=some x->as[i]?=some a->R x a
theorem Ay.nil {α:Type}{R:V->α->Prop}:Ay R [] []:=⟨rfl,fun i x a h=>by simp at h⟩
theorem Ay.mono {α:Type}{R S:V->α->Prop}{xs:List V}{as:List α}(h:Ay R xs as)(m:∀x a,R x a->S x a):Ay S xs as:=⟨h.1,fun i x a p q=>m _ _ (h.2 i x a p q)⟩
theorem Ay.get {α:Type}{R:V->α->Prop}{xs:List V}{as:List α}{i:Nat}{a:α}(h:Ay R xs as)(ha:as[i]?=some a):∃x,xs[i]?=some x/\R x a:=by
 have hi:i<xs.length:=by rw[h.1];exact(BR.mp ha).1
 exact⟨_,Be hi,h.2 i _ a (Be hi) ha⟩
theorem Ay.get' {α:Type}{R:V->α->Prop}{xs:List V}{as:List α}{i:Nat}{x:V}(h:Ay R xs as)(hx:xs[i]?=some x):∃a,as[i]?=some a/\R x a:=by
 have hi:i<as.length:=by rw[←h.1];exact(BR.mp hx).1
 exact⟨_,Be hi,h.2 i x _ hx (Be hi)⟩
theorem Ay.app {α:Type}{R:V->α->Prop}{xs ys:List V}{as bs:List α}(h:Ay R xs as)(g:Ay R ys bs):Ay R (xs++ys) (as++bs):=by
 refine⟨by rw[Ac,Ac,h.1,g.1],fun i x a p q=>?_⟩
 by_cases l:i<xs.length
 .rw[Fj l]at p
  rw[Fj (by rw[←h.1];exact l)]at q
  exact h.2 i x a p q
 .rw[DU (by omega)]at p
  rw[DU (by have:=h.1;omega)]at q
  rw[h.1]at p
  exact g.2 _ x a p q
theorem Ay.one {α:Type}{R:V->α->Prop}{x:V}{a:α}(h:R x a):Ay R [x] [a]:=⟨rfl,fun i y b p q=>by
 cases i with
 |zero=>cases p;cases q;exact h
 |succ i=>simp at p⟩
theorem Ay.snoc {α:Type}{R:V->α->Prop}{xs:List V}{as:List α}{x:V}{a:α}(h:Ay R xs as)(g:R x a):Ay R (xs++[x]) (as++[a]):=h.app (.one g)
theorem Ay.cons {α:Type}{R:V->α->Prop}{xs:List V}{as:List α}{x:V}{a:α}(g:R x a)(h:Ay R xs as):Ay R (x::xs) (a::as):=Ay.app (.one g) h
theorem Ay.take {α:Type}{R:V->α->Prop}{xs:List V}{as:List α}(h:Ay R xs as)(n:Nat):Ay R (xs.take n) (as.take n):=⟨by rw[BG,BG,h.1],fun i x a p q=>by
 by_cases l:i<n
 .rw[IV l]at p q
  exact h.2 _ x a p q
 .rw[List.getElem?_take_eq_none (by omega)]at p
  cases p⟩
def TK (H H':Hp):Prop := ∀(b:Addr) (xs:List V),H b=some (.tup xs)->H' b=some (.tup xs)
theorem Aa.tk {H H':Hp}(e:Aa H H'):TK H H':=fun b xs h=>e b _ h
theorem TK.upd {H:Hp}{l:Addr}{xs:List V}{o:HO}(hl:H l=some (.lst xs)):TK H (upd H l o):=fun b ys hb=>by
 rw[Ag (Jl hb hl (by intro z;cases z))]
 exact hb
def ME (t:TE):Prop := ∀(σ:St) (H:Hp) (Q Q':VK),(∀v H1,Q v H1->Q' v H1)->t σ H Q->t σ H Q'
def MT (t:TT):Prop := ∀σ H Q Q',(∀b H1,Q b H1->Q' b H1)->t σ H Q->t σ H Q'
def MR (r:R2):Prop := ∀(x y:V) (H:Hp) (Q Q':VK),(∀v H1,Q v H1->Q' v H1)->r x y H Q->r x y H Q'
theorem ME.var (i:Nat):ME (L7 i):=fun σ H Q Q' hq ⟨v,h,k⟩=>⟨v,h,hq _ _ k⟩
theorem ME.op {r:R2}{a b:TE}(hr:MR r)(ha:ME a)(hb:ME b):ME (Iw r a b):=fun σ H Q Q' hq h=>ha _ _ _ _ (fun x H1 k=>hb _ _ _ _ (fun y H2 k=>hr _ _ _ _ _ hq k) k) h
theorem MT.test {t:TE}(h:ME t):MT (OZ t):=fun σ H Q Q' hq k=>h _ _ _ _ (fun x H1 ⟨b,e,m⟩=>⟨b,e,hq _ _ m⟩) k
theorem MR.i0 (g:Int->Int->V):MR (Fy g):=fun x y H Q Q' hq ⟨i,j,a,b,d⟩=>⟨i,j,a,b,hq _ _ d⟩
theorem NO {v:V}{i:Nat}{b:TS}{D:CI}{σ:St}{H:Hp}(h:b D (σ.set i (some v)) H):IH (Iq (tC v) (Am i)) b D σ H:=h
end L2
namespace HT
open PySem PySem.Spec PyProof.Rows L2
section
variable {prog:Program}{w:World}{A:Around}{E:Value->Shared->Prop}{s:Shared}
theorem getItem_tuple_all {t sl:Addr}{items:Array Value}{vl vu:Value}{lo hi:Option Int}{Q:Value->Shared->Prop}(ht:IsTup s.heap t items)(hs:s.heap.IsSliceOf sl vl vu .none)(pl:IsPart vl lo)(pu:IsPart vu hi)
  (hw:sIx items.size 0 lo=0/\sIx items.size items.size hi=items.size) (h:Q (.ref t) s):wpAny (model prog w) A (getItem (.ref t) (.ref sl)) Q E s:=by
 obtain⟨os,hos,hcs,hds⟩:=id hs
 have hTs:s.TypeIs (.ref sl) "slice":=⟨os,hos,hcs⟩
 unfold getItem
 try with_reducible refine EY ?_
 first|refine A5 (Al ?_)|skip
 refine A5 (wpAny_sequenceKey ht.typeIs (by decide) ?_)
 refine A5 (wpAny_callSpecial?_slot (name:=Str.ofString "__getitem__") ht.typeIs Ma
  (Hw Ma ht.typeIs entry_tuple_getitem ?_ (args_tuple_getitem _ _)))
 show wpAny _ _ (Builtin.Tuple.tupleItemsOf (.ref t)>>=_) _ _ s
 refine A5 (tupleItemsOf_ ht ?_)
 refine A5 (KJ hTs ?_)
 rw[Ah (by decide)]
 refine A5 (NW hs pl pu ?_)
 have hyes:(((sIx items.size 0 lo:Nat):Int)==0&&(1:Int)==1&&(sIx items.size items.size hi-sIx items.size 0 lo)==items.size)=true:=by
  rw[hw.1,hw.2]
  simp
 show wpAny _ _ (if(((sIx items.size 0 lo:Nat):Int)==0&&(1:Int)==1&&(sIx items.size items.size hi-sIx items.size 0 lo)==items.size)=true then _ else _) _ _ s
 rw[Ah hyes]
 show wpAny _ _ (Builtin.Tuple.tupleIsExact (.ref t)>>=_) _ _ s
 unfold Builtin.Tuple.tupleIsExact
 refine A5 (A5 (KJ ht.typeIs (Al ?_)))
 rw[Ah (by decide)]
 wp_walk
 first
  |exact⟨_,rfl,Al h⟩
  |exact Al ⟨_,rfl,Al h⟩
end
end HT
namespace L2
open PySem PySem.Spec PyProof.Rows
def Xx:V->Option Int->Option Int->Hp->VK->Prop:=fun x lo hi H Q=>∃(a:Addr) (xs:List V),x = .ref a/\H a=some (.tup xs)/\∀(p:Addr) (H':Hp),Aa H H'->H' p=some (.tup (Cv xs lo hi))->Q (.ref p) H'
theorem K2 {X:Cx}:HM X Xx:=by
 intro pins s σ H x v vl vu lo hi sl Q I rx hs pl pu h
 obtain⟨a,xs,rfl,ha,q⟩:=h
 by_cases c:HT.sIx xs.length 0 lo=0/\HT.sIx xs.length xs.length hi=xs.length
 .cases rx
  obtain⟨its,r,ht,hz⟩:=I.tuple (A8.of ha)
  have hlen:its.toArray.size=xs.length:=by rw[B5];exact r.length.symm
  refine⟨"tuple",_,PyProof.Rows.slot_tuple_getitem.lookup,ht.typeIs,?_⟩
  refine HT.getItem_tuple_all ht hs pl pu (by rw[hlen];exact c) ⟨.ref a,H,I,rfl,q a H (Aa.refl _) ?_⟩
  have:Cv xs lo hi=xs:=by
   unfold Cv
   rw[c.1,c.2]
   simp
  rw[this]
  exact ha
 .exact X2 pins s σ H (.ref a) v vl vu lo hi sl Q I rx hs pl pu ⟨a,xs,rfl,A8.of ha,c,fun p hp=>q p _ (Ab hp _) A6⟩
inductive Tw where
 |n (i:Int)
 |v (z:Str)
 |c (z:Str) (sp:List (Str×Int))
 |j (z:Str) (l r:Tw)
def nS (i:Int):Str:=Str.ofString (toString i)
def X0 (s:Str×Int):Str:=if s.1="" then nS s.2 else if s.2=0 then s.1 else if 0<s.2 then s.1++"+"++nS s.2 else s.1++nS s.2
def UI (s:Str×Int):Str:="["++X0 s++"]"
def Nj (z:Str)(sp:List (Str×Int)):Str:=z++Txt.join "" (sp.map UI)
def MV (b:Bool)(x:Str):Str:=if b=true then"("++x++")" else x
def hz (z:Str):Nat:=if z="*" then 2 else 1
namespace Tw
def MC:Tw->Nat
 |.j z _ _=>hz z
 |_=>3
def wr:Tw->Str
 |.n i=>nS i
 |.v z=>z
 |.c z sp=>Nj z sp
 |.j z l r=>MV (decide (MC l<hz z)) (wr l)++z++MV (decide (MC r<=hz z)) (wr r)
end Tw
def Er (H:Hp)(x:V)(s:Str×Int):Prop := ∃t,x = .ref t/\H t=some (.tup [.str s.1,.int s.2])
theorem Er.tk {H H':Hp}{x:V}{s:Str×Int}(k:TK H H')(h:Er H x s):Er H' x s:=let ⟨t,e,h⟩:=h;⟨t,e,k _ _ h⟩
section
variable {prog:Program}{w:World}{A:Around}{E:Value->Shared->Prop}{s:Shared}
theorem RE {M:Model}{a:Addr}{Q:Option Obj->Shared->Prop}(h:Q (s.heap.get? a) s):wpAny M A (loadIfAlive a) Q E s:=fun Γ p _=>by
 unfold loadIfAlive
 rw[Sem.wp_loadIfAlive]
 exact h
abbrev Gh (h:Heap)(z TI TO T:Addr)(f1:Bool):Prop:=
 h.get? z=some {cls:=.type "zip",dict:=none,data:=.fields #[rawInt T,.bool f1,.bool false,.ref TI,.ref TO],slots := #[]}
theorem RI {z TI TO T0:Addr}{f1:Bool}{Q:Bool->Shared->Prop}(hz:Gh s.heap z TI TO T0 f1)(hT:∃o,s.heap.get? T0=some o)(q:∀hA,Gh hA z TI TO T0 true->Heap.SameBut z s.heap hA->Q false {s with heap:=hA}) :
  wpAny (model prog w) A (Builtin.SmallTypes.ownedTupleIsFree (.ref z)) Q E s:=by
 unfold Builtin.SmallTypes.ownedTupleIsFree
 apply A5
 apply Dj hz rfl (x:=rawInt T0) rfl
 obtain⟨oT,hT⟩:=hT
 show wpAny _ _ (loadIfAlive ((T0:Int)).toNat>>=_) _ _ _
 apply A5
 refine RE ?_
 rw[FU,hT]
 simp only[Option.isNone_some,Mi,Hv]
 apply A5
 apply Dj hz rfl (x:=.bool f1) rfl
 cases f1 with
 |
  true=>
  rw[Ae (by decide)]
  apply Al
  exact q _ hz ⟨rfl,fun _ _=>rfl⟩
 |
  false=>
  rw[Ah (by decide)]
  apply A5
  apply Hy hz (by simp)
  intro hA zA bA
  apply Al
  exact q hA zA bA
theorem Ux {z TI TO i1 i2 T0:Addr}{f1:Bool}{f g:List Addr}{m n k:Nat}{P R:Nat->Value->Prop}{S T:Nat->Heap->Prop}(Z:ZA z TI TO i1 i2 f g)(D1:Draws prog w A i1 f m P S)(D2:Draws prog w A i2 g n R T){Q:Value->Shared->Prop}
  (hz:Gh s.heap z TI TO T0 f1) (hI:IsPair s.heap TI (.ref i1) (.ref i2)) (hT:∃o,s.heap.get? T0=some o) (s1:S k s.heap) (s2:T k s.heap) (le1:k<=m) (le2:k<=n)
  (q:k<m->k<n->∀x y h' tk,P k x->R k y->Gh h' z TI TO T0 true->S (k+1) h'->T (k+1) h'->IsPair h' s.heap.objs.size x y->
   (∀c o,c≠z->c≠i1->c≠i2->s.heap.get? c=some o->h'.get? c=some o)->Q (.ref s.heap.objs.size) {s with heap:=h',toks:=tk})
  (qe:(k=m\/k=n)->∀h' e tk,(∀c o,c≠z->c≠i1->c≠i2->s.heap.get? c=some o->h'.get? c=some o)->(∃o,h'.get? e=some o/\o.cls = .type "StopIteration")->E (.ref e) {s with heap:=h',toks:=tk}) :
  wpAny (model prog w) A (Builtin.«zip.__next__» ⟨[.ref z],[]⟩) (fun fin s'=>∃v,fin = .done (.ret v)/\Q v s') E s:=by
 change wpAny _ _ (field (.ref z) 2>>=_) _ _ _
 apply A5
 apply Dj hz rfl (x:=.bool false) rfl
 change wpAny _ _ (field (.ref z) 3>>=_) _ _ _
 apply A5
 apply Dj hz rfl (x:=.ref TI) rfl
 apply A5
 apply Hx hI rfl
 change wpAny _ _ (Builtin.SmallTypes.ownedTupleIsFree (.ref z)>>=_) _ _ _
 apply A5
 refine RI hz hT fun hA zA bA=>?_
 simp only[Mi,Hv]
 have sA:=mv D1 s1 bA.extBut Z.zf
 have tA:=mv D2 s2 bA.extBut Z.zg
 apply A5
 simp only[List.forIn_toArray,Me,List.forIn_nil]
 apply A5
 apply A5
 apply EY
 change wpAny _ _ (Builtin.SmallTypes.nextOf (.ref i1)>>=_) _ _ _
 apply A5
 rcases Mh le1 with l1|rfl
 rotate_left
 .apply D1.done _ _ _ sA
  rintro h' e kp ⟨o,ge,ce⟩
  exact qe (.inl rfl) h' e s.toks (fun c o c1 c3 _ x=>kp _ _ c3 (bA.extBut _ _ c1 x)) ⟨o,ge,ce⟩
 apply D1.item k _ _ _ l1 sA
 intro x hB t1 px sB bB
 apply Al
 have zB:Gh hB z TI TO T0 true:=bB.extBut _ _ Z.az.symm zA
 have tB:=mv D2 tA bB.extBut Z.ng
 apply Al
 apply A5
 apply A5
 apply EY
 change wpAny _ _ (Builtin.SmallTypes.nextOf (.ref i2)>>=_) _ _ _
 apply A5
 have upB:∀c o,c≠z->c≠i1->s.heap.get? c=some o->hB.get? c=some o:=fun c o c1 c3 e=>bB.extBut _ _ c3 (bA.extBut _ _ c1 e)
 rcases Mh le2 with l2|rfl
 rotate_left
 .apply D2.done _ _ _ tB
  rintro h' e kp ⟨o,ge,ce⟩
  exact qe (.inr rfl) h' e t1 (fun c o c1 c3 c4 x=>kp _ _ c4 (upB c o c1 c3 x)) ⟨o,ge,ce⟩
 apply D2.item k _ _ _ l2 tB
 intro y hD t2 py tD bD
 apply Al
 have zD:Gh hD z TI TO T0 true:=bD.extBut _ _ Z.bz.symm zB
 have sD:=mv D1 sB bD.extBut Z.nf
 have upD:∀c o,c≠z->c≠i1->c≠i2->s.heap.get? c=some o->hD.get? c=some o:=fun c o c1 c3 c4 e=>bD.extBut _ _ c4 (upB c o c1 c3 e)
 have sz:hD.objs.size=s.heap.objs.size:=by rw[bD.1,bB.1,bA.1]
 apply Al
 apply Al
 apply A5
 refine wpAny_newTuple ?_ (Ar rfl)
 apply Al
 refine⟨_,rfl,?_⟩
 have far:∀c o,hD.get? c=some o->(hD.push {cls:=.type "tuple",data:=.seq #[x,y]}).get? c=some o:=fun c o e=>AI _ e
 have:=q l1 l2 x y (hD.push {cls:=.type "tuple",data:=.seq #[x,y]}) t2 px py (far _ _ zD) (D1.frame _ _ _ sD fun c _ o e=>far _ _ e) (D2.frame _ _ _ tD fun c _ o e=>far _ _ e) (by rw[←sz];exact BV _ rfl) fun c o c1 c3 c4 e=>far _ _ (upD c o c1 c3 c4 e)
 rw[←sz]at this
 exact this
def ZS (h:Heap)(z TI TO:Addr):Prop:=(IsZip h z TI TO .none/\∃p q,IsPair h TO p q)\/∃T0 f1,Gh h z TI TO T0 f1/\∃o,h.get? T0=some o
theorem NR {z TI TO i1 i2:Addr}{f g:List Addr}{m n k:Nat}{P R:Nat->Value->Prop}{S T:Nat->Heap->Prop}(Z:ZA z TI TO i1 i2 f g)(D1:Draws prog w A.in1 i1 f m P S)(D2:Draws prog w A.in1 i2 g n R T){Q:Option Value->Shared->Prop}
  (hz:ZS s.heap z TI TO) (hI:IsPair s.heap TI (.ref i1) (.ref i2)) (s1:S k s.heap) (s2:T k s.heap) (le1:k<=m) (le2:k<=n)
  (q:k<m->k<n->∀x y h' tk,P k x->R k y->ZS h' z TI TO->IsPair h' TI (.ref i1) (.ref i2)->S (k+1) h'->T (k+1) h'->IsPair h' s.heap.objs.size x y->
   (∀c o,c≠z->c≠TO->c≠i1->c≠i2->s.heap.get? c=some o->h'.get? c=some o)->Q (some (.ref s.heap.objs.size)) {s with heap:=h',toks:=tk})
  (qe:(k=m\/k=n)->∀h' tk,(∀c o,c≠z->c≠TO->c≠i1->c≠i2->s.heap.get? c=some o->h'.get? c=some o)->Q none {s with heap:=h',toks:=tk}) :
  wpAny (model prog w) A (pyNext (.ref z)) Q E s:=by
 rcases hz with⟨hz,p0,q0,hO⟩|⟨T0,f1,hz,hT⟩
 .refine LO Z D1 D2 hz hI hO s1 s2 le1 le2 (fun l1 l2 x y h' tk px py z' o' s' t' pr kp=>q l1 l2 x y h' tk px py (.inr ⟨s.heap.objs.size,false,z',_,pr⟩) (kp TI _ Z.Iz Z.IO Z.Ia Z.Ib hI) s' t' pr kp) qe
 .have ty:s.TypeIs (.ref z) "zip":=⟨_,hz,rfl⟩
  unfold pyNext
  apply A5
  apply KN
  apply wpAny_callSpecial?_slot (name:=Str.ofString "__next__") ty F.slot_zip_next
  refine Hw F.slot_zip_next ty F.entry_zip_next (Ux Z D1 D2 hz hI hT s1 s2 le1 le2 ?_ ?_) (F.args_zip_next_1 _)
  .intro l1 l2 x y h' tk a1 a2 a3 a4 a5 a6 a7
   obtain⟨oT,hT⟩:=hT
   have nT:∀c,c=z\/c=i1\/c=i2->∃o,h'.get? c=some o:=fun c hc=>by
    rcases hc with rfl|rfl|rfl
    .exact⟨_,a3⟩
    .exact D1.live _ _ a4
    .exact D2.live _ _ a5
   have hT':∃o,h'.get? T0=some o:=by
    by_cases c1:T0=z
    .exact nT T0 (.inl c1)
    .by_cases c2:T0=i1
     .exact nT T0 (.inr (.inl c2))
     .by_cases c3:T0=i2
      .exact nT T0 (.inr (.inr c3))
      .exact⟨oT,a7 T0 oT c1 c2 c3 hT⟩
   exact Al (q l1 l2 x y h' tk a1 a2 (.inr ⟨T0,true,a3,hT'⟩) (a7 TI _ Z.Iz Z.Ia Z.Ib hI) a4 a5 a6 (fun c o c1 _ c3 c4 e=>a7 c o c1 c3 c4 e))
  .rintro l h' e tk kp ⟨o,ge,ce⟩
   exact A5 (PQ (T:="StopIteration") (b:=true) ⟨o,ge,ce⟩ isSubtype_stop (Al (qe l h' tk fun c o c1 _ c3 c4 e=>kp c o c1 c3 c4 e)))
def Iy {K:Type}[DecidableEq K](ks:Nat->K)(vs:Nat->Value):List (K×Value)->Nat->Nat->List (K×Value)
 |kvs,0,_=>kvs
 |kvs,j+1,i=>Iy ks vs (stored kvs (ks i) (vs i)) j (i+1)
theorem Nc:entryFor table "dict.update.loop"=some Builtin.«dict.update.loop» := entryFor_of_tree (by kernel_rfl)
theorem Kp:plainId "dict.update.loop"=true:=by decide +kernel
theorem UY {K:Type}[DecidableEq K](kvs:List (K×Value))(k:K)(v:Value):(stored kvs k v).length<=kvs.length+1:=stored_length_le kvs k v
theorem TH:entryFor table "zip.__getattribute__"=some Builtin.«object.__getattribute__» :=
 entryFor_alias (id':="object.__getattribute__") (by kernel_rfl) (by first|rfl|decide +kernel) (by decide +kernel) (by kernel_rfl)
theorem Uu:typeLookup (.type "zip") "keys"=pure none:=by rw[typeLookup_type,builtinLookup_eq_fast];kernel_rfl
theorem Vq:typeLookup (.type "zip") "__getattr__"=pure none:=by rw[typeLookup_type,builtinLookup_eq_fast];kernel_rfl
theorem UH {z:Addr}{vs:Array Value}{tk:Tok}{h:Heap}{g:Array GenState}{d:Drawn}{t:Nat}{os:OsState}{RR:Result->Shared->Prop}(hx:h.get? z=some {cls:=.type "zip",dict:=none,data:=.fields vs,slots := #[]})(hh:A.in1.handled=none)
  (q:∀h' tk e,Heap.NewAttrErr h h' e (.ref z) "keys"->RR (.error (.ref e)) ⟨h',g,d,tk,os⟩) :
  codeAny (model prog w) A (.call (.builtin "zip.__getattribute__") ⟨[.ref z,.str "keys" tk],[]⟩) RR ⟨h,g,d,t,os⟩:=by
 have hT:(⟨h,g,d,t,os⟩:Shared).TypeIs (.ref z) "zip":=⟨_,hx,rfl⟩
 refine PU F.slot_zip_getattribute.plain TH (F.slot_zip_getattribute.check _ _ _ _ _ _ _ _ hT (F.args_zip_getattribute_2 _ _) ?_)
 have f4:=Uu
 unfold Builtin.«object.__getattribute__»
 repeat (any_goals (first|assumption|wp_step))
 exact wpAny_raiseAttrError hh q (attrMsg_fits (by decide +kernel) (by size_fits))
end
section
variable {prog:Program}{w:World}{A:Around}{E:Value->Shared->Prop}{s:Shared}
theorem Sz {z:Addr}{vs:Array Value}{Q:Option Value->Shared->Prop}(hx:s.heap.get? z=some {cls:=.type "zip",dict:=none,data:=.fields vs,slots := #[]})(hh:A.handled=none)
  (q:∀h' tk,(∀b o,s.heap.get? b=some o->h'.get? b=some o)->Q none {s with heap:=h',toks:=tk}):wpAny (model prog w) A (getAttr? (.ref z) "keys") Q E s:=by
 obtain⟨h,g,d,t,os⟩:=s
 have hT:∀t',(⟨h,g,d,t',os⟩:Shared).TypeIs (.ref z) "zip":=fun t'=>⟨_,hx,rfl⟩
 have f2:=F.slot_zip_getattribute.lookup
 have f3:=F.slot_zip_getattribute.bind (.ref z)
 have f5:=Vq
 have f1:=sub_AttributeError
 unfold getAttr? getAttrBy? getAttrBy
 repeat (any_goals (first|assumption|with_reducible exact hT _|wp_step))
 refine UH hx hh fun h' tk e ne=>?_
 obtain⟨t',u',he⟩:=ne.there
 show wpAny _ _ (getattributeRaised _ _ _ _ _ _ _) _ _ _
 unfold getattributeRaised
 repeat (any_goals (first|assumption|wp_step))
 exact q h' _ ne.keeps
end
def DE:List (Ap×V)->List Ap->List V->List (Ap×V)
 |kvs,k::ks,y::ys=>DE (BO kvs k y) ks ys
 |kvs,_,_=>kvs
theorem MJ:∀(kvs:List (Ap×V)) (ks:List Ap) (ys:List V),(DE kvs ks ys).length<=kvs.length+ks.length
 |
  kvs,k::ks,y::ys=>by
  have h1:=MJ (BO kvs k y) ks ys
  have h2:=LU kvs k y
  show(DE (BO kvs k y) ks ys).length<=kvs.length+(ks.length+1)
  omega
 |kvs,[],ys=>by unfold DE;exact DA _ _
 |kvs,k::ks,[]=>by unfold DE;exact DA _ _
section
variable {prog:Program}{w:World}{A:Around}{E:Value->Shared->Prop}{s:Shared}
end
def Ci (kn:List (Str×Int)):List (Ap×V):=kn.map fun p=>(Sum.inr p.1,V.int p.2)
def Eh (kn:List (Str×Int))(z:Str):Int:=match kn.find? fun p=>decide (p.1=z) with
 |some p=>p.2
 |none=>0
def C8 (kn:List (Str×Int))(s:Str×Int):Int:=if s.1="" then s.2 else Eh kn s.1+s.2
theorem PZ {kn:List (Str×Int)}{z:Str}(h:z∈kn.map (·.1)):Bg (Ci kn) (Sum.inr z)=some (.int (Eh kn z)):=by
 induction kn with
 |nil=>cases h
 |
  cons p kn ih=>
  by_cases e:p.1=z
  .have l:Eh (p::kn) z=p.2:=by unfold Eh;rw[List.find?_cons_of_pos (by simpa using e)]
   rw[l]
   exact E9 (κ:=Ap) (p:=(Sum.inr p.1,V.int p.2)) (r:=Ci kn) (congrArg Sum.inr e)
  .have l:Eh (p::kn) z=Eh kn z:=by unfold Eh;rw[Pz (by simpa using e)]
   have h':z∈kn.map (·.1):=by
    rcases AE.mp h with c|c
    .exact absurd c.symm e
    .exact c
   rw[l,←ih h']
   unfold Bg Ci
   rw[Bu,Pz (by simpa using e)]
theorem Si {kn:List (Str×Int)}{z:Str}(h:z∉kn.map (·.1)):Bg (Ci kn) (Sum.inr z)=none:=by
 unfold Bg Ci
 rw[Option.map_eq_none_iff,List.find?_eq_none]
 intro x hx
 obtain⟨p,hp,rfl⟩:=AW.mp hx
 have:p.1≠z:=fun e=>h (e▸AW.mpr ⟨p,hp,rfl⟩)
 simpa using this
def TR:Sp:=fun vs H Q _=>∃(x:V) (d:Addr) (s:Str×Int) (kn:List (Str×Int)),vs=[x,.ref d]/\Er H x s/\H d=some (.dK (Ci kn))/\(s.1=""\/s.1∈kn.map (·.1))/\Q (.int (C8 kn s)) H
def Vm:Sp:=fun vs H Q _=>∃(t d:Addr) (xs:List V) (sp:List (Str×Int)) (kn:List (Str×Int)),vs=[.ref t,.ref d]/\H t=some (.tup xs)/\Ay (Er H) xs sp/\H d=some (.dK (Ci kn))/\(∀s∈sp,s.1=""\/s.1∈kn.map (·.1))/\sp.length<=10/\∀(r:Addr) (H':Hp),Aa H H'->H' r=some (.tup ((sp.map (C8 kn)).map V.int))->Q (.ref r) H'
section
variable {prog:Program}{w:World}{A:Around}{E:Value->Shared->Prop}{s:Shared}
theorem QP {d z TI TO i1 i2:Addr}{f g:List Addr}{m n:Nat}(mn:n<=m){P R:Nat->Value->Prop}{S T:Nat->Heap->Prop}{ks:Nat->Ap}{vs:Nat->Value}{RR:Result->Shared->Prop}(Z:ZA z TI TO i1 i2 f g)(D1:Draws prog w A.in1.in1 i1 f m P S)(D2:Draws prog w A.in1.in1 i2 g n R T)
  (nd:d≠z/\d≠TI/\d≠TO/\d≠i1/\d≠i2/\d∉f/\d∉g) (hP:∀i x,P i x->(C5 prog w).is (ks i) x=true) (hR:∀i y,R i y->y=vs i):∀(j i:Nat) (s:Shared) (kvs:List (Ap×Value)),n-i=j->i<=n->ZS s.heap z TI TO->IsPair s.heap TI (.ref i1) (.ref i2)->S i s.heap->T i s.heap->s.heap.DictOf (C5 prog w) d kvs->kvs.length+j<=sizeLine->
  (∀h' tk,h'.DictOf (C5 prog w) d (Iy ks vs kvs j i)->(∀c o,c≠d->c≠z->c≠TO->c≠i1->c≠i2->s.heap.get? c=some o->h'.get? c=some o)->RR (.ok (.ret .none)) {s with heap:=h',toks:=tk})->
  codeAny (model prog w) A (.builtin "dict.update.loop" ⟨[.ref d,.ref z,rawInt (i:Int),.none],[]⟩) RR s:=by
 intro j
 induction j with
 |
  zero=>
  intro i s kvs hj hi hz hI s1 s2 dd hl q
  have hin:i=n:=by omega
  subst hin
  refine codeAny_builtin Nc ?_
  rw[Around.under_plainId Kp _]
  show wpAny _ A.in1 (pyNext (.ref z)>>=_) _ _ s
  refine A5 (NR Z D1 D2 hz hI s1 s2 mn (An _) (fun _ l=>absurd l (Dv _)) fun _ h' tk kp=>?_)
  show wpAny _ _ (Builtin.Dict.addKeywords d []>>=fun _=>ret Value.none) _ _ _
  obtain⟨o,es,ep,ho,r⟩:=dd
  exact A5 (Al (Al (q h' tk ⟨o,es,ep,kp d o nd.1 nd.2.2.1 nd.2.2.2.1 nd.2.2.2.2.1 ho,r⟩ fun c o _ c1 c2 c3 c4 e=>kp c o c1 c2 c3 c4 e)))
 |
  succ j ih=>
  intro i s kvs hj hi hz hI s1 s2 dd hl q
  have hlt:i<n:=by omega
  refine codeAny_builtin Nc ?_
  rw[Around.under_plainId Kp _]
  show wpAny _ A.in1 (pyNext (.ref z)>>=_) _ _ s
  refine A5 (NR Z D1 D2 hz hI s1 s2 (Bl hi mn) hi (fun _ _ x y h' tk px py z' I' s1' s2' pr kp=>?_) fun e=>absurd e (by omega))
  have dd':h'.DictOf (C5 prog w) d kvs:=by
   obtain⟨o,es,ep,ho,r⟩:=dd
   exact⟨o,es,ep,kp d o nd.1 nd.2.2.1 nd.2.2.2.1 nd.2.2.2.2.1 ho,r⟩
  refine A5 (EY (A5 (wpAny_tryCatch ?_)))
  unfold Builtin.Dict.pairItems
  refine A5 (KJ (T:="tuple") ⟨_,pr,rfl⟩ ?_)
  rw[Ah (by decide)]
  refine A5 (Hx pr rfl ?_)
  refine Al ?_
  refine EY (wpAny_dictSet_pairs (hP i x px) dd' (fun h2 dd2 hs=>?_) (by omega))
  refine Al ⟨plainId_quiet Kp _,?_⟩
  have ev:=hR i y py
  subst ev
  have k2:∀c o,c≠d->h'.get? c=some o->h2.get? c=some o:=fun c o hc e=>(hs.2 c hc).trans e
  have zz:ZS h2 z TI TO:=by
   rcases z' with⟨a,p,q,b⟩|⟨T0,f1,a,o,b⟩
   .exact .inl ⟨k2 _ _ nd.1.symm a,p,q,k2 _ _ nd.2.2.1.symm b⟩
   .refine .inr ⟨T0,f1,k2 _ _ nd.1.symm a,?_⟩
    by_cases c:T0=d
    .subst c
     obtain⟨o2,_,_,ho2,_⟩:=dd2
     exact⟨o2,ho2⟩
    .exact⟨o,k2 _ _ c b⟩
  have sl:=UY kvs (ks i) (vs i)
  refine ih (i+1) {s with heap:=h2,toks:=tk+1} (stored kvs (ks i) (vs i)) (by omega) hlt zz (k2 _ _ nd.2.1.symm I') (D1.frame _ _ _ s1' fun c hc o e=>k2 c o (fun z=>nd.2.2.2.2.2.1 (z▸hc)) e) (D2.frame _ _ _ s2' fun c hc o e=>k2 c o (fun z=>nd.2.2.2.2.2.2 (z▸hc)) e) dd2 (by omega) fun h3 t3 dd3 kp3=>?_
  exact q h3 t3 dd3 fun c o c0 c1 c2 c3 c4 e=>kp3 c o c0 c1 c2 c3 c4 (k2 c o c0 (kp c o c1 c2 c3 c4 e))
theorem QI {z TI TO i1 i2:Addr}{f g:List Addr}{m n:Nat}(mn:n<=m){P R:Nat->Value->Prop}{S T:Nat->Heap->Prop}{ks:Nat->Ap}{vs:Nat->Value}{Q:Value->Shared->Prop}(hh:A.handled=none)(Z:ZA z TI TO i1 i2 f g)(D1:Draws prog w A.in1.in1.in1 i1 f m P S)(D2:Draws prog w A.in1.in1.in1 i2 g n R T)
  (hP:∀i x,P i x->(C5 prog w).is (ks i) x=true) (hR:∀i y,R i y->y=vs i) (hz:IsZip s.heap z TI TO .none) (hO:∃p q,IsPair s.heap TO p q) (hI:IsPair s.heap TI (.ref i1) (.ref i2)) (s1:S 0 s.heap) (s2:T 0 s.heap) (hf:∀c∈f,c<s.heap.objs.size) (hg:∀c∈g,c<s.heap.objs.size) (hn:n<=sizeLine)
  (q:∀h' tk,h'.DictOf (C5 prog w) s.heap.objs.size (Iy ks vs [] n 0)->(∀c o,c≠z->c≠TO->c≠i1->c≠i2->s.heap.get? c=some o->h'.get? c=some o)->Q (.ref s.heap.objs.size) {s with heap:=h',toks:=tk}) :
  wpAny (model prog w) A (call (.type "dict") [.ref z]) Q E s:=by
 refine callType_codes (Q₁:=fun obj s₁=>obj = .ref s.heap.objs.size/\s₁={s with heap:=s.heap.push {cls:=.type "dict",data:=.dict #[]}}) F.kt_called_dict (F.kt_typeCall_dict_1 _) F.entry_dict_init (kt_code_dict_new _ ⟨rfl,rfl⟩) ?_
 rintro obj s₁ ⟨rfl,rfl⟩
 have hnew:(s.heap.push {cls:=.type "dict",data:=.dict #[]}).DictOf (C5 prog w) s.heap.objs.size []:=Pt s.heap
 have up:∀c o,s.heap.get? c=some o->(s.heap.push {cls:=.type "dict",data:=.dict #[]}).get? c=some o:=fun c o e=>AI _ e
 refine⟨hnew.typeIs,F.args_dict_init_2 _ _,?_⟩
 unfold Builtin.«dict.__init__»
 refine A5 ?_
 unfold Builtin.Dict.selfAndRest
 refine A5 (wpAny_notOrdered_dict hnew.typeIs ?_)
 show wpAny _ _ (pure (s.heap.objs.size,[Value.ref z])) _ _ _
 refine Al ?_
 show wpAny _ _ (Builtin.Dict.updateFrom "dict.__init__" s.heap.objs.size (.ref z) [] .none) _ _ _
 unfold Builtin.Dict.updateFrom
 refine A5 (KJ (T:="zip") ⟨_,up _ _ hz,rfl⟩ ?_)
 rw[Ah (by decide)]
 refine A5 (Sz (up _ _ hz) hh fun h1 t1 k1=>?_)
 simp only[Option.isNone_none,FZ]
 refine A5 (wpAny_rule ?_)
 refine A5 (PR (k1 _ _ (up _ _ hz)) ?_)
 have k2:∀c o,s.heap.get? c=some o->h1.get? c=some o:=fun c o e=>k1 c o (up c o e)
 have dd:h1.DictOf (C5 prog w) s.heap.objs.size []:=by
  obtain⟨o,es,ep,ho,r⟩:=hnew
  exact⟨o,es,ep,k1 _ _ ho,r⟩
 obtain⟨p0,q0,hO⟩:=hO
 have ltz:=AD hz
 have ltO:=AD hO
 have ltI:=AD hI
 have lt1:i1<s.heap.objs.size:=let ⟨_,e⟩:=D1.live _ _ s1;AD e
 have lt2:i2<s.heap.objs.size:=let ⟨_,e⟩:=D2.live _ _ s2;AD e
 refine Al ⟨plainId_quiet Kp _,QP (n:=n) mn Z D1 D2 ⟨D8 ltz,D8 ltI,D8 ltO,D8 lt1,D8 lt2,fun h=>absurd (hf _ h) (Dv _),fun h=>absurd (hg _ h) (Dv _)⟩ hP hR n 0 _ [] (Nat.sub_zero n) (BF _) (.inl ⟨k2 _ _ hz,p0,q0,k2 _ _ hO⟩) (k2 _ _ hI) (D1.frame _ _ _ s1 fun c _ o e=>k2 c o e) (D2.frame _ _ _ s2 fun c _ o e=>k2 c o e) dd (by simpa using hn) fun h3 t3 dd3 kp3=>?_⟩
 exact⟨rfl,q h3 t3 dd3 fun c o c1 c2 c3 c4 e=>kp3 c o (Br (AD e)) c1 c2 c3 c4 (k2 c o e)⟩
end
theorem MY {ks:List Ap}{ys:List V}{us:List Value}(hl:ys.length<=ks.length)(rv:Aw ys us):∀(j i:Nat) (kvs:List (Ap×V)) (ws:List (Ap×Value)),KV kvs ws->i+j=ys.length->KV (DE kvs (ks.drop i) (ys.drop i)) (Iy (fun i=>ks.getD i (.inl 0)) (fun i=>us.getD i .none) ws j i)
 |
  0,i,kvs,ws,h,e=>by
  rw[List.drop_of_length_le (l:=ys) (by omega)]
  have e:DE kvs (ks.drop i) []=kvs:=by cases ks.drop i<;>rfl
  rw[e]
  exact h
 |
  j+1,i,kvs,ws,h,e=>by
  have li:i<ks.length:=by omega
  have ly:i<ys.length:=by omega
  obtain⟨u,hu,ru⟩:=rv.get (Be ly)
  rw[J0 li,J0 ly]
  have h2:=h.put ks[i] ru
  have ih:=MY hl rv j (i+1) _ _ h2 (by omega)
  show KV (DE (BO kvs ks[i] ys[i]) (ks.drop (i+1)) (ys.drop (i+1))) (Iy _ _ (stored ws (ks.getD i (.inl 0)) (us.getD i .none)) j (i+1))
  have e1:ks.getD i (.inl 0)=ks[i]:=by rw[CV,Be li];rfl
  have e2:us.getD i .none=u:=by rw[CV,hu];rfl
  rw[e1,e2]
  exact ih
def Xs (K:XJ)(ta:TA):TE:=fun σ H Q=>ta σ H fun vs H1=>∃(l1 l2:Addr) (ks:List Ap) (ys:List V),vs=[.ref l1,.ref l2]/\A8 K H1 l1 (ks.map kV)/\A8 K H1 l2 ys/\ys.length<=ks.length/\∀l,H1 l=none->Q (.ref l) (upd H1 l (.dK (DE [] ks ys)))
theorem Xf {X:Cx}{a b:Expr}{ta:TA}{p p2 pos pos2:Pos}(hcm:X.calm=true)(hgd:Gl X "dict")(hmd:X.mg "dict"=none)(hgz:Gl X "zip")(hmz:X.mg "zip"=none)(ha:PA X [a,b] ta)
  (hs:starEach [a,b] X.env=[(false,eval a X.env),(false,eval b X.env)]:=by rfl) (hs2:starEach [b] X.env=[(false,eval b X.env)]:=by rfl)
  (hs3:starEach [.Call (.Name "zip" p2) [a,b] [] pos2] X.env=[(false,eval (.Call (.Name "zip" p2) [a,b] [] pos2) X.env)]:=by rfl) :
  PE X (.Call (.Name "dict" p) [.Call (.Name "zip" p2) [a,b] [] pos2] [] pos) (Xs X.K ta):=by
 intro pins s σ H Q I h
 refine Fm (En I hgd hmd SH ?_ (by decide) (by decide))
 refine FS ?_ (by rw[hs3];rfl) (by rfl)
 rw[hs3]
 refine Calls.spliced_cons ?_
 refine Call_ (En I hgz hmz boot_zip (FS (As (ha pos2 pins s σ H _ I h) fun us s1 ⟨vs,H1,I1,r1,q1⟩=>?_) (by rw[hs,hs2]) (by rw[hs2];rfl)))
 obtain⟨l1,l2,ks,ys,rfl,hq1,hq2,hlen,q⟩:=q1
 cases r1 with
 |
  cons r rr=>
  cases rr with
  |
   cons r' rr=>
   cases rr
   cases r
   cases r'
   obtain⟨its1,rv1,p1,hz1⟩:=I1.tuple hq1
   obtain⟨its2,rv2,p2,_⟩:=I1.tuple hq2
   have lt1:l1<s1.heap.objs.size:=p1.lt
   have lt2:l2<s1.heap.objs.size:=p2.lt
   refine callType_new F.called_zip (by decide) (F.typeCall_zip_2 _ _) (F.newCall_zip_2 _ _) (fun obj=>F.args_object_init_3 obj _ _) F.entry_zip_new (Ov l1 l2 its1.toArray its2.toArray) ⟨p1,p2,fun h' hz hTI hTO h1 h2 hk=>⟨⟨_,hz,rfl⟩,?_⟩⟩
   refine Calls.spliced_nil ?_
   have I2:A2 X pins σ H1 {s1 with heap:=h',toks:=s1.toks}:=I1.kept hk
   have fp:∀b,s1.heap.objs.size<=b->E5 X pins H1 b:=fun b hb=>I1.fpOk hb (I1.hok.fresh hb)
   have Hn:∀b,s1.heap.objs.size<=b->H1 b=none:=fun b hb=>I1.hok.fresh hb
   have hh:X.A.handled=none:=I1.ok.hd hcm
   clear I
   generalize hN:s1.heap.objs.size=N at hz hTI hTO h1 h2 lt1 lt2 fp Hn
   have d1:=Hk (prog:=X.prog) (w:=X.w) (A:=X.A.in1.in1.in1) hh N l1 (Br lt1) its1.toArray
   have d2:=Hk (prog:=X.prog) (w:=X.w) (A:=X.A.in1.in1.in1) hh (N+1) l2 (Br (Nat.lt_succ_of_lt lt2)) its2.toArray
   have i1l:=rv1.length
   have i2l:=rv2.length
   rw[Ao]at i1l
   have sz1:its1.toArray.size=ks.length:=by rw[B5,←i1l]
   have sz2:its2.toArray.size=ys.length:=by rw[B5,←i2l]
   rw[sz1]at d1
   rw[sz2]at d2
   have p1':h'.IsTuple l1 its1.toArray:=by obtain⟨o,g,r⟩:=(p1:s1.heap.IsTuple l1 its1.toArray);exact⟨o,hk _ _ g,r⟩
   have p2':h'.IsTuple l2 its2.toArray:=by obtain⟨o,g,r⟩:=(p2:s1.heap.IsTuple l2 its2.toArray);exact⟨o,hk _ _ g,r⟩
   have ltz:=AD hz
   refine QI hlen (ks:=fun i=>ks.getD i (.inl 0)) (vs:=fun i=>its2.getD i .none) hh (f:=[N,l1]) (g:=[N+1,l2]) ⟨?_,?_,?_,?_,?_,?_,?_,?_,?_,?_,?_,?_,?_,?_,?_⟩ d1 d2 (fun i x px=>?_) (fun i y py=>?_) hz ⟨_,_,hTO⟩ hTI ⟨h1,p1'⟩ ⟨h2,p2'⟩ (fun c hc=>?_) (fun c hc=>?_) (by rw[Ao]at hz1;exact Bl hlen hz1) (fun h3 t3 dd3 kp3=>?_)
   case refine_20=>
    have a0:H1 h'.objs.size=none:=Hn _ (ET (Md (DA _ 4) ltz))
    have az:(h'.objs.size==sysModules)=false:=Ht.mpr (Ne.symm (Br I2.big))
    have I3:=I2.laid (a:=h'.objs.size) (o:=.dK []) (h':=h'.push {cls:=.type "dict",data:=.dict #[]}) (t':=t3) (fun b u e=>AI _ e) (An _) (LQ (Ar rfl) az .nil (Pt h'))
    obtain⟨o3,es3,ep3,ho3,r3⟩:=id dd3
    have I4:A2 X pins σ (upd H1 h'.objs.size (.dK [])) {s1 with heap:=h3.update h'.objs.size (fun _=>{cls:=.type "dict",data:=.dict #[]}),toks:=t3}:=by
     refine A2.turnedL (s:={s1 with heap:=h'.push {cls:=.type "dict",data:=.dict #[]},toks:=t3}) (ch:=[N+4,N+3,N,N+1]) I3 (fun b o hb e=>?_) (fun b hb=>?_)
     . simp only[AE,CY,or_false,not_or]at hb
       obtain⟨n1,n2,n3,n4⟩:=hb
       by_cases c:b=h'.objs.size
       . subst c
         rw[BV _ rfl]at e
         cases e
         exact Kz _ ho3 rfl
       . rw[Fk _ _ (Ne.symm c)]
         rcases Heap.get?_push_cases e with⟨z,_⟩|e
         .exact absurd z c
         .exact kp3 b o n1 n2 n3 n4 e
     . have hb':N<=b/\b<h'.objs.size:=by
         simp only[AE,CY,or_false]at hb
         rcases hb with rfl|rfl|rfl|rfl
         .exact⟨DA _ _,ltz⟩
         .exact⟨DA _ _,Nat.lt_trans (Kt _) ltz⟩
         .exact⟨An _,Md (DA _ 4) ltz⟩
         .exact⟨DA _ _,Md (Nat.add_le_add_left (by decide) _) ltz⟩
       obtain⟨f0,f1,f2,f3,f4,f5⟩:=fp b hb'.1
       exact⟨by rw[Ag (Br hb'.2)];exact f0,f1,f2,f3,f4,f5⟩
    have zl:=MJ [] ks ys
    have I5:=LW (h':=h3) (t':=t3) (ob:=.dK (DE [] ks ys)) I4 (by rw[A6];exact True.intro) ⟨?_,fun b hb=>?_⟩ ⟨o3,ho3⟩ (LQ (by rw[Ao]at hz1;simpa using Bl zl (by simpa using hz1)) az (MY hlen rv2 ys.length 0 [] [] .nil (by omega)) dd3)
    .rw[LD]at I5
     exact⟨.ref h'.objs.size,_,I5,rfl,q _ a0⟩
    .exact(Mg ..).1.symm
    .exact(Fk _ _ (Ne.symm hb)).symm
   case refine_16=>
    have px:its1[i]?=some x:=by simpa using px
    have li:i<ks.length:=by
     have:=(BR.mp px).1
     omega
    obtain⟨u,hu,ru⟩:=rv1.get (i:=i) (x:=kV ks[i]) (by rw[C1,Be li];rfl)
    rw[px]at hu
    cases hu
    have e1:ks.getD i (.inl 0)=ks[i]:=by rw[CV,Be li];rfl
    show(C5 X.prog X.w).is (ks.getD i (.inl 0)) x=true
    rw[e1]
    exact Jk ru
   case refine_17=>
    have py:its2[i]?=some y:=by simpa using py
    show y=its2.getD i .none
    rw[CV,py]
    rfl
   case refine_18=>
    simp only[AE,CY,or_false]at hc
    rcases hc with rfl|rfl
    .exact let ⟨_,e,_⟩:=h1;AD e
    .exact let ⟨_,e,_⟩:=p1';AD e
   case refine_19=>
    simp only[AE,CY,or_false]at hc
    rcases hc with rfl|rfl
    .exact let ⟨_,e,_⟩:=h2;AD e
    .exact let ⟨_,e,_⟩:=p2';AD e
   all_goals first
    |(show(_:Nat)≠_;omega)
    |(
      simp only[AE,CY,or_false,not_or]
      exact⟨by show(_:Nat)≠_;omega,by first
        |exact D8 lt1
        |exact D8 lt2
        |exact D8 (BE lt1 (DA _ _))
        |exact D8 (BE lt2 (DA _ _))⟩)
theorem OX:∀(kn:List (Str×Int)) (ns:List Str) (vs:List Int),vs.length<=ns.length->ns.Nodup->(∀z∈ns,z∉kn.map (·.1))->DE (Ci kn) (ns.map Sum.inr) (vs.map V.int)=Ci (kn++ns.zip vs)
 |
  kn,ns,[],hl,_,_=>by
  have e:DE (Ci kn) (ns.map Sum.inr) ([]:List V)=Ci kn:=by cases ns<;>rfl
  rw[List.zip_nil_right,DT]
  exact e
 |kn,[],v::vs,hl,_,_=>by cases hl
 |
  kn,z::ns,v::vs,hl,hn,hd=>by
  obtain⟨h1,h2⟩:=FT.mp hn
  have e:BO (Ci kn) (Sum.inr z) (V.int v)=Ci (kn++[(z,v)]):=by
   rw[N3 _ (Si (hd z AX))]
   unfold Ci
   rw[Bv]
   rfl
  have ih:=OX (kn++[(z,v)]) ns vs (Mj hl) h2 (fun y hy=>by
   rw[Bv,Cj]
   rintro (c|c)
   .exact hd y (B1 _ hy) c
   .have:y=z:=by simpa using c
    exact h1 (this▸hy))
  show DE (BO (Ci kn) (Sum.inr z) (V.int v)) (ns.map Sum.inr) (vs.map V.int)=_
  rw[e,ih,Ei]
  rfl
end L2
namespace Pw
structure Dd (T S:Type) where
 loops:List T
 path:List Int
 txt:S
variable {T S:Type}
def Sh (a b:Dd T S)(c:Nat):Prop:=c<=a.loops.length/\c<=b.loops.length/\a.loops.take c=b.loops.take c/\a.path.take c=b.path.take c/\a.path.getD c 0≠b.path.getD c 0
inductive Fs where
 |nil:Fs
 |leaf (k:Nat) (rest:Fs):Fs
 |node (k:Nat) (sub rest:Fs):Fs
def CC (d:Nat):List (Dd T S)->Prop
 |[]=>True
 |[a]=>d<=a.loops.length
 |a::b::ds=>(∃c,d<=c/\Sh a b c)/\CC d (b::ds)
theorem CC.le {d:Nat}:∀{ds:List (Dd T S)},CC d ds->∀a∈ds,d<=a.loops.length
 |[],_,a,ha=>by cases ha
 |[b],h,a,ha=>by rw[BW.mp ha];exact h
 |
  b::e::ds,h,a,ha=>by
  obtain⟨⟨c,h1,h2⟩,h3⟩:=h
  rcases AE.mp ha with rfl|ha
  .have:=h2.1;omega
  .exact CC.le h3 a ha
theorem CC.right {d:Nat}:∀{ds es:List (Dd T S)},CC d (ds++es)->CC d es
 |[],es,h=>h
 |[a],[],h=>True.intro
 |[a],b::es,h=>h.2
 |a::b::ds,es,h=>CC.right (ds:=b::ds) h.2
theorem CC.left {d:Nat}:∀{ds es:List (Dd T S)},CC d (ds++es)->CC d ds
 |[],es,h=>True.intro
 |[a],[],h=>h
 |
  [a],b::es,h=>by
  obtain⟨c,h1,h2⟩:=h.1
  have:=h2.1
  show d<=a.loops.length
  omega
 |a::b::ds,es,h=>⟨h.1,CC.left (ds:=b::ds) h.2⟩
theorem CC.up {d:Nat}{v:Int}:∀{ds:List (Dd T S)},CC d ds->(∀a∈ds,a.path.getD d 0=v)->(∀a,ds.head?=some a->d<a.loops.length)->CC (d+1) ds/\∀a b ds',ds=a::b::ds'->∃c,d+1<=c/\Sh a b c
 |[],h,hv,hl=>⟨True.intro,fun a b ds' e=>by cases e⟩
 |[a],h,hv,hl=>⟨hl a rfl,fun a b ds' e=>by cases e⟩
 |
  a::b::ds,h,hv,hl=>by
  obtain⟨⟨c,h1,h2⟩,h3⟩:=h
  have hc:d+1<=c:=by
   rcases Nat.eq_or_lt_of_le h1 with e|e
   .subst e
    exact absurd ((hv a AX).trans (hv b (B1 _ AX)).symm) h2.2.2.2.2
   .exact e
  have up:=CC.up (v:=v) h3 (fun x hx=>hv x (B1 _ hx)) (fun x hx=>by cases hx;have:=h2.2.1;omega)
  exact⟨⟨⟨c,hc,h2⟩,up.1⟩,fun a' b' ds' e=>by cases e;exact⟨c,hc,h2⟩⟩
def IsF (D:Nat->Option (Dd T S)):Fs->List Nat->Nat->Prop
 |.nil,ns,_=>ns=[]
 |.leaf k rest,ns,d=>∃ns' a,ns=k::ns'/\D k=some a/\a.loops.length=d/\IsF D rest ns' d
 |.node k sub rest,ns,d=>∃g ns' a,ns=k::g++ns'/\D k=some a/\d<a.loops.length/\(∀x∈g,∀b,D x=some b->b.path.getD d 0=a.path.getD d 0)/\(∀x b,ns'.head?=some x->D x=some b->b.path.getD d 0≠a.path.getD d 0)/\IsF D sub (k::g) (d+1)/\IsF D rest ns' d
inductive Got (D:Nat->Option (Dd T S)):List Nat->List (Dd T S)->Prop
 |nil:Got D [] []
 |cons {k:Nat} {a:Dd T S} {ns:List Nat} {ds:List (Dd T S)}:D k=some a->Got D ns ds->Got D (k::ns) (a::ds)
theorem Got.split {D:Nat->Option (Dd T S)}:∀{ns ms:List Nat} {ds:List (Dd T S)},Got D (ns++ms) ds->∃ds1 ds2,ds=ds1++ds2/\Got D ns ds1/\Got D ms ds2
 |[],ms,ds,h=>⟨[],ds,rfl,.nil,h⟩
 |
  k::ns,ms,ds,h=>by
  cases h with
  |
   cons h1 h2=>
   obtain⟨ds1,ds2,rfl,h3,h4⟩:=Got.split h2
   exact⟨_::ds1,ds2,rfl,.cons h1 h3,h4⟩
theorem Got.mem {D:Nat->Option (Dd T S)}{ns:List Nat}{ds:List (Dd T S)}(h:Got D ns ds):∀a∈ds,∃k∈ns,D k=some a:=by
 induction h with
 |nil=>intro a ha;cases ha
 |
  cons h1 h2 ih=>
  intro a ha
  rcases AE.mp ha with rfl|ha
  .exact⟨_,AX,h1⟩
  .obtain⟨k,hk,h⟩:=ih a ha
   exact⟨k,B1 _ hk,h⟩
theorem Got.head {D:Nat->Option (Dd T S)}{ns:List Nat}{ds:List (Dd T S)}{b:Dd T S}(h:Got D ns ds)(hb:ds.head?=some b):∃k,ns.head?=some k/\D k=some b:=by
 cases h with
 |nil=>cases hb
 |cons h1 h2=>cases hb;exact⟨_,rfl,h1⟩
theorem Got.find {D:Nat->Option (Dd T S)}{ns:List Nat}{ds:List (Dd T S)}(h:Got D ns ds){k:Nat}(hk:k∈ns):∃a∈ds,D k=some a:=by
 induction h with
 |nil=>cases hk
 |
  cons h1 h2 ih=>
  rcases AE.mp hk with rfl|hk
  .exact⟨_,AX,h1⟩
  .obtain⟨a,ha,e⟩:=ih hk
   exact⟨a,B1 _ ha,e⟩
end Pw
namespace L2
open PySem PySem.Spec PyProof.Rows
structure Cf where
 nm:Str
 lo:Str×Int
 hi:Str×Int
structure Dw where
 loops:List Cf
 tbl:Str
 sp:List (Str×Int)
 tm:Tw
 path:List Int
def Dw.txt (D:Dw):Str:=Nj D.tbl D.sp++" = "++D.tm.wr
def Dw.dd (D:Dw):Pw.Dd Cf Str:=⟨D.loops,D.path,D.txt⟩
def getD (Ds:List Dw):Nat->Option (Pw.Dd Cf Str):=fun k=>Ds[k]?.map Dw.dd
def BC (Ds:List Dw)(d k:Nat):Int:=match Ds[k]? with
 |some D=>D.path.getD d 0
 |none=>0
inductive BZ (Ds:List Dw)(d:Nat):List Nat->List (List Nat)->Prop
 |nil:BZ Ds d [] []
 |cons {k:Nat} {g ns:List Nat} {G:List (List Nat)}:(∀x∈g,BC Ds d x=BC Ds d k)->(∀y,ns.head?=some y->BC Ds d y≠BC Ds d k)->BZ Ds d ns G->BZ Ds d (k::g++ns) ((k::g)::G)
def CF (g:List Nat):List V:=g.map fun k:Nat=>V.int (k:Int)
def He (H:Hp)(x:V)(g:List Nat):Prop := ∃l,x = .ref l/\H l=some (.lst (CF g))
theorem He.over {H H':Hp}{x:V}{g:List Nat}(e:Aa H H')(h:He H x g):He H' x g:=let ⟨l,r,h⟩:=h;⟨l,r,e _ _ h⟩
inductive GP (Ds:List Dw)(d:Nat):List Nat->List (List Nat)->Prop
 |nil:GP Ds d [] []
 |new {ns:List Nat} {G:List (List Nat)} {k:Nat}:GP Ds d ns G->(∀g h,G.getLast?=some g->g.head?=some h->BC Ds d h≠BC Ds d k)->GP Ds d (ns++[k]) (G++[[k]])
 |more {ns:List Nat} {G:List (List Nat)} {h k:Nat} {g:List Nat}:GP Ds d ns (G++[h::g])->BC Ds d h=BC Ds d k->GP Ds d (ns++[k]) (G++[h::g++[k]])
theorem BZ.snocG {Ds:List Dw}{d k:Nat}:∀{ns:List Nat} {G:List (List Nat)},BZ Ds d ns G->(∀g h,G.getLast?=some g->g.head?=some h->BC Ds d h≠BC Ds d k)->BZ Ds d (ns++[k]) (G++[[k]])
 |_,_,.nil,_=>.cons (g:=[]) (ns:=[]) (fun x hx=>by cases hx) (fun y hy=>by cases hy) .nil
 |
  _,_,.cons (k:=k0) (g:=g0) (ns:=ns') (G:=G') h1 h2 h3,hd=>by
  cases h3 with
  |
   nil=>
   have hk:=hd (k0::g0) k0 rfl rfl
   have:=BZ.cons (Ds:=Ds) (d:=d) (k:=k0) (g:=g0) (ns:=[k]++[]) (G:=[[k]]) h1 (fun y hy=>by cases hy;exact hk.symm) (.cons (g:=[]) (fun x hx=>by cases hx) (fun y hy=>by cases hy) .nil)
   simpa using this
  |
   @cons k1 g1 ns1 G1 a1 a2 a3=>
   have ih:=BZ.snocG (BZ.cons a1 a2 a3) (fun g h hg hh=>hd g h (by rw[List.getLast?_cons_cons];exact hg) hh)
   have:=BZ.cons (Ds:=Ds) (d:=d) (k:=k0) (g:=g0) h1 (ns:=k1::g1++ns1++[k]) (fun y hy=>h2 y (by simpa using hy)) ih
   simpa using this
theorem BZ.more {Ds:List Dw}{d k:Nat}:∀{G:List (List Nat)} {ns:List Nat} {h:Nat} {g:List Nat},BZ Ds d ns (G++[h::g])->BC Ds d h=BC Ds d k->BZ Ds d (ns++[k]) (G++[h::g++[k]])
 |
  [],_,h,g,i,e=>by
  cases i with
  |
   @cons _ _ ns' _ h1 h2 h3=>
   cases h3
   have:=BZ.cons (Ds:=Ds) (d:=d) (k:=h) (g:=g++[k]) (ns:=[]) (G:=[]) (fun x hx=>by
    rcases Cj.mp hx with hx|hx
    .exact h1 x hx
    .rw[BW.mp hx];exact e.symm) (fun y hy=>by cases hy) .nil
   simpa using this
 |
  g1::G,_,h,g,i,e=>by
  cases i with
  |
   @cons k1 g1' ns' _ h1 h2 h3=>
   have ih:=BZ.more (G:=G) h3 e
   have hne:ns'≠[]:=by
    intro z
    subst z
    have h3:BZ Ds d [] (G++[h::g]):=h3
    generalize hG:G++[h::g]=GG at h3
    generalize hn:([]:List Nat)=nn at h3
    cases h3 with
    |nil=>simp at hG
    |cons _ _ _=>simp at hn
   have:=BZ.cons (Ds:=Ds) (d:=d) (k:=k1) (g:=g1') (ns:=ns'++[k]) h1 (fun y hy=>h2 y (by
    cases ns' with
    |nil=>exact absurd rfl hne
    |cons a b=>exact hy)) ih
   simpa using this
theorem GP.isG {Ds:List Dw}{d:Nat}{ns:List Nat}{G:List (List Nat)}(h:GP Ds d ns G):BZ Ds d ns G:=by
 induction h with
 |nil=>exact .nil
 |new _ h ih=>exact ih.snocG h
 |more _ h ih=>exact ih.more h
def BI (H:Hp):Pw.Fs->List V->Prop
 |.nil,xs=>xs=[]
 |.leaf k rest,xs=>∃t xs',xs = .ref t::xs'/\H t=some (.tup [.int (k:Int),.non])/\BI H rest xs'
 |.node k sub rest,xs=>∃t l ys xs',xs = .ref t::xs'/\H t=some (.tup [.int (k:Int),.ref l])/\H l=some (.lst ys)/\BI H sub ys/\BI H rest xs'
theorem BI.over {H H':Hp}(e:Aa H H'):∀{f:Pw.Fs} {xs:List V},BI H f xs->BI H' f xs
 |.nil,xs,h=>h
 |.leaf k rest,xs,h=>let ⟨t,xs',r,h0,h1⟩:=h;⟨t,xs',r,e _ _ h0,BI.over e h1⟩
 |.node k sub rest,xs,h=>let ⟨t,l,ys,xs',r,h0,h1,h2,h3⟩:=h;⟨t,l,ys,xs',r,e _ _ h0,e _ _ h1,BI.over e h2,BI.over e h3⟩
def F0:Pw.Fs->Pw.Fs->Pw.Fs
 |.nil,g=>g
 |.leaf k r,g=>.leaf k (F0 r g)
 |.node k s r,g=>.node k s (F0 r g)
theorem BI.app {H:Hp}:∀{f g:Pw.Fs} {xs ys:List V},BI H f xs->BI H g ys->BI H (F0 f g) (xs++ys)
 |.nil,g,xs,ys,h,h'=>by have h:xs=[]:=h;subst h;exact h'
 |
  .leaf k rest,g,xs,ys,h,h'=>by
  obtain⟨t,xs',rfl,h0,h1⟩:=h
  exact⟨t,xs'++ys,rfl,h0,BI.app h1 h'⟩
 |
  .node k sub rest,g,xs,ys,h,h'=>by
  obtain⟨t,l,zs,xs',rfl,h0,h1,h2,h3⟩:=h
  exact⟨t,l,zs,xs'++ys,rfl,h0,h1,h2,BI.app h3 h'⟩
def By:Pw.Fs->Nat
 |.nil=>0
 |.leaf _ r=>max 1 (By r)
 |.node _ s r=>max (By s+1) (By r)
theorem Jw {D:Nat->Option (Pw.Dd Cf Str)}{d:Nat}:∀{f g:Pw.Fs} {ns ms:List Nat},Pw.IsF D f ns d->Pw.IsF D g ms d->(∀x y a b,ns.getLast?=some x->ms.head?=some y->D x=some a->D y=some b->a.path.getD d 0≠b.path.getD d 0)->(∀x∈ns,∃a,D x=some a)->Pw.IsF D (F0 f g) (ns++ms) d
 |.nil,g,ns,ms,h,h',_,_=>by have h:ns=[]:=h;subst h;exact h'
 |
  .leaf k rest,g,ns,ms,h,h',hd,hm=>by
  obtain⟨ns',a,rfl,h0,h1,h2⟩:=h
  refine⟨ns'++ms,a,rfl,h0,h1,Jw h2 h' (fun x y a b hx=>?_) fun x hx=>hm x (B1 _ hx)⟩
  cases ns' with
  |nil=>cases hx
  |cons z zs=>exact hd x y a b (by rw[List.getLast?_cons_cons];exact hx)
 |
  .node k sub rest,g,ns,ms,h,h',hd,hm=>by
  obtain⟨g',ns',a,rfl,h0,h1,h2,h3,h4,h5⟩:=h
  refine⟨g',ns'++ms,a,by rw[Ei],h0,h1,h2,?_,h4,Jw h5 h' (fun x y a b hx=>?_) fun x hx=>hm x (BK _ hx)⟩
  .intro x b hx hb
   cases ns' with
   |cons z zs=>exact h3 x b hx hb
   |
    nil=>
    obtain⟨last,hl⟩:∃last,(k::g'++[]).getLast?=some last:=⟨_,List.getLast?_eq_some_getLast (by simp)⟩
    have hmem:last∈k::g':=by have:=List.mem_of_getLast? hl;simpa using this
    obtain⟨al,hal⟩:=hm last (by simpa using hmem)
    have h6:=hd last x al b hl hx hal hb
    have e:al.path.getD d 0=a.path.getD d 0:=by
     rcases AE.mp hmem with z|z
     .subst z;rw[h0]at hal;cases hal;rfl
     .exact h2 last z al hal
    rw[e]at h6
    exact h6.symm
  .cases ns' with
   |nil=>cases hx
   |cons z zs=>exact hd x y a b (by rw[PB];rw[hx];rfl)
theorem Jt:∀f g:Pw.Fs,By (F0 f g)<=max (By f) (By g)
 |.nil,g=>Nat.le_max_right _ _
 |
  .leaf k r,g=>by
  have:=Jt r g
  show max 1 (By (F0 r g))<=max (max 1 (By r)) (By g)
  omega
 |
  .node k s r,g=>by
  have:=Jt r g
  show max (By s+1) (By (F0 r g))<=max (max (By s+1) (By r)) (By g)
  omega
def nw (H H':Hp):Hp:=fun b=>match H b with
 |none=>H' b
 |some _=>none
def Fg (H H':Hp)(it:Addr):Hp:=fun b=>if b=it then none else nw H H' b
theorem Ic {H H':Hp}{b:Addr}{o:HO}(h:nw H H' b=some o):H b=none/\H' b=some o:=by
 unfold nw at h
 cases e:H b with
 |none=>rw[e]at h;exact⟨rfl,h⟩
 |some _=>rw[e]at h;cases h
theorem M1 {H H':Hp}{b:Addr}{o:HO}(h:H b=none)(h':H' b=some o):nw H H' b=some o:=by
 unfold nw
 rw[h]
 exact h'
theorem UK {H H':Hp}:Aa (nw H H') H':=fun b o h=>(Ic h).2
theorem O1 {H H':Hp}{it b:Addr}{o:HO}(h:Fg H H' it b=some o):b≠it/\H b=none/\H' b=some o:=by
 unfold Fg at h
 split at h
 .cases h
 .rename_i c;exact⟨c,Ic h⟩
theorem HQ {H H':Hp}{it b:Addr}{o:HO}(h:H b=none)(c:b≠it)(h':H' b=some o):Fg H H' it b=some o:=by
 unfold Fg
 rw[Ae c]
 exact M1 h h'
theorem Le {H H1 H2:Hp}{it:Addr}(k:∀b o,b≠it->H1 b=some o->H2 b=some o):Aa (Fg H H1 it) (Fg H H2 it):=fun b o h=>by
 obtain⟨c,h0,h1⟩:=O1 h
 exact HQ h0 c (k b o c h1)
theorem Wg {H H':Hp}{it:Addr}:Aa (Fg H H' it) (nw H H'):=fun b o h=>by
 obtain⟨c,h0,h1⟩:=O1 h
 exact M1 h0 h1
theorem Rk {H H2 H3:Hp}{it:Addr}{o':HO}(e:Aa H H2)(hi:H2 it=some o'):Aa (nw H2 H3) (Fg H H3 it):=fun b o h=>by
 obtain⟨h0,h1⟩:=Ic h
 exact HQ (e.free h0) (Az hi h0).symm h1
def P6 (H:Hp)(gl:Addr)(G:List (List Nat)):Prop := ∃xs,H gl=some (.lst xs)/\Ay (He H) xs G
theorem D4 {Ds:List Dw}{k:Nat}{D:Dw}(h:Ds[k]?=some D):getD Ds k=some D.dd:=by unfold getD;rw[h];rfl
theorem Gk {Ds:List Dw}{k:Nat}{a:Pw.Dd Cf Str}(h:getD Ds k=some a):∃D,Ds[k]?=some D/\D.dd=a:=by
 unfold getD at h
 exact Mc.mp h
theorem EI {Ds:List Dw}{d k:Nat}{D:Dw}(h:Ds[k]?=some D):BC Ds d k=D.path.getD d 0:=by unfold BC;rw[h]
theorem Rv {Ds:List Dw}:Pw.Got (getD Ds) (List.range Ds.length) (Ds.map Dw.dd):=by
 have:∀(es fs:List Dw),fs++es=Ds->Pw.Got (getD Ds) (List.range' fs.length es.length) (es.map Dw.dd):=by
  intro es
  induction es with
  |nil=>intro fs e;exact .nil
  |
   cons D es ih=>
   intro fs e
   have h:=ih (fs++[D]) (by rw[Ei];exact e)
   rw[Ac]at h
   refine .cons (D4 ?_) h
   rw[←e,DU (An _),EV]
   rfl
 have:=this Ds [] rfl
 rw[List.range_eq_range']
 exact this
def EO (H:Hp)(a b:Addr):Hp:=fun x=>if x=a\/x=b then none else H x
theorem VH {H:Hp}{a b:Addr}:Aa (EO H a b) H:=fun x o h=>by
 unfold EO at h
 split at h
 .cases h
 .exact h
theorem SU {H:Hp}{a b:Addr}{o:HO}:EO (upd H b o) a b=EO H a b:=by
 funext x
 unfold EO
 by_cases c:x=a\/x=b
 .rw[Ah c,Ah c]
 .rw[Ae c,Ae c,Ag fun z=>c (.inr z)]
theorem UB {H:Hp}{a b x:Addr}{o:HO}(h:H x=some o)(h1:x≠a)(h2:x≠b):EO H a b x=some o:=by
 unfold EO
 rw[Ae (fun z=>z.elim h1 h2)]
 exact h
def FK (H0 H:Hp)(gl:Addr)(xs:List V)(G:List (List Nat)):Prop:=(xs=[]/\G=[])\/∃(xs':List V) (l:Addr) (G':List (List Nat)) (h:Nat) (g:List Nat),xs=xs'++[.ref l]/\G=G'++[h::g]/\Ay (He (EO H gl l)) xs' G'/\H l=some (.lst (CF (h::g)))/\l≠gl/\H0 l=none
theorem FK.len {H0 H:Hp}{gl:Addr}{xs:List V}{G:List (List Nat)}(h:FK H0 H gl xs G):xs.length=G.length:=by
 rcases h with⟨rfl,rfl⟩|⟨xs',l,G',h,g,rfl,rfl,ha,_⟩
 .rfl
 .rw[Ac,Ac,ha.1];rfl
theorem FK.all {H0 H:Hp}{gl:Addr}{xs:List V}{G:List (List Nat)}(h:FK H0 H gl xs G)(hg:H gl=some (.lst xs)):P6 H gl G:=by
 refine⟨xs,hg,?_⟩
 rcases h with⟨rfl,rfl⟩|⟨xs',l,G',h,g,rfl,rfl,ha,hl,_⟩
 .exact .nil
 .exact(ha.mono fun x g z=>z.over VH).snoc ⟨l,rfl,hl⟩
theorem FK.new {H0 H:Hp}{gl l:Addr}{xs:List V}{G:List (List Nat)}{k:Nat}(h:FK H0 H gl xs G)(hg:H gl=some (.lst xs))(hl:H l=none)(hl0:H0 l=none):FK H0 (upd (upd H l (.lst [V.int (k:Int)])) gl (.lst (xs++[.ref l]))) gl (xs++[.ref l]) (G++[[k]]):=by
 have nlg:l≠gl:=(Az hg hl).symm
 refine .inr ⟨xs,l,G,k,[],rfl,rfl,?_,by rw[Ag nlg];exact A6,nlg,hl0⟩
 have keep:∀{x:Addr} {g:List Nat},x≠gl->H x=some (.lst (CF g))->He (EO (upd (upd H l (.lst [V.int (k:Int)])) gl (.lst (xs++[.ref l]))) gl l) (.ref x) g:=fun{x g} hx h=>by
  have nx:=Az h hl
  exact⟨x,rfl,UB (by rw[Ag hx,Ag nx];exact h) hx nx⟩
 rcases h with⟨rfl,rfl⟩|⟨xs',l',G',h,g,rfl,rfl,ha,hl',nl',_⟩
 .exact .nil
 .refine(ha.mono fun x g z=>?_).snoc (keep nl' hl')
  obtain⟨y,rfl,hy⟩:=z
  unfold EO at hy
  split at hy
  .cases hy
  .rename_i c
   exact keep (fun z=>c (.inl z)) hy
theorem BZ.mem {Ds:List Dw}{d:Nat}{ns:List Nat}{G:List (List Nat)}(h:BZ Ds d ns G):∀g∈G,∀x∈g,x∈ns:=by
 induction h with
 |nil=>intro g hg;cases hg
 |
  cons h1 h2 h3 ih=>
  intro g hg x hx
  rcases AE.mp hg with rfl|hg
  .exact Ck _ hx
  .exact BK _ (ih g hg x hx)
theorem BZ.glen {Ds:List Dw}{d:Nat}{ns:List Nat}{G:List (List Nat)}(h:BZ Ds d ns G):∀g∈G,g.length<=ns.length:=by
 induction h with
 |nil=>intro g hg;cases hg
 |
  cons h1 h2 h3 ih=>
  intro g hg
  rw[Ac]
  rcases AE.mp hg with rfl|hg
  .omega
  .have:=ih g hg;omega
def NL (H H':Hp):Prop := ∀b o,H b=some o->(∀xs,o≠.lst xs)->H' b=some o
theorem NL.upd {H:Hp}{l:Addr}{xs:List V}{o:HO}(hl:H l=some (.lst xs)):NL H (upd H l o):=fun b ob hb hn=>by
 rw[Ag (fun z=>by rw[z,hl]at hb;cases hb;exact hn _ rfl)]
 exact hb
end L2
namespace Pm
variable {S:Type}[DecidableEq S]
end Pm
namespace L2
open PySem PySem.Spec PyProof.Rows
theorem EK.tk {H H':Hp}{p:Addr}(h:EK H p)(e:TK H H'):EK H' p:=by
 obtain⟨xs,h1,h2,h3⟩:=h
 exact⟨xs,e _ _ h1,h2,fun v hv=>let ⟨t,z,n,a,b⟩:=h3 v hv;⟨t,z,n,a,e _ _ b⟩⟩
theorem CK.tk {H H':Hp}(e:TK H H'){n:Nat}{x:V}{rs:DB}(h:CK H n x rs):CK H' n x rs:=by
 induction h with
 |n i h=>exact .n i (e _ _ h)
 |v z h=>exact .v z (e _ _ h)
 |c z h hp=>exact .c z (e _ _ h) (hp.tk e)
 |j z hz h _ _ a b=>exact .j z hz (e _ _ h) a b
def Sj (K:XJ):Sp:=fun vs H Q _=>∃(sc:Addr) (ns:List Int),vs=[.ref sc]/\A7 K H sc (ns.map V.int)/\ns.length<=63/\∀(H':Hp) (n:Int),Aa H H'->Q (.int n) H'
structure Lp where
 nm:Str
 lz:Str
 ln:Int
 hz:Str
 hn:Int
 ab:Int
 tn:Int
def CO (H:Hp)(v:V)(q:Lp):Prop := ∃p p1 p2,v = .ref p/\H p=some (.tup [.str q.nm,.ref p1,.ref p2,.int q.ab,.int q.tn])/\H p1=some (.tup [.str q.lz,.int q.ln])/\H p2=some (.tup [.str q.hz,.int q.hn])
theorem CO.over {H H':Hp}{v:V}{q:Lp}(h:CO H v q)(e:Aa H H'):CO H' v q:=by obtain⟨p,p1,p2,a,b,c,d⟩:=h;exact⟨p,p1,p2,a,e _ _ b,e _ _ c,e _ _ d⟩
theorem CO.tk {H H':Hp}{v:V}{q:Lp}(h:CO H v q)(e:TK H H'):CO H' v q:=by obtain⟨p,p1,p2,a,b,c,d⟩:=h;exact⟨p,p1,p2,a,e _ _ b,e _ _ c,e _ _ d⟩
def Bs (S:List Lp)(z:Str):Prop:=z=""\/∃r∈S,z=r.nm
def NK (H:Hp)(st:Addr)(S:List Lp):Prop := ∃vs,H st=some (.lst vs)/\Ay (CO H) vs S
def Bi (c e:Int):Str:=Bb (De (Bx c 11) e)
def MO (S:List Lp)(c:Int)(q:Lp):Prop:=q.nm=Bi c (((S.length:Int)+q.tn)%3)/\0<=q.tn/\q.tn<=2/\(∀r,S.head?=some r->q.tn=r.tn)/\Bs S q.lz/\Bs S q.hz
structure E6 (S:List Lp)(c:Int):Prop where
 len:S.length<=3
 tn:∃t:Int,0<=t/\t<=2/\∀(i:Nat) (q:Lp),S[i]?=some q->q.tn=t/\q.nm=Bi c (((i:Int)+t)%3)
 bs:∀(i:Nat) (q:Lp),S[i]?=some q->Bs (S.take i) q.lz/\Bs (S.take i) q.hz
theorem E6.nil (c:Int):E6 [] c:=⟨BF _,⟨0,by decide,by decide,fun i q h=>by simp at h⟩,fun i q h=>by simp at h⟩
theorem E6.snoc {S:List Lp}{c:Int}{q:Lp}(h:E6 S c)(l:S.length<3)(g:MO S c q):E6 (S++[q]) c:=by
 obtain⟨g1,g2,g3,g4,g5,g6⟩:=g
 obtain⟨t,t0,t1,ht⟩:=h.tn
 have tq:S=[]\/q.tn=t:=by
  cases S with
  |nil=>exact .inl rfl
  |cons r S=>exact .inr ((g4 r rfl).trans (ht 0 r rfl).1)
 have get:∀(i:Nat) (r:Lp),(S++[q])[i]?=some r->(i<S.length/\S[i]?=some r)\/(i=S.length/\r=q):=fun i r hr=>by
  by_cases c:i<S.length
  .rw[Fj c]at hr
   exact .inl ⟨c,hr⟩
  .have:i=S.length:=by
    have:=(BR.mp hr).1
    rw[Ac,AN]at this
    omega
   subst this
   rw[DU (An _),EV]at hr
   cases hr
   exact .inr ⟨rfl,rfl⟩
 refine⟨by rw[Ac,AN];omega,⟨q.tn,g2,g3,fun i r hr=>?_⟩,fun i r hr=>?_⟩
 .rcases get i r hr with⟨hi,hr⟩|⟨rfl,rfl⟩
  .rcases tq with rfl|e
   .simp at hr
   .rw[e];exact ht i r hr
  .exact⟨rfl,g1⟩
 .rcases get i r hr with⟨hi,hr⟩|⟨rfl,rfl⟩
  .rw[CL (by omega)]
   exact h.bs i r hr
  .rw[CL (An _),DV]
   exact⟨g5,g6⟩
def AY (S:List Lp):List Str:=S.map (·.nm)
theorem KZ {S:List Lp}{c:Int}(h:E6 S c):(AY S).Nodup:=by
 obtain⟨t,t0,t1,ht⟩:=h.tn
 have hl:=h.len
 unfold AY
 rw[List.nodup_iff_pairwise_ne,KA]
 intro i j hi hj hij e
 rw[Ao]at hi hj
 rw[List.getElem_map,List.getElem_map,(ht i _ (Be hi)).2,(ht j _ (Be hj)).2]at e
 have e:=congrArg Bn e
 unfold Bi at e
 rw[D9,D9]at e
 have a0:=B7 ((i:Int)+t) (show(3:Int)≠0 by decide)
 have a1:=B8 ((i:Int)+t) (show(0:Int)<3 by decide)
 have b0:=B7 ((j:Int)+t) (show(3:Int)≠0 by decide)
 have b1:=B8 ((j:Int)+t) (show(0:Int)<3 by decide)
 exact QE (by omega) (by omega) (by omega) (by omega) (fun z=>by omega) e
theorem Lm {S:List Lp}{c:Int}(h:E6 S c):∀z∈AY S,z≠"":=fun z hz e=>by
 obtain⟨t,t0,t1,ht⟩:=h.tn
 unfold AY at hz
 obtain⟨q,hq,rfl⟩:=AW.mp hz
 obtain⟨i,hi⟩:=J3.mp hq
 rw[(ht i q hi).2]at e
 have:=congrArg (fun z=>(Bn z).length) e
 unfold Bi at this
 rw[D9]at this
 have a0:=B7 ((i:Int)+t) (show(3:Int)≠0 by decide)
 have a1:=B8 ((i:Int)+t) (show(0:Int)<3 by decide)
 have b:=(WW (m:=Bx c 11) (e:=((i:Int)+t)%3) (by omega) (by omega)).1
 have:(De (Bx c 11) (((i:Int)+t)%3)).length=0:=this
 omega
def M4 (kvs:List (Ap×V))(zs:List Str)(W:List Int):Prop := ∀(j:Nat) (z:Str),j<W.length->zs[j]?=some z->Bg kvs (Sum.inr z:Ap)=some (.int (W.getD j 0))
def VB:Sp:=fun vs H Q _=>∃(nm vt:Addr) (zs:List Str) (W:List Int),vs=[.ref nm,.ref vt]/\H nm=some (.tup (zs.map V.str))/\H vt=some (.tup (W.map V.int))/\W.length<=zs.length/\zs.length<=100/\zs.Nodup/\∀(r:Addr) (kvs:List (Ap×V)) (H':Hp),Aa H H'->H' r=some (.dK kvs)->M4 kvs zs W->Q (.ref r) H'
def GT (kvs:List (Ap×V))(z:Str)(b:Int):Prop:=(z=""/\b=0)\/(z≠""/\Bg kvs (Sum.inr z:Ap)=some (.int b))
def Um:Sp:=fun vs H Q _=>∃(sp d t1 t2:Addr) (z1 z2:Str) (n1 n2 b1 b2:Int) (kvs:List (Ap×V)),vs=[.ref sp,.ref d]/\H sp=some (.tup [.ref t1,.ref t2])/\H t1=some (.tup [.str z1,.int n1])/\H t2=some (.tup [.str z2,.int n2])/\H d=some (.dK kvs)/\GT kvs z1 b1/\GT kvs z2 b2/\∀(r:Addr) (H':Hp),Aa H H'->H' r=some (.tup [.int (b1+n1),.int (b2+n2)])->Q (.ref r) H'
theorem QU {K:XJ}{a b:Addr}{xs ys:List V}{g:TG}{tb:TS}{D:CI}{σ:St}{H:Hp}(hlen:ys.length<=xs.length)(Pv:Nat->St->Hp->Prop)(h0:Pv 0 σ H)(hl:∀i σ H,i<=ys.length->Pv i σ H->A8 K H a xs/\A8 K H b ys)
  (hs:∀i x y T σ H,xs[i]?=some x->ys[i]?=some y->Pv i σ H->H T=none->g (.ref T) σ (upd H T (.tup [x,y])) fun σ2 H2=>tb {D with nx:=Pv (i+1),ct:=Pv (i+1),bk:=D.nx} σ2 H2) (hd:∀σ H,Pv ys.length σ H->D.nx σ H) :
  ∃W:Nat->Nat->St->Hp->Prop,(∃m,W 0 m σ H)/\∀i m σ H,W i m σ H->
   ((IM K a b).stop i H/\D.nx σ H)\/((IM K a b).go i H/\∃N:St->Hp->Prop,(∀σ' H',N σ' H'->∃m',m'<m/\W (i+1) m' σ' H')/\∀x H',(IM K a b).yld i H x H'->g x σ H' fun σ2 H2=>tb {D with nx:=N,ct:=N,bk:=D.nx} σ2 H2):=by
 refine⟨fun i m σ H=>m=ys.length-i/\i<=ys.length/\Pv i σ H,⟨ys.length,by simp,BF _,h0⟩,?_⟩
 rintro i m σ H ⟨rfl,hi,p⟩
 obtain⟨q1,q2⟩:=hl i σ H hi p
 by_cases hlt:i<ys.length
 .refine .inr ⟨⟨xs,ys,xs[i],ys[i],q1,q2,Be (by omega),Be hlt⟩,Pv (i+1),fun σ' H' p'=>⟨ys.length-(i+1),by omega,rfl,hlt,p'⟩,fun v H' yy=>?_⟩
  obtain⟨x,y,T,hx,hy,hT,rfl,rfl⟩:=yy
  exact hs i x y T σ H (hx xs q1) (hy ys q2) p hT
 .have e:i=ys.length:=by omega
  subst e
  exact .inl ⟨⟨xs,ys,q1,q2,by omega,An _,.inr rfl⟩,hd σ H p⟩
end L2
namespace PySem
open Builtin
open AutoSeq1 (wpAny_loadPart')
theorem VI (l:Addr)(k:Tok)(x:Value)(n:Nat)(dd:Option Addr)(sl:Array (Option Value)) :
  Meets (Builtin.«tuple.__mul__» ⟨[.ref l,.int 2 k],[]⟩) (fun _ R s=>s.heap.get? l=some {cls:=.type "tuple",dict:=dd,data:=.seq #[x] n,slots:=sl}/\R (.ok (.ret (Value.ref s.heap.objs.size))) {s with heap:=s.heap.push {cls:=Value.type "tuple",data:=Data.seq #[x,x]},toks:=s.toks}):=
 .of_wp fun prog w A R s h=>by obtain⟨hp,g,d,tk,os⟩:=s;obtain⟨hl,h⟩:=h;have f1:=AutoSeq1.idx_int;have f2:=AutoSeq1.sub_tuple_tuple;wp_walk using wpAny_loadPart' hl;exact⟨_,rfl,h⟩
theorem QH (l:Addr)(k:Tok)(x:Value)(n:Nat)(dd:Option Addr)(sl:Array (Option Value)) :
  Meets (Builtin.«tuple.__mul__» ⟨[.ref l,.int 3 k],[]⟩) (fun _ R s=>s.heap.get? l=some {cls:=.type "tuple",dict:=dd,data:=.seq #[x] n,slots:=sl}/\R (.ok (.ret (Value.ref s.heap.objs.size))) {s with heap:=s.heap.push {cls:=Value.type "tuple",data:=Data.seq #[x,x,x]},toks:=s.toks}):=
 .of_wp fun prog w A R s h=>by obtain⟨hp,g,d,tk,os⟩:=s;obtain⟨hl,h⟩:=h;have f1:=AutoSeq1.idx_int;have f2:=AutoSeq1.sub_tuple_tuple;wp_walk using wpAny_loadPart' hl;exact⟨_,rfl,h⟩
theorem RB (l:Addr)(k:Tok)(x:Value)(n:Nat)(dd:Option Addr)(sl:Array (Option Value)) :
  Meets (Builtin.«tuple.__mul__» ⟨[.ref l,.int 4 k],[]⟩) (fun _ R s=>s.heap.get? l=some {cls:=.type "tuple",dict:=dd,data:=.seq #[x] n,slots:=sl}/\R (.ok (.ret (Value.ref s.heap.objs.size))) {s with heap:=s.heap.push {cls:=Value.type "tuple",data:=Data.seq #[x,x,x,x]},toks:=s.toks}):=
 .of_wp fun prog w A R s h=>by obtain⟨hp,g,d,tk,os⟩:=s;obtain⟨hl,h⟩:=h;have f1:=AutoSeq1.idx_int;have f2:=AutoSeq1.sub_tuple_tuple;wp_walk using wpAny_loadPart' hl;exact⟨_,rfl,h⟩
end PySem
namespace L2
open PySem PySem.Spec PyProof.Rows
def C4 (ns:List Int)(k:Int):Int:=if k<(ns.length:Int) then ns.getD k.toNat 0 else
 if 0<ns.length then((ns.getD (k*7%(ns.length:Int)).toNat 0*48271+k*7919)%2147483647)*((ns.getD (k*7%(ns.length:Int)).toNat 0*48271+k*7919)%2147483647)%2147483629 else(k*7919+5)*(k*7919+5)%2147483629
def SY (K:XJ):Sp:=fun vs H Q _=>∃(p:Addr) (ns:List Int) (k:Int),vs=[.ref p,.int k]/\A7 K H p (ns.map V.int)/\0<=k/\k<=1000000/\Q (.int (C4 ns k)) H
end L2
namespace Tn
open Pw
variable {T S:Type}
def rng (lo hi:Int):List Int:=(List.range (hi+1-lo).toNat).map fun(i:Nat)=>lo+(i:Int)
theorem mem_rng {lo hi v:Int}:v∈rng lo hi↔lo<=v/\v<=hi:=by
 unfold rng
 rw[AW]
 constructor
 .rintro ⟨i,hi,rfl⟩
  rw[Di]at hi
  omega
 .intro h
  exact⟨(v-lo).toNat,by rw[Di];omega,by omega⟩
theorem My {lo hi:Int}:(rng lo hi).Pairwise (· < ·):=by
 unfold rng
 rw[Ml]
 exact List.Pairwise.imp (fun h=>by omega) List.pairwise_lt_range
theorem rng_len {lo hi:Int}:(rng lo hi).length=(hi+1-lo).toNat:=by
 unfold rng
 rw[Ao,Dz]
theorem rng_get {lo hi:Int}{i:Nat}(h:i<(hi+1-lo).toNat):(rng lo hi)[i]?=some (lo+(i:Int)):=by
 unfold rng
 rw[C1,IY h]
 rfl
theorem flat_len {α β:Type}{f:α->List β}:∀{l:List α} {i:Nat} {x:α},l[i]?=some x->((l.take i).flatMap f).length+(f x).length<=(l.flatMap f).length
 |[],i,x,h=>by cases h
 |
  y::l,0,x,h=>by
  cases h
  show 0+(f y).length<=(f y++l.flatMap f).length
  rw[Ac]
  omega
 |
  y::l,i+1,x,h=>by
  have:=flat_len (f:=f) (l:=l) (i:=i) (x:=x) h
  show(f y++(l.take i).flatMap f).length+(f x).length<=(f y++l.flatMap f).length
  rw[Ac,Ac]
  omega
def tl (B:Nat->List Int->Int×Int):Fs->List Int->List (Nat×List Int)
 |.nil,_=>[]
 |.leaf k r,vs=>(k,vs)::tl B r vs
 |.node k s r,vs=>(rng (B k vs).1 (B k vs).2).flatMap (fun v=>tl B s (vs++[v]))++tl B r vs
def Ex (D:Nat->Option (Dd T S))(B:Nat->List Int->Int×Int)(k:Nat)(vs w:List Int):Prop := ∃a,D k=some a/\w.length=a.loops.length/\w.take vs.length=vs/\∀e,vs.length<=e->e<w.length->(B k (w.take e)).1<=w.getD e 0/\w.getD e 0<=(B k (w.take e)).2
def Prs (D:Nat->Option (Dd T S))(B:Nat->List Int->Int×Int)(d k l:Nat):Prop := ∃a b c,D k=some a/\D l=some b/\d<=c/\c<=a.loops.length/\c<=b.loops.length/\a.path.take c=b.path.take c/\a.path.getD c 0<b.path.getD c 0/\∀vs:List Int,vs.length<c->B k vs=B l vs
def Gd (D:Nat->Option (Dd T S))(k:Nat):Prop := ∃a,D k=some a/\a.path.length=a.loops.length+1
theorem take_at {l m:List Int}{c n:Nat}(h:l.take n=m.take n)(hc:c<n):l.getD c 0=m.getD c 0:=by
 have e:(l.take n)[c]?=(m.take n)[c]?:=by rw[h]
 rw[Mm,Mm,Ah hc,Ah hc]at e
 rw[CV,CV,e]
theorem take_le {α:Type}{l m:List α}{c n:Nat}(h:l.take n=m.take n)(hc:c<=n):l.take c=m.take c:=by
 have:=congrArg (List.take c) h
 rw[Mn,Mn,Ky hc]at this
 exact this
theorem IA {l:List Int}{n:Nat}(h:n<l.length):l.take (n+1)=l.take n++[l.getD n 0]:=by
 rw[List.take_succ,CV,Be h]
 rfl
theorem Prs.up {D:Nat->Option (Dd T S)}{B:Nat->List Int->Int×Int}{d k l:Nat}{a b:Dd T S}(h:Prs D B d k l)(ha:D k=some a)(hb:D l=some b)(e:b.path.getD d 0=a.path.getD d 0):Prs D B (d+1) k l:=by
 obtain⟨a',b',c,ha',hb',h1,h2,h3,h4,h5,h6⟩:=h
 rw[ha]at ha';rw[hb]at hb'
 obtain rfl:=AZ ha'
 obtain rfl:=AZ hb'
 refine⟨a,b,c,ha,hb,?_,h2,h3,h4,h5,h6⟩
 rcases CZ d c with z|z
 .exact z
 .rw[show c=d by omega]at h5;omega
structure Grp (D:Nat->Option (Dd T S))(B:Nat->List Int->Int×Int)(d k0:Nat)(g:List Nat)(a:Dd T S):Prop where
 a0:D k0=some a
 up:(k0::g).Pairwise (Prs D B (d+1))
 eq:∀k∈k0::g,∃b,D k=some b/\b.path.take (d+1)=a.path.take (d+1)/\d+1<=b.loops.length/\∀vs:List Int,vs.length<=d->B k vs=B k0 vs
theorem grp {D:Nat->Option (Dd T S)}{B:Nat->List Int->Int×Int}{d k0:Nat}{g:List Nat}{a:Dd T S}(h:(k0::g).Pairwise (Prs D B d))(gd:∀k∈k0::g,Gd D k)(ha:D k0=some a)(hl:d<a.loops.length)(hg:∀x∈g,∀b,D x=some b->b.path.getD d 0=a.path.getD d 0):Grp D B d k0 g a:=by
 have pt:∀k∈k0::g,∀b,D k=some b->b.path.getD d 0=a.path.getD d 0:=by
  intro k hk b hb
  rcases AE.mp hk with rfl|hk
  .rw[ha]at hb;rw[AZ hb]
  .exact hg k hk b hb
 have up:(k0::g).Pairwise (Prs D B (d+1)):=by
  refine h.imp_of_mem fun{x y} hx hy p=>?_
  have p':=p
  obtain⟨a1,b1,_,h1,h2,_⟩:=p'
  exact p.up h1 h2 (by rw[pt x hx a1 h1,pt y hy b1 h2])
 refine⟨ha,up,fun k hk=>?_⟩
 rcases AE.mp hk with rfl|hk
 .exact⟨a,ha,rfl,hl,fun _ _=>rfl⟩
 .obtain⟨a1,b1,c,h1,h2,h3,h4,h5,h6,h7,h8⟩:=(DW.mp up).1 k hk
  rw[ha]at h1
  obtain rfl:=AZ h1
  exact⟨b1,h2,(take_le h6 h3).symm,by omega,fun vs hv=>(h8 vs (by omega)).symm⟩
theorem mem_tl {D:Nat->Option (Dd T S)}{B:Nat->List Int->Int×Int}:∀{f:Fs} {ns:List Nat} {d:Nat} {vs:List Int},IsF D f ns d->ns.Pairwise (Prs D B d)->(∀k∈ns,Gd D k)->vs.length=d->∀{k:Nat} {w:List Int},(k,w)∈tl B f vs↔k∈ns/\Ex D B k vs w
 |
  .nil,ns,d,vs,h,hp,gd,hv,k,w=>by
  have h:ns=[]:=h
  subst h
  exact⟨fun z=>(by cases z),fun z=>(by cases z.1)⟩
 |
  .leaf k0 rest,ns,d,vs,h,hp,gd,hv,k,w=>by
  obtain⟨ns',a,rfl,h0,h1,h2⟩:=h
  have ih:=mem_tl (vs:=vs) h2 (DW.mp hp).2 (fun k hk=>gd k (B1 _ hk)) hv (k:=k) (w:=w)
  show(k,w)∈(k0,vs)::tl B rest vs↔_
  rw[AE,ih,AE]
  constructor
  .rintro (z|⟨z,e⟩)
   .obtain⟨rfl,rfl⟩:=Mo z
    exact⟨.inl rfl,a,h0,by omega,DV,fun e h1 h2=>by omega⟩
   .exact⟨.inr z,e⟩
  .rintro ⟨rfl|z,e⟩
   .obtain⟨b,hb,e1,e2,_⟩:=e
    rw[h0]at hb
    obtain rfl:=AZ hb
    refine .inl ?_
    rw[Dy (by omega)]at e2
    rw[e2]
   .exact .inr ⟨z,e⟩
 |
  .node k0 sub rest,ns,d,vs,h,hp,gd,hv,k,w=>by
  obtain⟨g,ns',a,rfl,h0,h1,h2,h3,h4,h5⟩:=h
  have hp':=FX.mp hp
  have G:=grp (a:=a) hp'.1 (fun k hk=>gd k (Ck _ hk)) h0 h1 h2
  have ih2:=mem_tl (vs:=vs) h5 hp'.2.1 (fun k hk=>gd k (BK _ hk)) hv (k:=k) (w:=w)
  show(k,w)∈(rng (B k0 vs).1 (B k0 vs).2).flatMap (fun v=>tl B sub (vs++[v]))++tl B rest vs↔_
  rw[Cj,Fl,ih2,Cj]
  have e:(∃v∈rng (B k0 vs).1 (B k0 vs).2,(k,w)∈tl B sub (vs++[v]))↔k∈k0::g/\Ex D B k vs w:=by
   constructor
   .rintro ⟨v,hv1,hm⟩
    have:=(mem_tl (vs:=vs++[v]) h4 G.up (fun k hk=>gd k (Ck _ hk)) (by rw[Ac,hv];rfl) (k:=k) (w:=w)).mp hm
    obtain⟨hk,b,hb,e1,e2,e3⟩:=this
    obtain⟨b',hb',p1,p2,p3⟩:=G.eq k hk
    rw[hb]at hb'
    obtain rfl:=AZ hb'
    rw[Ac,AN]at e2 e3
    have e4:w.take vs.length=vs:=by
     have:=congrArg (List.take vs.length) e2
     rw[Mn,Ky (by omega),List.take_left]at this
     exact this
    refine⟨hk,b,hb,e1,e4,fun e he1 he2=>?_⟩
    rcases CZ vs.length e with z|z
    .exact e3 e z he2
    .obtain rfl:e=vs.length:=by omega
     have:w.getD vs.length 0=v:=by
      rw[IA he2,e4]at e2
      exact(FY (List.append_cancel_left e2)).1
     rw[e4,p3 vs (by omega),this]
     exact mem_rng.mp hv1
   .rintro ⟨hk,b,hb,e1,e2,e3⟩
    obtain⟨b',hb',p1,p2,p3⟩:=G.eq k hk
    rw[hb]at hb'
    obtain rfl:=AZ hb'
    have lt:vs.length<w.length:=by omega
    have:=e3 vs.length (An _) lt
    rw[e2,p3 vs (by omega)]at this
    refine⟨w.getD vs.length 0,mem_rng.mpr this,?_⟩
    refine(mem_tl (vs:=vs++[w.getD vs.length 0]) h4 G.up (fun k hk=>gd k (Ck _ hk)) (by rw[Ac,hv];rfl) (k:=k) (w:=w)).mpr ⟨hk,b,hb,e1,?_,fun e he=>?_⟩
    .rw[Ac,AN,IA lt,e2]
    .rw[Ac,AN]at he
     exact e3 e (by omega)
  rw[e]
  constructor
  .rintro (⟨x,y⟩|⟨x,y⟩)
   .exact⟨.inl x,y⟩
   .exact⟨.inr x,y⟩
  .rintro ⟨x|x,y⟩
   .exact .inl ⟨x,y⟩
   .exact .inr ⟨x,y⟩
def DJ:List Int->List Int->List Int
 |p::_,[]=>[p]
 |p::ps,w::ws=>p::w::DJ ps ws
 |[],_=>[]
def key (D:Nat->Option (Dd T S))(x:Nat×List Int):List Int:=match D x.1 with
 |some a=>DJ a.path x.2
 |none=>[]
theorem Hb {D:Nat->Option (Dd T S)}{k:Nat}{w:List Int}{a:Dd T S}(h:D k=some a):key D (k,w)=DJ a.path w:=by
 unfold key
 rw[h]
theorem Lg:∀{c:Nat} {p q w u:List Int},p.take c=q.take c->w.take c=u.take c->c<p.length->c<q.length->c<=w.length->c<=u.length->p.getD c 0<q.getD c 0->HT.lexLt (DJ p w) (DJ q u)=true
 |
  0,x::p,y::q,w,u,hp,hw,h1,h2,h3,h4,h=>by
  have h:x<y:=h
  have ne:¬x=y:=by omega
  cases w<;>cases u<;>(show(if x=y then _ else decide (x<y))=true)<;>rw[Ae ne]<;>exact Cc h
 |
  c+1,x::p,y::q,v::w,z::u,hp,hw,h1,h2,h3,h4,h=>by
  have e1:x=y/\p.take c=q.take c:=FY hp
  have e2:v=z/\w.take c=u.take c:=FY hw
  show(if x=y then(if v=z then HT.lexLt (DJ p w) (DJ q u) else decide (v<z)) else decide (x<y))=true
  rw[Ah e1.1,Ah e2.1]
  exact Lg e1.2 e2.2 (Hq h1) (Hq h2) (Mj h3) (Mj h4) h
theorem OE:∀{c:Nat} {p q w u:List Int},p.take (c+1)=q.take (c+1)->w.take c=u.take c->c<p.length->c<q.length->c<w.length->c<u.length->w.getD c 0<u.getD c 0->HT.lexLt (DJ p w) (DJ q u)=true
 |
  0,x::p,y::q,v::w,z::u,hp,hw,h1,h2,h3,h4,h=>by
  have e1:x=y/\p.take 0=q.take 0:=FY hp
  have h:v<z:=h
  show(if x=y then(if v=z then HT.lexLt (DJ p w) (DJ q u) else decide (v<z)) else decide (x<y))=true
  rw[Ah e1.1,Ae (by omega)]
  exact Cc h
 |
  c+1,x::p,y::q,v::w,z::u,hp,hw,h1,h2,h3,h4,h=>by
  have e1:x=y/\p.take (c+1)=q.take (c+1):=FY hp
  have e2:v=z/\w.take c=u.take c:=FY hw
  show(if x=y then(if v=z then HT.lexLt (DJ p w) (DJ q u) else decide (v<z)) else decide (x<y))=true
  rw[Ah e1.1,Ah e2.1]
  exact OE e1.2 e2.2 (Hq h1) (Hq h2) (Hq h3) (Hq h4) h
theorem Ex.tk {D:Nat->Option (Dd T S)}{B:Nat->List Int->Int×Int}{k:Nat}{vs w:List Int}{a:Dd T S}(h:Ex D B k vs w)(ha:D k=some a):w.length=a.loops.length/\w.take vs.length=vs:=by
 obtain⟨b,hb,h1,h2,_⟩:=h
 rw[ha]at hb
 obtain rfl:=AZ hb
 exact⟨h1,h2⟩
theorem rise {D:Nat->Option (Dd T S)}{B:Nat->List Int->Int×Int}:∀{f:Fs} {ns:List Nat} {d:Nat} {vs:List Int},IsF D f ns d->ns.Pairwise (Prs D B d)->(∀k∈ns,Gd D k)->vs.length=d->(tl B f vs).Pairwise fun x y=>HT.lexLt (key D x) (key D y)=true
 |.nil,ns,d,vs,h,hp,gd,hv=>.nil
 |
  .leaf k0 rest,ns,d,vs,h,hp,gd,hv=>by
  obtain⟨ns',a,rfl,h0,h1,h2⟩:=h
  have hp':=DW.mp hp
  have gd':∀k∈ns',Gd D k:=fun k hk=>gd k (B1 _ hk)
  refine DW.mpr ⟨fun y hy=>?_,rise h2 hp'.2 gd' hv⟩
  obtain⟨l,u⟩:=y
  obtain⟨hl,ex⟩:=(mem_tl h2 hp'.2 gd' hv).mp hy
  obtain⟨a1,b,c,e1,e2,e3,e4,e5,e6,e7,_⟩:=hp'.1 l hl
  rw[h0]at e1
  obtain rfl:=AZ e1
  obtain rfl:c=d:=by omega
  obtain⟨x1,x2⟩:=ex.tk e2
  obtain⟨a2,g1,g2⟩:=gd k0 AX
  rw[h0]at g1
  obtain rfl:=AZ g1
  obtain⟨b2,g3,g4⟩:=gd' l hl
  rw[e2]at g3
  obtain rfl:=AZ g3
  rw[Hb h0,Hb e2]
  refine Lg e6 ?_ (by omega) (by omega) (by omega) (by omega) e7
  rw[←hv,DV,x2]
 |
  .node k0 sub rest,ns,d,vs,h,hp,gd,hv=>by
  obtain⟨g,ns',a,rfl,h0,h1,h2,h3,h4,h5⟩:=h
  have hp':=FX.mp hp
  have gdl:∀k∈k0::g,Gd D k:=fun k hk=>gd k (Ck _ hk)
  have gdr:∀k∈ns',Gd D k:=fun k hk=>gd k (BK _ hk)
  have G:=grp (a:=a) hp'.1 gdl h0 h1 h2
  have vl:∀v:Int,(vs++[v]).length=d+1:=fun v=>by rw[Ac,hv];rfl
  show((rng (B k0 vs).1 (B k0 vs).2).flatMap (fun v=>tl B sub (vs++[v]))++tl B rest vs).Pairwise _
  refine FX.mpr ⟨?_,rise h5 hp'.2.1 gdr hv,fun x hx y hy=>?_⟩
  .rw[PC]
   refine⟨fun v _=>rise h4 G.up gdl (vl v),My.imp fun{v z} lt x hx y hy=>?_⟩
   obtain⟨k,w⟩:=x
   obtain⟨l,u⟩:=y
   obtain⟨hk,ex⟩:=(mem_tl h4 G.up gdl (vl v)).mp hx
   obtain⟨hl,ey⟩:=(mem_tl h4 G.up gdl (vl z)).mp hy
   obtain⟨b,hb,p1,p2,_⟩:=G.eq k hk
   obtain⟨b',hb',q1,q2,_⟩:=G.eq l hl
   obtain⟨x1,x2⟩:=ex.tk hb
   obtain⟨y1,y2⟩:=ey.tk hb'
   rw[vl]at x2 y2
   obtain⟨b2,g3,g4⟩:=gdl k hk
   rw[hb]at g3
   obtain rfl:=AZ g3
   obtain⟨b3,g5,g6⟩:=gdl l hl
   rw[hb']at g5
   obtain rfl:=AZ g5
   rw[IA (by omega)]at x2 y2
   have x3:=KB x2 rfl
   have y3:=KB y2 rfl
   rw[Hb hb,Hb hb']
   refine OE (c:=d) (p1.trans q1.symm) (x3.1.trans y3.1.symm) (by omega) (by omega) (by omega) (by omega) ?_
   rw[(FY x3.2).1,(FY y3.2).1]
   exact lt
  .obtain⟨v,_,hx⟩:=Fl.mp hx
   obtain⟨k,w⟩:=x
   obtain⟨l,u⟩:=y
   obtain⟨hk,ex⟩:=(mem_tl h4 G.up gdl (vl v)).mp hx
   obtain⟨hl,ey⟩:=(mem_tl h5 hp'.2.1 gdr hv).mp hy
   obtain⟨b,hb,p1,p2,_⟩:=G.eq k hk
   obtain⟨a1,b',c,e1,e2,e3,e4,e5,e6,e7,_⟩:=hp'.2.2 k hk l hl
   rw[hb]at e1
   obtain rfl:=AZ e1
   have lt:b.path.getD d 0<b'.path.getD d 0:=by
    cases ns' with
    |nil=>cases hl
    |
     cons h t=>
     obtain⟨ah,bh,ch,f1,f2,f3,f4,f5,f6,f7,_⟩:=hp'.2.2 k hk h AX
     rw[hb]at f1
     obtain rfl:=AZ f1
     have ne:=h3 h bh rfl f2
     have pe:b.path.getD d 0=a.path.getD d 0:=take_at p1 (by omega)
     have lt1:b.path.getD d 0<bh.path.getD d 0:=by
      rcases CZ d ch with z|z
      .exact absurd ((take_at f6 z).symm.trans pe) ne
      .rw[show ch=d by omega]at f7;exact f7
     rcases AE.mp hl with rfl|hl'
     .rw[e2]at f2;obtain rfl:=AZ f2;exact lt1
     .obtain⟨ai,bi,ci,i1,i2,i3,i4,i5,i6,i7,_⟩:=(DW.mp hp'.2.1).1 l hl'
      rw[f2]at i1
      obtain rfl:=AZ i1
      rw[e2]at i2
      obtain rfl:=AZ i2
      rcases CZ d ci with z|z
      .rw[←take_at i6 z];exact lt1
      .rw[show ci=d by omega]at i7;omega
   have cd:c=d:=by
    rcases CZ d c with z|z
    .have:=take_at e6 z;omega
    .omega
   subst cd
   obtain⟨x1,x2⟩:=ex.tk hb
   obtain⟨y1,y2⟩:=ey.tk e2
   rw[vl]at x2
   rw[IA (by omega)]at x2
   have x3:=(KB x2 rfl).1
   rw[hv]at y2
   obtain⟨b2,g3,g4⟩:=gdl k hk
   rw[hb]at g3
   obtain rfl:=AZ g3
   obtain⟨b3,g5,g6⟩:=gdr l hl
   rw[e2]at g5
   obtain rfl:=AZ g5
   rw[Hb hb,Hb e2]
   exact Lg e6 (x3.trans y2.symm) (by omega) (by omega) (by omega) (by omega) e7
theorem lex_irr:∀l:List Int,HT.lexLt l l=false
 |[]=>rfl
 |
  x::l=>by
  show(if x=x then HT.lexLt l l else decide (x<x))=false
  rw[Ah rfl]
  exact lex_irr l
theorem lex_asy:∀l m:List Int,HT.lexLt l m=true->HT.lexLt m l=true->False
 |[],[],h,_=>by cases h
 |[],_::_,_,h=>by cases h
 |_::_,[],h,_=>by cases h
 |
  x::l,y::m,h,h'=>by
  have h:(if x=y then HT.lexLt l m else decide (x<y))=true:=h
  have h':(if y=x then HT.lexLt m l else decide (y<x))=true:=h'
  by_cases c:x=y
  .rw[Ah c]at h
   rw[Ah c.symm]at h'
   exact lex_asy l m h h'
  .rw[Ae c]at h
   rw[Ae fun e=>c e.symm]at h'
   have:=J8 h
   have:=J8 h'
   omega
theorem pw_ext {α:Type}{R:α->α->Prop}(irr:∀x,¬R x x)(asy:∀x y,R x y->R y x->False):∀{l m:List α},l.Pairwise R->m.Pairwise R->(∀x,x∈l↔x∈m)->l=m
 |[],[],_,_,_=>rfl
 |[],y::m,_,_,h=>by have:=(h y).mpr AX;cases this
 |x::l,[],_,_,h=>by have:=(h x).mp AX;cases this
 |
  x::l,y::m,hl,hm,h=>by
  have hl':=DW.mp hl
  have hm':=DW.mp hm
  have e:x=y:=by
   rcases AE.mp ((h x).mp AX) with e|e
   .exact e
   .rcases AE.mp ((h y).mpr AX) with f|f
    .exact f.symm
    .exact(asy x y (hl'.1 y f) (hm'.1 x e)).elim
  subst e
  rw[pw_ext irr asy hl'.2 hm'.2 fun z=>⟨fun hz=>?_,fun hz=>?_⟩]
  .rcases AE.mp ((h z).mp (B1 _ hz)) with e|e
   .subst e;exact(irr _ (hl'.1 _ hz)).elim
   .exact e
  .rcases AE.mp ((h z).mpr (B1 _ hz)) with e|e
   .subst e;exact(irr _ (hm'.1 _ hz)).elim
   .exact e
theorem Ri {α:Type}{R:α->α->Prop}(irr:∀x,¬R x x){l:List α}(h:l.Pairwise R):l.Nodup:=h.imp fun{x y} r e=>by subst e;exact irr _ r
def lv (b:List Int->Int×Int):Nat->List (List Int)
 |0=>[[]]
 |n+1=>(lv b n).flatMap fun vs=>(rng (b vs).1 (b vs).2).map fun v=>vs++[v]
theorem mem_lv {b:List Int->Int×Int}:∀{n:Nat} {w:List Int},w∈lv b n↔w.length=n/\∀e,e<n->(b (w.take e)).1<=w.getD e 0/\w.getD e 0<=(b (w.take e)).2
 |
  0,w=>by
  show w∈[[]]↔_
  rw[BW]
  exact⟨fun e=>by subst e;exact⟨rfl,fun e h=>absurd h (J4 _)⟩,fun h=>Mp h.1⟩
 |
  n+1,w=>by
  show w∈(lv b n).flatMap _↔_
  rw[Fl]
  constructor
  .rintro ⟨vs,hv,hw⟩
   obtain⟨v,hv1,rfl⟩:=AW.mp hw
   obtain⟨l,hb⟩:=mem_lv.mp hv
   refine⟨by rw[Ac,l];rfl,fun e he=>?_⟩
   rcases CZ e n with z|z
   .have:=hb e z
    rw[CL (by omega),CV,Fj (by omega),←CV]
    exact this
   .obtain rfl:e=n:=by omega
    rw[CL (by omega),Dy (by omega),CV,DU (by omega),l,EV]
    exact mem_rng.mp hv1
  .rintro ⟨l,hb⟩
   refine⟨w.take n,mem_lv.mpr ⟨by rw[BG];omega,fun e he=>?_⟩,AW.mpr ⟨w.getD n 0,mem_rng.mpr (hb n (Kt _)),(IA (by omega)).symm.trans (Dy (by omega))⟩⟩
   have:=hb e (by omega)
   rw[Mn,Ky (by omega),CV,Mm,Ah he,←CV]
   exact this
theorem NC {b:List Int->Int×Int}:∀{n:Nat},(lv b n).Nodup
 |0=>FT.mpr ⟨fun h=>(by cases h),Kx⟩
 |
  n+1=>by
  show((lv b n).flatMap _).Pairwise _
  rw[PC]
  refine⟨fun vs _=>?_,(NC (b:=b) (n:=n)).imp fun{x y} ne u hu v hv e=>?_⟩
  .rw[Ml]
   exact My.imp fun{x y} lt e=>by have:=(FY (KB e rfl).2).1;omega
  .obtain⟨_,_,rfl⟩:=AW.mp hu
   obtain⟨_,_,rfl⟩:=AW.mp hv
   exact ne (KB e rfl).1
def nlp (D:Nat->Option (Dd T S))(k:Nat):Nat:=match D k with
 |some a=>a.loops.length
 |none=>0
theorem nlp_some {D:Nat->Option (Dd T S)}{k:Nat}{a:Dd T S}(h:D k=some a):nlp D k=a.loops.length:=by
 unfold nlp
 rw[h]
theorem Ot {D:Nat->Option (Dd T S)}{B:Nat->List Int->Int×Int}{k:Nat}{w:List Int}(g:Gd D k):Ex D B k [] w↔w∈lv (B k) (nlp D k):=by
 obtain⟨a,ha,_⟩:=g
 rw[mem_lv,nlp_some ha]
 constructor
 .rintro ⟨b,hb,h1,h2,h3⟩
  rw[ha]at hb
  obtain rfl:=AZ hb
  exact⟨h1,fun e he=>h3 e (BF _) (by omega)⟩
 .rintro ⟨h1,h3⟩
  exact⟨a,ha,h1,rfl,fun e _ he=>h3 e (by omega)⟩
theorem len_tl {D:Nat->Option (Dd T S)}{B:Nat->List Int->Int×Int}{f:Fs}{ns:List Nat}(h:IsF D f ns 0)(hp:ns.Pairwise (Prs D B 0))(gd:∀k∈ns,Gd D k)(nd:ns.Nodup):(tl B f []).length=(ns.map fun k=>(lv (B k) (nlp D k)).length).sum:=by
 have n1:(tl B f []).Nodup:=Ri (fun x h=>by rw[lex_irr]at h;cases h) (rise h hp gd rfl)
 have n2:(ns.flatMap fun k=>(lv (B k) (nlp D k)).map fun w=>(k,w)).Nodup:=by
  show List.Pairwise _ _
  rw[PC]
  refine⟨fun k _=>?_,nd.imp fun{x y} ne u hu v hv e=>?_⟩
  .rw[Ml]
   exact(NC (b:=B k) (n:=nlp D k)).imp fun{x y} ne e=>ne (Mo e).2
  .obtain⟨_,_,rfl⟩:=AW.mp hu
   obtain⟨_,_,rfl⟩:=AW.mp hv
   exact ne (Mo e).1
 have pm:=(List.perm_ext_iff_of_nodup n1 n2).mpr fun x=>by
  obtain⟨k,w⟩:=x
  rw[mem_tl h hp gd rfl,Fl]
  constructor
  .rintro ⟨hk,ex⟩
   exact⟨k,hk,AW.mpr ⟨w,(Ot (gd k hk)).mp ex,rfl⟩⟩
  .rintro ⟨k',hk,hm⟩
   obtain⟨w',hw,e⟩:=AW.mp hm
   obtain⟨rfl,rfl⟩:=Mo e
   exact⟨hk,(Ot (gd k' hk)).mpr hw⟩
 rw[pm.length_eq,PD]
 congr 1
 exact Mf fun k _=>by rw[Ao]
end Tn
namespace L2
open PySem PySem.Spec PyProof.Rows
def G7 (C:Addr)(H:Hp)(x:V)(D:Dw):Prop := ∃(p dx nm lo hi pt:Addr) (v4 v5 v6:V) (ls hs:List V),x = .ref p/\H p=some (.ins C dx [("names",.ref nm),("lows",.ref lo),("highs",.ref hi),("table",v4),("spots",v5),("term",v6),("path",.ref pt)])/\H nm=some (.tup (D.loops.map fun t=>V.str t.nm))/\H lo=some (.tup ls)/\Ay (fun v t=>Er H v (Cf.lo t)) ls D.loops/\H hi=some (.tup hs)/\Ay (fun v t=>Er H v (Cf.hi t)) hs D.loops/\H pt=some (.tup (D.path.map V.int))
theorem G7.over {C:Addr}{H H':Hp}{x:V}{D:Dw}(h:G7 C H x D)(e:Aa H H'):G7 C H' x D:=by
 obtain⟨p,dx,nm,lo,hi,pt,v4,v5,v6,ls,hs,r,h0,h1,h2,h3,h4,h5,h6⟩:=h
 exact⟨p,dx,nm,lo,hi,pt,v4,v5,v6,ls,hs,r,e _ _ h0,e _ _ h1,e _ _ h2,h3.mono fun _ _ z=>z.tk (Aa.tk e),e _ _ h4,h5.mono fun _ _ z=>z.tk (Aa.tk e),e _ _ h6⟩
def Es (C:Addr)(H:Hp)(l:Addr)(Ds:List Dw):Prop := ∃xs,H l=some (.lst xs)/\Ay (G7 C H) xs Ds
theorem Es.over {C:Addr}{H H':Hp}{l:Addr}{Ds:List Dw}(h:Es C H l Ds)(e:Aa H H'):Es C H' l Ds:=by
 obtain⟨xs,h1,h2⟩:=h
 exact⟨xs,e _ _ h1,h2.mono fun _ _ z=>z.over e⟩
def BD (D:Dw):List Str:=D.loops.map Cf.nm
structure Ep (D:Dw):Prop where
 ll:D.loops.length<=3
 pl:D.path.length=D.loops.length+1
 nd:(BD D).Nodup
 bs:∀(e:Nat) (t:Cf),D.loops[e]?=some t->(t.lo.1=("":Str)\/t.lo.1∈(BD D).take e)/\(t.hi.1=("":Str)\/t.hi.1∈(BD D).take e)
def bD (D:Dw)(vs:List Int):Int×Int:=match D.loops[vs.length]? with
 |some t=>(C8 ((BD D).zip vs) t.lo,C8 ((BD D).zip vs) t.hi)
 |none=>(0,-1)
def bW (Ds:List Dw)(k:Nat)(vs:List Int):Int×Int:=match Ds[k]? with
 |some D=>bD D vs
 |none=>(0,-1)
theorem DD {Ds:List Dw}{k:Nat}{D:Dw}(h:Ds[k]?=some D)(vs:List Int):bW Ds k vs=bD D vs:=by
 unfold bW
 rw[h]
def VV (C:Addr):Sp:=fun vs H Q _=>∃(x:V) (t:Addr) (D:Dw) (us:List Int),vs=[x,.ref t]/\G7 C H x D/\Ep D/\H t=some (.tup (us.map V.int))/\us.length<=D.loops.length/\∀(l:Addr),H l=none->Q (.ref l) (upd H l (.dK (Ci ((BD D).zip us))))
def Uv (C:Addr):Sp:=fun vs H Q _=>∃(x:V) (t:Addr) (D:Dw) (us:List Int),vs=[x,.ref t]/\G7 C H x D/\Ep D/\H t=some (.tup (us.map V.int))/\us.length<D.loops.length/\∀(r:Addr) (H':Hp),Aa H H'->H' r=some (.tup [.int (bD D us).1,.int (bD D us).2])->Q (.ref r) H'
theorem Vl {D:Dw}{us:List Int}(h:us.length<=D.loops.length):((BD D).zip us).map (·.1)=(BD D).take us.length:=by
 have:∀{l:List Str} {m:List Int},m.length<=l.length->(l.zip m).map (·.1)=l.take m.length:=by
  intro l
  induction l with
  |nil=>intro m h;cases m<;>rfl
  |
   cons x l ih=>
   intro m h
   cases m with
   |nil=>rfl
   |
    cons y m=>
    show x::(l.zip m).map (·.1)=x::l.take m.length
    rw[ih (Mj h)]
 exact this (by unfold BD;rw[Ao];exact h)
def La (Ds:List Dw)(d:Nat)(ns:List Nat):Prop := ∀k∈ns,∃D,Ds[k]?=some D/\Ep D/\d<=D.loops.length
def X4 (C:Addr):Sp:=fun vs H Q _=>∃(dl nl:Addr) (d:Nat) (Ds:List Dw) (ns:List Nat),vs=[.ref dl,.ref nl,.int (d:Int)]/\Es C H dl Ds/\H nl=some (.lst (CF ns))/\La Ds d ns/\ns.length<=10/\∀(gl:Addr) (H':Hp) (G:List (List Nat)),Aa H H'->H gl=none->P6 H' gl G->BZ Ds d ns G->Q (.ref gl) H'
def Pf (C:Addr)(n:Nat):Sp:=fun vs H Q _=>∃(dl nl:Addr) (d:Nat) (Ds:List Dw) (ns:List Nat) (ds:List (Pw.Dd Cf Str)),vs=[.ref dl,.ref nl,.int (d:Int)]/\Es C H dl Ds/\H nl=some (.lst (CF ns))/\La Ds d ns/\ns.length<=10/\Pw.Got (getD Ds) ns ds/\Pw.CC d ds/\d<=3/\4<=d+n/\∀(r:Addr) (H':Hp) (f:Pw.Fs) (xs:List V),Aa H H'->H r=none->H' r=some (.lst xs)->BI (nw H H') f xs->Pw.IsF (getD Ds) f ns d->By f<=n->xs.length<=ns.length->Q (.ref r) H'
def HG (Ds:List Dw):Prop:=(∀D∈Ds,Ep D)/\Ds.length<=10/\Pw.CC 0 (Ds.map Dw.dd)
def Vd (C:Addr):Sp:=fun vs H Q _=>∃(dl:Addr) (Ds:List Dw),vs=[.ref dl]/\Es C H dl Ds/\HG Ds/\∀(r:Addr) (H':Hp) (f:Pw.Fs) (xs:List V),Aa H H'->H r=none->H' r=some (.lst xs)->BI (nw H H') f xs->Pw.IsF (getD Ds) f (List.range Ds.length) 0->By f<=4->xs.length<=10->Q (.ref r) H'
theorem Xv {H H1 H':Hp}(e:Aa H H1):Aa (nw H1 H') (nw H H'):=fun b o h=>by
 obtain⟨h0,h1⟩:=Ic h
 exact M1 (e.free h0) h1
def DZ (H:Hp)(v:V)(x:Nat×List Int):Prop := ∃t u,v = .ref t/\H t=some (.tup [.int (x.1:Int),.ref u])/\H u=some (.tup (x.2.map V.int))
theorem DZ.tk {H H':Hp}{v:V}{x:Nat×List Int}(h:DZ H v x)(e:TK H H'):DZ H' v x:=by
 obtain⟨t,u,a,b,c⟩:=h
 exact⟨t,u,a,e _ _ b,e _ _ c⟩
theorem DZ.over {H H':Hp}{v:V}{x:Nat×List Int}(h:DZ H v x)(e:Aa H H'):DZ H' v x:=h.tk (Aa.tk e)
def Bt (l:Addr)(H H':Hp):Prop := ∀b o,b≠l->H b=some o->H' b=some o
theorem Bt.tk {l:Addr}{H H':Hp}{xs:List V}(h:Bt l H H')(hl:H l=some (.lst xs)):TK H H':=fun b ys hb=>h b _ (fun e=>by rw[e,hl]at hb;cases hb) hb
theorem Bt.trans {l:Addr}{H H1 H2:Hp}(a:Bt l H H1)(b:Bt l H1 H2):Bt l H H2:=fun c o n h=>b c o n (a c o n h)
theorem Bt.same {l:Addr}{H H':Hp}(e:Aa H H'):Bt l H H':=fun b o _ h=>e b o h
theorem Bt.put {l:Addr}{H:Hp}{o:HO}:Bt l H (upd H l o):=fun b o n h=>by rw[Ag n];exact h
def Dl (B:Nat->List Int->Int×Int):Pw.Fs->List Int->Prop
 |.nil,_=>True
 |.leaf _ r,vs=>Dl B r vs
 |.node k s r,vs=>(-(2 ^ 60)<=(B k vs).1/\(B k vs).1<=2 ^ 60/\-(2 ^ 60)<=(B k vs).2/\(B k vs).2<=2 ^ 60)/\(∀v,(B k vs).1<=v->v<=(B k vs).2->Dl B s (vs++[v]))/\Dl B r vs
structure Wk (CW C:Addr)(H HF:Hp)(wk l:Addr)(room:Int)(Ds:List Dw):Prop where
 w:∃dx dl,H wk=some (.ins CW dx [("deeds",.ref dl),("room",.int room),("told",.ref l)])/\Es C HF dl Ds
 same:Aa HF H
 nl:HF l=none
 nw:HF wk=none
theorem Wk.bt {CW C:Addr}{H H' HF:Hp}{wk l:Addr}{room:Int}{Ds:List Dw}{xs:List V}(h:Wk CW C H HF wk l room Ds)(hl:H l=some (.lst xs))(e:Bt l H H'):Wk CW C H' HF wk l room Ds:=by
 obtain⟨⟨dx,dl,h1,h2⟩,h3,h4,h5⟩:=h
 exact⟨⟨dx,dl,e _ _ (fun z=>by rw[z,hl]at h1;cases h1) h1,h2⟩,fun b o hb=>e b o (Az hb h4) (h3 b o hb),h4,h5⟩
def LB (CW C:Addr)(n:Nat):Sp:=fun vs H Q _=>∃(wk l il vt:Addr) (room:Int) (HF:Hp) (Ds:List Dw) (f:Pw.Fs) (ns:List Nat) (xs ts:List V) (us:List Int),vs=[.ref wk,.ref il,.ref vt]/\Wk CW C H HF wk l room Ds/\(∀D∈Ds,Ep D)/\HF il=some (.lst xs)/\BI HF f xs/\By f<n/\Pw.IsF (getD Ds) f ns us.length/\Dl (bW Ds) f us/\H vt=some (.tup (us.map V.int))/\H l=some (.lst ts)/\ts.length+(Tn.tl (bW Ds) f us).length<=500000/\∀(H':Hp) (ts':List V),Bt l H H'->H' l=some (.lst (ts++ts'))->Ay (DZ H') ts' (Tn.tl (bW Ds) f us)->Q .non H'
def Uq (CW C:Addr)(n:Nat):Sp:=fun vs H Q _=>∃(wk l il vt:Addr) (room:Int) (HF:Hp) (Ds:List Dw) (f:Pw.Fs) (k:Nat) (D:Dw) (ns:List Nat) (xs ts:List V) (us:List Int),vs=[.ref wk,.int (k:Int),.ref il,.ref vt]/\Wk CW C H HF wk l room Ds/\(∀D∈Ds,Ep D)/\Ds[k]?=some D/\us.length<D.loops.length/\HF il=some (.lst xs)/\BI HF f xs/\By f<n/\Pw.IsF (getD Ds) f ns (us.length+1)/\Dl (bW Ds) (.node k f .nil) us/\H vt=some (.tup (us.map V.int))/\H l=some (.lst ts)/\ts.length+(Tn.tl (bW Ds) (.node k f .nil) us).length<=500000/\∀(H':Hp) (ts':List V),Bt l H H'->H' l=some (.lst (ts++ts'))->Ay (DZ H') ts' (Tn.tl (bW Ds) (.node k f .nil) us)->Q .non H'
def AM:Pw.Fs->Nat
 |.nil=>0
 |.leaf _ r=>1+AM r
 |.node _ _ r=>AM r
def Cd:Pw.Fs->Nat
 |.nil=>0
 |.leaf _ r=>1+Cd r
 |.node _ _ r=>1+Cd r
def CG (b:Int×Int):Int:=if b.2-b.1+1<0 then 0 else b.2-b.1+1
def AS (B:Nat->List Int->Int×Int):Pw.Fs->List Int->Int
 |.nil,_=>0
 |.leaf _ r,vs=>AS B r vs
 |.node k s r,vs=>CG (B k vs)*(1+(AM s:Int))+(if AM s<Cd s then((Tn.rng (B k vs).1 (B k vs).2).map fun v=>AS B s (vs++[v])).sum else 0)+AS B r vs
theorem HZ:∀{l:List Int},(∀x∈l,0<=x)->0<=l.sum
 |[],_=>KC _
 |
  x::l,h=>by
  rw[Cb]
  have:=HZ (l:=l) fun y hy=>h y (B1 _ hy)
  have:=h x AX
  omega
theorem Pc:∀{l:List Int} {i:Nat} {x:Int},(∀x∈l,0<=x)->l[i]?=some x->(l.take i).sum+x<=l.sum/\(l.take (i+1)).sum=(l.take i).sum+x
 |[],i,x,_,h=>by cases h
 |
  y::l,0,x,hn,h=>by
  cases h
  have:=HZ (l:=l) fun y hy=>hn y (B1 _ hy)
  show 0+y<=(y::l).sum/\(y::l.take 0).sum=0+y
  rw[Cb,Cb,IZ,Hr]
  omega
 |
  y::l,i+1,x,hn,h=>by
  have:=Pc (l:=l) (i:=i) (x:=x) (fun y hy=>hn y (B1 _ hy)) h
  show(y::l.take i).sum+x<=(y::l).sum/\(y::l.take (i+1)).sum=(y::l.take i).sum+x
  rw[Cb,Cb,Cb]
  omega
theorem M3 (b:Int×Int):0<=CG b:=by
 unfold CG
 split<;>omega
theorem EF {B:Nat->List Int->Int×Int}:∀(f:Pw.Fs) (vs:List Int),0<=AS B f vs
 |.nil,_=>KC _
 |.leaf _ r,vs=>EF r vs
 |
  .node k s r,vs=>by
  have h1:=M3 (B k vs)
  have h2:=EF (B:=B) r vs
  have h3:0<=((Tn.rng (B k vs).1 (B k vs).2).map fun v=>AS B s (vs++[v])).sum:=HZ fun x hx=>by
   obtain⟨v,_,rfl⟩:=AW.mp hx
   exact EF s (vs++[v])
  have h4:0<=CG (B k vs)*(1+(AM s:Int)):=KD h1 (by omega)
  show 0<=CG (B k vs)*(1+(AM s:Int))+(if AM s<Cd s then _ else 0)+AS B r vs
  split<;>omega
theorem IG:∀f:Pw.Fs,AM f<=Cd f
 |.nil=>An _
 |.leaf _ r=>by have:=IG r;show 1+AM r<=1+Cd r;omega
 |.node _ _ r=>by have:=IG r;show AM r<=1+Cd r;omega
theorem HK {H:Hp}:∀{f:Pw.Fs} {xs:List V},BI H f xs->xs.length=Cd f
 |.nil,xs,h=>by rw[show xs=[] from h];rfl
 |
  .leaf k r,xs,h=>by
  obtain⟨t,xs',e,_,h2⟩:=h
  rw[e,B6,HK h2]
  show _=1+Cd r
  omega
 |
  .node k s r,xs,h=>by
  obtain⟨t,l,ys,xs',e,_,_,_,h2⟩:=h
  rw[e,B6,HK h2]
  show _=1+Cd r
  omega
theorem Jv {D:Nat->Option (Pw.Dd Cf Str)}:∀{f:Pw.Fs} {ns:List Nat} {d:Nat},Pw.IsF D f ns d->Cd f<=ns.length
 |.nil,ns,d,h=>BF _
 |
  .leaf k r,ns,d,h=>by
  obtain⟨ns',a,rfl,_,_,h2⟩:=h
  have:=Jv h2
  show 1+Cd r<=_
  rw[B6]
  omega
 |
  .node k s r,ns,d,h=>by
  obtain⟨g,ns',a,rfl,_,_,_,_,_,h2⟩:=h
  have:=Jv h2
  show 1+Cd r<=_
  rw[Ac,B6]
  omega
def E7 (CW:Addr)(H:Hp)(wk:Addr)(room:Int)(l:Addr)(dx dl:Addr):Prop:=H wk=some (.ins CW dx [("deeds",.ref dl),("room",.int room),("told",.ref l)])
def S8 (CW:Addr):Sp:=fun vs H Q _=>∃(r dx:Addr) (d:V) (m:Int),vs=[.ref r,d,.int m]/\H r=some (.ins CW dx [])/\∀(l:Addr),H l=none->Q .non (upd (upd H l (.lst [])) r (.ins CW dx [("deeds",d),("room",.int m),("told",.ref l)]))
def RX:Sp:=fun vs H Q _=>∃(il:Addr) (xs:List V) (f:Pw.Fs),vs=[.ref il]/\H il=some (.lst xs)/\BI H f xs/\xs.length<=10/\∀H',Aa H H'->Q (.int (AM f:Int)) H'
structure Wr (CW C:Addr)(H HF:Hp)(wk l dx dl:Addr)(room:Int)(Ds:List Dw):Prop where
 w:E7 CW H wk room l dx dl
 d:Es C HF dl Ds
 same:Aa HF H
 nw:HF wk=none
theorem Wr.over {CW C:Addr}{H H' HF:Hp}{wk l dx dl:Addr}{room:Int}{Ds:List Dw}(h:Wr CW C H HF wk l dx dl room Ds)(e:Aa H H'):Wr CW C H' HF wk l dx dl room Ds:=⟨e _ _ h.w,h.d,h.same.trans e,h.nw⟩
theorem Wr.set {CW C:Addr}{H H' HF:Hp}{wk l dx dl:Addr}{room r2:Int}{Ds:List Dw}(h:Wr CW C H HF wk l dx dl room Ds)(e:Bt wk H H')(w:E7 CW H' wk r2 l dx dl):Wr CW C H' HF wk l dx dl r2 Ds:=⟨w,h.d,fun b o hb=>e b o (Az hb h.nw) (h.same b o hb),h.nw⟩
def K6 (Ds:List Dw):Prop := ∀f,Pw.IsF (getD Ds) f (List.range Ds.length) 0->Dl (bW Ds) f []/\(Tn.tl (bW Ds) f []).length<=400000/\(AM f:Int)+AS (bW Ds) f []<=1000000
def DN (H:Hp)(l x:Addr):Hp:=fun b=>if b=l\/b=x then none else H b
theorem Lk {H:Hp}{l x b:Addr}(n1:b≠l)(n2:b≠x):DN H l x b=H b:=by
 unfold DN
 rw[Ae (by rintro (h|h);exact n1 h;exact n2 h)]
theorem VQ {H:Hp}{l x:Addr}:DN H l x l=none:=by
 unfold DN
 rw[Ah (.inl rfl)]
theorem Tb {H:Hp}{l x:Addr}:DN H l x x=none:=by
 unfold DN
 rw[Ah (.inr rfl)]
theorem Q7 {H:Hp}{l x:Addr}:Aa (DN H l x) H:=fun b o h=>by
 unfold DN at h
 split at h
 .cases h
 .exact h
theorem Vv {H H2:Hp}{l x:Addr}(e:Aa H H2)(hl:H l=none)(hx:H x=none):Aa H (DN H2 l x):=fun b o h=>by
 rw[Lk (Az h hl) (Az h hx)]
 exact e b o h
theorem Sx {H H2:Hp}{l x:Addr}{o1 o2:HO}(hl:H l=some o1)(hx:H x=some o2):Aa (nw H H2) (DN H2 l x):=fun b o h=>by
 obtain⟨h0,h1⟩:=Ic h
 rw[Lk (Az hl h0).symm (Az hx h0).symm]
 exact h1
theorem MB {H:Hp}{x dx l:Addr}{C:Addr}{fs:List (Str×V)}(hx:H x=none)(hdx:H dx=none)(hl:(upd (upd H dx (.own x)) x (.ins C dx [])) l=none):H l=none/\l≠x/\Aa H (upd (upd (upd (upd H dx (.own x)) x (.ins C dx [])) l (.lst [])) x (.ins C dx fs))/\(upd (upd (upd (upd H dx (.own x)) x (.ins C dx [])) l (.lst [])) x (.ins C dx fs)) l=some (.lst [])/\(upd (upd (upd (upd H dx (.own x)) x (.ins C dx [])) l (.lst [])) x (.ins C dx fs)) x=some (.ins C dx fs):=by
 have nlx:l≠x:=fun e=>by rw[e,A6]at hl;cases hl
 rw[Ag nlx]at hl
 have nld:l≠dx:=fun e=>by rw[e,A6]at hl;cases hl
 rw[Ag nld]at hl
 refine⟨hl,nlx,fun b o h=>?_,by rw[Ag nlx,A6],A6⟩
 rw[Ag (Az h hx),Ag (Az h hl),Ag (Az h hx),Ag (Az h hdx)]
 exact h
theorem Xb {α:Type}{R:V->α->Prop}{xs:List V}{as:List α}{x:V}{a:α}(h:Ay R (xs++[x]) (as++[a])):Ay R xs as/\R x a:=by
 obtain⟨l,g⟩:=h
 rw[Ac,Ac,AN,AN]at l
 refine⟨⟨by omega,fun i y b hy hb=>g i y b ?_ ?_⟩,g xs.length x a ?_ ?_⟩
 .rw[Fj (BR.mp hy).1];exact hy
 .rw[Fj (BR.mp hb).1];exact hb
 .rw[DU (An _),EV];rfl
 .rw[show xs.length=as.length by omega,DU (An _),EV];rfl
def Bq (S:List Lp)(z:Str)(k:Int):Prop:=(z=""/\k=0)\/∃r∈S,z=r.nm/\k=r.ab
theorem Bq.bs {S:List Lp}{z:Str}{k:Int}(h:Bq S z k):Bs S z:=by
 rcases h with⟨h,_⟩|⟨r,hr,h,_⟩
 .exact .inl h
 .exact .inr ⟨r,hr,h⟩
def IK (H:Hp)(S:List Lp)(vs:List V):Prop := ∀v∈vs,∃(t:Addr) (z:Str) (n:Int),v = .ref t/\H t=some (.tup [.str z,.int n])/\Bq S z n
theorem IK.over {H H':Hp}{S:List Lp}{vs:List V}(h:IK H S vs)(e:Aa H H'):IK H' S vs:=fun v hv=>by
 obtain⟨t,z,n,a,b,c⟩:=h v hv
 exact⟨t,z,n,a,e _ _ b,c⟩
structure EM (S:List Lp)(c:Int)(q:Lp):Prop where
 nw:MO S c q
 ab : -(10 ^ 17)<=q.ab/\q.ab<=10 ^ 17
 lo:∃k d,Bq S q.lz k/\q.ln=q.ab-k+d/\0<=d/\d<=1
 hi:∃k m,Bq S q.hz k/\q.hn=q.ab-k+m/\-1<=m/\m<=3
def Uj:Sp:=fun vs H Q _=>∃(n far c:Int) (st:Addr) (S:List Lp),vs=[.int n,.int far,.ref st,.int c]/\0<=n/\NK H st S/\S.length<=10/\(∀r∈S,0<=r.tn/\r.tn<=2)/\-(10 ^ 17)<=far/\far<=10 ^ 17/\∀(x:V) (H':Hp) (q:Lp),Aa H H'->CO H' x q->EM S c q->Q x H'
def Df (S:List Lp)(c:Int):Prop:=S.length<=3/\∀(i:Nat) (q:Lp),S[i]?=some q->EM (S.take i) c q
theorem Df.nil (c:Int):Df [] c:=⟨BF _,fun i q h=>by cases h⟩
theorem Df.snoc {S:List Lp}{c:Int}{q:Lp}(h:Df S c)(l:S.length<3)(g:EM S c q):Df (S++[q]) c:=by
 refine⟨by rw[Ac,AN];omega,fun i r hr=>?_⟩
 by_cases z:i<S.length
 .rw[Fj z]at hr
  rw[CL (by omega)]
  exact h.2 i r hr
 .have:i=S.length:=by
   have:=(BR.mp hr).1
   rw[Ac,AN]at this
   omega
  subst this
  rw[DU (An _),EV]at hr
  cases hr
  rw[CL (An _),DV]
  exact g
theorem Df.init {S:List Lp}{c:Int}{q:Lp}(h:Df (S++[q]) c):Df S c/\EM S c q:=by
 have l:=h.1
 rw[Ac,AN]at l
 refine⟨⟨by omega,fun i r hr=>?_⟩,?_⟩
 .have li:=(BR.mp hr).1
  have:=h.2 i r (by rw[Fj li];exact hr)
  rw[CL (by omega)]at this
  exact this
 .have:=h.2 S.length q (by rw[DU (An _),EV];rfl)
  rw[CL (An _),DV]at this
  exact this
theorem Df.sok {c:Int}:∀{n:Nat} {S:List Lp},S.length=n->Df S c->E6 S c
 |0,S,l,h=>by rw[Mp l];exact E6.nil c
 |
  n+1,S,l,h=>by
  obtain⟨S',q,rfl,l'⟩:=Fd (l:=S) (n:=n) l
  obtain⟨h1,h2⟩:=h.init
  have l3:=h.1
  rw[Ac,AN]at l3
  exact(Df.sok l' h1).snoc (by omega) h2.nw
theorem Df.tn {S:List Lp}{c:Int}(h:Df S c):∀r∈S,0<=r.tn/\r.tn<=2:=fun r hr=>by
 obtain⟨i,hi⟩:=J3.mp hr
 have:=(h.2 i r hi).nw
 exact⟨this.2.1,this.2.2.1⟩
structure R3 where
 S:List Lp
 path:List Int
 z:Str
 p:Addr
 m:Nat
 rs:DB
def Ea (H:Hp)(v:V)(R:R3):Prop := ∃(r u1 u2 u3 u4:Addr) (x:V) (ls hs:List V),v = .ref r/\H r=some (.tup [.ref u1,.ref u2,.ref u3,.str R.z,.ref R.p,x,.ref u4])/\H u1=some (.tup ((AY R.S).map V.str))/\H u2=some (.tup ls)/\Ay (fun v q=>Er H v (q.lz,q.ln)) ls R.S/\H u3=some (.tup hs)/\Ay (fun v q=>Er H v (q.hz,q.hn)) hs R.S/\H u4=some (.tup (R.path.map V.int))/\CK H R.m x R.rs
theorem Ea.tk {H H':Hp}{v:V}{R:R3}(h:Ea H v R)(e:TK H H'):Ea H' v R:=by
 obtain⟨r,u1,u2,u3,u4,x,ls,hs,a,b,c,d,f,g,i,j,k⟩:=h
 exact⟨r,u1,u2,u3,u4,x,ls,hs,a,e _ _ b,e _ _ c,e _ _ d,f.mono fun _ _ z=>z.tk e,e _ _ g,i.mono fun _ _ z=>z.tk e,e _ _ j,k.tk e⟩
theorem Ea.over {H H':Hp}{v:V}{R:R3}(h:Ea H v R)(e:Aa H H'):Ea H' v R:=h.tk (Aa.tk e)
def Hl (H:Hp)(l:Addr)(Rs:List R3):Prop := ∃xs,H l=some (.lst xs)/\Ay (Ea H) xs Rs
theorem Hl.over {H H':Hp}{l:Addr}{Rs:List R3}(h:Hl H l Rs)(e:Aa H H'):Hl H' l Rs:=by
 obtain⟨xs,a,b⟩:=h
 exact⟨xs,e _ _ a,b.mono fun _ _ z=>z.over e⟩
def VY:Sp:=fun vs H Q _=>∃(c:Int) (st pt hd:Addr) (S:List Lp) (ps:List Int),vs=[.int c,.ref st,.ref pt,.ref hd]/\NK H st S/\S.length<=10/\H pt=some (.lst (ps.map V.int))/\FI H hd/\∀(r:Addr) (H':Hp) (z:Str) (p:Addr) (m:Nat) (rs:DB),Aa H H'->Ea H' (.ref r) ⟨S,ps,z,p,m,rs⟩->m<=3->Q (.ref r) H'
def Cr (R R':R3):Prop := ∃e,e<=R.S.length/\e<=R'.S.length/\R.S.take e=R'.S.take e/\R.path.take e=R'.path.take e/\R.path.getD e 0<R'.path.getD e 0
structure DI (c:Int)(R:R3):Prop where
 so:Df R.S c
 pl:R.path.length=R.S.length+1
 m3:R.m<=3
structure CS (Rs:List R3)(S:List Lp)(C P:List Int)(c:Int):Prop where
 so:Df S c
 cl:C.length=S.length+1
 pl:P.length=S.length
 cp:∀j,j<S.length->P.getD j 0<C.getD j 0
 ah:∀R∈Rs,∃e,e<=R.S.length/\e<=S.length/\R.S.take e=S.take e/\R.path.take e=P.take e/\R.path.getD e 0<if e<S.length then P.getD e 0 else C.getD e 0
theorem CS.nil (c:Int):CS [] [] [0] [] c:=⟨.nil c,rfl,rfl,fun j h=>absurd h (J4 _),fun R h=>by cases h⟩
theorem DQ {l m:List Int}{j:Nat}(h:j<l.length):(l++m).getD j 0=l.getD j 0:=by
 rw[CV,Fj h,←CV]
theorem Dg {l m:List Int}{x:Int}:(l++x::m).getD l.length 0=x:=by
 rw[CV,DU (An _),EV]
 rfl
theorem CS.pop {Rs:List R3}{S:List Lp}{C P:List Int}{c x y:Int}{q:Lp}(h:CS Rs (S++[q]) (C++[x]) (P++[y]) c):CS Rs S C P c/\EM S c q:=by
 obtain⟨so,cl,pl,cp,ah⟩:=h
 obtain⟨s1,s2⟩:=so.init
 rw[Ac,Ac,AN,AN]at cl
 rw[Ac,Ac,AN,AN]at pl
 rw[Ac,AN]at cp
 have pS:P.length=S.length:=by omega
 have yx:=cp S.length (by omega)
 rw[←pS,Dg,DQ (by omega)]at yx
 refine⟨⟨s1,by omega,pS,fun j hj=>?_,fun R hR=>?_⟩,s2⟩
 .have:=cp j (by omega)
  rw[DQ (by omega),DQ (by omega)]at this
  exact this
 .obtain⟨e,e1,e2,e3,e4,e5⟩:=ah R hR
  rw[Ac,AN]at e2 e5
  rcases CZ e S.length with z|z
  .rw[Ah (by omega),DQ (by omega)]at e5
   refine⟨e,e1,by omega,?_,?_,by rw[Ah z];exact e5⟩
   .rw[e3,CL (by omega)]
   .rw[e4,CL (by omega)]
  .have t3:R.S.take S.length=S:=by
    have:=Tn.take_le e3 z
    rw[CL (An _),DV]at this
    exact this
   have t4:R.path.take S.length=P.take S.length:=by
    have:=Tn.take_le e4 z
    rw[this,CL (by omega)]
   refine⟨S.length,by omega,An _,by rw[t3,DV],t4,?_⟩
   rw[Ae (Dv _),←pS]
   rcases CZ S.length e with z2|z2
   .have:=Tn.take_at e4 z2
    rw[←pS,Dg]at this
    rw[this]
    exact yx
   .have ee:e=S.length:=by omega
    rw[Ah (by omega),ee,←pS,Dg]at e5
    omega
theorem CS.push {Rs:List R3}{S:List Lp}{C P:List Int}{c x:Int}{q:Lp}(h:CS Rs S (C++[x]) P c)(l:S.length<3)(g:EM S c q):CS Rs (S++[q]) (C++[x+1,0]) (P++[x]) c:=by
 obtain⟨so,cl,pl,cp,ah⟩:=h
 rw[Ac,AN]at cl
 have Cl:C.length=S.length:=by omega
 refine⟨so.snoc l g,by rw[Ac,Ac];show C.length+2=_;rw[AN];omega,by rw[Ac,Ac,AN,AN];omega,fun j hj=>?_,fun R hR=>?_⟩
 .rw[Ac,AN]at hj
  rcases CZ j S.length with z|z
  .have:=cp j z
   rw[DQ (by omega)]at this
   rw[DQ (by omega),DQ (by omega)]
   exact this
  .obtain rfl:j=S.length:=by omega
   have a1:(P++[x]).getD S.length 0=x:=by rw[←pl,Dg]
   have a2:(C++[x+1,0]).getD S.length 0=x+1:=by rw[←Cl,Dg]
   rw[a1,a2]
   omega
 .obtain⟨e,e1,e2,e3,e4,e5⟩:=ah R hR
  refine⟨e,e1,by rw[Ac];omega,by rw[e3,CL e2],by rw[e4,CL (by omega)],?_⟩
  rw[Ac,AN,Ah (by omega)]
  rcases CZ e S.length with z|z
  .rw[Ah z]at e5
   rw[DQ (by omega)]
   exact e5
  .have ee:e=S.length:=by omega
   rw[Ae (by omega),ee,←Cl,Dg]at e5
   rw[ee,←pl,Dg]
   rw[←Cl]at pl
   rw[pl]
   exact e5
theorem CS.row {Rs:List R3}{R:R3}{C P:List Int}{c x:Int}(h:CS Rs R.S (C++[x]) P c)(hp:R.path=P++[x]):CS (Rs++[R]) R.S (C++[x+1]) P c/\∀R'∈Rs,Cr R' R:=by
 obtain⟨so,cl,pl,cp,ah⟩:=h
 rw[Ac,AN]at cl
 have Cl:C.length=R.S.length:=by omega
 refine⟨⟨so,by rw[Ac,AN];omega,pl,fun j hj=>?_,fun R' hR=>?_⟩,fun R' hR=>?_⟩
 .have:=cp j hj
  rw[DQ (by omega)]at this ⊢
  exact this
 .rcases Cj.mp hR with hR|hR
  .obtain⟨e,e1,e2,e3,e4,e5⟩:=ah R' hR
   refine⟨e,e1,e2,e3,e4,?_⟩
   rcases CZ e R.S.length with z|z
   .rw[Ah z]at e5 ⊢
    exact e5
   .have ee:e=R.S.length:=by omega
    rw[Ae (by omega),ee,←Cl,Dg]at e5
    rw[Ae (by omega),ee,←Cl,Dg]
    omega
  .rw[BW.mp hR]
   refine⟨R.S.length,An _,An _,rfl,?_,?_⟩
   .rw[hp,CL (by omega)]
   .rw[Ae (Dv _),hp]
    have a1:(P++[x]).getD R.S.length 0=x:=by rw[←pl,Dg]
    have a2:(C++[x+1]).getD R.S.length 0=x+1:=by rw[←Cl,Dg]
    rw[a1,a2]
    omega
 .obtain⟨e,e1,e2,e3,e4,e5⟩:=ah R' hR
  refine⟨e,e1,e2,e3,by rw[e4,hp,CL (by omega)],?_⟩
  rw[hp]
  rcases CZ e R.S.length with z|z
  .rw[Ah z]at e5
   rw[DQ (by omega)]
   exact e5
  .have ee:e=R.S.length:=by omega
   rw[Ae (by omega),ee,←Cl,Dg]at e5
   have a1:(P++[x]).getD R.S.length 0=x:=by rw[←pl,Dg]
   rw[ee,a1,←Cl]
   exact e5
def WK (K:XJ):Sp:=fun vs H Q _=>∃(sc:Addr) (ns:List Int) (n:Nat),vs=[.ref sc,.int (n:Int)]/\A7 K H sc (ns.map V.int)/\ns.length<=63/\n<=6/\∀(r:Addr) (H':Hp) (Rs:List R3),Aa H H'->Hl H' r Rs->Rs.length=n->(∀R∈Rs,DI (C4 ns 1) R)->Rs.Pairwise Cr->Q (.ref r) H'
def C2 (q:Lp):Cf:=⟨q.nm,(q.lz,q.ln),(q.hz,q.hn)⟩
def R3.dw (R:R3):Dw:=⟨R.S.map C2,"",[],.n 0,R.path⟩
theorem IB (R:R3):BD R.dw=AY R.S:=by
 unfold BD AY R3.dw
 rw[DX]
 rfl
structure RG (R:R3):Prop where
 ll:R.S.length<=3
 pl:R.path.length=R.S.length+1
 nd:(AY R.S).Nodup
 ne:∀z∈AY R.S,z≠""
 bs:∀(e:Nat) (q:Lp),R.S[e]?=some q->Bs (R.S.take e) q.lz/\Bs (R.S.take e) q.hz
 m3:R.m<=3
theorem DI.rg {R:R3}{c:Int}(h:DI c R):RG R:=by
 have so:=Df.sok rfl h.so
 exact⟨h.so.1,h.pl,KZ so,Lm so,so.bs,h.m3⟩
theorem OW {S:List Lp}{e:Nat}{z:Str}(h:Bs (S.take e) z):z=""\/z∈(AY S).take e:=by
 rcases h with h|⟨r,hr,rfl⟩
 .exact .inl h
 .refine .inr ?_
  unfold AY
  rw[←GC]
  exact AW.mpr ⟨r,hr,rfl⟩
theorem RG.ok3 {R:R3}(h:RG R):Ep R.dw:=by
 refine⟨by show(R.S.map C2).length<=3;rw[Ao];exact h.ll,by show R.path.length=(R.S.map C2).length+1;rw[Ao];exact h.pl,by rw[IB];exact h.nd,fun e t ht=>?_⟩
 have ht:(R.S.map C2)[e]?=some t:=ht
 rw[C1]at ht
 cases hq:R.S[e]? with
 |none=>rw[hq]at ht;cases ht
 |
  some q=>
  rw[hq]at ht
  cases ht
  obtain⟨b1,b2⟩:=h.bs e q hq
  rw[IB]
  exact⟨OW b1,OW b2⟩
theorem JP:∀{zs:List Str} {vs:List Int} {j:Nat} {z:Str},zs.Nodup->zs[j]?=some z->j<vs.length->Eh (zs.zip vs) z=vs.getD j 0
 |[],vs,j,z,_,h,_=>by cases h
 |y::zs,[],j,z,_,_,h=>by cases h
 |
  y::zs,v::vs,0,z,nd,h,_=>by
  cases h
  unfold Eh
  rw[List.zip_cons_cons,List.find?_cons_of_pos (by simp)]
  rfl
 |
  y::zs,v::vs,j+1,z,nd,h,hl=>by
  obtain⟨n1,n2⟩:=FT.mp nd
  have hz:z∈zs:=DH h
  have ih:=JP (vs:=vs) n2 h (Hq hl)
  unfold Eh at ih ⊢
  rw[List.zip_cons_cons,Pz (by simpa using fun e:y=z=>n1 (e▸hz))]
  exact ih
def Nr (S:List Lp)(vs:List Int):Prop := ∀(j:Nat) (q:Lp),j<vs.length->S[j]?=some q->0<=vs.getD j 0-q.ab/\vs.getD j 0-q.ab<=3*((j:Int)+1)
theorem NS {S:List Lp}{e:Nat}{vs:List Int}{z:Str}{k:Int}(nd:(AY S).Nodup)(ne:∀z∈AY S,z≠"")(hv:vs.length=e)(hn:Nr S vs)(n:Int)(h:Bq (S.take e) z k):∃x,C8 ((AY S).zip vs) (z,n)=x+n/\0<=x-k/\x-k<=3*(e:Int):=by
 rcases h with⟨rfl,rfl⟩|⟨r,hr,rfl,rfl⟩
 .refine⟨0,?_,by omega,by omega⟩
  unfold C8
  rw[Ah rfl]
  show n=0+n
  omega
 .obtain⟨j,hj⟩:=J3.mp hr
  have l:=(BR.mp hj).1
  rw[BG]at l
  rw[IV (by omega)]at hj
  have hz:(AY S)[j]?=some r.nm:=by unfold AY;rw[C1,hj];rfl
  have:=hn j r (by omega) hj
  refine⟨vs.getD j 0,?_,by omega,by omega⟩
  unfold C8
  rw[Ae (ne _ (DH hz)),JP nd hz (by omega)]
theorem Ks {R:R3}{vs:List Int}{q:Lp}(h:R.S[vs.length]?=some q):bD R.dw vs=(C8 ((AY R.S).zip vs) (q.lz,q.ln),C8 ((AY R.S).zip vs) (q.hz,q.hn)):=by
 unfold bD
 have:R.dw.loops[vs.length]?=some (C2 q):=by show(R.S.map C2)[vs.length]?=_;rw[C1,h];rfl
 rw[this,IB]
 rfl
theorem U3 {R:R3}{c:Int}{vs:List Int}{q:Lp}(h:DI c R)(hn:Nr R.S vs)(hq:R.S[vs.length]?=some q):q.ab<=(bD R.dw vs).1/\(bD R.dw vs).2<=q.ab+3*((vs.length:Int)+1)/\(bD R.dw vs).1<=q.ab+3*(vs.length:Int)+1/\q.ab-1<=(bD R.dw vs).2/\-(10 ^ 17)<=q.ab/\q.ab<=10 ^ 17:=by
 have g:=h.rg
 have nw:=h.so.2 _ q hq
 obtain⟨k,d,b1,e1,d0,d1⟩:=nw.lo
 obtain⟨k',m,b2,e2,m0,m1⟩:=nw.hi
 obtain⟨x,ex,x0,x1⟩:=NS g.nd g.ne rfl hn q.ln b1
 obtain⟨y,ey,y0,y1⟩:=NS g.nd g.ne rfl hn q.hn b2
 rw[Ks hq,ex,ey]
 have:=nw.ab
 show q.ab<=x+q.ln/\y+q.hn<=_/\x+q.ln<=_/\q.ab-1<=y+q.hn/\_
 omega
theorem Nr.snoc {S:List Lp}{vs:List Int}{v:Int}{q:Lp}(h:Nr S vs)(hq:S[vs.length]?=some q)(h0:q.ab<=v)(h1:v<=q.ab+3*((vs.length:Int)+1)):Nr S (vs++[v]):=fun j r hj hr=>by
 rw[Ac,AN]at hj
 rcases CZ j vs.length with z|z
 .rw[DQ z]
  exact h j r z hr
 .obtain rfl:j=vs.length:=by omega
  rw[Dg]
  rw[hq]at hr
  cases hr
  omega
def JJ (W:Int)(D:Dw):Prop := ∃G:List Int->Prop,G []/\∀vs,G vs->vs.length<D.loops.length->(-(2 ^ 60)<=(bD D vs).1/\(bD D vs).1<=2 ^ 60/\-(2 ^ 60)<=(bD D vs).2/\(bD D vs).2<=2 ^ 60)/\(bD D vs).2-(bD D vs).1+1<=W/\∀v,(bD D vs).1<=v->v<=(bD D vs).2->G (vs++[v])
theorem DI.tame {R:R3}{c:Int}(h:DI c R):JJ 10 R.dw:=by
 refine⟨fun vs=>Nr R.S vs,fun j q hj=>absurd hj (J4 _),fun vs hn hl=>?_⟩
 have hl:vs.length<(R.S.map C2).length:=hl
 rw[Ao]at hl
 have hq:R.S[vs.length]?=some R.S[vs.length]:=Be hl
 generalize R.S[vs.length]=q at hq
 obtain⟨s1,s2,s3,s4,s5,s6⟩:=U3 h hn hq
 have l3:=h.so.1
 refine⟨by omega,by omega,fun v v0 v1=>hn.snoc hq (by omega) (by omega)⟩
theorem KP:∀(l:List Str) (m:List Int),l.zip m=(l.take m.length).zip m
 |[],m=>by rw[List.take_nil]
 |x::l,[]=>rfl
 |
  x::l,y::m=>by
  show(x,y)::l.zip m=(x,y)::(l.take m.length).zip m
  rw[←KP l m]
theorem OM {R R':R3}{e:Nat}{vs:List Int}(h:R.S.take e=R'.S.take e)(hv:vs.length<e):bD R.dw vs=bD R'.dw vs:=by
 have e1:R.dw.loops[vs.length]?=R'.dw.loops[vs.length]?:=by
  show(R.S.map C2)[vs.length]?=(R'.S.map C2)[vs.length]?
  rw[C1,C1]
  have:(R.S.take e)[vs.length]?=(R'.S.take e)[vs.length]?:=by rw[h]
  rw[IV hv,IV hv]at this
  rw[this]
 have e2:(BD R.dw).zip vs=(BD R'.dw).zip vs:=by
  rw[KP (BD R.dw),KP (BD R'.dw),IB,IB]
  unfold AY
  rw[←GC,←GC,Tn.take_le h (ET hv)]
 unfold bD
 rw[e1,e2]
theorem Fi {Rs:List R3}{k:Nat}{R:R3}(h:Rs[k]?=some R):(Rs.map R3.dw)[k]?=some R.dw:=by
 rw[C1,h]
 rfl
theorem Cr.prs {Rs:List R3}{i j:Nat}{R R':R3}(hi:Rs[i]?=some R)(hj:Rs[j]?=some R')(h:Cr R R'):Tn.Prs (getD (Rs.map R3.dw)) (bW (Rs.map R3.dw)) 0 i j:=by
 obtain⟨e,e1,e2,e3,e4,e5⟩:=h
 refine⟨R.dw.dd,R'.dw.dd,e,D4 (Fi hi),D4 (Fi hj),BF _,?_,?_,e4,e5,fun vs hv=>?_⟩
 .show e<=(R.S.map C2).length
  rw[Ao];exact e1
 .show e<=(R'.S.map C2).length
  rw[Ao];exact e2
 .rw[DD (Fi hi),DD (Fi hj),OM e3 hv]
theorem FB {Rs:List R3}(h:Rs.Pairwise Cr):(List.range (Rs.map R3.dw).length).Pairwise (Tn.Prs (getD (Rs.map R3.dw)) (bW (Rs.map R3.dw)) 0):=by
 rw[Ao]
 refine List.Pairwise.imp_of_mem (fun{i j} hi hj lt=>?_) (List.pairwise_lt_range (n:=Rs.length))
 rw[Di]at hi hj
 exact Cr.prs (Be hi) (Be hj) (KA.mp h i j hi hj lt)
theorem Nl:∀{Rs:List R3},Rs.Pairwise Cr->Pw.CC 0 ((Rs.map R3.dw).map Dw.dd)
 |[],_=>True.intro
 |[a],_=>BF _
 |
  a::b::l,h=>by
  obtain⟨h1,h2⟩:=DW.mp h
  obtain⟨e,e1,e2,e3,e4,e5⟩:=h1 b AX
  refine⟨⟨e,BF _,?_,?_,?_,e4,by show a.path.getD e 0≠b.path.getD e 0;omega⟩,Nl h2⟩
  .show e<=(a.S.map C2).length
   rw[Ao];exact e1
  .show e<=(b.S.map C2).length
   rw[Ao];exact e2
  .show(a.S.map C2).take e=(b.S.map C2).take e
   rw[←GC,←GC,e3]
theorem T8 {Rs:List R3}(h:Rs.Pairwise Cr)(g:∀R∈Rs,RG R)(l:Rs.length<=10):HG (Rs.map R3.dw):=by
 refine⟨fun D hD=>?_,by rw[Ao];exact l,Nl h⟩
 obtain⟨R,hR,rfl⟩:=AW.mp hD
 exact(g R hR).ok3
theorem Ii {Ds:List Dw}(h:∀D∈Ds,Ep D):∀k∈List.range Ds.length,Tn.Gd (getD Ds) k:=fun k hk=>by
 rw[Di]at hk
 have hD:Ds[k]?=some Ds[k]:=Be hk
 exact⟨_,D4 hD,(h _ (FW hk)).pl⟩
def PV (D:Dw)(vs:List Int):Prop := ∀e,e<vs.length->(bD D (vs.take e)).1<=vs.getD e 0/\vs.getD e 0<=(bD D (vs.take e)).2
theorem PV.nil (D:Dw):PV D []:=fun e h=>absurd h (J4 _)
theorem PV.snoc {D:Dw}{vs:List Int}{v:Int}(h:PV D vs)(h0:(bD D vs).1<=v)(h1:v<=(bD D vs).2):PV D (vs++[v]):=fun e he=>by
 rw[Ac,AN]at he
 rcases CZ e vs.length with z|z
 .rw[DQ z,CL (by omega)]
  exact h e z
 .obtain rfl:e=vs.length:=by omega
  rw[Dg,CL (An _),DV]
  exact⟨h0,h1⟩
theorem PV.init {D:Dw}{vs:List Int}{v:Int}(h:PV D (vs++[v])):PV D vs/\(bD D vs).1<=v/\v<=(bD D vs).2:=by
 refine⟨fun e he=>?_,?_⟩
 .have:=h e (by rw[Ac];omega)
  rw[DQ he,CL (by omega)]at this
  exact this
 .have:=h vs.length (by rw[Ac,AN];omega)
  rw[Dg,CL (An _),DV]at this
  exact this
def Tm (W:Nat)(D:Dw):Prop := ∀vs,PV D vs->vs.length<D.loops.length->(-(2 ^ 60)<=(bD D vs).1/\(bD D vs).1<=2 ^ 60/\-(2 ^ 60)<=(bD D vs).2/\(bD D vs).2<=2 ^ 60)/\(bD D vs).2-(bD D vs).1+1<=(W:Int)
theorem JJ.tm {W:Nat}{D:Dw}(h:JJ (W:Int) D):Tm W D:=by
 obtain⟨G,g0,g1⟩:=h
 have all:∀(n:Nat) (vs:List Int),vs.length=n->n<=D.loops.length->PV D vs->G vs:=by
  intro n
  induction n with
  |zero=>intro vs l _ _;rw[Mp l];exact g0
  |
   succ n ih=>
   intro vs l le hp
   obtain⟨us,v,rfl,ul⟩:=Fd l
   obtain⟨p1,p2,p3⟩:=hp.init
   exact(g1 us (ih us ul (by omega) p1) (by omega)).2.2 v p2 p3
 exact fun vs hp hl=>⟨(g1 vs (all _ vs rfl (by omega) hp) hl).1,(g1 vs (all _ vs rfl (by omega) hp) hl).2.1⟩
theorem IU {Ds:List Dw}{W:Nat}:∀{f:Pw.Fs} {ns:List Nat} {d:Nat} {vs:List Int},Pw.IsF (getD Ds) f ns d->ns.Pairwise (Tn.Prs (getD Ds) (bW Ds) d)->(∀k∈ns,Tn.Gd (getD Ds) k)->(∀k∈ns,∃D,Ds[k]?=some D/\Tm W D/\PV D vs)->vs.length=d->Dl (bW Ds) f vs
 |.nil,ns,d,vs,h,hp,gd,tm,hv=>True.intro
 |
  .leaf k0 rest,ns,d,vs,h,hp,gd,tm,hv=>by
  obtain⟨ns',a,rfl,h0,h1,h2⟩:=h
  show Dl (bW Ds) rest vs
  exact IU h2 (DW.mp hp).2 (fun k hk=>gd k (B1 _ hk)) (fun k hk=>tm k (B1 _ hk)) hv
 |
  .node k0 sub rest,ns,d,vs,h,hp,gd,tm,hv=>by
  obtain⟨g,ns',a,rfl,h0,h1,h2,h3,h4,h5⟩:=h
  have hp':=FX.mp hp
  have gdl:∀k∈k0::g,Tn.Gd (getD Ds) k:=fun k hk=>gd k (Ck _ hk)
  have G:=Tn.grp (a:=a) hp'.1 gdl h0 h1 h2
  obtain⟨D0,hD0,t0,p0⟩:=tm k0 (Ck _ AX)
  have a0:a=D0.dd:=by rw[D4 hD0]at h0;exact(AZ h0).symm
  have l0:vs.length<D0.loops.length:=by rw[a0]at h1;rw[hv];exact h1
  refine⟨?_,fun v v0 v1=>?_,IU h5 hp'.2.1 (fun k hk=>gd k (BK _ hk)) (fun k hk=>tm k (BK _ hk)) hv⟩
  .rw[DD hD0]
   exact(t0 vs p0 l0).1
  .refine IU (W:=W) h4 G.up gdl (fun k hk=>?_) (by rw[Ac,hv];rfl)
   obtain⟨D,hD,t1,p1⟩:=tm k (Ck _ hk)
   obtain⟨b,hb,_,_,eB⟩:=G.eq k hk
   have:=eB vs (by omega)
   rw[←this,DD hD]at v0 v1
   exact⟨D,hD,t1,p1.snoc v0 v1⟩
theorem GH {W:Nat}:∀{l:List Nat},(∀x∈l,x<=W)->l.sum<=l.length*W
 |[],_=>by rw[Hr];exact BF _
 |
  x::l,h=>by
  rw[Cb,B6,Nat.succ_mul]
  have:=GH (l:=l) fun y hy=>h y (B1 _ hy)
  have:=h x AX
  omega
theorem Jx {W:Nat}{D:Dw}(h:Tm W D):∀{n:Nat},n<=D.loops.length->(Tn.lv (bD D) n).length<=W ^ n
 |0,_=>An _
 |
  n+1,hn=>by
  have ih:=Jx h (n:=n) (by omega)
  show((Tn.lv (bD D) n).flatMap fun vs=>(Tn.rng (bD D vs).1 (bD D vs).2).map fun v=>vs++[v]).length<=W ^ (n+1)
  rw[PD,Nat.pow_succ]
  refine Bl (GH (W:=W) fun x hx=>?_) ?_
  .obtain⟨vs,hvs,rfl⟩:=AW.mp hx
   obtain⟨l,p⟩:=Tn.mem_lv.mp hvs
   rw[Ao,Tn.rng_len]
   have:=(h vs (fun e he=>p e (by omega)) (by omega)).2
   omega
  .rw[Ao]
   exact Nat.mul_le_mul_right _ ih
def nb (W:Nat):Nat->Int
 |0=>0
 |n+1=>5*(W:Int)+(W:Int)*(4*nb W n)
theorem GU (W:Nat):∀n,0<=nb W n
 |0=>KC _
 |
  n+1=>by
  have:=GU W n
  have h2:0<=(W:Int)*(4*nb W n):=KD (by omega) (by omega)
  show 0<=5*(W:Int)+(W:Int)*(4*nb W n)
  omega
theorem O9 {b:Int}:∀{l:List Int},(∀x∈l,x<=b)->l.sum<=(l.length:Int)*b
 |[],_=>by rw[Hr];simp
 |
  x::l,h=>by
  rw[Cb,B6]
  have h1:=O9 (l:=l) fun y hy=>h y (B1 _ hy)
  have h2:=h x AX
  rw[show((l.length+1:Nat):Int)*b=(l.length:Int)*b+b by rw[J5,KF];simp]
  omega
theorem LI {D:Nat->Option (Pw.Dd Cf Str)}{f:Pw.Fs}{ns:List Nat}{d:Nat}(h:Pw.IsF D f ns d):AM f<=ns.length:=Bl (IG f) (Jv h)
theorem HR {Ds:List Dw}{W:Nat}:∀{f:Pw.Fs} {ns:List Nat} {d n:Nat} {vs:List Int},Pw.IsF (getD Ds) f ns d->ns.Pairwise (Tn.Prs (getD Ds) (bW Ds) d)->(∀k∈ns,Tn.Gd (getD Ds) k)->(∀k∈ns,∃D,Ds[k]?=some D/\Tm W D/\PV D vs/\D.loops.length<=d+n)->vs.length=d->ns.length<=4->AS (bW Ds) f vs<=(ns.length:Int)*nb W n
 |
  .nil,ns,d,n,vs,h,hp,gd,tm,hv,n4=>by
  have:=GU W n
  exact KD (by omega) this
 |
  .leaf k0 rest,ns,d,n,vs,h,hp,gd,tm,hv,n4=>by
  obtain⟨ns',a,rfl,h0,h1,h2⟩:=h
  rw[B6]at n4
  have:=HR h2 (DW.mp hp).2 (fun k hk=>gd k (B1 _ hk)) (fun k hk=>tm k (B1 _ hk)) hv (by omega)
  have nn:=GU W n
  show AS (bW Ds) rest vs<=_
  rw[B6,show((ns'.length+1:Nat):Int)*nb W n=(ns'.length:Int)*nb W n+nb W n by rw[J5,KF];simp]
  omega
 |
  .node k0 sub rest,ns,d,n,vs,h,hp,gd,tm,hv,n4=>by
  obtain⟨g,ns',a,rfl,h0,h1,h2,h3,h4,h5⟩:=h
  have hp':=FX.mp hp
  have gdl:∀k∈k0::g,Tn.Gd (getD Ds) k:=fun k hk=>gd k (Ck _ hk)
  have G:=Tn.grp (a:=a) hp'.1 gdl h0 h1 h2
  obtain⟨D0,hD0,t0,p0,l0n⟩:=tm k0 (Ck _ AX)
  have a0:a=D0.dd:=by rw[D4 hD0]at h0;exact(AZ h0).symm
  have l0:vs.length<D0.loops.length:=by rw[a0]at h1;rw[hv];exact h1
  rw[Ac,B6]at n4
  have r1:=HR h5 hp'.2.1 (fun k hk=>gd k (BK _ hk)) (fun k hk=>tm k (BK _ hk)) hv (by omega)
  obtain⟨m,rfl⟩:∃m,n=m+1:=⟨n-1,by omega⟩
  have nn:=GU W (m+1)
  have nm:=GU W m
  have w1:=(t0 vs p0 l0).2
  have lv4:=LI h4
  rw[B6]at lv4
  have wW:CG (bW Ds k0 vs)<=(W:Int):=by rw[DD hD0];unfold CG;split<;>omega
  have w0:=M3 (bW Ds k0 vs)
  have c1:CG (bW Ds k0 vs)*(1+(AM sub:Int))<=(W:Int)*5:=Int.mul_le_mul wW (by omega) (by omega) (by omega)
  have c2:((Tn.rng (bW Ds k0 vs).1 (bW Ds k0 vs).2).map fun v=>AS (bW Ds) sub (vs++[v])).sum<=(W:Int)*(4*nb W m):=by
   refine Int.le_trans (O9 (b:=4*nb W m) fun x hx=>?_) ?_
   .obtain⟨v,hv1,rfl⟩:=AW.mp hx
    obtain⟨v0,v1⟩:=Tn.mem_rng.mp hv1
    have:=HR (n:=m) h4 G.up gdl (fun k hk=>by
     obtain⟨D,hD,t1,p1,ll⟩:=tm k (Ck _ hk)
     obtain⟨b,hb,_,_,eB⟩:=G.eq k hk
     have:=eB vs (by omega)
     rw[←this,DD hD]at v0 v1
     exact⟨D,hD,t1,p1.snoc v0 v1,by omega⟩) (by rw[Ac,hv];rfl) (by rw[B6];omega)
    refine Int.le_trans this (PF (by rw[B6];omega) nm)
   .rw[Ao,Tn.rng_len]
    refine PF ?_ (by omega)
    rw[DD hD0]
    omega
  have c3:0<=(W:Int)*(4*nb W m):=KD (by omega) (by omega)
  have e1:nb W (m+1)=5*(W:Int)+(W:Int)*(4*nb W m):=rfl
  have e2:(((k0::g++ns').length:Nat):Int)*nb W (m+1)=(ns'.length:Int)*nb W (m+1)+((g.length:Int)+1)*nb W (m+1):=by
   rw[Ac,B6,←KF]
   congr 1
   omega
  have e3:nb W (m+1)<=((g.length:Int)+1)*nb W (m+1):=by
   rw[KF,Int.one_mul]
   have:=KD (Mq g.length) nn
   omega
  show CG (bW Ds k0 vs)*(1+(AM sub:Int))+(if AM sub<Cd sub then _ else 0)+AS (bW Ds) rest vs<=_
  rw[e2]
  split<;>omega
theorem Wn {Ds:List Dw}{W n:Nat}(ok:∀D∈Ds,Ep D)(pr:(List.range Ds.length).Pairwise (Tn.Prs (getD Ds) (bW Ds) 0))(l4:Ds.length<=4)(tm:∀D∈Ds,Tm W D/\D.loops.length<=n)(w1:1<=W)(b1:4*W ^ n<=400000)(b2:4+4*nb W n<=1000000):K6 Ds:=fun f isf=>by
 have gd:=Ii ok
 have all:∀k∈List.range Ds.length,∃D,Ds[k]?=some D/\Tm W D/\PV D []/\D.loops.length<=0+n:=fun k hk=>by
  rw[Di]at hk
  have:=tm _ (FW hk)
  exact⟨Ds[k],Be hk,this.1,PV.nil _,by omega⟩
 refine⟨IU (W:=W) isf pr gd (fun k hk=>by obtain⟨D,a,b,c,_⟩:=all k hk;exact⟨D,a,b,c⟩) rfl,?_,?_⟩
 .rw[Tn.len_tl isf pr gd List.nodup_range]
  refine Bl (GH (W:=W ^ n) fun x hx=>?_) ?_
  .obtain⟨k,hk,rfl⟩:=AW.mp hx
   obtain⟨D,hD,t,_,ll⟩:=all k hk
   have e:Tn.nlp (getD Ds) k=D.loops.length:=Tn.nlp_some (D4 hD)
   have e2:bW Ds k=bD D:=by funext vs;exact DD hD vs
   rw[e,e2]
   exact Bl (Jx t (An _)) (PJ w1 (by omega))
  .rw[Ao,Dz]
   exact Bl (Nat.mul_le_mul_right _ l4) b1
 .have c:=HR (n:=n) isf pr gd all rfl (by rw[Dz];exact l4)
  rw[Dz]at c
  have lv:=LI isf
  rw[Dz]at lv
  have nn:=GU W n
  have:=PF (show(Ds.length:Int)<=4 by omega) nn
  omega
def MU (C:Addr)(H:Hp)(v:V)(R:R3):Prop:=G7 C H v R.dw
theorem JT {α β:Type}{P:V->β->Prop}{f:α->β}{xs:List V}{as:List α}(h:Ay (fun v q=>P v (f q)) xs as):Ay P xs (as.map f):=by
 refine⟨by rw[Ao];exact h.1,fun i x b hx hb=>?_⟩
 rw[C1]at hb
 cases ha:as[i]? with
 |none=>rw[ha]at hb;cases hb
 |
  some q=>
  rw[ha]at hb
  cases hb
  exact h.2 i x q hx ha
def VM (K:XJ):Sp:=fun vs H Q _=>∃(sc:Addr) (ns:List Int),vs=[.ref sc]/\A7 K H sc (ns.map V.int)/\ns.length<=63/\∀(H':Hp) (n:Nat),Aa H H'->1<=n->n<=4->Q (.int (n:Int)) H'
def Va (CP C:Addr):Sp:=fun vs H Q _=>∃(n:Int) (l:Addr) (Rs:List R3),vs=[.int n,.ref l]/\Hl H l Rs/\Rs.length<=6/\(∀R∈Rs,R.m<=30)/\∀(x dx dl:Addr) (xs:List V) (H':Hp),Aa H H'->H x=none->H' x=some (.ins CP dx [("size",.int n),("deeds",.ref dl)])->H dl=none->H' dl=some (.lst xs)->Ay (MU C H') xs Rs->Q (.ref x) H'
structure Gw (Rs:List R3):Prop where
 rg:∀R∈Rs,RG R
 pr:Rs.Pairwise Cr
 l0:0<Rs.length
 l4:Rs.length<=4
 sm:K6 (Rs.map R3.dw)
 sm2:K6 ((Rs.take (Rs.length-1)).map R3.dw)
 lvb:∀R∈Rs,∀n,n<=R.S.length->(Tn.lv (bD R.dw) n).length<=400000
theorem QL {W:Nat}{R:R3}(t:Tm W R.dw)(w1:1<=W){m:Nat}(hm:R.S.length<=m)(b:W ^ m<=400000):∀n,n<=R.S.length->(Tn.lv (bD R.dw) n).length<=400000:=fun n hn=>by
 have:=Jx t (n:=n) (by show n<=(R.S.map C2).length;rw[Ao];exact hn)
 exact Bl this (Bl (PJ w1 (by omega)) b)
theorem OL {Rs:List R3}{c:Int}(ok:∀R∈Rs,DI c R)(pr:Rs.Pairwise Cr)(l0:0<Rs.length)(l4:Rs.length<=4):Gw Rs:=by
 have sm:∀{Rs:List R3},(∀R∈Rs,DI c R)->Rs.Pairwise Cr->Rs.length<=4->K6 (Rs.map R3.dw):=fun{Rs} ok pr l4=>by
  refine Wn (W:=10) (n:=3) (fun D hD=>?_) (FB pr) (by rw[Ao];exact l4) (fun D hD=>?_) (by decide) (by decide) (by decide)
  .obtain⟨R,hR,rfl⟩:=AW.mp hD
   exact(ok R hR).rg.ok3
  .obtain⟨R,hR,rfl⟩:=AW.mp hD
   exact⟨(ok R hR).tame.tm,by have:=(ok R hR).rg.ok3.ll;exact this⟩
 exact⟨fun R hR=>(ok R hR).rg,pr,l0,l4,sm ok pr l4,sm (fun R hR=>ok R (KG hR)) (pr.sublist (List.take_sublist _ _)) (by rw[BG];omega),fun R hR=>QL (W:=10) (ok R hR).tame.tm (by decide) (ok R hR).rg.ll (by decide)⟩
def VW (K:XJ):List V->Hp->VK->Prop:=fun xs H Q=>∃p ys,xs=[V.ref p]/\(A7 K H p ys\/A8 K H p ys)/\Q (V.int (ys.length:Int)) H
theorem Od {S:List Lp}{e:Nat}{us:List Int}{kvs:List (Ap×V)}{z:Str}(nd:(AY S).Nodup)(ne:∀z∈AY S,z≠"")(hu:us.length=e)(ar:M4 kvs (AY S) us)(n:Int)(h:Bs (S.take e) z):GT kvs z (C8 ((AY S).zip us) (z,n)-n):=by
 rcases h with rfl|⟨r,hr,rfl⟩
 .refine .inl ⟨rfl,?_⟩
  unfold C8
  rw[Ah rfl]
  show n-n=0
  omega
 .obtain⟨j,hj⟩:=J3.mp hr
  have l:=(BR.mp hj).1
  rw[BG]at l
  rw[IV (by omega)]at hj
  have hz:(AY S)[j]?=some r.nm:=by unfold AY;rw[C1,hj];rfl
  have nz:=ne _ (DH hz)
  refine .inr ⟨nz,?_⟩
  rw[ar j r.nm (by omega) hz]
  unfold C8
  rw[Ae nz,JP nd hz (by omega)]
  congr 2
  show us.getD j 0=us.getD j 0+n-n
  omega
theorem X7 {R:R3}(g:RG R){us:List Int}{q:Lp}{kvs:List (Ap×V)}(hq:R.S[us.length]?=some q)(ar:M4 kvs (AY R.S) us):GT kvs q.lz ((bD R.dw us).1-q.ln)/\GT kvs q.hz ((bD R.dw us).2-q.hn):=by
 obtain⟨b1,b2⟩:=g.bs _ q hq
 rw[Ks hq]
 exact⟨Od g.nd g.ne rfl ar q.ln b1,Od g.nd g.ne rfl ar q.hn b2⟩
def F5 (H:Hp)(v:V)(l:List Int):Prop := ∃t,v = .ref t/\H t=some (.tup (l.map V.int))
theorem F5.tk {H H':Hp}{v:V}{l:List Int}(h:F5 H v l)(e:TK H H'):F5 H' v l:=by
 obtain⟨t,a,b⟩:=h
 exact⟨t,a,e _ _ b⟩
theorem F5.over {H H':Hp}{v:V}{l:List Int}(h:F5 H v l)(e:Aa H H'):F5 H' v l:=h.tk (Aa.tk e)
theorem Oe {Rs:List R3}(g:Gw Rs):∀k∈List.range (Rs.map R3.dw).length,Tn.Gd (getD (Rs.map R3.dw)) k:=Ii fun D hD=>by
 obtain⟨R,hR,rfl⟩:=AW.mp hD
 exact(g.rg R hR).ok3
theorem U1 {D:Nat->Option (Pw.Dd Cf Str)}{B:Nat->List Int->Int×Int}{f f':Pw.Fs}{ns:List Nat}(h:Pw.IsF D f ns 0)(h':Pw.IsF D f' ns 0)(hp:ns.Pairwise (Tn.Prs D B 0))(gd:∀k∈ns,Tn.Gd D k):Tn.tl B f' []=Tn.tl B f []:=
 Tn.pw_ext (R:=fun x y=>HT.lexLt (Tn.key D x) (Tn.key D y)=true) (fun x h=>by rw[Tn.lex_irr]at h;cases h) (fun x y=>Tn.lex_asy _ _) (Tn.rise h' hp gd rfl) (Tn.rise h hp gd rfl) fun x=>by
  obtain⟨k,w⟩:=x
  rw[Tn.mem_tl h hp gd rfl,Tn.mem_tl h' hp gd rfl]
theorem Ip:∀l:List Nat,(l.map fun n:Nat=>(n:Int)).sum=((l.sum:Nat):Int)
 |[]=>rfl
 |
  x::l=>by
  rw[Bu,Cb,Cb,Ip l]
  omega
theorem Ro {α β:Type}{l:List α}{f:Nat->β}{g:α->β}(h:∀k x,l[k]?=some x->f k=g x):(List.range l.length).map f=l.map g:=by
 apply List.ext_getElem?
 intro i
 rw[C1,C1]
 rcases CZ i l.length with z|z
 .rw[IY z,Be z]
  show some (f i)=some (g l[i])
  rw[h i _ (Be z)]
 .rw[List.getElem?_eq_none (by rw[Dz];exact z),List.getElem?_eq_none z]
  rfl
theorem WH {Rs:List R3}(g:Gw Rs){f:Pw.Fs}(isf:Pw.IsF (getD (Rs.map R3.dw)) f (List.range (Rs.map R3.dw).length) 0):((Tn.tl (bW (Rs.map R3.dw)) f []).length:Int)=(Rs.map fun R=>((Tn.lv (bD R.dw) R.S.length).length:Int)).sum:=by
 rw[Tn.len_tl isf (FB g.pr) (Oe g) List.nodup_range,Ao]
 rw[Ro (l:=Rs) (g:=fun R=>(Tn.lv (bD R.dw) R.S.length).length) fun k R hR=>?_]
 .rw[←Ip,DX]
  rfl
 .have hD:=Fi hR
  have e:Tn.nlp (getD (Rs.map R3.dw)) k=R.S.length:=by
   rw[Tn.nlp_some (D4 hD)]
   show(R.S.map C2).length=_
   rw[Ao]
  have e2:bW (Rs.map R3.dw) k=bD R.dw:=by funext vs;exact DD hD vs
  rw[e,e2]
def Ct (B:Nat->List Int->Int×Int):Pw.Fs->List Int->Nat
 |.nil,_=>0
 |.leaf _ r,vs=>Ct B r vs
 |.node k s r,vs=>((Tn.rng (B k vs).1 (B k vs).2).map fun v=>1+Ct B s (vs++[v])).sum+Ct B r vs
theorem Nb {B:Nat->List Int->Int×Int}:∀{f:Pw.Fs},¬AM f<Cd f->∀vs,AS B f vs=0
 |.nil,_,_=>rfl
 |
  .leaf k r,h,vs=>by
  have h:¬1+AM r<1+Cd r:=h
  exact Nb (f:=r) (by omega) vs
 |
  .node k s r,h,vs=>by
  have h:¬AM r<1+Cd r:=h
  have:=IG r
  omega
theorem So (b:Int×Int):CG b=((Tn.rng b.1 b.2).length:Int):=by
 rw[Tn.rng_len]
 unfold CG
 split<;>omega
theorem LG {c:Int}:∀l:List Int,(l.map fun _=>c).sum=(l.length:Int)*c
 |[]=>by simp
 |
  x::l=>by
  rw[Bu,Cb,LG l,B6,J5,KF]
  simp
  omega
theorem LS {f g:Int->Int}:∀l:List Int,(l.map fun v=>f v+g v).sum=(l.map f).sum+(l.map g).sum
 |[]=>rfl
 |
  x::l=>by
  rw[Bu,Cb,LS l,Bu,Cb,Bu,Cb]
  omega
theorem N5 {α β:Type}{f:α->List β}:∀l:List α,((l.flatMap f).length:Int)=(l.map fun x=>((f x).length:Int)).sum
 |[]=>rfl
 |
  x::l=>by
  rw[Mr,Ac,Bu,Cb,←N5 l]
  omega
theorem VO {f:Int->Nat}(l:List Int):(((l.map f).sum:Nat):Int)=(l.map fun v=>((f v:Nat):Int)).sum:=by
 rw[←Ip,DX]
 rfl
theorem IP {B:Nat->List Int->Int×Int}:∀(f:Pw.Fs) (vs:List Int),(AM f:Int)+AS B f vs=((Tn.tl B f vs).length:Int)+(Ct B f vs:Int)
 |.nil,_=>rfl
 |
  .leaf k r,vs=>by
  have:=IP (B:=B) r vs
  show((1+AM r:Nat):Int)+AS B r vs=(((k,vs)::Tn.tl B r vs).length:Int)+(Ct B r vs:Int)
  rw[B6]
  omega
 |
  .node k s r,vs=>by
  have hr:=IP (B:=B) r vs
  have e1:(if AM s<Cd s then((Tn.rng (B k vs).1 (B k vs).2).map fun v=>AS B s (vs++[v])).sum else 0)=((Tn.rng (B k vs).1 (B k vs).2).map fun v=>AS B s (vs++[v])).sum:=by
   split
   .rfl
   .rename_i c
    have:(fun v=>AS B s (vs++[v]))=fun _=>(0:Int):=by funext v;exact Nb c _
    rw[this,LG,Int.mul_zero]
  show(AM r:Int)+(CG (B k vs)*(1+(AM s:Int))+(if AM s<Cd s then _ else 0)+AS B r vs)=(((Tn.rng (B k vs).1 (B k vs).2).flatMap (fun v=>Tn.tl B s (vs++[v]))++Tn.tl B r vs).length:Int)+((((Tn.rng (B k vs).1 (B k vs).2).map fun v=>1+Ct B s (vs++[v])).sum+Ct B r vs:Nat):Int)
  rw[e1,So,←LG,Ac,J5,N5,J5,VO]
  have e2:((Tn.rng (B k vs).1 (B k vs).2).map fun v=>((Tn.tl B s (vs++[v])).length:Int)).sum+((Tn.rng (B k vs).1 (B k vs).2).map fun v=>((1+Ct B s (vs++[v]):Nat):Int)).sum=((Tn.rng (B k vs).1 (B k vs).2).map fun _=>(1+(AM s:Int))).sum+((Tn.rng (B k vs).1 (B k vs).2).map fun v=>AS B s (vs++[v])).sum:=by
   rw[←LS,←LS]
   congr 1
   refine Mf fun v _=>?_
   have:=IP (B:=B) s (vs++[v])
   omega
  omega
def Dr (D:Nat->Option (Pw.Dd Cf Str))(B:Nat->List Int->Int×Int):Pw.Fs->Nat->List (List Int×Nat)
 |.nil,_=>[]
 |.leaf _ r,d=>Dr D B r d
 |.node k s r,d=>((match D k with|some a=>a.path.take (d+1)|none=>[]),(Tn.lv (B k) (d+1)).length)::(Dr D B s (d+1)++Dr D B r d)
theorem N0 {α β:Type}{f g:α->List β}:∀{l:List α},(∀x∈l,f x=g x)->l.flatMap f=l.flatMap g
 |[],_=>rfl
 |
  x::l,h=>by
  rw[Mr,Mr,h x AX,N0 fun y hy=>h y (B1 _ hy)]
theorem K9 {b b':List Int->Int×Int}:∀{n:Nat},(∀vs,vs.length<n->b vs=b' vs)->Tn.lv b n=Tn.lv b' n
 |0,_=>rfl
 |
  n+1,h=>by
  show(Tn.lv b n).flatMap _=(Tn.lv b' n).flatMap _
  rw[←K9 (b:=b) (b':=b') fun vs hv=>h vs (by omega)]
  refine N0 fun vs hvs=>?_
  rw[h vs (by have:=(Tn.mem_lv.mp hvs).1;omega)]
theorem Ll {α:Type}{f g:α->Nat}:∀l:List α,(l.map fun v=>f v+g v).sum=(l.map f).sum+(l.map g).sum
 |[]=>rfl
 |
  x::l=>by
  rw[Bu,Cb,Ll l,Bu,Cb,Bu,Cb]
  omega
theorem NA {α:Type}{f:α->List (List Int)}{g:List Int->Nat}:∀l:List α,(l.map fun x=>((f x).map g).sum).sum=((l.flatMap f).map g).sum
 |[]=>rfl
 |
  x::l=>by
  rw[Bu,Cb,NA l,Mr,Bv,PK]
theorem Ke {D:Nat->Option (Pw.Dd Cf Str)}{B:Nat->List Int->Int×Int}:∀{f:Pw.Fs} {ns:List Nat} {d:Nat} {P:List (List Int)},Pw.IsF D f ns d->ns.Pairwise (Tn.Prs D B d)->(∀k∈ns,Tn.Gd D k)->(∀k∈ns,P=Tn.lv (B k) d)->(P.map fun vs=>Ct B f vs).sum=((Dr D B f d).map (·.2)).sum
 |
  .nil,ns,d,P,h,hp,gd,hP=>by
  show(P.map fun _=>0).sum=0
  have:∀l:List (List Int),(l.map fun _=>0).sum=0:=fun l=>by induction l with
   |nil=>rfl
   |cons x l ih=>rw[Bu,Cb,ih]
  exact this P
 |
  .leaf k0 rest,ns,d,P,h,hp,gd,hP=>by
  obtain⟨ns',a,rfl,h0,h1,h2⟩:=h
  show(P.map fun vs=>Ct B rest vs).sum=((Dr D B rest d).map (·.2)).sum
  exact Ke h2 (DW.mp hp).2 (fun k hk=>gd k (B1 _ hk)) (fun k hk=>hP k (B1 _ hk))
 |
  .node k0 sub rest,ns,d,P,h,hp,gd,hP=>by
  obtain⟨g,ns',a,rfl,h0,h1,h2,h3,h4,h5⟩:=h
  have hp':=FX.mp hp
  have gdl:∀k∈k0::g,Tn.Gd D k:=fun k hk=>gd k (Ck _ hk)
  have G:=Tn.grp (a:=a) hp'.1 gdl h0 h1 h2
  have r1:=Ke h5 hp'.2.1 (fun k hk=>gd k (BK _ hk)) (fun k hk=>hP k (BK _ hk))
  have hP0:=hP k0 (Ck _ AX)
  have r2:=Ke (P:=Tn.lv (B k0) (d+1)) h4 G.up gdl (fun k hk=>by
   obtain⟨b,_,_,_,eB⟩:=G.eq k hk
   exact K9 fun vs hv=>(eB vs (by omega)).symm)
  show(P.map fun vs=>((Tn.rng (B k0 vs).1 (B k0 vs).2).map fun v=>1+Ct B sub (vs++[v])).sum+Ct B rest vs).sum=((_::(Dr D B sub (d+1)++Dr D B rest d)).map (·.2)).sum
  rw[Ll,r1,Bu,Cb,Bv,PK,←r2]
  have e:(P.map fun vs=>((Tn.rng (B k0 vs).1 (B k0 vs).2).map fun v=>1+Ct B sub (vs++[v])).sum).sum=(Tn.lv (B k0) (d+1)).length+((Tn.lv (B k0) (d+1)).map fun vs=>Ct B sub vs).sum:=by
   have e2:∀vs,((Tn.rng (B k0 vs).1 (B k0 vs).2).map fun v=>1+Ct B sub (vs++[v])).sum=(((Tn.rng (B k0 vs).1 (B k0 vs).2).map fun v=>vs++[v]).map fun us=>1+Ct B sub us).sum:=fun vs=>by rw[DX];rfl
   have e3:(fun vs=>((Tn.rng (B k0 vs).1 (B k0 vs).2).map fun v=>1+Ct B sub (vs++[v])).sum)=fun vs=>(((Tn.rng (B k0 vs).1 (B k0 vs).2).map fun v=>vs++[v]).map fun us=>1+Ct B sub us).sum:=funext e2
   rw[e3,NA (f:=fun vs=>(Tn.rng (B k0 vs).1 (B k0 vs).2).map fun v=>vs++[v]),hP0]
   show((Tn.lv (B k0) (d+1)).map fun us=>1+Ct B sub us).sum=_
   rw[Ll]
   congr 1
   have:∀l:List (List Int),(l.map fun _=>1).sum=l.length:=fun l=>by induction l with
    |nil=>rfl
    |cons x l ih=>rw[Bu,Cb,ih,B6];omega
   exact this _
  rw[e]
  show(Tn.lv (B k0) (d+1)).length+_+_=(Tn.lv (B k0) (d+1)).length+_
  omega
theorem Rx {D:Nat->Option (Pw.Dd Cf Str)}{B:Nat->List Int->Int×Int}{d k0:Nat}{g ns':List Nat}{a:Pw.Dd Cf Str}(G:Tn.Grp D B d k0 g a)(hp2:ns'.Pairwise (Tn.Prs D B d))(hx:∀x∈k0::g,∀y∈ns',Tn.Prs D B d x y)(h3:∀(x:Nat) (b:Pw.Dd Cf Str),ns'.head?=some x->D x=some b->b.path.getD d 0≠a.path.getD d 0):∀k∈k0::g,∀l∈ns',∀b b',D k=some b->D l=some b'->b.path.getD d 0<b'.path.getD d 0:=fun k hk l hl b b' hb e2=>by
 obtain⟨b1,hb1,p1,p2,_⟩:=G.eq k hk
 rw[hb]at hb1
 obtain rfl:=AZ hb1
 cases ns' with
 |nil=>cases hl
 |
  cons h t=>
  obtain⟨ah,bh,ch,f1,f2,f3,f4,f5,f6,f7,_⟩:=hx k hk h AX
  rw[hb]at f1
  obtain rfl:=AZ f1
  have ne:=h3 h bh rfl f2
  have pe:b.path.getD d 0=a.path.getD d 0:=Tn.take_at p1 (by omega)
  have lt1:b.path.getD d 0<bh.path.getD d 0:=by
   rcases CZ d ch with z|z
   .exact absurd ((Tn.take_at f6 z).symm.trans pe) ne
   .rw[show ch=d by omega]at f7;exact f7
  rcases AE.mp hl with rfl|hl'
  .rw[e2]at f2;obtain rfl:=AZ f2;exact lt1
  .obtain⟨ai,bi,ci,i1,i2,i3,i4,i5,i6,i7,_⟩:=(DW.mp hp2).1 l hl'
   rw[f2]at i1
   obtain rfl:=AZ i1
   rw[e2]at i2
   obtain rfl:=AZ i2
   rcases CZ d ci with z|z
   .rw[←Tn.take_at i6 z];exact lt1
   .rw[show ci=d by omega]at i7;omega
theorem FP {D:Nat->Option (Pw.Dd Cf Str)}{B:Nat->List Int->Int×Int}:∀{f:Pw.Fs} {ns:List Nat} {d:Nat},Pw.IsF D f ns d->ns.Pairwise (Tn.Prs D B d)->(∀k∈ns,Tn.Gd D k)->∀{x:List Int×Nat},x∈Dr D B f d↔∃k∈ns,∃a,D k=some a/\∃e,d<=e/\e<a.loops.length/\x=(a.path.take (e+1),(Tn.lv (B k) (e+1)).length)
 |
  .nil,ns,d,h,hp,gd,x=>by
  have h:ns=[]:=h
  subst h
  exact⟨fun z=>(by cases z),fun⟨k,hk,_⟩=>(by cases hk)⟩
 |
  .leaf k0 rest,ns,d,h,hp,gd,x=>by
  obtain⟨ns',a,rfl,h0,h1,h2⟩:=h
  have ih:=FP h2 (DW.mp hp).2 (fun k hk=>gd k (B1 _ hk)) (x:=x)
  show x∈Dr D B rest d↔_
  rw[ih]
  constructor
  .rintro ⟨k,hk,r⟩
   exact⟨k,B1 _ hk,r⟩
  .rintro ⟨k,hk,b,hb,e,e1,e2,r⟩
   rcases AE.mp hk with rfl|hk
   .rw[h0]at hb
    obtain rfl:=AZ hb
    omega
   .exact⟨k,hk,b,hb,e,e1,e2,r⟩
 |
  .node k0 sub rest,ns,d,h,hp,gd,x=>by
  obtain⟨g,ns',a,rfl,h0,h1,h2,h3,h4,h5⟩:=h
  have hp':=FX.mp hp
  have gdl:∀k∈k0::g,Tn.Gd D k:=fun k hk=>gd k (Ck _ hk)
  have G:=Tn.grp (a:=a) hp'.1 gdl h0 h1 h2
  have r1:=FP h5 hp'.2.1 (fun k hk=>gd k (BK _ hk)) (x:=x)
  have r2:=FP h4 G.up gdl (x:=x)
  show x∈((match D k0 with|some a=>a.path.take (d+1)|none=>[]),(Tn.lv (B k0) (d+1)).length)::(Dr D B sub (d+1)++Dr D B rest d)↔_
  rw[h0,AE,Cj,r1,r2]
  constructor
  .rintro (rfl|⟨k,hk,b,hb,e,e1,r⟩|⟨k,hk,r⟩)
   .exact⟨k0,Ck _ AX,a,h0,d,An _,h1,rfl⟩
   .exact⟨k,Ck _ hk,b,hb,e,by omega,r⟩
   .exact⟨k,BK _ hk,r⟩
  .rintro ⟨k,hk,b,hb,e,e1,e2,rfl⟩
   rcases Cj.mp hk with hk|hk
   .rcases CZ d e with z|z
    .exact .inr (.inl ⟨k,hk,b,hb,e,z,e2,rfl⟩)
    .obtain rfl:e=d:=by omega
     obtain⟨b1,hb1,p1,_,eB⟩:=G.eq k hk
     rw[hb]at hb1
     obtain rfl:=AZ hb1
     refine .inl ?_
     rw[p1,K9 (b:=B k) (b':=B k0) fun vs hv=>eB vs (by omega)]
   .exact .inr (.inr ⟨k,hk,b,hb,e,e1,e2,rfl⟩)
theorem GJ {l:List Int}{e d:Nat}(h:d<e):(l.take e).getD d 0=l.getD d 0:=by
 rw[CV,Mm,Ah h,←CV]
theorem Jp {D:Nat->Option (Pw.Dd Cf Str)}{B:Nat->List Int->Int×Int}:∀{f:Pw.Fs} {ns:List Nat} {d:Nat},Pw.IsF D f ns d->ns.Pairwise (Tn.Prs D B d)->(∀k∈ns,Tn.Gd D k)->((Dr D B f d).map (·.1)).Nodup
 |.nil,ns,d,h,hp,gd=>Kx
 |
  .leaf k0 rest,ns,d,h,hp,gd=>by
  obtain⟨ns',a,rfl,h0,h1,h2⟩:=h
  show((Dr D B rest d).map (·.1)).Nodup
  exact Jp h2 (DW.mp hp).2 (fun k hk=>gd k (B1 _ hk))
 |
  .node k0 sub rest,ns,d,h,hp,gd=>by
  obtain⟨g,ns',a,rfl,h0,h1,h2,h3,h4,h5⟩:=h
  have hp':=FX.mp hp
  have gdl:∀k∈k0::g,Tn.Gd D k:=fun k hk=>gd k (Ck _ hk)
  have gdr:∀k∈ns',Tn.Gd D k:=fun k hk=>gd k (BK _ hk)
  have G:=Tn.grp (a:=a) hp'.1 gdl h0 h1 h2
  have lt:=Rx G hp'.2.1 hp'.2.2 h3
  have plen:∀{k b},Tn.Gd D k->D k=some b->b.path.length=b.loops.length+1:=fun{k b} gk hb=>by
   obtain⟨b1,hb1,l⟩:=gk
   rw[hb]at hb1
   obtain rfl:=AZ hb1
   exact l
  show((((match D k0 with|some a=>a.path.take (d+1)|none=>[]),(Tn.lv (B k0) (d+1)).length)::(Dr D B sub (d+1)++Dr D B rest d)).map (·.1)).Nodup
  rw[h0,Bu,Bv]
  refine FT.mpr ⟨fun hm=>?_,List.nodup_append.mpr ⟨Jp h4 G.up gdl,Jp h5 hp'.2.1 gdr,fun x hx y hy e=>?_⟩⟩
  .rcases Cj.mp hm with hm|hm
   .obtain⟨y,hy,ey⟩:=AW.mp hm
    obtain⟨k,hk,b,hb,e,e1,e2,rfl⟩:=(FP h4 G.up gdl).mp hy
    have:=congrArg List.length ey
    have pa:=plen (gdl k0 AX) h0
    have pb:=plen (gdl k hk) hb
    simp only[BG]at this
    omega
   .obtain⟨y,hy,ey⟩:=AW.mp hm
    obtain⟨l,hl,b,hb,e,e1,e2,rfl⟩:=(FP h5 hp'.2.1 gdr).mp hy
    have h:=lt k0 AX l hl a b h0 hb
    have ey:b.path.take (e+1)=a.path.take (d+1):=ey
    have:(b.path.take (e+1)).getD d 0=(a.path.take (d+1)).getD d 0:=by rw[ey]
    rw[GJ (by omega),GJ (by omega)]at this
    omega
  .obtain⟨x',hx',rfl⟩:=AW.mp hx
   obtain⟨y',hy',rfl⟩:=AW.mp hy
   obtain⟨k,hk,b,hb,e1,f1,f2,rfl⟩:=(FP h4 G.up gdl).mp hx'
   obtain⟨l,hl,b',hb',e2,i1,i2,rfl⟩:=(FP h5 hp'.2.1 gdr).mp hy'
   have h:=lt k hk l hl b b' hb hb'
   have e:b.path.take (e1+1)=b'.path.take (e2+1):=e
   have:(b.path.take (e1+1)).getD d 0=(b'.path.take (e2+1)).getD d 0:=by rw[e]
   rw[GJ (by omega),GJ (by omega)]at this
   omega
def C9 (l:List Int):List Ap:=l.map Sum.inl
theorem KQ:∀{l m:List Int},C9 l=C9 m->l=m
 |[],[],_=>rfl
 |[],_::_,h=>by cases h
 |_::_,[],h=>by cases h
 |
  x::l,y::m,h=>by
  have h:(Sum.inl x:Ap)::C9 l=Sum.inl y::C9 m:=h
  injection h with h1 h2
  rw[Sum.inl.inj h1,KQ h2]
theorem P2 {α β:Type}{f:α->β}{l:List α}(h:(l.map f).Nodup):l.Nodup:=by
 unfold List.Nodup at h ⊢
 rw[Ml]at h
 exact h.imp fun{a b} ne e=>ne (by rw[e])
theorem Ts (l:List Int):(C9 l).map kV=l.map V.int:=by
 unfold C9
 rw[DX]
 rfl
def D5 (L:List (List Int×Nat)):List (List Ap×V):=L.map fun p=>(C9 p.1,V.int (p.2:Int))
def Hh (L:List (List Int×Nat))(x:List Int×Nat):List (List Int×Nat):=if x.1∈L.map (·.1) then L else L++[x]
theorem XD {L:List (List Int×Nat)}{x:List Int×Nat}(h:∀m,(x.1,m)∈L->m=x.2):BO (D5 L) (C9 x.1) (.int (x.2:Int))=D5 (Hh L x):=by
 unfold Hh
 by_cases c:x.1∈L.map (·.1)
 .rw[Ah c]
  have hs:Bg (D5 L) (C9 x.1)≠none:=fun z=>by
   have:=SA z
   obtain⟨p,hp,e⟩:=AW.mp c
   exact this (AW.mpr ⟨(C9 p.1,V.int (p.2:Int)),AW.mpr ⟨p,hp,rfl⟩,by show C9 p.1=C9 x.1;rw[e]⟩)
  have ha:((D5 L).any fun kv=>decide (kv.1=C9 x.1))=true:=by
   rw[FN]
   cases z:Bg (D5 L) (C9 x.1) with
   |none=>exact absurd z hs
   |some _=>rfl
  unfold BO
  rw[Ah ha]
  unfold D5
  rw[DX]
  refine Mf fun p hp=>?_
  show(if C9 p.1=C9 x.1 then(C9 p.1,V.int (x.2:Int)) else(C9 p.1,V.int (p.2:Int)))=(C9 p.1,V.int (p.2:Int))
  split
  .rename_i e
   have e:=KQ e
   rw[h p.2 (by rw[←e];exact hp)]
  .rfl
 .rw[Ae c]
  have hn:Bg (D5 L) (C9 x.1)=none:=by
   cases z:Bg (D5 L) (C9 x.1) with
   |none=>rfl
   |
    some v=>
    obtain⟨q,hq,e⟩:=AW.mp (QO z)
    obtain⟨p,hp,rfl⟩:=AW.mp hq
    exact absurd (AW.mpr ⟨p,hp,KQ e⟩) c
  rw[N3 _ hn]
  unfold D5
  rw[Bv]
  rfl
structure Cn (Z L:List (List Int×Nat)):Prop where
 nd:(L.map (·.1)).Nodup
 mem:∀x,x∈L↔x∈Z
theorem Cn.nil:Cn [] []:=⟨Kx,fun x=>Iff.rfl⟩
theorem Cn.put {Z L:List (List Int×Nat)}{x:List Int×Nat}(h:Cn Z L)(c:∀m,(x.1,m)∈Z->m=x.2):Cn (Z++[x]) (Hh L x):=by
 unfold Hh
 by_cases k:x.1∈L.map (·.1)
 .rw[Ah k]
  refine⟨h.nd,fun y=>?_⟩
  rw[Cj,BW,h.mem]
  refine⟨.inl,fun z=>?_⟩
  rcases z with z|rfl
  .exact z
  .obtain⟨p,hp,e⟩:=AW.mp k
   have hp':=(h.mem p).mp hp
   have:p=y:=by
    obtain⟨p1,p2⟩:=p
    have e:p1=y.1:=e
    have:=c p2 (by rw[←e];exact hp')
    rw[e,this]
   rw[←this]
   exact hp'
 .rw[Ae k]
  refine⟨?_,fun y=>by rw[Cj,Cj,h.mem]⟩
  rw[Bv]
  exact List.nodup_append.mpr ⟨h.nd,FT.mpr ⟨fun z=>(by cases z),Kx⟩,fun a ha b hb e=>by rw[BW.mp hb]at e;rw[e]at ha;exact k ha⟩
theorem Cn.sum {Z L M:List (List Int×Nat)}(h:Cn Z L)(nd:(M.map (·.1)).Nodup)(m:∀x,x∈M↔x∈Z):(L.map (·.2)).sum=(M.map (·.2)).sum:=by
 have nd1:L.Nodup:=P2 h.nd
 have nd2:M.Nodup:=P2 nd
 have pm:=(List.perm_ext_iff_of_nodup nd1 nd2).mpr fun x=>by rw[h.mem,m]
 exact(pm.map _).sum_nat
def Bc (R:R3):List (List Int×Nat):=(List.range R.S.length).map fun e=>(R.path.take (e+1),(Tn.lv (bD R.dw) (e+1)).length)
theorem UJ {R:R3}{e:Nat}(h:e<R.S.length):(Bc R).take (e+1)=(Bc R).take e++[(R.path.take (e+1),(Tn.lv (bD R.dw) (e+1)).length)]:=E2 (by unfold Bc;rw[C1,IY h];rfl)
theorem LY (R:R3):(Bc R).length=R.S.length:=by
 unfold Bc
 rw[Ao,Dz]
theorem Cr.en {R R':R3}(h:Cr R R')(p1:R.path.length=R.S.length+1)(p2:R'.path.length=R'.S.length+1){e e':Nat}(h1:e<R.S.length)(h2:e'<R'.S.length)(hp:R.path.take (e+1)=R'.path.take (e'+1)):(Tn.lv (bD R.dw) (e+1)).length=(Tn.lv (bD R'.dw) (e'+1)).length:=by
 have l:=congrArg List.length hp
 rw[BG,BG]at l
 obtain rfl:e=e':=by omega
 obtain⟨c,c1,c2,c3,c4,c5⟩:=h
 have ce:e<c:=by
  rcases CZ e c with z|z
  .exact z
  .have:(R.path.take (e+1)).getD c 0=(R'.path.take (e+1)).getD c 0:=by rw[hp]
   rw[GJ (by omega),GJ (by omega)]at this
   omega
 rw[K9 (b:=bD R.dw) (b':=bD R'.dw) fun vs hv=>OM c3 (by omega)]
theorem Rn {Rs:List R3}(g:∀R∈Rs,RG R)(pr:Rs.Pairwise Cr):∀{x y:List Int×Nat},x∈Rs.flatMap Bc->y∈Rs.flatMap Bc->x.1=y.1->x.2=y.2:=fun{x y} hx hy e=>by
 obtain⟨R,hR,hx⟩:=Fl.mp hx
 obtain⟨R',hR',hy⟩:=Fl.mp hy
 obtain⟨a,ha,rfl⟩:=AW.mp hx
 obtain⟨b,hb,rfl⟩:=AW.mp hy
 rw[Di]at ha hb
 have e:R.path.take (a+1)=R'.path.take (b+1):=e
 show(Tn.lv (bD R.dw) (a+1)).length=(Tn.lv (bD R'.dw) (b+1)).length
 obtain⟨i,hi⟩:=Px.mp hR
 obtain⟨j,hj⟩:=Px.mp hR'
 obtain⟨il,rfl⟩:=hi
 obtain⟨jl,rfl⟩:=hj
 rcases Nat.lt_trichotomy i j with z|z|z
 .exact(KA.mp pr i j il jl z).en (g _ hR).pl (g _ hR').pl ha hb e
 .subst z
  have l:=congrArg List.length e
  have:=(g _ hR).pl
  rw[BG,BG]at l
  rw[show a=b by omega]
 .exact((KA.mp pr j i jl il z).en (g _ hR').pl (g _ hR).pl hb ha e.symm).symm
theorem RV {Rs:List R3}(g:∀R∈Rs,RG R)(pr:Rs.Pairwise Cr){f:Pw.Fs}(isf:Pw.IsF (getD (Rs.map R3.dw)) f (List.range (Rs.map R3.dw).length) 0){L:List (List Int×Nat)}(h:Cn (Rs.flatMap Bc) L):(L.map (·.2)).sum=Ct (bW (Rs.map R3.dw)) f []:=by
 have gd:∀k∈List.range (Rs.map R3.dw).length,Tn.Gd (getD (Rs.map R3.dw)) k:=Ii fun D hD=>by
  obtain⟨R,hR,rfl⟩:=AW.mp hD
  exact(g R hR).ok3
 have e:=Ke (P:=[[]]) isf (FB pr) gd (fun k _=>rfl)
 rw[Bu,Cb,Kw,Hr,Nat.add_zero]at e
 rw[e]
 refine h.sum (Jp isf (FB pr) gd) fun x=>?_
 rw[FP isf (FB pr) gd,Fl]
 constructor
 .rintro ⟨k,hk,a,ha,e,_,e2,rfl⟩
  rw[Di,Ao]at hk
  have hR:Rs[k]?=some Rs[k]:=Be hk
  generalize Rs[k]=R at hR
  have hD:=Fi hR
  rw[D4 hD]at ha
  obtain rfl:=AZ ha
  have e2:e<(R.S.map C2).length:=e2
  rw[Ao]at e2
  refine⟨R,DH hR,AW.mpr ⟨e,Di.mpr e2,?_⟩⟩
  have eb:bW (Rs.map R3.dw) k=bD R.dw:=by funext vs;exact DD hD vs
  rw[eb]
  rfl
 .rintro ⟨R,hR,hx⟩
  obtain⟨e,he,rfl⟩:=AW.mp hx
  rw[Di]at he
  obtain⟨k,hk⟩:=J3.mp hR
  have hD:=Fi hk
  refine⟨k,by rw[Di,Ao];exact(BR.mp hk).1,R.dw.dd,D4 hD,e,BF _,by show e<(R.S.map C2).length;rw[Ao];exact he,?_⟩
  have eb:bW (Rs.map R3.dw) k=bD R.dw:=by funext vs;exact DD hD vs
  rw[eb]
  rfl
end L2
namespace EX
open PySem PySem.Spec PyProof.Rows
def BN (h:Heap)(e:Addr)(C:Value)(d:Option Addr)(tb:Value):Prop := ∃oe vs,h.get? e=some oe/\oe.cls=C/\oe.dict=d/\oe.data = .fields vs/\vs[1]?=some tb
def FF (h:Heap)(T:Addr)(fl:Value):Prop := ∃oT ts,h.get? T=some oT/\oT.data = .fields ts/\ts[3]?=some fl
def E1 (fs ch:List Addr)(h h':Heap):Prop := ∀b o,h.get? b=some o->b∉ch->(b∉fs->h'.get? b=some o)/\∃sl,h'.get? b=some {o with slots:=sl}
theorem E1.mono {fs fs' ch ch':List Addr}{h h1:Heap}(a:E1 fs ch h h1)(f:∀b∈fs,b∈fs')(c:∀b∈ch,b∈ch'):E1 fs' ch' h h1:=fun x o e hc=>
 let ⟨p,q⟩:=a x o e fun z=>hc (c x z)
 ⟨fun hf=>p fun z=>hf (f x z),q⟩
section
variable {M:Model}{A:Around}{E:Value->Shared->Prop}{s:Shared}
theorem NX {base h:Heap}{l:List Env}{b:Addr}{o:Obj}{vs:Array Value}(hl:h.FunFrames base l)(ho:h.get? b=some o)(hd:o.data = .fields vs):b∉l.filterMap (·.frame):=fun hm=>by
 obtain⟨_,o',ho',hn⟩:=hl.mem hm
 rw[ho]at ho'
 cases ho'
 exact hn vs hd
theorem MD {base:Heap}{env:Env}{outer:List Env}{L e:Addr}{C:Value}{d:Option Addr}{head tb:Value}{hadNext:Bool}{Q:Unit->Shared->Prop}
  (hfr:A.frames=some (env::outer)) (hl:s.heap.FunFrames base (env::outer)) (hf:env.frame=some L) (hx:BN s.heap e C d tb)
  (h:∀h' T,s.heap.objs.size<=T->E1 ((env::outer).filterMap (·.frame)) [e] s.heap h'->BN h' e C d (.ref T)->FF h' T (rawInt L)->T≠e->Q () {s with heap:=h'}) :
  wpAny M A (do let a ←frameOf env;let pl ←entryPlaceOf L hadNext;let b ←EntryCells.newEntry head a .none (rawInt L) .none pl;setField (.ref e) 1 b) Q E s:=by
 obtain⟨oe,vs,he,hc,hdc,hd,h1⟩:=hx
 have hsz:1<vs.size:=(Ms.mp h1).1
 have hne:=NX hl he hd
 refine A5 (wpAny_frameOf_fun hfr hl hf fun h₁ hs₁=>?_)
 refine A5 (wpAny_entryPlaceOf fun pl hpl=>?_)
 unfold EntryCells.newEntry newFields
 refine A5 (GF ?_ (hpl.sizeOk5 _ _ _ _ _))
 have he₁:h₁.get? e=some oe:=(hs₁.2.1 e hne).trans he
 generalize hob:({cls:=.type "traceback",dict:=none,data:=.fields ([head,.ref L,.none,rawInt L,.none]++(if pl.isEmpty then List.replicate 6 Value.none else pl)).toArray}:Obj)=ob
 have hobd:ob.data = .fields ([head,.ref L,.none,rawInt L,.none]++(if pl.isEmpty then List.replicate 6 Value.none else pl)).toArray:=by rw[←hob]
 have he₂:=AI (h:=h₁) ob he₁
 have nf:ob.isFreed=false:=Obj.isFreed_of_fields hobd
 refine KM he₂ hd hsz ?_
 have hTe:h₁.objs.size≠e:=D8 (AD he₁)
 have hd₃:=Obj.data_mapFields hd (·.setIfInBounds 1 (Value.ref h₁.objs.size))
 refine h _ h₁.objs.size (by rw[hs₁.1];exact An _) (fun b o hb hc=>?_) ?_ ?_ hTe
 .have hbe:b≠e:=fun z=>hc (by rw[z];exact BW.mpr rfl)
  rw[Fk _ _ (Ne.symm hbe)]
  refine⟨fun hn=>AI _ ((hs₁.2.1 b hn).trans hb),?_⟩
  obtain⟨sl,q⟩:=hs₁.2.2 b o hb
  exact⟨sl,AI _ q⟩
 .exact⟨_,_,Kz _ he₂ (Obj.isFreed_of_fields hd₃),by rw[Obj.cls_mapFields];exact hc,by obtain⟨c0,d0,dt,sl⟩:=oe;cases dt<;>exact hdc,hd₃,by simp[hsz]⟩
 .refine⟨ob,_,?_,hobd,by simp⟩
  rw[Fk _ _ (Ne.symm hTe)]
  exact BV h₁ nf
theorem MZ {base:Heap}{env:Env}{outer:List Env}{L e:Addr}{C:Value}{d:Option Addr}{Q:Unit->Shared->Prop}
  (hfr:A.frames=some (env::outer)) (hl:s.heap.FunFrames base (env::outer)) (hf:env.frame=some L) (hx:BN s.heap e C d .none)
  (h:∀h' T,s.heap.objs.size<=T->E1 ((env::outer).filterMap (·.frame)) [e] s.heap h'->BN h' e C d (.ref T)->FF h' T (rawInt L)->T≠e->Q () {s with heap:=h'}) :
  wpAny M A (noteFrame (.ref e) env) Q E s:=by
 obtain⟨oe,vs,he,hc,hdc,hd,h1⟩:=id hx
 unfold noteFrame
 simp only[hf]
 refine A5 (Dj he hd h1 ?_)
 rw[Ae (by decide)]
 exact MD hfr hl hf hx h
theorem OB {base:Heap}{env:Env}{outer:List Env}{L e T0:Addr}{C:Value}{d:Option Addr}{Q:Unit->Shared->Prop}
  (hfr:A.frames=some (env::outer)) (hl:s.heap.FunFrames base (env::outer)) (hf:env.frame=some L) (hx:BN s.heap e C d (.ref T0)) (ht:FF s.heap T0 .none) (hne:T0≠e)
  (h:∀h' T,s.heap.objs.size<=T->E1 ((env::outer).filterMap (·.frame)) [e,T0] s.heap h'->BN h' e C d (.ref T)->FF h' T (rawInt L)->T≠e->Q () {s with heap:=h'}) :
  wpAny M A (noteFrame (.ref e) env) Q E s:=by
 obtain⟨oe,vs,he,hc,hdc,hd,h1⟩:=id hx
 obtain⟨oT,ts,hT,hdT,h3⟩:=ht
 unfold noteFrame
 simp only[hf]
 refine A5 (Dj he hd h1 ?_)
 rw[Ah (show(Value.ref T0 != Value.none)=true from by simp)]
 refine A5 (Dj hT hdT h3 ?_)
 rw[Ae (show ¬((Value.none==rawInt L)=true) from by simp[rawInt])]
 refine A5 (KM hT hdT (Ms.mp h3).1 ?_)
 have other:∀b,b≠T0->(s.heap.update T0 (Obj.mapFields (·.setIfInBounds 3 Value.none))).get? b=s.heap.get? b:=fun b hb=>Fk _ _ (Ne.symm hb)
 have hTf:=NX hl hT hdT
 refine MD (s:={s with heap:=s.heap.update T0 (Obj.mapFields (·.setIfInBounds 3 Value.none))}) hfr (hl.of_keeps fun b o hb hnf=>⟨o,(other b fun q=>by rw[q,hT]at hb;cases hb;exact hnf ts hdT).trans hb,rfl⟩) hf ⟨oe,vs,(other e (Ne.symm hne)).trans he,hc,hdc,hd,h1⟩ fun h' T hT0 hb hx' ht' hTe=>?_
 have hTn:s.heap.objs.size<=T:=by simpa[Heap.size_update] using hT0
 refine h h' T hTn (fun b o q hc=>?_) hx' ht' hTe
 have hbe:b∉[e]:=fun z=>hc (AE.mpr (.inl (BW.mp z)))
 have hbT:b≠T0:=fun z=>hc (by rw[z];exact B1 _ AX)
 exact hb b o ((other b hbT).trans q) hbe
theorem GI {e T:Addr}{C:Value}{d:Option Addr}{fl:Value}{Q:Unit->Shared->Prop}(hx:BN s.heap e C d (.ref T))(ht:FF s.heap T fl)(hne:T≠e)
  (h:∀h',E1 [] [T] s.heap h'->BN h' e C d (.ref T)->FF h' T .none->Q () {s with heap:=h'}):wpAny M A (setFlight (.ref e) none) Q E s:=by
 obtain⟨oe,vs,he,hc,hdc,hd,h1⟩:=id hx
 obtain⟨oT,ts,hT,hdT,h3⟩:=ht
 have hsz:3<ts.size:=(Ms.mp h3).1
 have other:∀b,b≠T->(s.heap.update T (Obj.mapFields (·.setIfInBounds 3 Value.none))).get? b=s.heap.get? b:=fun b hb=>Fk _ _ (Ne.symm hb)
 refine wpAny_setFlight_none he hd h1 hT hdT hsz (h _ (fun b o q hc=>?_) ⟨oe,vs,(other e (Ne.symm hne)).trans he,hc,hdc,hd,h1⟩ ⟨_,_,Kz _ hT (Obj.isFreed_of_fields (Obj.data_mapFields hdT _)),Obj.data_mapFields hdT _,by simp[hsz]⟩)
 have hbT:b≠T:=fun z=>hc (by rw[z];exact AX)
 exact⟨fun _=>(other b hbT).trans q,o.slots,(other b hbT).trans q⟩
theorem X6 {e:Addr}{C:Value}{d:Option Addr}{Q:Unit->Shared->Prop}(hx:BN s.heap e C d .none)(h:Q () s):wpAny M A (setFlight (.ref e) none) Q E s:=by
 obtain⟨oe,vs,he,hc,hdc,hd,h1⟩:=id hx
 unfold setFlight
 refine A5 (Dj he hd h1 ?_)
 rw[Ae (by decide)]
 exact Al h
end
end EX
namespace EX
open PySem PySem.Spec PyProof.Rows
def HY (h:Heap)(C:Addr)(bm:List Value):Prop := ∃nm q N bs hdct sn sub ab col dd k0 k1 k2 k3 k5 newId,h.get? C=some (excClassObj nm q C N bs bm hdct sn sub ab col dd k0 k1 k2 k3 k5 newId)
section
variable {M:Model}{A:Around}{E:Value->Shared->Prop}{s:Shared}{env:Env}
theorem Uz {x:Sem Value}{Q:Flow->Shared->Prop}(hh:A.handled=none)
  (h:wpAny M A x (fun v s₁=>∃e d C bm,v = .ref e/\HY s₁.heap C bm/\bm.contains (.type "BaseException")=true/\BN s₁.heap e (.ref C) d .none/\E (.ref e) s₁) E s) :
  wpAny M A (raiseStmt env (some x) none) Q E s:=by
 unfold raiseStmt
 refine A5 (CM h (fun v s₁ h₁=>?_) fun _ _ x=>x)
 obtain⟨e,d,C,bm,rfl,⟨nm,q,N,bs,hdct,sn,sub,ab,col,dd,k0,k1,k2,k3,k5,newId,hC⟩,hbase,hx,hE⟩:=h₁
 have hcB:(Value.ref C::bm).contains (.type "BaseException")=true:=by rw[List.contains_cons,hbase,Bool.or_true]
 obtain⟨⟨c0,d0,dt,sl⟩,vs,he,hc,hdc,hd,h1⟩:=id hx
 obtain rfl:c0 = .ref C:=hc
 obtain rfl:dt = .fields vs:=hd
 obtain⟨hp,g,dr,tk,os⟩:=s₁
 repeat (first|with_reducible refine Hz he ?_|with_reducible refine Hz hC ?_|(with_reducible refine Mw hC ?_;rw[hcB])|(refine A5 (X6 hx ?_))|wp_step)
 exact wpAny_raiseNew_none hh hE
theorem Xy {e:Expr}{pos:Pos}{Q:Flow->Shared->Prop}(hh:A.handled=none)
  (h:wpAny M A (eval e env) (fun v s₁=>∃a d C bm,v = .ref a/\HY s₁.heap C bm/\bm.contains (.type "BaseException")=true/\BN s₁.heap a (.ref C) d .none/\E (.ref a) s₁) E s) :
  wpAny M A (exec (.Raise (some e) none pos) env) Q E s:=by
 rw[arm_exec_Raise]
 simp only[evalOpt,Option.map]
 refine A5 (KL (Uz hh (A5 (CM h (fun v s₁ h₁=>A5 (KL (Al h₁))) fun _ _ x=>x))))
theorem N1 {h:Heap}{g:Array GenState}{dr:Drawn}{t:Nat}{os:OsState}{e C D:Addr}{bm bd:List Value}{d:Option Addr}{tb:Value}{Q:Bool->Shared->Prop}
  (kC:HY h C bm) (kD:HY h D bd) (hD:bd.contains (.type "BaseException")=true) (hx:BN h e (.ref C) d tb)
  (hq:Q ((Value.ref C::bm).contains (.ref D)) ⟨h,g,dr,t,os⟩):wpAny M A (excMatches (.ref e) (.ref D)) Q E ⟨h,g,dr,t,os⟩:=by
 obtain⟨nm,q,N,bs,hdct,sn,sub,ab,col,dd,k0,k1,k2,k3,k5,newId,hC⟩:=kC
 obtain⟨nm',q',N',bs',hdct',sn',sub',ab',col',dd',k0',k1',k2',k3',k5',newId',hDc⟩:=kD
 obtain⟨oe,vs,he,hcls,hdc,hd,h1⟩:=hx
 have hcB:(Value.ref D::bd).contains (.type "BaseException")=true:=by rw[List.contains_cons,hD,Bool.or_true]
 have f:=tc_notTuple
 unfold excMatches
 generalize hb:(Value.ref C::bm).contains (.ref D)=b at hq
 repeat (any_goals (first|assumption|(with_reducible refine Hz he ?_;rw[hcls])|with_reducible refine Hz hDc ?_|(with_reducible refine Mw hDc ?_;rw[hcB])|(with_reducible refine Mw hC ?_;rw[hb])|wp_step))
 cases b<;>(wp_walk;exact hq)
end
end EX
namespace EX
open PySem PySem.Spec PySem.Calls PyProof.Rows
abbrev ID (C t:Addr):Obj:={cls:=.ref C,data:=.fields #[.ref t,.none,.none,.none,.bool false,.none]}
abbrev Oh (vs:List Value):Obj:={cls:=.type "tuple",data:=.seq vs.toArray}
section
variable {prog:Program}{w:World}{A:Around}{h:Heap}{g:Array GenState}{d:Drawn}{t:Nat}{os:OsState}{R:Result->Shared->Prop}
variable {nm q:Str}{C N:Addr}{bs bm bmB:List Value}{hdct:Bool}{sn:List Str}{sub:List Value}{ab:Bool}{col:Option Bool}{dd:Option Addr}{k0 k1 k2 k3 k5:Option Value}{B newId initId:String}
end
end EX
namespace EX
open PySem PySem.Spec PySem.Calls PyProof.Rows PySem.W PySem.Builtin PySem.Builtin.ObjectAttr
section
variable {prog:Program}{w:World}{A:Around}{E:Value->Shared->Prop}{s:Shared}{K:Frag}{x C:Addr}{ox:Obj}{od:Option Obj}{name:Str}{expr:Bool}
theorem QN:builtinKind "BaseException.__getattribute__"=some .slot:=by decide +kernel
theorem VD:splitId "BaseException.__getattribute__"=some ("BaseException","__getattribute__"):=by decide +kernel
abbrev bmVE:List Value:=[.type "ValueError",.type "Exception",.type "BaseException",.type "object"]
def OD:List Value->List Value
 |.ref _::r=>OD r
 |l=>l
def mroTail (K:Frag)(C:Addr):Bool:=(clsIn K C).any fun cd=>OD cd.mro==bmVE
def ClsT (h:Heap)(C N:Addr)(bm:List Value):Prop := ∃nm q bs hdct sn sub ab col dd k0 k1 k2 k3 k5,h.get? C=some (excClassObj nm q C N bs bm hdct sn sub ab col dd k0 k1 k2 k3 k5 "ValueError.__new__")/\OwnTail h bmVE bm
theorem ClsT.at {h:Heap}{C N:Addr}{bm:List Value}(x:ClsT h C N bm):HY h C bm:=by
 obtain⟨nm,q,bs,hdct,sn,sub,ab,col,dd,k0,k1,k2,k3,k5,e,_⟩:=x
 exact⟨nm,q,N,bs,hdct,sn,sub,ab,col,dd,k0,k1,k2,k3,k5,_,e⟩
structure XC (K:Frag)(C:Addr):Prop where
 ga:findIn K (.ref C) "__getattribute__"=some (some (.builtin "BaseException.__getattribute__"))
 gh:findIn K (.ref C) "__getattr__"=some none
 be:mroIn K C (.type "BaseException")=some true
 sa:findIn K (.ref C) "__setattr__"=some (some (.builtin "object.__setattr__"))
 hd:hasDictIn K C=true
 mt:mroTail K C=true
 ob:mroIn K C (.type "object")=some true
 ct:∃N bm,∀h,K.In h->ClsT h C N bm
end
end EX
namespace EX
open PySem PySem.Spec PySem.Calls PyProof.Rows PySem.W PySem.Builtin PySem.Builtin.ObjectAttr
section
variable {prog:Program}{w:World}{A:Around}{E:Value->Shared->Prop}{s:Shared}{K:Frag}{x C:Addr}{ox:Obj}{od:Option Obj}
theorem UT {Q:Option Value->Shared->Prop}(X:K.In s.heap)(I:InstAt s.heap x ox C od)(c:XC K C)(ha:findIn K (.ref C) "__class__"=some (some (.builtin "object.__class__")))
  (hn:specialIn K (.builtin "object.__class__") "__get__"=some (some (.builtin "getset_descriptor.__get__"))) (htk:takesIn K (.builtin "object.__class__")=some true)
  (h:Q (some (.ref C)) {s with toks:=s.toks+1}):wpAny (model prog w) A (getAttr? (.ref x) "__class__") Q E s:=by
 have hf:findObj K C od "__class__"=some (.bind (.builtin "getset_descriptor.__get__") (.builtin "object.__class__")):=by
  obtain⟨cd,hc,_⟩:=any_some c.hd
  unfold findObj
  rw[hc,ha]
  simp only[Option.bind_some,hn,htk]
 obtain⟨hp,g,d,t,os⟩:=s
 have L0:=I.type (M:=model prog w)
 have L1:=looks_findIn (M:=model prog w) X c.ga
 have L2:=looks_findIn (M:=model prog w) X c.gh
 have L3:=looks_find (M:=model prog w) X I hf
 have hx2:(Value.builtin "BaseException.__getattribute__"==Value.builtin "object.__getattribute__")=false:=by decide +kernel
 have hx1:(onTheHeap (Value.ref C)&&Value.builtin "BaseException.__getattribute__"==Value.builtin "object.__getattribute__")=false:=by rw[hx2];rfl
 have hx0:(false&&onTheHeap (Value.builtin "BaseException.__getattribute__"))=false:=rfl
 unfold getAttr? getAttrBy? getAttrBy
 refine A5 (wpAny_mkText (A5 (KN (EY (A5 (L0.at (A5 (L1.at ?_))))))))
 dsimp only
 rw[hx1]
 simp only[Mi,Hv]
 unfold getAttrByItsOwn hookBefore
 rw[Ah (show onTheHeap (Value.ref C)=true from rfl)]
 refine A5 (L2.at ?_)
 refine A5 (KN ?_)
 refine EY ?_
 unfold callGetattribute
 rw[hx0]
 simp only[Mi,Hv]
 unfold boundAndCalled
 rw[F.attr_ValueError.ga.bind]
 refine A5 (Al ?_)
 have sub:Looks (model prog w) hp (isInstance (.ref x) (.type "BaseException")) true:=L0.andThen (looks_mroIn X c.be)
 refine GE (PU F.attr_ValueError.ga.plain F.entry_bexc_ga (@check_slot (model prog w) _ _ ⟨hp,g,d,t+1,os⟩ "BaseException.__getattribute__" "BaseException" "__getattribute__" (.ref x) [.str "__class__" t] [] _ QN VD sub (F.args_bexc_ga (.ref x) (.str "__class__" t)) ?_))
 unfold Builtin.«object.__getattribute__»
 refine A5 (Al ?_)
 refine A5 (Al ?_)
 refine A5 (L0.at (A5 (L3.at ?_)))
 show wpAny _ _ (bindTo _ _ _ _) _ _ _
 show wpAny _ _ (holding [Value.builtin "object.__class__"] (call (.builtin "getset_descriptor.__get__") [.builtin "object.__class__",.ref x,.ref C])>>=ret) _ _ _
 refine A5 (EY (GE (class_get (s:=⟨hp,g,d,t+1,os⟩) (ox:=ox) (od:=od) X I c.ob ?_)))
 refine Al ?_
 refine handed_on rfl ?_
 exact Al h
end
end EX
namespace EX
open PySem PySem.Spec PyProof.Rows
theorem BN.one {h:Heap}{a:Addr}{C C':Addr}{d d':Option Addr}{t t':Value}(x:BN h a (.ref C) d t)(y:BN h a (.ref C') d' t'):C'=C/\d'=d:=by
 obtain⟨oe,vs,h0,h1,h2,_⟩:=x
 obtain⟨oe',vs',g0,g1,g2,_⟩:=y
 rw[h0]at g0
 cases g0
 exact⟨Mt (g1.symm.trans h1),g2.symm.trans h2⟩
theorem E1.then {fs ch:List Addr}{h h1 h2:Heap}{T:Addr}(a:E1 fs ch h h1)(hT:h.objs.size<=T)(b:E1 [] [T] h1 h2):E1 fs ch h h2:=fun x o e hc=>by
 obtain⟨p,sl,q⟩:=a x o e hc
 have nT:x∉[T]:=fun z=>absurd (AD e) (by rw[BW.mp z];exact Nat.not_lt.mpr hT)
 exact⟨fun hf=>(b x o (p hf) nT).1 (by simp),(b x _ q nT).2⟩
theorem BN.there {h:Heap}{a:Addr}{C:Value}{d:Option Addr}{t:Value}(x:BN h a C d t):∃u,h.get? a=some u:=let ⟨oe,_,e,_⟩:=x;⟨oe,e⟩
end EX
namespace L2
open PySem PySem.Spec PyProof.Rows EX
def GQ (h:Heap)(a:Addr)(C:Value)(d:Option Addr):Prop := ∃oe vs t0,h.get? a=some oe/\oe.cls=C/\oe.dict=d/\oe.data = .fields vs/\vs[0]?=some (.ref t0)/\vs[1]?=some .none
theorem GQ.at {h:Heap}{a:Addr}{C:Value}{d:Option Addr}(x:GQ h a C d):BN h a C d .none:=let ⟨oe,vs,_,h0,h1,h2,h3,_,h5⟩:=x;⟨oe,vs,h0,h1,h2,h3,h5⟩
def Fp (a C:Addr)(d:Option Addr):HO:=.ext fun h=>GQ h a (.ref C) d
def Cu (a C:Addr)(d:Option Addr):HO:=.ext fun h=>∃tb,BN h a (.ref C) d tb
section
variable {P:Program}{w:World}{H:Hp}{h:Heap}{a C:Addr}{d:Option Addr}
theorem X9 (x:GQ h a (.ref C) d):Bw P w H h a (Fp a C d):=by
 obtain⟨oe,vs,t0,h0,h1⟩:=x
 exact⟨⟨oe,vs,t0,h0,h1⟩,⟨oe,h0⟩,fun g1 g2 ⟨oe',vs',t0',z0,z⟩ k=>⟨oe',vs',t0',k _ z0,z⟩⟩
theorem GZ {tb:Value}(x:BN h a (.ref C) d tb):Bw P w H h a (Cu a C d):=by
 obtain⟨oe,vs,h0,h1⟩:=x
 exact⟨⟨tb,oe,vs,h0,h1⟩,⟨oe,h0⟩,fun g1 g2 ⟨tb',oe',vs',z0,z⟩ k=>⟨tb',oe',vs',k _ z0,z⟩⟩
theorem Jb (x:B4 P w H h)(e:H a=some (Fp a C d)):GQ h a (.ref C) d:=(show Bw P w H h a (Fp a C d) from x a _ e).1
theorem Ls (x:B4 P w H h)(e:H a=some (Cu a C d)):∃tb,BN h a (.ref C) d tb:=(show Bw P w H h a (Cu a C d) from x a _ e).1
end
theorem Js {H:Hp}{a:Addr}{o:HO}(h:H a=some o):upd H a o=H:=by
 funext b
 unfold upd
 split
 .rename_i e;rw[e,h]
 .rfl
def Ew (P:Program)(w:World):DP:=fun outer H s E e s'=>∃(a C:Addr) (d:Option Addr) (T:Addr) (H':Hp),e = .ref a/\s'.os=s.os/\AllBare s'.gens/\Un (Dq outer) [] H H' s.heap s'.heap/\B4 P w H' s'.heap/\H' a=some (Cu a C d)/\
 BN s'.heap a (.ref C) d (.ref T)/\FF s'.heap T .none/\T≠a/\H' T=none/\s.heap.objs.size<=T/\E (.ref a) none H'
section
variable {X:Cx}{pins:List (Addr×Obj)}{σ:St}{H:Hp}{s:Shared}{a C:Addr}{d:Option Addr}
def Lb (X:Cx)(pins:List (Addr×Obj))(H:Hp)(T:Addr):Prop:=H T=none/\X.s₀.heap.objs.size<=T/\T≠X.env.locals/\(∀x c,X.env.cells.lookup x=some c->c≠T)/\∀p∈X.pn++pins,p.1≠T
theorem A2.tok_new (I:A2 X pins σ H s){T:Addr}(hT:s.heap.objs.size<=T):Lb X pins H T:=
 ⟨I.hok.fresh hT,Bl I.sz hT,D8 (BE I.lt hT),fun x c e z=>by
  obtain⟨v,o,ho,_⟩:=I.cell x c e
  exact absurd (AD ho) (by rw[z];exact Nat.not_lt.mpr hT),fun p hp z=>by
  have:=(I.pin p hp).1
  exact absurd (AD this) (by rw[z];exact Nat.not_lt.mpr hT)⟩
theorem A2.fly {ch:List Addr}{h':Heap}{o:HO}{φ:Heap->Prop}(I:A2 X pins σ H s)(hb:E1 (Dq X.stack) (a::ch) s.heap h')(ha:H a=some (.ext φ))(new:Bw X.prog X.w (upd H a o) h' a o)(ho:∃u,h'.get? a=some u)
  (hch:∀b∈ch,Lb X pins H b):A2 X pins σ (upd H a o) {s with heap:=h'}:=by
 have nea:∀b,H b=none->b≠a:=fun b n z=>by rw[z,ha]at n;cases n
 have nof:∀b u,H b=some u->(∀ψ,u≠.ext ψ)->b≠a:=fun b u e n z=>by rw[z,ha]at e;cases e;exact n φ rfl
 refine I.call' (s':={s with heap:=h'}) (ch:=ch) rfl ⟨fun b ob q n hf hc=>?_,fun b ob q n hf hc=>?_,fun b ob q n hc=>?_,fun b ob q hc=>?_,fun b xs q=>?_,fun b ob u q=>?_,fun b ps q=>⟨#[],?_⟩⟩ (fun b u e=>?_) I.bare fun b hm=>?_
 .exact(hb b ob q fun z=>(AE.mp z).elim (nea b n) hc).1 hf
 .exact(hb b ob q fun z=>(AE.mp z).elim (nea b n) hc).2
 .rw[Ag (nea b n)];exact n
 .by_cases z:b=a
  .rw[z];exact ho
  .obtain⟨_,sl,q'⟩:=hb b ob q fun y=>(AE.mp y).elim z hc
   exact⟨_,q'⟩
 .rw[Ag (nof b _ q fun ψ y=>by cases y)];exact q
 .rw[Ag (nof b _ q fun ψ y=>by cases y)];exact q
 .rw[Ag (nof b _ q fun ψ y=>by cases y),q];simp
 .by_cases z:b=a
  .subst z;rw[A6]at e;cases e;exact new
  .rw[Ag z]at e
   have kp:∀c v,H c≠none->c≠a->s.heap.get? c=some v->h'.get? c=some v:=fun c v n1 n2 q=>
    (hb c v q fun y=>(AE.mp y).elim n2 fun m=>n1 (hch c m).1).1 fun m=>n1 (I.stkFree c m)
   refine(I.hok b u e).stay (fun c v hc q=>?_) (fun c q=>?_) fun c xs q=>?_
   .rcases hc with rfl|hc
    .exact kp c v (by rw[e];simp) z q
    .exact kp c v (by rw[hc];simp) (nof c _ hc fun ψ y=>by cases y) q
   .rw[Ag (nof c _ q fun ψ y=>by cases y)];exact q
   .rw[Ag (nof c _ q fun ψ y=>by cases y)];exact q
 .obtain⟨_,h2,h3,h4,h5⟩:=hch b hm
  exact⟨.inr h2,h3,h4,h5⟩
end
section
variable {X:Cx}
def LR (X:Cx)(Ek:St->XK):Prop := ∀(pins:List (Addr×Obj)) (σ:St) (H:Hp) (s:Shared) (a C:Addr) (d:Option Addr),A2 X pins σ H s->H a=some (Fp a C d)->Ek σ (.ref a) none (upd H a (Cu a C d))->X.xe (.ref a) s
def LK (X:Cx)(Ek:St->XK):Prop := ∀(pins:List (Addr×Obj)) (σ:St) (H:Hp) (s:Shared) (e:Value) (s':Shared),A2 X pins σ H s->Ew X.prog X.w X.stack H s (Ek σ) e s'->X.xe e s'
variable {P:Program}{w:World}{K:XJ}{mg:Str->Option Value}{base:Heap}{N:List Str}{qual:Str}{scope:Scope}{f:Addr}{cd:Value}{A:Around}{outer:List Env}{s₀:Shared}{H₀:Hp}{E:XK}
theorem RP:LR (DL (Ew P w) P w K mg base N qual scope f cd A outer s₀ H₀ E) (fun _=>E):=by
 intro pins σ H s a C d I ha hE
 have x:=Jb I.hok ha
 show wpAny _ _ (leaving _ (.ref a)) _ _ s
 unfold leaving
 refine A5 (MZ (base:=base) (L:=s₀.heap.objs.size) I.ok.frames I.stack rfl x.at fun h1 T hT b1 x1 t1 ne=>?_)
 refine GI (s:={s with heap:=h1}) x1 t1 ne fun h2 b2 x2 t2=>?_
 have J:=I.fly (o:=Cu a C d) (ch:=[]) (h':=h2) (b1.then hT b2) ha (GZ x2) x2.there (fun b z=>absurd z (by simp))
 exact⟨a,C,d,T,_,rfl,J.os,J.bare,J.base,J.hok,A6,x2,t2,ne,by rw[Ag ne];exact I.hok.fresh hT,Bl I.sz hT,hE⟩
theorem HJ:LK (DL (Ew P w) P w K mg base N qual scope f cd A outer s₀ H₀ E) (fun _=>E):=by
 intro pins σ H s e s' I hc
 obtain⟨a,C,d,T0,H',rfl,os,bare,un,hok,ha,x0,t0,ne0,hT0,sT0,hE⟩:=hc
 have J:=I.call' (ch:=[]) os un hok bare (fun b z=>absurd z (by simp))
 have tk:=I.tok_new sT0
 show wpAny _ _ (leaving _ (.ref a)) _ _ s'
 unfold leaving
 refine A5 (OB (base:=base) (L:=s₀.heap.objs.size) J.ok.frames J.stack rfl x0 t0 ne0 fun h1 T hT b1 x1 t1 ne=>?_)
 refine GI (s:={s' with heap:=h1}) x1 t1 ne fun h2 b2 x2 t2=>?_
 have J2:=J.fly (o:=Cu a C d) (ch:=[T0]) (h':=h2) (b1.then hT b2) ha (GZ x2) x2.there (fun b z=>by rw[BW.mp z];exact⟨hT0,tk.2⟩)
 rw[Js ha]at J2
 exact⟨a,C,d,T,_,rfl,J2.os,J2.bare,J2.base,J2.hok,ha,x2,t2,ne,J.hok.fresh hT,Bl J.sz hT,hE⟩
end
section
variable {P:Program}{w:World}{K:XJ}{mg:Str->Option Value}{base:Heap}
theorem AB.okX {x qual:Str}{st:Stmt}{f:Addr}{fd:FuncData}{N ps:List Str}{k:Nat}{sp:Sp}(F:AB K x qual st f fd)(S:AK N ps (Au st))(len:∀vs H Q E,sp vs H Q E->vs.length=ps.length)
  (hbody:∀(cdv:Value) (A:Around) (outer:List Env) (s:Shared) (H:Hp) (vs:List V) (Q:VK) (E:XK),Bj k (A.deeper (envOfC qual (Au st) s.heap.objs.size f cdv))->sp vs H Q E->
   ∃t,CN (DL (Ew P w) P w K mg base N qual (Au st) f cdv A outer s H E) (Fq st) t/\t {nx:=fun _ H'=>Q .non H',rt:=Q} (DM N vs) H):AA P w K mg base (Ew P w) (k+1) f fd ps sp:=by
 obtain⟨oc,od,kV,doc,pm,an,cdv,ct,osl,rfl,lk,hcd⟩:=F.ex
 exact MS lk hcd S len fun A outer s H vs Q E hr hsp=>hbody cdv A outer s H vs Q E hr hsp
end
section
variable {X:Cx}{Ek:St->XK}{e:Expr}{te:TE}{pos:Pos}
def TX (K:XJ)(Ek:St->XK)(te:TE):TS:=fun _ σ H=>te σ H fun v H1=>∃a C d,v = .ref a/\H1 a=some (Fp a C d)/\XC K C/\Ek σ (.ref a) none (upd H1 a (Cu a C d))
theorem RK (hc:X.calm=true)(hr:LR X Ek)(he:PE X e te):PS X (.Raise (some e) none pos) (TX X.K Ek te):=by
 intro pins s σ H D I h
 refine Xy (I.ok.hd hc) (As (he pins s σ H _ I h) fun u s1 q=>?_)
 obtain⟨v,H1,I1,r,a,C,d,rfl,ha,xc,q⟩:=q
 obtain rfl:u = .ref a:=r
 obtain⟨N,bm,ct⟩:=xc.ct
 have c1:=ct _ I1.kIn
 obtain⟨_,_,_,_,_,_,_,_,_,_,_,_,_,_,_,T⟩:=id c1
 exact⟨a,d,C,bm,rfl,c1.at,T.hasType (by decide),(Jb I1.hok ha).at,hr pins σ H1 s1 a C d I1 ha q⟩
end
end L2
namespace EX
open PySem PySem.Spec PyProof.Rows
theorem ClsT.base {h:Heap}{C N:Addr}{bm:List Value}(x:ClsT h C N bm):bm.contains (.type "BaseException")=true:=by
 obtain⟨_,_,_,_,_,_,_,_,_,_,_,_,_,_,_,T⟩:=x
 exact T.hasType (by decide)
end EX
namespace L2
open PySem PySem.Spec PyProof.Rows EX
abbrev Cx.tried (X:Cx)(pn:List (Addr×Obj))(xe:Value->Shared->Prop):Cx:={X with pn:=pn,xe:=xe}
abbrev Cx.held (X:Cx)(a:Addr):Cx:={X with A:=X.A.mark (some (.ref a)),calm:=false,xe:=fun _ _=>False}
section
variable {X:Cx}{pins pins':List (Addr×Obj)}{σ:St}{H:Hp}{s:Shared}{a:Addr}{xe:Value->Shared->Prop}{pn:List (Addr×Obj)}
theorem Cx.Ok.tried (ok:X.Ok):(X.tried pn xe).Ok:=⟨ok.mod,ok.kind,ok.glob,ok.blt,ok.above,ok.inj,ok.has,ok.cab,ok.hd,ok.frames,ok.stk,ok.exf,ok.bs,ok.bsz,ok.noex,ok.exfs,ok.funs,ok.frf⟩
theorem Cx.Ok.untried (ok:(X.tried pn xe).Ok):X.Ok:=⟨ok.mod,ok.kind,ok.glob,ok.blt,ok.above,ok.inj,ok.has,ok.cab,ok.hd,ok.frames,ok.stk,ok.exf,ok.bs,ok.bsz,ok.noex,ok.exfs,ok.funs,ok.frf⟩
theorem Cx.Ok.held (ok:X.Ok):(X.held a).Ok:=⟨ok.mod,ok.kind,ok.glob,ok.blt,ok.above,ok.inj,ok.has,ok.cab,(fun z=>nomatch z),ok.frames,ok.stk,ok.exf,ok.bs,ok.bsz,ok.noex,ok.exfs,ok.funs,ok.frf⟩
theorem A2.tried (I:A2 X pins σ H s):A2 (X.tried (X.pn++pins) xe) [] σ H s:=⟨I.ok.tried,I.os,I.bare,I.base,I.loc,I.cell,I.free,I.freeC,fun p hp=>I.pin p (by simpa using hp),I.hok,I.len⟩
theorem A2.untried (I:A2 (X.tried (X.pn++pins) xe) pins' σ H s):A2 X pins σ H s:=⟨I.ok.untried,I.os,I.bare,I.base,I.loc,I.cell,I.free,I.freeC,fun p hp=>I.pin p (Ck _ hp),I.hok,I.len⟩
theorem A2.held (I:A2 X pins σ H s):A2 (X.held a) pins σ H s:=⟨I.ok.held,I.os,I.bare,I.base,I.loc,I.cell,I.free,I.freeC,I.pin,I.hok,I.len⟩
theorem A2.unheld (ok:X.Ok)(I:A2 (X.held a) pins σ H s):A2 X pins σ H s:=⟨ok,I.os,I.bare,I.base,I.loc,I.cell,I.free,I.freeC,I.pin,I.hok,I.len⟩
theorem SP.untried {D:CI}{f:Flow}{s':Shared}(h:SP (X.tried (X.pn++pins) xe) pins' D f s'):SP X pins D f s':=by
 cases f with
 |next=>obtain⟨σ',H',I,q⟩:=h;exact⟨σ',H',I.untried,q⟩
 |brk=>obtain⟨σ',H',I,q⟩:=h;exact⟨σ',H',I.untried,q⟩
 |cont=>obtain⟨σ',H',I,q⟩:=h;exact⟨σ',H',I.untried,q⟩
 |ret u=>obtain⟨v,σ',H',I,r,q⟩:=h;exact⟨v,σ',H',I.untried,r,q⟩
theorem SP.unheld (ok:X.Ok){D:CI}{f:Flow}{s':Shared}(h:SP (X.held a) pins D f s'):SP X pins D f s':=by
 cases f with
 |next=>obtain⟨σ',H',I,q⟩:=h;exact⟨σ',H',I.unheld ok,q⟩
 |brk=>obtain⟨σ',H',I,q⟩:=h;exact⟨σ',H',I.unheld ok,q⟩
 |cont=>obtain⟨σ',H',I,q⟩:=h;exact⟨σ',H',I.unheld ok,q⟩
 |ret u=>obtain⟨v,σ',H',I,r,q⟩:=h;exact⟨v,σ',H',I.unheld ok,r,q⟩
end
def PH (X:Cx)(hs:List ExceptHandler)(th:Addr->Addr->Option Addr->TS):Prop:=
 ∀(pins:List (Addr×Obj)) (s:Shared) (σ:St) (H:Hp) (D:CI) (a C:Addr) (d:Option Addr) (T:Addr),A2 X pins σ H s->H a=some (Cu a C d)->BN s.heap a (.ref C) d (.ref T)->FF s.heap T .none->T≠a->Lb X pins H T->
  th a C d D σ H->wpAny (model X.prog X.w) X.A (handleBy (.ref a) X.env hs) (SP X pins D) X.xe s
def Q0 (K:XJ)(Dc:Addr)(ts:Addr->TS)(th:Addr->Addr->Option Addr->TS):Addr->Addr->Option Addr->TS:=fun a C d D σ H=>
 ∃N bm b,(∀h,K.In h->ClsT h C N bm)/\(Value.ref C::bm).contains (.ref Dc)=b/\if b=true then ts a D σ H else th a C d D σ H
section
variable {X:Cx}{x n:Str}{np pos:Pos}{Dc:Addr}{b₀:Stmt}{suite:List Stmt}{rest:List ExceptHandler}{ts:Addr->TS}{th:Addr->Addr->Option Addr->TS}
theorem U9 (hg:Gl X x)(hm:X.mg x=some (.ref Dc))(xd:XC X.K Dc)(hs:∀a,CN (X.held a) (b₀::suite) (ts a))(hr:PH X rest th)(hdb:(x==("__debug__":Str))=false:=by decide) :
  PH X (.ExceptHandler (some (.Name x np)) none (b₀::suite) pos::rest) (Q0 X.K Dc ts th):=by
 intro pins s σ H D a C d T I ha hx ht hne hT h
 obtain⟨N,bm,b,ct,hb,h⟩:=h
 obtain⟨N',bd,cd⟩:=xd.ct
 have I':A2 (X.held a) pins σ H s:=I.held
 refine wpAny_handleBy_cons (codeAny_handlers_test (FD I' hg hm ?_ hdb)) (by intro q;cases q)
 obtain⟨hp,g,dr,t,os⟩:=s
 refine N1 (ct hp I.kIn).at (cd hp I.kIn).at (cd hp I.kIn).base hx ?_
 rw[hb]
 cases b with
 |
  false=>
  rw[Ae (by simp)]at h
  exact hr pins _ σ H D a C d T I ha hx ht hne hT h
 |
  true=>
  rw[Ah rfl]at h
  refine codeAny_handlers_suite (GI hx ht hne fun h2 b2 x2 t2=>?_)
  have J:=I.fly (o:=Cu a C d) (ch:=[T]) (h':=h2) (b2.mono (fun b z=>by cases z) fun b z=>B1 _ z) ha (GZ x2) x2.there (fun b z=>by rw[BW.mp z];exact hT)
  rw[Js ha]at J
  exact CM (hs a pins _ σ H D J.held h) (fun f s2 q=>q.unheld I.ok) fun _ _ z=>z.elim
end
def Te (tb:(St->XK)->TS)(th:Addr->Addr->Option Addr->TS):TS:=fun D σ H=>tb (fun σ' v _ H'=>∃a C d,v = .ref a/\H' a=some (Cu a C d)/\th a C d D σ' H') D σ H
theorem Nf {X:Cx}{body:List Stmt}{h₀:ExceptHandler}{hs:List ExceptHandler}{pos:Pos}{tb:(St->XK)->TS}{th:Addr->Addr->Option Addr->TS}
  (hb:∀pn xe Ek,LK (X.tried pn xe) Ek->LR (X.tried pn xe) Ek->CN (X.tried pn xe) body (tb Ek)) (hh:PH X (h₀::hs) th) (hst:X.stack=X.env::X.outer:=by rfl) (hfr:X.env.frame=some X.env.locals:=by rfl) :
  PS X (.Try body (h₀::hs) [] [] pos) (Te tb th):=by
 intro pins s σ H D I h
 rw[arm_exec_Try]
 refine A5 (KL (wpAny_tryStmt_except ?_))
 refine CM (hb (X.pn++pins) (fun e s₁=>wpAny (model X.prog X.w) X.A (noteFrame e X.env) (fun _ s₂=>wpAny (model X.prog X.w) X.A (setFlight e none) (fun _ s₃=>wpAny (model X.prog X.w) X.A (handleBy e X.env (h₀::hs)) (SP X pins D) X.xe s₃) X.xe s₂) X.xe s₁)
  (fun σ' v _ H'=>∃a C d,v = .ref a/\H' a=some (Cu a C d)/\th a C d D σ' H') ?_ ?_ [] s σ H D I.tried h) (fun f s1 q=>?_) (fun _ _ z=>z)
 .intro pins' σ' H1 s1 e s' I1 hc
  obtain⟨a,C,d,T0,H',rfl,os,bare,un,hok,ha,x0,t0,ne0,hT0,sT0,a',C',d',ea,ha',hth⟩:=hc
  obtain rfl:a=a':=Mt ea
  have J1:A2 X pins σ' H1 s1:=I1.untried
  have J:=J1.call' (ch:=[]) os un hok bare (fun b z=>absurd z (by simp))
  obtain⟨tb',y⟩:=Ls J.hok ha'
  obtain⟨rfl,rfl⟩:=BN.one x0 y
  have tk:=J1.tok_new sT0
  refine OB (base:=X.base) (L:=X.env.locals) (env:=X.env) (outer:=X.outer) (by rw[←hst];exact J.ok.frames) (by rw[←hst];exact J.stack) hfr x0 t0 ne0 fun h1 T hT b1 x1 t1 ne=>?_
  refine GI (s:={s' with heap:=h1}) x1 t1 ne fun h2 b2 x2 t2=>?_
  rw[←hst]at b1
  have J2:=J.fly (o:=Cu a C' d') (ch:=[T0]) (h':=h2) (b1.then hT b2) ha (GZ x2) x2.there (fun b z=>by rw[BW.mp z];exact⟨hT0,tk.2⟩)
  rw[Js ha]at J2
  exact hh pins _ σ' H' D a C' d' T J2 ha x2 t2 ne (J.tok_new hT) hth
 .intro pins' σ' H1 s1 a C d I1 ha hE
  obtain⟨a',C',d',ea,ha',hth⟩:=hE
  obtain rfl:a=a':=Mt ea
  have J:A2 X pins σ' H1 s1:=I1.untried
  have x:=Jb J.hok ha
  refine MZ (base:=X.base) (L:=X.env.locals) (env:=X.env) (outer:=X.outer) (by rw[←hst];exact J.ok.frames) (by rw[←hst];exact J.stack) hfr x.at fun h1 T hT b1 x1 t1 ne=>?_
  refine GI (s:={s1 with heap:=h1}) x1 t1 ne fun h2 b2 x2 t2=>?_
  rw[←hst]at b1
  have J2:=J.fly (o:=Cu a C d) (ch:=[]) (h':=h2) (b1.then hT b2) ha (GZ x2) x2.there (fun b z=>absurd z (by simp))
  obtain⟨tb',y⟩:=Ls J2.hok ha'
  obtain⟨rfl,rfl⟩:=BN.one x2 y
  have tk:=J.tok_new hT
  exact hh pins _ σ' _ D a C' d' T J2 ha' x2 t2 ne ⟨by rw[Ag ne];exact tk.1,tk.2⟩ hth
 .have q:=q.untried
  cases f with
  |next=>exact KH q
  |_=>exact q
section
variable {X:Cx}{k:Nat}{f C:Addr}{fd:FuncData}{ps:List Str}{sp:Sp}{dvs:List V}{ds:List Value}{Ek:St->XK}{x:Str}{p pos:Pos}{e:Expr}{es:List Expr}{t:TA}
def Tc (sp:Sp)(dvs:List V)(Ek:St->XK)(t:TA):TE:=fun σ H Q=>t σ H fun vs H1=>sp (vs++dvs) H1 Q (Ek σ)
theorem Gm (F:AA X.prog X.w X.K X.mg X.base (Ew X.prog X.w) k f fd ps sp)(hr:Bj k X.A)(hg:Gl X x)(hm:X.mg x=some (.ref f))(hk:PySem.W.keepIn X.K (.ref f)=true)(hb:AG X.K fd ps ds)(hd:Aw dvs ds)(hx:LK X Ek)
  (ha:PA X (e::es) t) (hdb:(x==("__debug__":Str))=false:=by decide) (he:starEach (e::es) X.env=(false,eval e X.env)::starEach es X.env:=by rfl) (hpl:(backTo pos (starEach es X.env)).any (·.1)=false:=by rfl) :
  PE X (.Call (.Name x p) (e::es) [] pos) (Tc sp dvs Ek t):=by
 intro pins s σ H Q I h
 refine Fm (FD I hg hm ?_ hdb)
 refine M8 (h₀:=X.base) I.ok.mod.kin hk (As (ha pos pins s σ H _ I h) fun us s1 ⟨vs,H1,I1,r,q⟩=>⟨I1.kIn,?_⟩) he hpl
 have r2:Aw (vs++dvs) (us++ds):=r.append hd
 have hl:(us++ds).length=ps.length:=by rw[←r2.length];exact F.len _ _ _ _ q
 refine GE (J7 (F.run X.A X.stack s1 H1 ⟨us,[]⟩ (us++ds) (vs++dvs) Q (Ek σ) hr I1.env0 (hb s1 us I1.kIn hl) r2 q) fun r s' hq=>?_)
 cases r with
 |error e=>exact hx pins σ H1 s1 e s' I1 hq
 |
  ok fl=>
  cases fl with
  |ret u=>exact I1.after hq
  |next=>exact False.elim hq
  |brk=>exact False.elim hq
  |cont=>exact False.elim hq
end
end L2
namespace EX
open PySem PySem.Spec PySem.Calls PyProof.Rows PySem.W
section
variable {prog:Program}{w:World}{A:Around}{h:Heap}{g:Array GenState}{d:Drawn}{t:Nat}{os:OsState}{R:Result->Shared->Prop}{C N:Addr}{bm:List Value}
theorem QV {E:Value->Shared->Prop}{Q:PySem.Fin->Shared->Prop}(ct:ClsT h C N bm)(hL:Looks (model prog w) h (typeLookup (.ref C) "__init__") (some (.builtin "ValueError.__init__")))
  (hq:∀h',(∀b o,h.get? b=some o->h'.get? b=some o)->h'.get? (h.objs.size+1)=some (ID C (h.objs.size+2))->Q (.done (.ret (.ref (h.objs.size+1)))) ⟨h',g,d,t,os⟩) :
  wpAny (model prog w) A (Builtin.«type.__call__» ⟨[.ref C],[]⟩) Q E ⟨h,g,d,t,os⟩:=by
 obtain⟨nm,q,bs,hdct,sn,sub,ab,col,dd,k0,k1,k2,k3,k5,hC,T⟩:=ct
 repeat (first|with_reducible refine Hz hC ?_|with_reducible refine wpAny_madeBy_exc hC ?_|wp_step)
 refine codeAny_call_builtin_code (Code.quiet_builtin _ F.excBase_ValueError.quiet) (wpAny_check_new_subT F.excBase_ValueError T hC ?_)
 refine codeAny_exc_new_subT F.excBase_ValueError T hC ?_ (BF _)
 show wpAny _ _ _ _ _ _
 have k:∀b o,h.get? b=some o->((h.push (Oh [])).push (ID C h.objs.size)).get? b=some o:=fun b o e=>AI _ (AI _ e)
 have hC₁:=k _ _ hC
 have T₁:=T.keeps k
 have hget:((h.push (Oh [])).push (ID C h.objs.size)).get? (h.objs.size+1)=some (ID C h.objs.size):=by heap_get
 have hcC:(Value.ref C::bm).contains (.ref C)=true:=by simp
 unfold isInstance
 repeat (first|with_reducible refine Hz hget ?_|(with_reducible refine Mw hC₁ ?_;rw[hcC])|wp_step)
 show wpAny _ _ (typeLookup (.ref C) _) _ _ _
 refine(hL.keeps k).at ?_
 refine EY (A5 (wpAny_of_eq (F.excBase_ValueError.init.bind _) ?_))
 refine A5 (GE (PU F.excBase_ValueError.init.plain F.excBase_ValueError.initEntry (wpAny_check_init_subT F.excBase_ValueError T₁ hC₁ hget rfl ?_)))
 wp_walk
 refine hq _ (fun b o hb=>?_) ?_
 .rw[Fk _ _ (D8 (Nat.lt_succ_of_lt (AD hb)))]
  exact AI _ (AI _ (AI _ hb))
 .rw[Kz _ (AI _ hget) rfl]
  simp only[Ho]
  rfl
theorem Qo (ct:ClsT h C N bm)(hL:Looks (model prog w) h (typeLookup (.ref C) "__init__") (some (.builtin "ValueError.__init__")))
  (hq:∀h',(∀b o,h.get? b=some o->h'.get? b=some o)->h'.get? (h.objs.size+1)=some (ID C (h.objs.size+2))->R (.ok (.ret (.ref (h.objs.size+1)))) ⟨h',g,d,t,os⟩) :
  codeAny (model prog w) A (.call (.ref C) ⟨[],[]⟩) R ⟨h,g,d,t,os⟩:=by
 have f1:=tc_lookup
 have f2:=tc_bind (.ref C)
 obtain⟨nm,q,bs,hdct,sn,sub,ab,col,dd,k0,k1,k2,k3,k5,hC,T⟩:=id ct
 have hT:(⟨h,g,d,t,os⟩:Shared).TypeIs (.ref C) "type":=⟨_,hC,rfl⟩
 refine codeAny_of_tree ?_
 show wpAny _ _ (callAny (.ref C) _) _ _ _
 repeat (any_goals (first|assumption|with_reducible refine Hz hC ?_|wp_step))
 refine⟨rfl,?_⟩
 exact codeAny_call_builtin_at (Code.quiet_builtin _ (by decide +kernel)) entry_typeCall (wpAny_check_type_call_sub hC (QV ct hL hq))
end
end EX
namespace L2
open PySem PySem.Spec PyProof.Rows
section
open EX
section
variable {X:Cx}{pins:List (Addr×Obj)}{σ:St}{H:Hp}{s:Shared}{M:Model}{A:Around}{E:Value->Shared->Prop}
theorem W6 {i:Nat}{n:Str}{v:V}{Q:Unit->Shared->Prop}(I:A2 X pins σ H s)(hN:X.N.Nodup)(hi:X.N[i]?=some n)(hl:X.env.scope.names.lookup n=some .local)(hv:σ[i]?=some (some v))
  (h:∀s',A2 X pins (σ.set i none) H s'->Q () s'):wpAny M A (unbindName X.env n) Q E s:=by
 obtain⟨m,hn,hloc⟩:=id I.loc
 have hcls:(X.env.scope.kind == .class||(X.env.scope.kind == .module&&X.env.locals != X.env.globals))=false:=by rw[I.ok.kind];rfl
 have cne:=I.cne
 obtain⟨u,r,q⟩:=hloc i n v hi hv (.inl hl)
 have hk:X.env.kindOf n=some .local:=hl
 rcases q with⟨_,hm⟩|⟨hk2|hk2,_⟩
 rotate_left
 .rw[hk]at hk2;cases hk2
 .rw[hk]at hk2;cases hk2
 obtain⟨oL,_,_,hoL,_⟩:=id hn
 refine wpAny_unbindName_local hk hn hm hcls fun h' u' hn' hs=>h _ ⟨I.ok,I.os,I.bare,⟨fun b o e n hb hx=>?_,fun b o e n hb hx=>?_,I.base.free,fun b o e hx=>?_,I.base.tups,I.base.frzs,I.base.tbls⟩,⟨_,hn',fun j y v' e1 e2 e3=>?_⟩,fun y c e=>?_,I.free,I.freeC,fun p hp=>?_,fun b ob e=>?_,by simpa using I.len⟩
 .exact(hs.2 b (Br (BE (AD e) I.ok.above))).trans (I.base.keep b o e n hb hx)
 .obtain⟨sl,e1⟩:=I.base.slot b o e n hb hx
  exact⟨sl,(hs.2 b (Br (BE (AD e) I.ok.above))).trans e1⟩
 .obtain⟨o',e1⟩:=I.base.there b o e hx
  exact⟨o',(hs.2 b (Br (BE (AD e) I.ok.above))).trans e1⟩
 .have hiσ:i<σ.length:=by rw[I.len];exact(BR.mp hi).1
  by_cases hj:j=i
  .subst hj
   rw[M6 hiσ]at e2
   cases e2
  .rw[Pi (Ne.symm hj)]at e2
   obtain⟨u',r',q⟩:=hloc j y v' e1 e2 e3
   refine⟨u',r',?_⟩
   rcases q with⟨k,e⟩|⟨k,c,e,z⟩
   .refine .inl ⟨k,?_⟩
    have:y≠n:=fun e=>hj (Lx hN e1 (e▸hi))
    simp[this,e]
   .exact .inr ⟨k,c,e,z.sameBut hs (cne y c e)⟩
 .obtain⟨w',z⟩:=I.cell y c e
  exact⟨w',z.sameBut hs (cne y c e)⟩
 .obtain⟨e,n,ne,nf,d⟩:=I.pin p hp
  exact⟨(hs.2 p.1 ne).trans e,n,ne,nf,d⟩
 .refine(I.hok b ob e).stay (fun c w' hc q=>(hs.2 c ?_).trans q) (fun _ q=>q) fun _ _ q=>q
  rintro rfl
  rcases hc with rfl|hc
  .rw[I.free]at e;cases e
  .rw[I.free]at hc;cases hc
end
def NG (i:Nat)(D:CI):CI:={nx:=fun σ H=>D.nx (σ.set i none) H,rt:=D.rt,bk:=fun σ H=>D.bk (σ.set i none) H,ct:=fun σ H=>D.ct (σ.set i none) H}
def Vg (K:XJ)(i:Nat)(Dc:Addr)(ts:Addr->TS)(th:Addr->Addr->Option Addr->TS):Addr->Addr->Option Addr->TS:=fun a C d D σ H=>
 ∃N bm b,(∀h,K.In h->ClsT h C N bm)/\(Value.ref C::bm).contains (.ref Dc)=b/\if b=true then ts a (NG i D) (σ.set i (some (.ref a))) H else th a C d D σ H
section
variable {X:Cx}{x n:Str}{np pos:Pos}{Dc:Addr}{b₀:Stmt}{suite:List Stmt}{rest:List ExceptHandler}{ts:Addr->TS}{th:Addr->Addr->Option Addr->TS}{i:Nat}
theorem X8 {pins:List (Addr×Obj)}{D:CI}{f:Flow}{s:Shared}{a:Addr}(ok:X.Ok)(hN:X.N.Nodup)(hi:X.N[i]?=some n)(hl:X.env.scope.names.lookup n=some .local)(q:SP (X.held a) pins (NG i D) f s) :
  wpAny (model X.prog X.w) X.A (do bindName X.env n .none;unbindBehindTheSuite X.env n pos) (fun _ s₅=>SP X pins D f s₅) X.xe s:=by
 have go:∀{σ:St} {H:Hp} {Q:Unit->Shared->Prop},A2 (X.held a) pins σ H s->(∀s',A2 X pins (σ.set i none) H s'->Q () s')->wpAny (model X.prog X.w) X.A (do bindName X.env n .none;unbindBehindTheSuite X.env n pos) Q X.xe s:=by
  intro σ H Q I hq
  have I:=I.unheld ok
  have hiσ:i<σ.length:=by rw[I.len];exact(BR.mp hi).1
  refine A5 (wpAny_bindName (Ik (v:=.non) I hN hi (.inl hl) rfl (fun s5 I5=>?_) (.inr hl)))
  unfold unbindBehindTheSuite
  refine wpAny_onRaise (W6 (v:=.non) I5 hN hi hl (M6 hiσ) fun s6 I6=>hq s6 ?_)
  rw[List.set_set]at I6
  exact I6
 cases f with
 |next=>obtain⟨σ',H',I,q⟩:=q;exact go I fun s' I'=>⟨_,_,I',q⟩
 |brk=>obtain⟨σ',H',I,q⟩:=q;exact go I fun s' I'=>⟨_,_,I',q⟩
 |cont=>obtain⟨σ',H',I,q⟩:=q;exact go I fun s' I'=>⟨_,_,I',q⟩
 |ret u=>obtain⟨v,σ',H',I,r,q⟩:=q;exact go I fun s' I'=>⟨v,_,_,I',r,q⟩
theorem UR (hN:X.N.Nodup)(hi:X.N[i]?=some n)(hl:X.env.scope.names.lookup n=some .local)(hg:Gl X x)(hm:X.mg x=some (.ref Dc))(xd:XC X.K Dc)(hs:∀a,CN (X.held a) (b₀::suite) (ts a))(hr:PH X rest th)(hdb:(x==("__debug__":Str))=false:=by decide) :
  PH X (.ExceptHandler (some (.Name x np)) (some n) (b₀::suite) pos::rest) (Vg X.K i Dc ts th):=by
 intro pins s σ H D a C d T I ha hx ht hne hT h
 obtain⟨N,bm,b,ct,hb,h⟩:=h
 obtain⟨N',bd,cd⟩:=xd.ct
 have I':A2 (X.held a) pins σ H s:=I.held
 refine wpAny_handleBy_cons (codeAny_handlers_test (FD I' hg hm ?_ hdb)) (by intro q;cases q)
 obtain⟨hp,g,dr,t,os⟩:=s
 refine N1 (ct hp I.kIn).at (cd hp I.kIn).at (cd hp I.kIn).base hx ?_
 rw[hb]
 cases b with
 |
  false=>
  rw[Ae (by simp)]at h
  exact hr pins _ σ H D a C d T I ha hx ht hne hT h
 |
  true=>
  rw[Ah rfl]at h
  refine codeAny_handlers_suite_as (GI hx ht hne fun h2 b2 x2 t2=>?_)
  have J:=I.fly (o:=Cu a C d) (ch:=[T]) (h':=h2) (b2.mono (fun b z=>by cases z) fun b z=>B1 _ z) ha (GZ x2) x2.there (fun b z=>by rw[BW.mp z];exact hT)
  rw[Js ha]at J
  refine Ik (X:=X.held a) (v:=.ref a) J.held hN hi (.inl hl) rfl (fun s3 I3=>?_) (.inr hl)
  exact CM (hs a pins _ _ H _ I3 h) (fun f s4 q=>X8 I.ok hN hi hl q) fun _ _ z=>z.elim
end
section
variable {X:Cx}{k:Nat}{f C:Addr}{fd:FuncData}{ps:List Str}{sp:Sp}{CX:DP}{E:XK}{x:Str}{p pos:Pos}{e:Expr}{es:List Expr}{t:TA}
structure OF (K:XJ)(C f:Addr):Prop where
 xc:XC K C
 init:PySem.W.findIn K (.ref C) "__init__"=some (some (.ref f))
 fn:PySem.W.isFn K (.ref f)=true
 kp:PySem.W.keepIn K (.ref C)=true
structure Gx (K:XJ)(C:Addr):Prop where
 xc:XC K C
 init:PySem.W.findIn K (.ref C) "__init__"=some (some (.builtin "ValueError.__init__"))
 kp:PySem.W.keepIn K (.ref C)=true
def Rt (C:Addr):TE:=fun _ H Q=>∀a,H a=none->Q (.ref a) (upd H a (Fp a C none))
theorem Vb (M:Gx X.K C)(hg:Gl X x)(hm:X.mg x=some (.ref C))(hdb:(x==("__debug__":Str))=false:=by decide):PE X (.Call (.Name x p) [] [] pos) (Rt C):=by
 intro pins s σ H Q I h
 refine Fm (FD I hg hm ?_ hdb)
 refine PySem.W.callWith_K0 I.kIn M.kp ?_
 obtain⟨hp,g,d,tk,os⟩:=s
 obtain⟨N,bm,ct⟩:=M.xc.ct
 refine GE (Qo (ct hp I.kIn) (PySem.W.looks_findIn I.kIn M.init) fun h' kk hx=>?_)
 have nx:GQ h' (hp.objs.size+1) (.ref C) none:=⟨_,_,_,hx,rfl,rfl,rfl,rfl,rfl⟩
 exact⟨.ref (hp.objs.size+1),_,I.laid (t':=tk) (o:=Fp (hp.objs.size+1) C none) kk (GB _) (X9 nx),rfl,h _ (I.hok.fresh (GB _))⟩
end
end
section
open EX
structure XI (K:XJ)(C:Addr):Prop where
 xc:XC K C
 ca:PySem.W.findIn K (.ref C) "__class__"=some (some (.builtin "object.__class__"))
 cg:PySem.W.specialIn K (.builtin "object.__class__") "__get__"=some (some (.builtin "getset_descriptor.__get__"))
 ck:PySem.W.takesIn K (.builtin "object.__class__")=some true
theorem Wp {K:XJ}{x C:Addr}{ox:Obj}{od:Option Obj}(c:XI K C):PySem.W.KitX K (.ref x) (.ref C) (fun h=>PySem.W.InstAt h x ox C od) where
 ty:=fun _ _ _ I=>I.type
 it:=fun _ _ X _=>by
  obtain⟨cdD,hcD,_⟩:=Pj c.xc.hd
  unfold PySem.W.clsIn at hcD
  split at hcD
  .rename_i c' d' cd' sl' ho
   intro A' Q' E' s' k q
   unfold isType loadHead
   exact A5 (wpAny_loadPart (k _ _ (X _ _ ho)) (Al q))
  .cases hcD
 ne:=fun h tp dd its n sl X htp=>by
  obtain⟨cdD,hcD,_⟩:=Pj c.xc.hd
  refine Bool.eq_false_iff.mpr fun q=>?_
  have e:C=tp:=Mt (GD.mp q)
  subst e
  unfold PySem.W.clsIn at hcD
  split at hcD
  .rename_i c' d' cd' sl' ho
   have z:=(X _ _ ho).symm.trans htp
   cases z
  .cases hcD
 ca:=fun X I k=>UT X I c.xc c.ca c.cg c.ck k
def Gy (H:Hp)(a C:Addr)(d:Option Addr):Prop:=(H a=some (Fp a C d)\/H a=some (Cu a C d))/\(d=none\/∃dx fs,d=some dx/\H dx=some (.xd fs))
theorem Gy.at {P:Program}{w:World}{H:Hp}{h:Heap}{a C:Addr}{d:Option Addr}(x:Gy H a C d)(ok:B4 P w H h):∃tb,BN h a (.ref C) d tb:=by
 rcases x.1 with e|e
 .exact⟨_,(Jb ok e).at⟩
 .exact Ls ok e
theorem Gy.inst {P:Program}{w:World}{H:Hp}{h:Heap}{a C:Addr}{d:Option Addr}(x:Gy H a C d)(ok:B4 P w H h):∃ox od,PySem.W.InstAt h a ox C od:=by
 obtain⟨tb,oe,vs,h0,h1,h2,h3,_⟩:=x.at ok
 have no:PySem.W.notCls oe=true:=by unfold PySem.W.notCls;rw[h3]
 rcases x.2 with e|⟨dx,fs,e,hd⟩
 .exact⟨oe,none,h0,h1,no,by rw[h2,e];exact True.intro⟩
 .obtain⟨mA,⟨o,_,_,ho,_⟩,_⟩:=(show Bw P w H h dx (.xd fs) from ok dx _ hd)
  exact⟨oe,some o,h0,h1,no,by rw[h2,e];exact ho⟩
section
variable {X:Cx}{e o:Expr}{ta tv:TE}{f x:Str}{pos pos' p apos:Pos}
theorem Fv:Ey X (.builtin "isinstance") (fun xs H Q=>∃a C d c cv b,xs=[.ref a,c]/\N7 c=some cv/\Gy H a C d/\XI X.K C/\PySem.W.kitOne X.K (.ref C) cv=some b/\Q (.bl b) H):=by
 intro pins s σ H xs us Q I r h
 obtain⟨a,C,d,c,cv,b,rfl,hc,hx,xi,ek,q⟩:=h
 obtain⟨u1,r1,rfl,ra,rr⟩:∃u1 r1,us=u1::r1/\Ax (.ref a) u1/\Aw [c] r1:=by cases r with|cons a b=>exact⟨_,_,rfl,a,b⟩
 obtain⟨u2,rfl,rc⟩:=FC rr
 obtain rfl:u1 = .ref a:=ra
 have ec:u2=cv:=by
  cases c<;>first|(cases hc;done)|skip
  all_goals (simp only[N7,Option.some.injEq]at hc;rw[←hc];exact rc)
 subst ec
 obtain⟨ox,od,J⟩:=hx.inst I.hok
 exact PySem.W.kia_one (Wp xi) I.kIn J ek (fun z=>nomatch z) fun tk=>⟨.bl b,H,I.tok _,rfl,q⟩
structure XB (K:XJ)(D:Addr):Prop where
 ga:PySem.W.specialIn K (.ref D) "__getattribute__"=some (some (.builtin "type.__getattribute__"))
 rd:PySem.W.readsIn K D (.type "type")=true
 fc:PySem.W.findCls K (.ref D) (.type "type") "__init__"=some (.val (.builtin "ValueError.__init__"))
end
end
section
open EX
abbrev Around.plain (A:Around):Around:={A with handled:=none}
abbrev Cx.rough (X:Cx):Cx:={X with calm:=false}
structure L6 (P:Program)(w:World)(K:XJ)(mg:Str->Option Value)(base:Heap)(k:Nat)(f:Addr)(fd:FuncData)(ps:List Str)(sp:Sp):Prop where
 len:∀vs H Q E,sp vs H Q E->vs.length=ps.length
 run:∀(A:Around) (outer:List Env) (s:Shared) (H:Hp) (args:Args) (us:List Value) (vs:List V) (Q:VK) (E:XK),Bj k (Around.plain A)->Fb P w K mg base A outer s H->BindsTo s fd args (ps.zip us)->Aw vs us->sp vs H Q E->
  codeAny (model P w) A (.call (.ref f) args) (CR AJ outer P w H s Q E) s
section
variable {P:Program}{w:World}{K:XJ}{mg:Str->Option Value}{base:Heap}
theorem AB.okN {x qual:Str}{st:Stmt}{f:Addr}{fd:FuncData}{N ps:List Str}{k:Nat}{sp:Sp}(F:AB K x qual st f fd)(S:AK N ps (Au st))(len:∀vs H Q E,sp vs H Q E->vs.length=ps.length)
  (hbody:∀(cdv:Value) (A:Around) (outer:List Env) (s:Shared) (H:Hp) (vs:List V) (Q:VK) (E:XK),Bj k (Around.plain (A.deeper (envOfC qual (Au st) s.heap.objs.size f cdv)))->sp vs H Q E->
   ∃t,CN (DL AJ P w K mg base N qual (Au st) f cdv A outer s H E).rough.nox (Fq st) t/\t {nx:=fun _ H'=>Q .non H',rt:=Q} (DM N vs) H):L6 P w K mg base (k+1) f fd ps sp:=by
 obtain⟨oc,od,kV,doc,pm,an,cdv,ct,osl,rfl,lk,hcd⟩:=F.ex
 refine⟨len,fun A outer s H args us vs Q E hr e0 hb r hsp=>?_⟩
 have hl:=len _ _ _ _ hsp
 have KX:K.In s.heap:=e0.mod.kin.keeps fun b o e=>(e0.bs b o e).1
 have lim:s.heap.NoLimit:=e0.mod.nolimit.keeps fun b o e=>(e0.bs b o e).1
 have hkind:∀y∈ps.zip us,(Au st).names.lookup y.1=some .local\/((Au st).names.lookup y.1=some .cell/\((cellsFrom (s.heap.objs.size+1) (Au st).names []).lookup y.1).isSome=true):=fun⟨n,v⟩ hy=>by
  rcases S.par n (M9 hy).1 with q|q
  .exact .inl q
  .exact .inr ⟨q,Pk _ _ _ (.inl q)⟩
 refine codeAny_call_function hr.depth (KX _ _ lk) rfl S.co S.gen rfl (PySem.W.codeRec_of KX hcd) (hb _ _ _ _ ?_)
 refine wpAny_newFunctionEnv_cells S.kind hkind fun env he s1 x=>?_
 subst he
 refine⟨lim.keeps x.toInCall.keep,codeAny_func ?_⟩
 obtain⟨t,ht,hq⟩:=hbody cdv A outer s H vs Q E (hr.deeper _) hsp
 have e1:Fb P w K mg base (Around.plain A) outer s H:=⟨e0.frames,e0.mod,e0.bs,e0.bsz,e0.funs,e0.frf,e0.hok,e0.bare⟩
 have I0:A2 (DL AJ P w K mg base N qual (Au st) f cdv (Around.plain A) outer s H E) [] (DM N vs) H s1:=Ou S hr.hd e1 hl r x
 have I:A2 (DL AJ P w K mg base N qual (Au st) f cdv A outer s H E).rough.nox [] (DM N vs) H s1:=
  ⟨⟨
   I0.ok.mod,I0.ok.kind,I0.ok.glob,I0.ok.blt,I0.ok.above,I0.ok.inj,I0.ok.has,I0.ok.cab,(fun z=>nomatch z),Around.frames_deeper e0.frames,I0.ok.stk,I0.ok.exf,I0.ok.bs,I0.ok.bsz,I0.ok.noex,I0.ok.exfs,I0.ok.funs,I0.ok.frf⟩,
   I0.os,I0.bare,I0.base,I0.loc,I0.cell,I0.free,I0.freeC,I0.pin,I0.hok,I0.len⟩
 refine CM (ht [] s1 (DM N vs) H _ I hq) (fun fl s' hs=>?_) fun e s' hs=>hs.elim
 have fin:∀{σ':St} {H':Hp} {v:V} {u:Value},A2 (DL AJ P w K mg base N qual (Au st) f cdv A outer s H E).rough.nox [] σ' H' s'->Ax v u->Q v H'->CE outer P w H s Q u s':=
  fun{σ' H' v u} J rv q=>⟨v,H',J.os,J.bare,J.base,J.hok,rv,q⟩
 cases fl with
 |
  ret u=>
  obtain⟨v,σ',H',J,rv,q⟩:=hs
  exact fin J rv q
 |
  next=>
  obtain⟨σ',H',J,q⟩:=hs
  exact fin (v:=V.non) (u:=Value.none) J rfl q
 |
  brk=>
  obtain⟨_,_,_,q⟩:=hs
  exact False.elim q
 |
  cont=>
  obtain⟨_,_,_,q⟩:=hs
  exact False.elim q
end
section
variable {X:Cx}{k:Nat}{f:Addr}{fd:FuncData}{ps:List Str}{sp:Sp}{x:Str}{p pos:Pos}{e:Expr}{es:List Expr}{t:TA}
theorem Bj.held {k:Nat}{A:Around}(r:Bj k A)(a:Addr):Bj k (Around.plain (A.mark (some (.ref a)))):=⟨rfl,r.dp,r.un,r.gd⟩
theorem Sv (F:L6 X.prog X.w X.K X.mg X.base k f fd ps sp)(hr:Bj k (Around.plain X.A))(hg:Gl X x)(hm:X.mg x=some (.ref f))(hk:PySem.W.keepIn X.K (.ref f)=true)(hb:AG X.K fd ps [])
  (ha:PA X (e::es) t) (hdb:(x==("__debug__":Str))=false:=by decide) (he:starEach (e::es) X.env=(false,eval e X.env)::starEach es X.env:=by rfl) (hpl:(backTo pos (starEach es X.env)).any (·.1)=false:=by rfl) :
  PE X (.Call (.Name x p) (e::es) [] pos) (Nu sp [] E0 t):=by
 intro pins s σ H Q I h
 refine Fm (FD I hg hm ?_ hdb)
 refine M8 (h₀:=X.base) I.ok.mod.kin hk (As (ha pos pins s σ H _ I h) fun us s1 ⟨vs,H1,I1,r,q⟩=>⟨I1.kIn,?_⟩) he hpl
 have r2:Aw (vs++[]) (us++[]):=r.append .nil
 have hl:(us++[]).length=ps.length:=by rw[←r2.length];exact F.len _ _ _ _ q
 refine GE (J7 (F.run X.A X.stack s1 H1 ⟨us,[]⟩ (us++[]) (vs++[]) Q E0 hr I1.env0 (hb s1 us I1.kIn hl) r2 q) fun r s' hq=>?_)
 cases r with
 |error e=>exact hq.elim
 |
  ok fl=>
  cases fl with
  |ret u=>exact I1.after hq
  |next=>exact False.elim hq
  |brk=>exact False.elim hq
  |cont=>exact False.elim hq
end
end
section
open EX
def EL (K:XJ)(C:Addr)(own:List Addr):Bool:=match K.lookup C with
 |
  some ⟨.type "type",_,.cls cd,sl⟩=>(match cd.mro,sl.toList with
  |.ref C'::bm,[_,_,_,_,some (.builtin n),_]=>C'==C&&n=="ValueError.__new__"&&!cd.hasDel&&bm==own.map Value.ref++bmVE&&PySem.W.tailIn K bmVE bm
  |_,_=>false)
 |_=>false
theorem C0 {K:XJ}{C:Addr}{own:List Addr}(q:EL K C own=true):∃N,∀h,K.In h->ClsT h C N (own.map Value.ref++bmVE):=by
 unfold EL at q
 split at q
 .rename_i dd cd sl ho
  split at q
  .rename_i C' bm k0 k1 k2 k3 n k5 hm hs
   simp only[EU,GD,Bool.not_eq_true']at q
   obtain⟨⟨⟨⟨rfl,rfl⟩,hdel⟩,hb⟩,ht⟩:=q
   obtain⟨nm,bs,mro,ns,qn,hd,sn,sub,ab,col,del⟩:=cd
   dsimp only at hm hdel
   subst hm hdel
   have hsl:sl = #[k0,k1,k2,k3,some (.builtin "ValueError.__new__"),k5]:=by
    obtain⟨l⟩:=sl
    simp only at hs
    rw[hs]
   subst hsl
   rw[←hb]
   exact⟨ns,fun h X=>⟨nm,qn,bs,hd,sn,sub,ab,col,dd,k0,k1,k2,k3,k5,X _ _ ho,PySem.W.tail_of_in X ht⟩⟩
  .cases q
 .cases q
def Qy:Addr->Addr->Option Addr->TS:=fun _ _ _ _ _ _=>False
theorem ML {X:Cx}:PH X [] Qy:=fun _ _ _ _ _ _ _ _ _ _ _ _ _ _ _ h=>h.elim
theorem U6 {C:Addr}{own:List Addr}{D:Addr}:(Value.ref C::(own.map Value.ref++bmVE)).contains (.ref D)=decide (D=C\/D∈own):=by
 rw[GA,List.contains_iff_mem,decide_eq_true_iff]
 simp[bmVE]
end
def RM (CW C:Addr):Sp:=fun vs H Q E=>∃(wk l dx dl:Addr) (m room:Int),vs=[.ref wk,.int m]/\E7 CW H wk room l dx dl/\(m<=room->Q .non (upd H wk (.ins CW dx [("deeds",.ref dl),("room",.int (room-m)),("told",.ref l)])))/\(room<m->∀(xx:Addr) (H':Hp),Aa H H'->H' xx=some (Cu xx C none)->E (.ref xx) none H')
def KS (CW CD C:Addr)(n:Nat):Sp:=fun vs H Q E=>∃(wk l il vt dx dl:Addr) (room:Int) (HF:Hp) (Ds:List Dw) (f:Pw.Fs) (ns:List Nat) (xs:List V) (us:List Int),vs=[.ref wk,.ref il,.ref vt]/\Wr CW CD H HF wk l dx dl room Ds/\(∀D∈Ds,Ep D)/\HF il=some (.lst xs)/\BI HF f xs/\xs.length<=10/\By f<n/\Pw.IsF (getD Ds) f ns us.length/\ns.length<=10/\Dl (bW Ds) f us/\H vt=some (.tup (us.map V.int))/\0<=room/\(AS (bW Ds) f us<=room->∀(H':Hp),Bt wk H H'->E7 CW H' wk (room-AS (bW Ds) f us) l dx dl->Q .non H')/\(room<AS (bW Ds) f us->∀(xx:Addr) (H':Hp),Bt wk H H'->H' xx=some (Cu xx C none)->E (.ref xx) none H')
def Q9 (CW CD C:Addr)(n:Nat):Sp:=fun vs H Q E=>∃(wk l il vt dx dl:Addr) (room:Int) (HF:Hp) (Ds:List Dw) (f:Pw.Fs) (k:Nat) (D:Dw) (ns:List Nat) (xs:List V) (us:List Int),vs=[.ref wk,.int (k:Int),.ref il,.ref vt]/\Wr CW CD H HF wk l dx dl room Ds/\(∀D∈Ds,Ep D)/\Ds[k]?=some D/\us.length<D.loops.length/\HF il=some (.lst xs)/\BI HF f xs/\xs.length<=10/\By f<n/\Pw.IsF (getD Ds) f ns (us.length+1)/\ns.length<=10/\Dl (bW Ds) (.node k f .nil) us/\H vt=some (.tup (us.map V.int))/\(AS (bW Ds) (.node k f .nil) us<=room->∀(H':Hp),Bt wk H H'->E7 CW H' wk (room-AS (bW Ds) (.node k f .nil) us) l dx dl->Q .non H')/\(room<AS (bW Ds) (.node k f .nil) us->∀(xx:Addr) (H':Hp),Bt wk H H'->H' xx=some (Cu xx C none)->E (.ref xx) none H')
def Wv (C:Addr):Sp:=fun vs H Q _=>∃(dl:Addr) (Ds:List Dw),vs=[.ref dl]/\Es C H dl Ds/\HG Ds/\(∀f,Pw.IsF (getD Ds) f (List.range Ds.length) 0->Dl (bW Ds) f []/\(Tn.tl (bW Ds) f []).length<=400000)/\∀(r:Addr) (H':Hp) (xs:List V) (f:Pw.Fs),Aa H H'->H r=none->H' r=some (.lst xs)->Pw.IsF (getD Ds) f (List.range Ds.length) 0->Ay (DZ H') xs (Tn.tl (bW Ds) f [])->Q (.ref r) H'
def Em (Ds:List Dw)(f:Pw.Fs):Int:=(AM f:Int)+AS (bW Ds) f []
def VT (CP CD C:Addr):Sp:=fun vs H Q E=>∃(x dx dl:Addr) (sz:V) (most:Int) (Ds:List Dw),vs=[.ref x,.int most]/\most<=400000/\H x=some (.ins CP dx [("size",sz),("deeds",.ref dl)])/\Es CD H dl Ds/\HG Ds/\(List.range Ds.length).Pairwise (Tn.Prs (getD Ds) (bW Ds) 0)/\(∀f,Pw.IsF (getD Ds) f (List.range Ds.length) 0->Dl (bW Ds) f [])/\∀f,Pw.IsF (getD Ds) f (List.range Ds.length) 0->(Em Ds f<=most->∀(r:Addr) (H':Hp) (xs:List V) (g:Pw.Fs),Aa H H'->H r=none->H' r=some (.lst xs)->Pw.IsF (getD Ds) g (List.range Ds.length) 0->Ay (DZ H') xs (Tn.tl (bW Ds) g [])->Q (.ref r) H')/\(most<Em Ds f->∀(xx:Addr) (H':Hp),Aa H H'->H' xx=some (Cu xx C none)->E (.ref xx) none H')
def Om (H:Hp)(lv:Addr)(v:V)(n:Nat):Prop := ∃(l:Addr) (ys:List V),v = .ref l/\l≠lv/\H l=some (.lst ys)/\ys.length=n
def Cg (R:R3)(n:Nat):Nat:=(Tn.lv (bD R.dw) n).length
def SX:Sp:=fun vs H Q _=>∃(v:V) (R:R3),vs=[v]/\Ea H v R/\RG R/\(∀n,n<=R.S.length->(Tn.lv (bD R.dw) n).length<=400000)/\∀(r:Addr) (xs:List V) (H':Hp),Aa H H'->H' r=some (.lst xs)->Ay (Om H' r) xs ((List.range (R.S.length+1)).map (Cg R))->Q (.ref r) H'
def UM:Sp:=fun vs H Q _=>∃(rl:Addr) (Rs:List R3),vs=[.ref rl]/\Hl H rl Rs/\(∀R∈Rs,RG R)/\Rs.Pairwise Cr/\Rs.length<=4/\(∀R∈Rs,∀n,n<=R.S.length->(Tn.lv (bD R.dw) n).length<=400000)/\∀(r:Addr) (H':Hp) (L:List (List Int×Nat)),Aa H H'->Cn (Rs.flatMap Bc) L->L.length<=12->H' r=some (.tup [.int ((L.map (·.2)).sum:Nat),.int ((Rs.map fun R=>Cg R R.S.length).sum:Nat)])->Q (.ref r) H'
theorem Wf:bootBuiltins "ValueError"=some (.type "ValueError"):=by decide +kernel
def QG (C:Addr):Sp:=fun vs H Q _=>∃(x:Addr) (d:Option Addr),vs=[.ref x]/\Gy H x C d/\Q (.bl true) H
def G8 (CP CD:Addr)(H:Hp)(x:Addr)(Ds:List Dw):Prop := ∃(dx dl:Addr) (sz:V),H x=some (.ins CP dx [("size",sz),("deeds",.ref dl)])/\Es CD H dl Ds
theorem G8.over {CP CD:Addr}{H H':Hp}{x:Addr}{Ds:List Dw}(h:G8 CP CD H x Ds)(e:Aa H H'):G8 CP CD H' x Ds:=by
 obtain⟨dx,dl,sz,a,b⟩:=h
 exact⟨dx,dl,sz,e _ _ a,b.over e⟩
structure Jm (Ds:List Dw):Prop where
 ok:HG Ds
 pr:(List.range Ds.length).Pairwise (Tn.Prs (getD Ds) (bW Ds) 0)
 ft:∀f,Pw.IsF (getD Ds) f (List.range Ds.length) 0->Dl (bW Ds) f []
def RZ (CP CD:Addr):Sp:=fun vs H Q _=>∃(x:Addr) (m:Int) (Ds:List Dw),vs=[.ref x,.int m]/\m<=400000/\G8 CP CD H x Ds/\Jm Ds/\(∀f,Pw.IsF (getD Ds) f (List.range Ds.length) 0->m<Em Ds f)/\∀H',Aa H H'->Q (.bl true) H'
def Qe (CP CD:Addr):Sp:=fun vs H Q _=>∃(x:Addr) (m n:Int) (Ds:List Dw),vs=[.ref x,.int m,.int n]/\m<=400000/\G8 CP CD H x Ds/\Jm Ds/\(∀f,Pw.IsF (getD Ds) f (List.range Ds.length) 0->Em Ds f<=m/\((Tn.tl (bW Ds) f []).length:Int)=n)/\∀H',Aa H H'->Q (.bl true) H'
def Ln (R:R3):Prop:=RG R/\Tm (10 ^ 18) R.dw/\0<R.S.length/\10 ^ 15<=(bD R.dw []).2-(bD R.dw []).1
def RF (K:XJ):Sp:=fun vs H Q _=>∃(sc:Addr) (ns:List Int),vs=[.ref sc]/\A7 K H sc (ns.map V.int)/\ns.length<=63/\∀(r:Addr) (R:R3) (H':Hp),Aa H H'->Ea H' (.ref r) R->Ln R->Q (.ref r) H'
theorem OY {Rs:List R3}{W:Nat}(g:∀R∈Rs,RG R/\Tm W R.dw)(pr:Rs.Pairwise Cr)(l:Rs.length<=10):Jm (Rs.map R3.dw):=by
 have ok:=T8 pr (fun R hR=>(g R hR).1) l
 refine⟨ok,FB pr,fun f isf=>IU (W:=W) isf (FB pr) (Ii ok.1) (fun k hk=>?_) rfl⟩
 rw[Di,Ao]at hk
 exact⟨Rs[k].dw,Fi (Be hk),(g _ (FW hk)).2,PV.nil _⟩
theorem TM {R:R3}(h:Ln R){f:Pw.Fs}(isf:Pw.IsF (getD ([R].map R3.dw)) f (List.range ([R].map R3.dw).length) 0):10 ^ 15<=Em ([R].map R3.dw) f:=by
 have hD:([R].map R3.dw)[0]?=some R.dw:=rfl
 have hD':getD ([R].map R3.dw) 0=some R.dw.dd:=D4 hD
 have ll:0<R.dw.loops.length:=by show 0<(R.S.map C2).length;rw[Ao];exact h.2.2.1
 cases f with
 |nil=>have:List.range ([R].map R3.dw).length=[]:=isf;cases this
 |
  leaf k r=>
  obtain⟨ns',a,e,h0,h1,h2⟩:=isf
  have e:[0]=k::ns':=e
  injection e with e1 e2
  subst e1
  rw[hD']at h0
  obtain rfl:=AZ h0
  have h1:R.dw.loops.length=0:=h1
  omega
 |
  node k s r=>
  obtain⟨g,ns',a,e,h0,h1,_⟩:=isf
  have e:[0]=k::(g++ns'):=e
  injection e with e1 e2
  subst e1
  have n1:=EF (B:=bW ([R].map R3.dw)) r []
  have n2:0<=((Tn.rng (bW ([R].map R3.dw) 0 []).1 (bW ([R].map R3.dw) 0 []).2).map fun v=>AS (bW ([R].map R3.dw)) s ([]++[v])).sum:=HZ fun x hx=>by
   obtain⟨v,_,rfl⟩:=AW.mp hx
   exact EF s ([]++[v])
  have w0:=M3 (bW ([R].map R3.dw) 0 [])
  have w1:10 ^ 15<=CG (bW ([R].map R3.dw) 0 []):=by
   rw[DD hD]
   have:=h.2.2.2
   unfold CG
   split<;>omega
  have m1:CG (bW ([R].map R3.dw) 0 [])*1<=CG (bW ([R].map R3.dw) 0 [])*(1+(AM s:Int)):=Int.mul_le_mul_of_nonneg_left (by omega) w0
  show 10 ^ 15<=((AM (.node 0 s r):Nat):Int)+(CG (bW ([R].map R3.dw) 0 [])*(1+(AM s:Int))+(if AM s<Cd s then _ else 0)+AS (bW ([R].map R3.dw)) r [])
  split<;>omega
theorem Vj {R:R3}{c lo hi x:Int}{q0 q1:Lp}(hS:R.S=[q0]\/R.S=[q0,q1])(pl:R.path.length=R.S.length+1)(m3:R.m<=3)(h0:q0.nm=Bi c 0/\q0.tn=0/\q0.lz=""/\q0.ln=lo/\q0.hz=""/\q0.hn=hi)(h1:q1.nm=Bi c 1/\q1.tn=0/\q1.lz=q0.nm/\q1.ln=1/\q1.hz=q0.nm/\q1.hn=x)(l0 : -(10 ^ 16)<=lo)(l1:lo<=10 ^ 17)(hh:lo+10 ^ 15<=hi)(hh2:hi<=lo+10 ^ 15+10 ^ 17)(x0:0<=x)(x3:x<=3):Ln R:=by
 obtain⟨a1,a2,a3,a4,a5,a6⟩:=h0
 obtain⟨b1,b2,b3,b4,b5,b6⟩:=h1
 have so2:E6 [q0,q1] c:=by
  refine⟨by show 2<=3;decide,⟨0,by decide,by decide,fun i q h=>?_⟩,fun i q h=>?_⟩
  .match i,h with
   |0,h=>cases h;exact⟨a2,a1⟩
   |1,h=>cases h;exact⟨b2,b1⟩
   |i+2,h=>cases h
  .match i,h with
   |0,h=>cases h;exact⟨.inl a3,.inl a5⟩
   |1,h=>cases h;exact⟨.inr ⟨q0,AX,b3⟩,.inr ⟨q0,AX,b5⟩⟩
   |i+2,h=>cases h
 have so1:E6 [q0] c:=by
  refine⟨by show 1<=3;decide,⟨0,by decide,by decide,fun i q h=>?_⟩,fun i q h=>?_⟩
  .match i,h with
   |0,h=>cases h;exact⟨a2,a1⟩
   |i+1,h=>cases h
  .match i,h with
   |0,h=>cases h;exact⟨.inl a3,.inl a5⟩
   |i+1,h=>cases h
 have so:E6 R.S c:=by rcases hS with e|e<;>rw[e]<;>assumption
 have rg:RG R:=⟨by have:=so.len;omega,pl,KZ so,Lm so,so.bs,m3⟩
 have hq0:R.S[0]?=some q0:=by rcases hS with e|e<;>rw[e]<;>rfl
 have bd0:bD R.dw []=(lo,hi):=by
  rw[Ks (vs:=[]) hq0]
  have s1:C8 ((AY R.S).zip []) (q0.lz,q0.ln)=lo:=by unfold C8;rw[Ah a3];exact a4
  have s2:C8 ((AY R.S).zip []) (q0.hz,q0.hn)=hi:=by unfold C8;rw[Ah a5];exact a6
  rw[s1,s2]
 refine⟨rg,fun vs pv hl=>?_,by rcases hS with e|e<;>rw[e]<;>exact Hs _,by rw[bd0];show 10 ^ 15<=hi-lo;omega⟩
 have hl:vs.length<(R.S.map C2).length:=hl
 rw[Ao]at hl
 match vs,pv,hl with
 |
  [],_,_=>
  rw[bd0]
  show(-(2 ^ 60)<=lo/\lo<=2 ^ 60/\-(2 ^ 60)<=hi/\hi<=2 ^ 60)/\hi-lo+1<=((10 ^ 18:Nat):Int)
  omega
 |
  [v],pv,hl=>
  have p0:=pv 0 (by show 0<1;decide)
  rw[show([v]:List Int).take 0=[] from rfl,bd0]at p0
  have p0:lo<=v/\v<=hi:=p0
  rcases hS with e|e
  .rw[e]at hl;exact absurd (show 1<1 from hl) (by decide)
  .have hq1:R.S[[v].length]?=some q1:=by rw[e];rfl
   rw[Ks (vs:=[v]) hq1]
   have nz:q0.nm≠"":=Lm so q0.nm (by rw[e];exact AX)
   have lk:Eh ((AY R.S).zip [v]) q0.nm=v:=JP (j:=0) (KZ so) (by rw[e];rfl) (by show 0<1;decide)
   have s1:C8 ((AY R.S).zip [v]) (q1.lz,q1.ln)=v+1:=by
    unfold C8
    rw[b3,b4,Ae nz,lk]
   have s2:C8 ((AY R.S).zip [v]) (q1.hz,q1.hn)=v+x:=by
    unfold C8
    rw[b5,b6,Ae nz,lk]
   rw[s1,s2]
   show(-(2 ^ 60)<=v+1/\v+1<=2 ^ 60/\-(2 ^ 60)<=v+x/\v+x<=2 ^ 60)/\v+x-(v+1)+1<=((10 ^ 18:Nat):Int)
   omega
 |
  v::w::vs,_,hl=>
  have:=so.len
  rcases hS with e|e
  .rw[e]at hl;have:vs.length+2<1:=hl;omega
  .rw[e]at hl;have:vs.length+2<2:=hl;omega
theorem UA {Rs:List R3}{c:Int}(ok:∀R∈Rs,DI c R)(pr:Rs.Pairwise Cr)(l0:0<Rs.length)(l4:Rs.length<=4){L:List (List Int×Nat)}(cn:Cn (Rs.flatMap Bc) L){f:Pw.Fs}(isf:Pw.IsF (getD (Rs.map R3.dw)) f (List.range (Rs.map R3.dw).length) 0):Em (Rs.map R3.dw) f=(((L.map (·.2)).sum:Nat):Int)+(((Rs.map fun R=>Cg R R.S.length).sum:Nat):Int)/\((Tn.tl (bW (Rs.map R3.dw)) f []).length:Int)=(((Rs.map fun R=>Cg R R.S.length).sum:Nat):Int)/\Em (Rs.map R3.dw) f<=330000:=by
 have gw:=OL ok pr l0 l4
 have e1:=WH gw isf
 have e2:=RV gw.rg pr isf cn
 have e3:=IP (B:=bW (Rs.map R3.dw)) f []
 have e4:(Rs.map fun R=>((Tn.lv (bD R.dw) R.S.length).length:Int)).sum=(((Rs.map fun R=>Cg R R.S.length).sum:Nat):Int):=by
  rw[←Ip,DX]
  rfl
 rw[e4]at e1
 have gd:=Oe gw
 have prs:=FB pr
 have all:∀k∈List.range (Rs.map R3.dw).length,∃D,(Rs.map R3.dw)[k]?=some D/\Tm 10 D/\PV D []/\D.loops.length<=0+3:=fun k hk=>by
  rw[Di,Ao]at hk
  have hm:=FW hk
  exact⟨Rs[k].dw,Fi (Be hk),(ok _ hm).tame.tm,PV.nil _,by have:=(ok _ hm).rg.ok3.ll;omega⟩
 have c3:=HR (n:=3) isf prs gd all rfl (by rw[Dz,Ao];exact l4)
 have n3:nb 10 3=82050:=by decide
 rw[n3,Dz,Ao]at c3
 have lv:=LI isf
 rw[Dz,Ao]at lv
 unfold Em
 refine⟨by omega,e1,by omega⟩
theorem VU {Rs:List R3}{c:Int}(ok:∀R∈Rs,DI c R)(pr:Rs.Pairwise Cr)(l4:Rs.length<=4):Jm (Rs.map R3.dw):=OY (W:=10) (fun R hR=>⟨(ok R hR).rg,(ok R hR).tame.tm⟩) pr (by omega)
theorem Nq {R:R3}{c:Int}(ok:DI c R){n:Nat}(h:n<=R.S.length):Cg R n<=1000:=by
 have:=Jx (JJ.tm (W:=10) ok.tame) (n:=n) (by show n<=(R.S.map C2).length;rw[Ao];exact h)
 have h3:=ok.so.1
 exact Bl this (Bl (PJ (by decide) (by omega:n<=3)) (by decide))
theorem US {Rs:List R3}{c:Int}(ok:∀R∈Rs,DI c R)(l4:Rs.length<=4){L:List (List Int×Nat)}(cn:Cn (Rs.flatMap Bc) L)(l12:L.length<=12):(L.map (·.2)).sum<=12000/\(Rs.map fun R=>Cg R R.S.length).sum<=4000:=by
 constructor
 .refine Bl (GH (W:=1000) fun x hx=>?_) (by rw[Ao];omega)
  obtain⟨y,hy,rfl⟩:=AW.mp hx
  obtain⟨R,hR,hy⟩:=Fl.mp ((cn.mem y).mp hy)
  obtain⟨e,he,rfl⟩:=AW.mp hy
  rw[Di]at he
  exact Nq (ok R hR) (by omega)
 .refine Bl (GH (W:=1000) fun x hx=>?_) (by rw[Ao];omega)
  obtain⟨R,hR,rfl⟩:=AW.mp hx
  exact Nq (ok R hR) (An _)
section
variable {P:Program}{w:World}{A:Around}{E:Value->Shared->Prop}
end
section
variable {P:Program}{w:World}{A:Around}{E:Value->Shared->Prop}
end
section
variable {P:Program}{w:World}{A:Around}{E:Value->Shared->Prop}
end
section
variable {P:Program}{w:World}{A:Around}{E:Value->Shared->Prop}{s:Shared}
theorem Rg (d:Addr)(hd:(d==sysModules)=false):MeetsIn P w (Builtin.«dict.values» ⟨[.ref d],[]⟩) (fun _ R s=>s.TypeIs (.ref d) "dict"/\R (.ok (.ret (.ref s.heap.objs.size))) {s with heap:=s.heap.push {cls:=.type "dict_values",data:=.fields #[.ref d]}}):=
 .of_wp fun A R s ⟨ht,h⟩=>by
  refine A5 ?_
  unfold Builtin.Dict.noArgs
  refine A5 (wpAny_notOrdered_dict ht (Al ?_))
  refine A5 (m:=Builtin.Dict.showsAll d) ?_
  unfold Builtin.Dict.showsAll
  rw[hd]
  exact Al (A5 (GF (Al ⟨_,rfl,h⟩)))
end
section
variable {P:Program}{w:World}{A:Around}{E:Value->Shared->Prop}
abbrev Gn (h:Heap)(it d:Addr)(i n ep:Nat):Prop:=h.get? it=some {cls:=.type "dict_valueiterator",dict:=none,data:=.fields #[.ref d,.int i 0,.int n 0,.int ep 0],slots := #[]}
theorem Wh {h:Heap}{g:Array GenState}{dr:Drawn}{tk:Nat}{os:OsState}{it d:Addr}{o:Obj}{es:Array DictEntry}{i ep:Nat}{e:DictEntry}{R:PySem.Fin->Shared->Prop}(hit:Gn h it d i es.size ep)(hod:h.get? d=some o)(hdd:o.data = .dict es ep)(hx:es[i]?=some e)
  (hQ:∀h',Gn h' it d (i+1) es.size ep->Heap.SameBut it h h'->R (.done (.ret e.val)) ⟨h',g,dr,tk,os⟩) :
  wpAny (model P w) A (Builtin.«dict_valueiterator.__next__» ⟨[.ref it],[]⟩) R E ⟨h,g,dr,tk,os⟩:=by
 have hT:Shared.TypeIs ⟨h,g,dr,tk,os⟩ (.ref it) "dict_valueiterator":=⟨_,hit,rfl⟩
 have hlt:i<es.size:=(Ms.mp hx).1
 unfold Builtin.«dict_valueiterator.__next__»
 repeat (any_goals (first|assumption|wp_step))
 rw[hdd]
 refine Al ?_
 dsimp only
 rw[Ae (by simp)]
 refine A5 (Al ?_)
 refine A5 (PX hod hdd ?_)
 rw[Ae (by simp)]
 refine Al ?_
 dsimp only
 rw[Ae (show ¬((i:Int)<0) by omega),FU,hx]
 dsimp only
 refine A5 (A5 (XH hT (Al ?_)))
 refine A5 (PY hT ?_)
 refine A5 (Hy hit (by simp;decide) fun h1 he1 hs1=>?_)
 have hT1:Shared.TypeIs ⟨h1,g,dr,tk,os⟩ (.ref it) "dict_valueiterator":=⟨_,he1,rfl⟩
 refine A5 (EY ?_)
 refine A5 (PY hT1 ?_)
 refine A5 (PY hT1 ?_)
 rw[Ah (by decide)]
 have he1:Gn h1 it d (i+1) es.size ep:=by
  rw[Ae (by decide),Ae (by decide)]at he1
  exact he1
 exact Al (Al (hQ h1 he1 hs1))
theorem Ua {h:Heap}{g:Array GenState}{dr:Drawn}{tk:Nat}{os:OsState}{it d:Addr}{o:Obj}{es:Array DictEntry}{i ep:Nat}{R:PySem.Fin->Shared->Prop}(hh:A.handled=none)(hit:Gn h it d i es.size ep)(hod:h.get? d=some o)(hdd:o.data = .dict es ep)(hx:es[i]?=none)
  (hE:∀h' e,Heap.ExtBut it h h'->(∃ob,h'.get? e=some ob/\ob.cls = .type "StopIteration")->E (.ref e) ⟨h',g,dr,tk,os⟩) :
  wpAny (model P w) A (Builtin.«dict_valueiterator.__next__» ⟨[.ref it],[]⟩) R E ⟨h,g,dr,tk,os⟩:=by
 have hT:Shared.TypeIs ⟨h,g,dr,tk,os⟩ (.ref it) "dict_valueiterator":=⟨_,hit,rfl⟩
 unfold Builtin.«dict_valueiterator.__next__»
 repeat (any_goals (first|assumption|wp_step))
 rw[hdd]
 refine Al ?_
 dsimp only
 rw[Ae (by simp)]
 refine A5 (Al ?_)
 refine A5 (PX hod hdd ?_)
 rw[Ae (by simp)]
 refine Al ?_
 dsimp only
 rw[Ae (show ¬((i:Int)<0) by omega),FU,hx]
 dsimp only
 refine A5 (A5 (XH hT (Al ?_)))
 refine A5 (KM hit rfl (by simp;decide) ?_)
 have sb:Heap.ExtBut it h _:=(Mg (h:=h) (a:=it) (f:=Obj.mapFields fun x=>x.setIfInBounds (if Builtin.Dict_items.ownsTuple "dict_valueiterator"=true then 2 else 0) Value.none) ..).extBut
 dsimp only
 generalize h.update it (Obj.mapFields fun x=>x.setIfInBounds (if Builtin.Dict_items.ownsTuple "dict_valueiterator"=true then 2 else 0) Value.none)=h1 at sb
 simp only[newExc,newTuple]
 repeat (any_goals (first|assumption|wp_step))
 simp only[raiseNew]
 refine A5 (wpAny_handled ?_)
 rw[hh]
 exact A5 (Al (wpAny_throw (hE _ _ ((sb.push _).push _) ⟨_,BV _ rfl,rfl⟩)))
theorem Og {s:Shared}{it d:Addr}{o:Obj}{es:Array DictEntry}{i ep:Nat}{Q:Option Value->Shared->Prop}(hh:A.handled=none)(hit:Gn s.heap it d i es.size ep)(hod:s.heap.get? d=some o)(hdd:o.data = .dict es ep)
  (hQ:∀e,es[i]?=some e->∀h',Gn h' it d (i+1) es.size ep->Heap.SameBut it s.heap h'->Q (some e.val) {s with heap:=h'})
  (hN:es[i]?=none->∀h',Heap.ExtBut it s.heap h'->Q none {s with heap:=h'}):wpAny (model P w) A (pyNext (.ref it)) Q E s:=by
 have hT:s.TypeIs (.ref it) "dict_valueiterator":=⟨_,hit,rfl⟩
 obtain⟨h,g,dr,tk,os⟩:=s
 unfold pyNext
 refine A5 (KN (wpAny_callSpecial?_slot (name:=Str.ofString "__next__") hT F.slot_dict_valueiterator_next (Hw F.slot_dict_valueiterator_next hT F.entry_dict_valueiterator_next ?_ (F.args_dict_valueiterator_next_1 _))))
 cases hx:es[i]? with
 |some e=>exact Wh hit hod hdd hx fun h' a b=>⟨_,rfl,Al (hQ e hx h' a b)⟩
 |
  none=>
  refine Ua (show A.in1.handled=none from hh) hit hod hdd hx fun h' e xb ⟨ob,he,hc⟩=>?_
  exact A5 (PQ (T:="StopIteration") (b:=true) ⟨ob,he,hc⟩ isSubtype_stop (Al (hN hx h' xb)))
abbrev Mz (d:Addr)(n ep:Nat):Obj:={cls:=.type "dict_valueiterator",data:=.fields #[.ref d,.int 0 0,.int n 0,.int ep 0]}
theorem Xn {s:Shared}{v d:Addr}{o:Obj}{es:Array DictEntry}{ep:Nat}{Q:Value->Shared->Prop}(hv:s.heap.IsValuesView v d)(ho:s.heap.get? d=some o)(hd:o.data = .dict es ep)(hQ:Q (.ref s.heap.objs.size) {s with heap:=s.heap.push (Mz d es.size ep)}):wpAny (model P w) A (pyIter (.ref v)) Q E s:=by
 obtain⟨ov,hov,_,hdv⟩:=id hv
 refine wpAny_pyIter_slot hv.typeIs F.slot_dict_values_iter (Hw F.slot_dict_values_iter hv.typeIs F.entry_dict_values_iter ?_ (F.args_dict_values_iter_1 _))
 unfold Builtin.«dict_values.__iter__» Builtin.Dict_items.dictOf Builtin.Dict_items.newIterator
 refine A5 (Al (A5 (A5 (Dj hov hdv (x:=.ref d) rfl (Al ?_)))))
 refine A5 (A5 (wpAny_dictEntries ho hd (A5 (PX ho hd ?_))))
 dsimp only
 rw[Ae (show ¬Builtin.Dict_items.ownsTuple "dict_valueiterator"=true by decide)]
 refine GF (Al ⟨_,rfl,"dict_valueiterator",_,⟨_,BV _ rfl,rfl⟩,F.slot_dict_valueiterator_next.lookup,?_⟩)
 simpa[rawInt] using hQ
theorem WN {r d:Addr}{o:Obj}{es:Array DictEntry}{ep:Nat}(hd:o.data = .dict es ep):PySem.W.KdlSrc P w "dict_values" r d es.size (fun i v=>∃e,es[i]?=some e/\v=e.val) (fun h=>h.IsValuesView r d/\h.get? d=some o) where
 type:=fun _ hm=>hm.1.typeIs
 there:=fun _ hm=>⟨let ⟨_,ho,_⟩:=hm.1;AD ho,AD hm.2⟩
 keep:=fun _ _ hm hk=>⟨let ⟨o,ho,x⟩:=hm.1;⟨o,hk r (.inl rfl) o ho,x⟩,hk d (.inr rfl) o hm.2⟩
 notList:=by decide
 notTuple:=by decide
 hint:=fun _ _ _ _ hm hq=>PySem.W.kdl_hint_values hm.1.typeIs hq
 iter:=fun A s hh hm=>by
  have ne:d≠s.heap.objs.size:=Br (AD hm.2)
  refine⟨Mz d es.size ep,fun i h=>Gn h s.heap.objs.size d i es.size ep/\h.get? d=some o,fun E Q hq=>Xn hm.1 hm.2 hd hq,?_,BV _ rfl,AI _ hm.2⟩
  refine⟨fun b hb=>?_,fun i h h' st k=>⟨k _ AX _ st.1,k _ (B1 _ AX) _ st.2⟩,fun i t Q E hi st hQ=>?_,fun t Q E st hQ=>?_,fun i t Q E st hQ=>?_⟩
  .rw[BW.mp hb];exact AX
  .refine Og hh st.1 st.2 hd (fun e he h' a b=>hQ e.val h' t.toks ⟨e,he,rfl⟩ ⟨a,b.extBut d o ne st.2⟩ fun c u n z=>b.extBut c u (fun q=>n (by rw[q];exact AX)) z) fun hx=>?_
   rw[Py hi]at hx
   cases hx
  .refine Og hh st.1 st.2 hd (fun e he=>?_) fun _ h' xb=>hQ h' t.toks fun c u n z=>xb c u (fun q=>n (by rw[q];exact AX)) z
   rw[Array.getElem?_eq_none (An _)]at he
   cases he
  .exact wpAny_pyIter_valiter ⟨_,st.1,rfl,rfl⟩ hQ
end
def Tf (td:TE):TE:=fun σ H Q=>td σ H fun x H1=>∃a kvs,x = .ref a/\H1 a=some (.dT kvs)/\∀l,H1 l=none->Q (.ref l) (upd H1 l (.lst (kvs.map (·.2))))
theorem KT.vals {H:Hp}{kvs:List (List Ap×V)}{xs:List (List Ap×Addr×Value)}(r:KT H kvs xs):Aw (kvs.map (·.2)) (xs.map (·.2.2)):=by
 induction r with
 |nil=>exact .nil
 |cons h _ ih=>exact .cons h.2.2 ih
theorem KT.len {H:Hp}{kvs:List (List Ap×V)}{xs:List (List Ap×Addr×Value)}(r:KT H kvs xs):kvs.length=xs.length:=by
 induction r with
 |nil=>rfl
 |cons h _ ih=>rw[B6,B6,ih]
theorem Qd {X:Cx}{o:Expr}{td:TE}{p apos cpos pos:Pos}(hc:X.calm=true)(hgl:Gl X "list")(hml:X.mg "list"=none)(ho:PE X o td)
  (hbase:attributeBase o "values" X.env (eval o X.env)=eval o X.env:=by rfl) (hline:(apos.endLine==cpos.line)=true:=by rfl):PE X (.Call (.Name "list" p) [.Call (.Attribute o "values" apos) [] [] cpos] [] pos) (Tf td):=by
 intro pins s σ H Q I h
 refine Fm (En I hgl hml KW ?_ (by decide) (by decide))
 refine FS ?_ rfl rfl
 show wpAny _ _ (spliced ((false,eval (.Call (.Attribute o "values" apos) [] [] cpos) X.env)::backTo pos (starEach [] X.env))) _ _ s
 refine Calls.spliced_cons ?_
 refine wpAny_Call_method hbase rfl hline PySem.F.plainAttrs_dict PySem.F.slot_dict_values PySem.F.type_dict_values (As (ho pins s σ H _ I h) fun u s1 hx=>?_)
 obtain⟨x,H1,I1,rx,a,kvs,ex,d,q⟩:=hx
 subst ex
 obtain rfl:u=Value.ref a:=rx
 obtain⟨t1,t2,_⟩:=X5 I1 (.inr ⟨kvs,.inl d⟩)
 refine⟨t1,t2,?_⟩
 obtain⟨z,hd,xs,rel,od,es,ep,hod,_,hdd,hes,_⟩:=O5 I1.hok d
 refine Calls.callWith_builtin rfl (PySem.evalArgs_none ?_)
 refine call_meetsIn PySem.F.slot_dict_values t1 PySem.F.entry_dict_values (PySem.F.args_dict_values_1 _) (Rg a hd) ⟨t1,?_⟩
 refine Calls.spliced_nil ?_
 have esz:es.size=kvs.length:=by rw[←M7,hes,Ao,rel.len]
 refine PySem.W.kdl_call (s:={s1 with heap:=s1.heap.push {cls:=.type "dict_values",data:=.fields #[.ref a]}}) (WN (r:=s1.heap.objs.size) (d:=a) hdd) (I1.ok.hd hc) ⟨⟨_,BV _ rfl,rfl,rfl⟩,AI _ hod⟩ (by rw[esz];exact z) fun h' tk acc c' hk hl' hi=>?_
 have hsz:(s1.heap.push {cls:=.type "dict_values",data:=.fields #[.ref a]}).objs.size=s1.heap.objs.size+1:=Ho ..
 have hf:H1 (s1.heap.objs.size+1)=none:=I1.hok.fresh (GB _)
 change h'.get? (s1.heap.push {cls:=.type "dict_values",data:=.fields #[.ref a]}).objs.size=_ at hl'
 rw[hsz]at hl'
 have ea:acc.toList=xs.map (·.2.2):=by
  refine List.ext_getElem? fun j=>?_
  rw[C1,Array.getElem?_toList]
  cases c:acc[j]? with
  |
   none=>
   have:xs[j]?=none:=by
    rw[List.getElem?_eq_none_iff,←rel.len,←esz,←hi.1]
    exact Array.getElem?_eq_none_iff.mp c
   rw[this];rfl
  |
   some v=>
   obtain⟨e,he,rfl⟩:=hi.2 j v c
   have:es.toList[j]?=some e:=by rw[Array.getElem?_toList];exact he
   rw[hes,C1]at this
   cases c2:xs[j]? with
   |none=>rw[c2]at this;cases this
   |some x=>rw[c2]at this;cases this;rfl
 refine⟨.ref (s1.heap.objs.size+1),upd H1 (s1.heap.objs.size+1) (.lst (kvs.map (·.2))),I1.laid (t':=tk) (o:=.lst (kvs.map (·.2))) (fun b o e=>hk b o (AI _ e)) (GB _) ⟨by rw[Ao];exact z,acc.toList,c',by rw[ea];exact rel.vals,by simpa using hl'⟩,?_,q _ hf⟩
 show Value.ref _=Value.ref _
 rw[←hsz]
section
variable {X:Cx}{pins:List (Addr×Obj)}{s:Shared}{σ:St}{H:Hp}
end
end L2
namespace Fo
variable {W:Type}
end Fo
namespace PySem
open PySem.Spec PyProof.Rows
open AutoSeq1 (wpAny_loadPart')
theorem Xc (l:Addr)(k:Tok)(x:Value)(n:Nat)(dd:Option Addr)(sl:Array (Option Value)) :
  Meets (Builtin.«tuple.__mul__» ⟨[.ref l,.int 5 k],[]⟩) (fun _ R s=>s.heap.get? l=some {cls:=.type "tuple",dict:=dd,data:=.seq #[x] n,slots:=sl}/\R (.ok (.ret (Value.ref s.heap.objs.size))) {s with heap:=s.heap.push {cls:=Value.type "tuple",data:=Data.seq #[x,x,x,x,x]},toks:=s.toks}):=
 .of_wp fun prog w A R s h=>by obtain⟨hp,g,d,tk,os⟩:=s;obtain⟨hl,h⟩:=h;have f1:=AutoSeq1.idx_int;have f2:=AutoSeq1.sub_tuple_tuple;wp_walk using wpAny_loadPart' hl;exact⟨_,rfl,h⟩
theorem Uc (l:Addr)(k:Tok)(x:Value)(n:Nat)(dd:Option Addr)(sl:Array (Option Value)) :
  Meets (Builtin.«tuple.__mul__» ⟨[.ref l,.int 6 k],[]⟩) (fun _ R s=>s.heap.get? l=some {cls:=.type "tuple",dict:=dd,data:=.seq #[x] n,slots:=sl}/\R (.ok (.ret (Value.ref s.heap.objs.size))) {s with heap:=s.heap.push {cls:=Value.type "tuple",data:=Data.seq #[x,x,x,x,x,x]},toks:=s.toks}):=
 .of_wp fun prog w A R s h=>by obtain⟨hp,g,d,tk,os⟩:=s;obtain⟨hl,h⟩:=h;have f1:=AutoSeq1.idx_int;have f2:=AutoSeq1.sub_tuple_tuple;wp_walk using wpAny_loadPart' hl;exact⟨_,rfl,h⟩
end PySem
namespace L2
open PySem PySem.Spec PyProof.Rows
def Tq:R2:=fun x y H Q=>∃(a:Addr) (k:Nat) (v:V),x = .ref a/\y = .int (k:Int)/\H a=some (.tup [v])/\k<=6/\∀(p:Addr) (H':Hp),Aa H H'->H' p=some (.tup (List.replicate k v))->Q (.ref p) H'
theorem Vk {X:Cx}:BP X (binaryOp .Mult) Tq:=by
 intro pins s σ H x y v u Q I rx ry h
 obtain⟨a,k,vv,rfl,rfl,ha,h6,q⟩:=h
 cases rx
 obtain⟨t,rfl⟩:=ry
 obtain⟨its,r1,p1,_⟩:=I.tuple (A8.of ha)
 obtain⟨uu,rfl,ru⟩:=FC r1
 obtain⟨⟨cls,dd,data,sl⟩,ho,hc,n,hd⟩:=id p1
 simp only at hc hd
 subst hc hd
 refine wpAny_binaryOp_repeat_ref (T:="tuple") (U:="int") (by decide) ⟨_,ho,rfl⟩ (fun s'=>typeIs_int s' (k:Int) t) Xd F.fills_int_mul F.slot_int_rmul SO F.slot_int_index.lookup ?_
 refine Fn F.slot_int_rmul (typeIs_int _ _ _) F.entry_int_rmul (F.args_int_rmul_2 _ _) (QY (k:Int) t a _ n dd sl) ⟨ho,rfl,⟨_,ho,rfl⟩,?_⟩
 have new:∀(its:List Value),Aw (List.replicate k vv) its->EP X pins σ Q (Value.ref s.heap.objs.size) {s with heap:=s.heap.push {cls:=Value.type "tuple",data:=Data.seq its.toArray},toks:=s.toks}:=fun its r=>
  ⟨.ref s.heap.objs.size,_,I.laid (t':=s.toks) (o:=.tup (List.replicate k vv)) (fun b o e=>AI _ e) (An _) ⟨Bo (by rw[Pn];omega),its,r,EH.new _ _⟩,rfl,q _ _ (Ab (I.hok.fresh (An _)) _) A6⟩
 have:k=0\/k=1\/k=2\/k=3\/k=4\/k=5\/k=6:=by omega
 rcases this with rfl|rfl|rfl|rfl|rfl|rfl|rfl
 .refine Fn F.slot_tuple_mul ⟨_,ho,rfl⟩ F.entry_tuple_mul (F.args_tuple_mul_2 _ _) (V7 a t _ n dd sl (by simp)) ⟨ho,new [] .nil⟩
 .exact Fn F.slot_tuple_mul ⟨_,ho,rfl⟩ F.entry_tuple_mul (F.args_tuple_mul_2 _ _) (Qq a t _ n dd sl) ⟨ho,⟨.ref a,H,I,rfl,q a H (Aa.refl _) ha⟩⟩
 .exact Fn F.slot_tuple_mul ⟨_,ho,rfl⟩ F.entry_tuple_mul (F.args_tuple_mul_2 _ _) (VI a t uu n dd sl) ⟨ho,new [uu,uu] (.cons ru (.cons ru .nil))⟩
 .exact Fn F.slot_tuple_mul ⟨_,ho,rfl⟩ F.entry_tuple_mul (F.args_tuple_mul_2 _ _) (QH a t uu n dd sl) ⟨ho,new [uu,uu,uu] (.cons ru (.cons ru (.cons ru .nil)))⟩
 .exact Fn F.slot_tuple_mul ⟨_,ho,rfl⟩ F.entry_tuple_mul (F.args_tuple_mul_2 _ _) (RB a t uu n dd sl) ⟨ho,new [uu,uu,uu,uu] (.cons ru (.cons ru (.cons ru (.cons ru .nil))))⟩
 .exact Fn F.slot_tuple_mul ⟨_,ho,rfl⟩ F.entry_tuple_mul (F.args_tuple_mul_2 _ _) (Xc a t uu n dd sl) ⟨ho,new [uu,uu,uu,uu,uu] (.cons ru (.cons ru (.cons ru (.cons ru (.cons ru .nil)))))⟩
 .exact Fn F.slot_tuple_mul ⟨_,ho,rfl⟩ F.entry_tuple_mul (F.args_tuple_mul_2 _ _) (Uc a t uu n dd sl) ⟨ho,new [uu,uu,uu,uu,uu,uu] (.cons ru (.cons ru (.cons ru (.cons ru (.cons ru (.cons ru .nil))))))⟩
end L2
namespace HU
open PySem PySem.Spec
section
variable {prog:Program}{w:World}{A:Around}{E:Value->Shared->Prop}{s:Shared}
end
end HU
namespace L2
open PySem PySem.Spec PyProof.Rows
end L2
namespace Fw
open PySem L2 Bd
def AR (i:Nat):Stmt:=PySem.Challenge.pw_furrow_k32_too_many.main.body.getD i (.Pass ⟨0,0,0,0⟩)
abbrev Lv:Stmt:=Fe (AR 18) 0
abbrev LH:Stmt:=Fe (AR 20) 0
abbrev JS:Stmt:=Fe (AR 5) 0
abbrev JN:Stmt:=Fe (AR 6) 0
abbrev Je:Stmt:=Fe (AR 7) 0
abbrev Kl:Stmt:=Fe (AR 8) 0
abbrev Kf:Stmt:=Fe (AR 10) 0
abbrev Kr:Stmt:=Fe (AR 11) 0
abbrev Kh:Stmt:=Fe (AR 26) 0
abbrev IS:Stmt:=AR 2
abbrev Kk:Stmt:=AR 3
abbrev Jc:Stmt:=AR 12
abbrev JF:Stmt:=AR 13
abbrev JL:Stmt:=AR 14
abbrev JE:Stmt:=AR 15
abbrev K0:Stmt:=AR 27
abbrev Ka:Stmt:=AR 28
abbrev JG:Stmt:=AR 29
abbrev Ie:Stmt:=AR 30
abbrev Jo:Stmt:=AR 31
abbrev Kg:Stmt:=AR 32
abbrev Jj:Stmt:=AR 33
abbrev Kb:Stmt:=AR 34
abbrev JB:Stmt:=AR 35
abbrev Ju:Stmt:=AR 37
abbrev K8:Stmt:=AR 38
abbrev Jg:Stmt:=AR 39
abbrev Jf:Stmt:=AR 40
abbrev Ji:Stmt:=AR 41
abbrev JY:Stmt:=AR 42
abbrev J9:Stmt:=AR 43
abbrev Im:Stmt:=AR 44
abbrev FL:Stmt:=AR 45
abbrev Kd:Stmt:=AR 46
abbrev Ki:Stmt:=AR 47
abbrev Jh:Stmt:=AR 48
abbrev K4:Stmt:=AR 49
abbrev JU:Stmt:=AR 50
abbrev HI:Stmt:=AR 51
abbrev K7:Stmt:=AR 52
abbrev Jr:Stmt:=AR 53
abbrev JV:Stmt:=AR 54
abbrev JM:Stmt:=AR 55
abbrev K3:Stmt:=AR 56
abbrev JD:Stmt:=AR 57
abbrev Ko:Stmt:=AR 58
abbrev JA:Stmt:=AR 59
abbrev JC:Stmt:=AR 60
theorem AV {N P:List Str}{sc:Scope}(a:sc.kind = .function:=by rfl)(b:sc.isCoroutine=false:=by rfl)(c:sc.isGenerator=false:=by rfl)(d:N.Nodup:=by decide +kernel)(e:N.take P.length=P:=by rfl)(f:∀x∈P,sc.names.lookup x=some .local\/sc.names.lookup x=some .cell:=by decide +kernel)(g:∀y∈sc.names,y.2≠.free:=by decide +kernel):AK N P sc:=⟨a,b,c,d,e,f,g⟩
theorem Us:AK ["self","n"] ["self","n"] (Au JS):=AV
theorem Xr:AK ["self","name"] ["self","name"] (Au JN):=AV
theorem Ss:AK ["self","table","spots"] ["self","table","spots"] (Au Je):=AV
theorem XE:AK ["self","sign","left","right"] ["self","sign","left","right"] (Au Kl):=AV
theorem Vt:AK ["self","names","lows","highs","table","spots","term","path"] ["self","names","lows","highs","table","spots","term","path"] (Au Kf):=AV
theorem Wy:AK ["self","size","deeds"] ["self","size","deeds"] (Au Kr):=AV
theorem UP:AK ["self","deeds","most"] ["self","deeds","most"] (Au Kh):=AV
theorem Qm:AK ["spots","values"] ["spots","values"] (Au IS):=AV
theorem Q8:AK ["spot","values"] ["spot","values"] (Au Kk):=AV
theorem WU:AK ["deed","values"] ["deed","values"] (Au Jc):=AV
theorem Rj:AK ["deeds"] ["deeds"] (Au JF):=AV
theorem JK:AK ["deeds","numbers","depth","items","group","k"] ["deeds","numbers","depth"] (Au JL):=AV
theorem L9:AK ["deeds","numbers","depth","groups","k"] ["deeds","numbers","depth"] (Au JE):=AV
theorem Lj:AK ["program","most","items","walk"] ["program","most"] (Au K0):=AV
theorem P1:AK ["deeds","walk"] ["deeds"] (Au Ka):=AV
theorem TL:AK ["walk","many"] ["walk","many"] (Au JG):=AV
theorem QC:AK ["items"] ["items"] (Au Ie):=AV
theorem LX:AK ["walk","items","values","k","inner"] ["walk","items","values"] (Au Jo):=AV
theorem HP:AK ["walk","k","items","values","bounds","many","deeds","value"] ["walk","k","items","values"] (Au Kg):=AV
theorem NQ:AK ["deed","values","e"] ["deed","values"] (Au Jj):=AV
theorem LP:AK ["walk","items","values","k","inner"] ["walk","items","values"] (Au Kb):=AV
theorem L8:AK ["walk","k","items","values","bounds","value"] ["walk","k","items","values"] (Au JB):=AV
theorem Hm:AK ["_law_script","_law_k","_law_number"] ["_law_script","_law_k"] (Au Ju):=AV
theorem OJ:AK ["_law_cell_here","_law_k","_law_number"] ["_law_cell_here","_law_k"] (Au K8):=AV
theorem ER:AK ["_law_cell_here","_law_e","_law_some","_law_number","_law_word","_law_k","_law_at","_law_name_here"] ["_law_cell_here","_law_e"] (Au Jg):=AV
theorem HS:AK ["_law_number","_law_bases","_law_many_here","_law_off","_law_spots_here","_law_k","_law_part","_law_base"] ["_law_number","_law_bases","_law_many_here","_law_off"] (Au Jf):=AV
theorem JZ:AK ["_law_number","_law_bases","_law_heads_here","_law_table","_law_many_here","_law_off"] ["_law_number","_law_bases","_law_heads_here"] (Au Ji):=AV
theorem Ly:AK ["_law_number","_law_bases","_law_heads_here","_law_table","_law_spots_here"] ["_law_number","_law_bases","_law_heads_here"] (Au JY):=AV
theorem G9:AK ["_law_cell_here","_law_bases","_law_heads_here","_law_term_here","_law_k","_law_sign","_law_leaf_here"] ["_law_cell_here","_law_bases","_law_heads_here"] (Au J9):=AV
theorem EJ:AK ["_law_number","_law_far_here","_law_stack","_law_cell_here","_law_about","_law_bases","_law_low","_law_high","_law_more","_law_low_spot","_law_turn","_law_name_here"] ["_law_number","_law_far_here","_law_stack","_law_cell_here"] (Au Im):=AV
theorem Gi:AK ["_law_cell_here","_law_stack","_law_path","_law_heads_here","_law_bases","_law_names","_law_lows","_law_highs","_law_table","_law_spots_here"] ["_law_cell_here","_law_stack","_law_path","_law_heads_here"] (Au FL):=AV
theorem GK:AK ["_law_script","_law_cell_here","_law_number","_law_off","_law_heads_here","_law_t"] ["_law_script"] (Au Kd):=AV
theorem BX:AK ["_law_script","_law_many_here","_law_far_here","_law_stack","_law_counts","_law_path","_law_rows_here","_law_k","_law_cell_here","_law_number","_law_closed","_law_close","_law_opens","_law_e","_law_loop_here"] ["_law_script","_law_many_here"] (Au Ki):=AV
theorem V8:AK ["_law_script"] ["_law_script"] (Au Jh):=AV
theorem OA:AK ["_law_script","_law_cell_here"] ["_law_script"] (Au K4):=AV
theorem Wt:AK ["_law_term_here"] ["_law_term_here"] (Au JU):=AV
theorem OO:AK ["_law_size_here","_law_rows_here","_law_deeds"] ["_law_size_here","_law_rows_here"] (Au HI):=AV
theorem JX:AK ["_law_names","_law_values","_law_around_here","_law_name_here","_law_value"] ["_law_names","_law_values"] (Au K7):=AV
theorem Jq:AK ["_law_spots_here","_law_around_here","_law_place","_law_name_here","_law_n"] ["_law_spots_here","_law_around_here"] (Au Jr):=AV
theorem FE:AK ["_law_row_here","_law_levels_here","_law_e","_law_level","_law_values","_law_low","_law_high"] ["_law_row_here"] (Au JV):=AV
theorem VN:AK ["_law_e"] ["_law_e"] (Au JM):=AV
theorem OG:AK ["_law_program","_law_bound","_law_e"] ["_law_program","_law_bound"] (Au K3):=AV
theorem RS:AK ["_law_program","_law_bound","_law_many_here"] ["_law_program","_law_bound","_law_many_here"] (Au JD):=AV
theorem G0:AK ["_law_rows_here","_law_loops","_law_deeds","_law_row_here","_law_levels_here","_law_e"] ["_law_rows_here"] (Au Ko):=AV
theorem FO:AK ["_law_script","_law_cell_here","_law_names","_law_low","_law_high","_law_depth","_law_lows","_law_highs"] ["_law_script"] (Au JA):=AV
theorem Ff:AK ["_law_script","_law_pick","_law_size_here","_law_rows_here","_law_program","_law_loops","_law_deeds","_law_many_here","_law_bound"] ["_law_script"] (Au JC):=AV
theorem UE:Ed (Fz [(".0",.local),("_law_one",.local)]) (Au Im) ["_law_number","_law_far_here","_law_stack","_law_cell_here","_law_about","_law_bases","_law_low","_law_high","_law_more","_law_low_spot","_law_turn","_law_name_here"] ["_law_one"] [none]=true:=by decide +kernel
theorem V9:(["_law_one"]:List Str).Nodup:=by decide +kernel
theorem Ww:Ed (Fz [(".0",.local),("_law_one",.local)]) (Au FL) ["_law_cell_here","_law_stack","_law_path","_law_heads_here","_law_bases","_law_names","_law_lows","_law_highs","_law_table","_law_spots_here"] ["_law_one"] [none]=true:=by decide +kernel
theorem Qh:(["_law_one"]:List Str).Nodup:=by decide +kernel
theorem Up:Ed (Fz [(".0",.local),("_law_one",.local)]) (Au FL) ["_law_cell_here","_law_stack","_law_path","_law_heads_here","_law_bases","_law_names","_law_lows","_law_highs","_law_table","_law_spots_here"] ["_law_one"] [none]=true:=by decide +kernel
theorem S6:(["_law_one"]:List Str).Nodup:=by decide +kernel
theorem WG:Ed (Fz [(".0",.local),("_law_one",.local)]) (Au FL) ["_law_cell_here","_law_stack","_law_path","_law_heads_here","_law_bases","_law_names","_law_lows","_law_highs","_law_table","_law_spots_here"] ["_law_one"] [none]=true:=by decide +kernel
theorem Sd:(["_law_one"]:List Str).Nodup:=by decide +kernel
theorem Ve:Ed (Fz [(".0",.local),("_law_one",.local)]) (Au FL) ["_law_cell_here","_law_stack","_law_path","_law_heads_here","_law_bases","_law_names","_law_lows","_law_highs","_law_table","_law_spots_here"] ["_law_one"] [none]=true:=by decide +kernel
theorem T4:(["_law_one"]:List Str).Nodup:=by decide +kernel
theorem QK:Ed (Fz [(".0",.local),("spot",.local),("stood_for",.globalImplicit),("values",.free)]) (Au IS) ["spots","values"] ["spot","values"] [none,some 1]=true:=by decide +kernel
theorem Wm:(["spot","values"]:List Str).Nodup:=by decide +kernel
theorem WM:Ed (Fz [(".0",.local),("k",.local),("inner",.local)]) (Au Ie) ["items"] ["k","inner"] [none,none]=true:=by decide +kernel
theorem MI:(["k","inner"]:List Str).Nodup:=by decide +kernel
theorem SD:Ed (Fz [(".0",.local),("_law_row_here",.local),("Deed",.globalImplicit),("_law_object",.globalImplicit)]) (Au HI) ["_law_size_here","_law_rows_here","_law_deeds"] ["_law_row_here"] [none]=true:=by decide +kernel
theorem Wi:(["_law_row_here"]:List Str).Nodup:=by decide +kernel
structure B3 (K:XJ)(x:Str)(st:Stmt)(f:Addr)(d:FuncData):Prop where
 a:PySem.W.nsIn K mainGlobals x=some (some (.ref f))
 F:AB K x x st f d
structure Fh (K:XJ)(C:Addr)(x q:Str)(st:Stmt)(f:Addr)(d:FuncData):Prop where
 a:PySem.W.findIn K (.ref C) x=some (some (.ref f))
 i:PySem.W.isFn K (.ref f)=true
 F:AB K x q st f d
structure ClA (K:XJ)(C:Addr)(x:Str):Prop where
 a:PySem.W.nsIn K mainGlobals x=some (some (.ref C))
 pg:PySem.W.plainGet K C Str.empty=true
 hd:PySem.W.hasDictIn K C=true
 po:PySem.W.plainOver K C=true
 sa:PySem.W.findIn K (.ref C) "__setattr__"=some (some (.builtin "object.__setattr__"))
 mi:PySem.W.makesIn K C=true
 kc:PySem.W.keepIn K (.ref C)=true
abbrev AQ (x q:Str)(st:Stmt)(ps:List Str):Prop := ∀(kV doc pm:Value) (an:Option Addr) (cdv ct:Value) (us:List Value),us.length=ps.length->bindArgs (PySem.W.fnOf x q (IT st) (Fq st) (Au st) .none kV doc pm an cdv ct) ⟨us,[]⟩=pure (ps.zip us)
set_option genSizeOf false in
set_option genInjectivity false in
structure Ad where
 f_U:Addr
 d_U:FuncData
 f_V:Addr
 d_V:FuncData
 f_O:Addr
 d_O:FuncData
 f_P:Addr
 d_P:FuncData
 f_Q:Addr
 d_Q:FuncData
 f_R:Addr
 d_R:FuncData
 f_S:Addr
 d_S:FuncData
 f_T:Addr
 d_T:FuncData
 f_r:Addr
 d_r:FuncData
 f_s:Addr
 d_s:FuncData
 f_t:Addr
 d_t:FuncData
 f_u:Addr
 d_u:FuncData
 f_i:Addr
 d_i:FuncData
 f_j:Addr
 d_j:FuncData
 f_v:Addr
 d_v:FuncData
 f_k:Addr
 d_k:FuncData
 f_w:Addr
 d_w:FuncData
 f_l:Addr
 d_l:FuncData
 f_m:Addr
 d_m:FuncData
 f_g:Addr
 d_g:FuncData
 f_x:Addr
 d_x:FuncData
 f_n:Addr
 d_n:FuncData
 f_h:Addr
 d_h:FuncData
 f_y:Addr
 d_y:FuncData
 f_b:Addr
 d_b:FuncData
 f_a:Addr
 d_a:FuncData
 f_c:Addr
 d_c:FuncData
 f_z:Addr
 d_z:FuncData
 f_o:Addr
 d_o:FuncData
 f_p:Addr
 d_p:FuncData
 f_A:Addr
 d_A:FuncData
 f_B:Addr
 d_B:FuncData
 f_C:Addr
 d_C:FuncData
 f_D:Addr
 d_D:FuncData
 f_E:Addr
 d_E:FuncData
 f_F:Addr
 d_F:FuncData
 f_G:Addr
 d_G:FuncData
 f_d:Addr
 d_d:FuncData
 f_q:Addr
 d_q:FuncData
 f_H:Addr
 d_H:FuncData
 f_I:Addr
 d_I:FuncData
 f_J:Addr
 d_J:FuncData
 f_N:Addr
 d_N:FuncData
 f_e:Addr
 d_e:FuncData
 f_f:Addr
 d_f:FuncData
 f_K:Addr
 d_K:FuncData
 f_L:Addr
 d_L:FuncData
 f_M:Addr
 d_M:FuncData
 c_Term:Addr
 c_Number:Addr
 c_Value:Addr
 c_Cell:Addr
 c_Joined:Addr
 c_Deed:Addr
 c_Program:Addr
 c_Walk:Addr
 c_FurrowError:Addr
 c_NoText:Addr
 c_TooMany:Addr
 c_NoValues:Addr
 c_NoPlan:Addr
 c_NoWidth:Addr
 c_NoTurning:Addr
 c_BadPlan:Addr
structure Tx (K:XJ)(mg:Str->Option Value)(a:Ad):Prop where
 F_U:AB K "__init__" "NoText.__init__" Lv a.f_U a.d_U
 b_U:AG K a.d_U ["self","line"] []
 F_V:AB K "__init__" "NoValues.__init__" LH a.f_V a.d_V
 b_V:AG K a.d_V ["self","ring"] []
 F_O:AB K "__init__" "Number.__init__" JS a.f_O a.d_O
 b_O:AG K a.d_O ["self","n"] []
 F_P:AB K "__init__" "Value.__init__" JN a.f_P a.d_P
 b_P:AG K a.d_P ["self","name"] []
 F_Q:AB K "__init__" "Cell.__init__" Je a.f_Q a.d_Q
 b_Q:AG K a.d_Q ["self","table","spots"] []
 F_R:AB K "__init__" "Joined.__init__" Kl a.f_R a.d_R
 b_R:AG K a.d_R ["self","sign","left","right"] []
 F_S:AB K "__init__" "Deed.__init__" Kf a.f_S a.d_S
 b_S:AG K a.d_S ["self","names","lows","highs","table","spots","term","path"] []
 F_T:AB K "__init__" "Program.__init__" Kr a.f_T a.d_T
 b_T:AG K a.d_T ["self","size","deeds"] []
 F_r:AB K "__init__" "Walk.__init__" Kh a.f_r a.d_r
 b_r:AG K a.d_r ["self","deeds","most"] []
 F_s:AB K "placed" "placed" IS a.f_s a.d_s
 b_s:AG K a.d_s ["spots","values"] []
 m_s:mg "placed"=some (.ref a.f_s)
 F_t:AB K "stood_for" "stood_for" Kk a.f_t a.d_t
 b_t:AG K a.d_t ["spot","values"] []
 m_t:mg "stood_for"=some (.ref a.f_t)
 F_u:AB K "named" "named" Jc a.f_u a.d_u
 b_u:AG K a.d_u ["deed","values"] []
 m_u:mg "named"=some (.ref a.f_u)
 F_i:AB K "nested" "nested" JF a.f_i a.d_i
 b_i:AG K a.d_i ["deeds"] []
 m_i:mg "nested"=some (.ref a.f_i)
 F_j:AB K "items_within" "items_within" JL a.f_j a.d_j
 b_j:AG K a.d_j ["deeds","numbers","depth"] []
 m_j:mg "items_within"=some (.ref a.f_j)
 F_v:AB K "neighbours" "neighbours" JE a.f_v a.d_v
 b_v:AG K a.d_v ["deeds","numbers","depth"] []
 m_v:mg "neighbours"=some (.ref a.f_v)
 F_k:AB K "turns" "turns" K0 a.f_k a.d_k
 b_k:AG K a.d_k ["program","most"] []
 m_k:mg "turns"=some (.ref a.f_k)
 F_w:AB K "every_turn" "every_turn" Ka a.f_w a.d_w
 b_w:AG K a.d_w ["deeds"] []
 m_w:mg "every_turn"=some (.ref a.f_w)
 F_l:AB K "take_room" "take_room" JG a.f_l a.d_l
 b_l:AG K a.d_l ["walk","many"] []
 m_l:mg "take_room"=some (.ref a.f_l)
 F_m:AB K "deeds_among" "deeds_among" Ie a.f_m a.d_m
 b_m:AG K a.d_m ["items"] []
 m_m:mg "deeds_among"=some (.ref a.f_m)
 F_g:AB K "count_loops" "count_loops" Jo a.f_g a.d_g
 b_g:AG K a.d_g ["walk","items","values"] []
 m_g:mg "count_loops"=some (.ref a.f_g)
 F_x:AB K "count_loop" "count_loop" Kg a.f_x a.d_x
 b_x:AG K a.d_x ["walk","k","items","values"] []
 m_x:mg "count_loop"=some (.ref a.f_x)
 F_n:AB K "bounds_of" "bounds_of" Jj a.f_n a.d_n
 b_n:AG K a.d_n ["deed","values"] []
 m_n:mg "bounds_of"=some (.ref a.f_n)
 F_h:AB K "tell_items" "tell_items" Kb a.f_h a.d_h
 b_h:AG K a.d_h ["walk","items","values"] []
 m_h:mg "tell_items"=some (.ref a.f_h)
 F_y:AB K "tell_loop" "tell_loop" JB a.f_y a.d_y
 b_y:AG K a.d_y ["walk","k","items","values"] []
 m_y:mg "tell_loop"=some (.ref a.f_y)
 F_b:AB K "_law_cell" "_law_cell" Ju a.f_b a.d_b
 b_b:AG K a.d_b ["_law_script","_law_k"] []
 m_b:mg "_law_cell"=some (.ref a.f_b)
 F_a:AB K "_law_mixed" "_law_mixed" K8 a.f_a a.d_a
 b_a:AG K a.d_a ["_law_cell_here","_law_k"] []
 m_a:mg "_law_mixed"=some (.ref a.f_a)
 F_c:AB K "_law_name" "_law_name" Jg a.f_c a.d_c
 b_c:AG K a.d_c ["_law_cell_here","_law_e"] []
 m_c:mg "_law_name"=some (.ref a.f_c)
 F_z:AB K "_law_spots" "_law_spots" Jf a.f_z a.d_z
 b_z:AG K a.d_z ["_law_number","_law_bases","_law_many_here","_law_off"] []
 m_z:mg "_law_spots"=some (.ref a.f_z)
 F_o:AB K "_law_cell_of" "_law_cell_of" Ji a.f_o a.d_o
 b_o:AG K a.d_o ["_law_number","_law_bases","_law_heads_here"] []
 m_o:mg "_law_cell_of"=some (.ref a.f_o)
 F_p:AB K "_law_leaf" "_law_leaf" JY a.f_p a.d_p
 b_p:AG K a.d_p ["_law_number","_law_bases","_law_heads_here"] []
 m_p:mg "_law_leaf"=some (.ref a.f_p)
 F_A:AB K "_law_term" "_law_term" J9 a.f_A a.d_A
 b_A:AG K a.d_A ["_law_cell_here","_law_bases","_law_heads_here"] []
 m_A:mg "_law_term"=some (.ref a.f_A)
 F_B:AB K "_law_loop" "_law_loop" Im a.f_B a.d_B
 b_B:AG K a.d_B ["_law_number","_law_far_here","_law_stack","_law_cell_here"] []
 m_B:mg "_law_loop"=some (.ref a.f_B)
 F_C:AB K "_law_row" "_law_row" FL a.f_C a.d_C
 b_C:AG K a.d_C ["_law_cell_here","_law_stack","_law_path","_law_heads_here"] []
 m_C:mg "_law_row"=some (.ref a.f_C)
 F_D:AB K "_law_heads" "_law_heads" Kd a.f_D a.d_D
 b_D:AG K a.d_D ["_law_script"] []
 m_D:mg "_law_heads"=some (.ref a.f_D)
 F_E:AB K "_law_rows" "_law_rows" Ki a.f_E a.d_E
 b_E:AG K a.d_E ["_law_script","_law_many_here"] []
 m_E:mg "_law_rows"=some (.ref a.f_E)
 F_F:AB K "_law_many" "_law_many" Jh a.f_F a.d_F
 b_F:AG K a.d_F ["_law_script"] []
 m_F:mg "_law_many"=some (.ref a.f_F)
 F_G:AB K "_law_size" "_law_size" K4 a.f_G a.d_G
 b_G:AG K a.d_G ["_law_script"] []
 m_G:mg "_law_size"=some (.ref a.f_G)
 F_d:AB K "_law_object" "_law_object" JU a.f_d a.d_d
 b_d:AG K a.d_d ["_law_term_here"] []
 m_d:mg "_law_object"=some (.ref a.f_d)
 F_q:AB K "_law_made" "_law_made" HI a.f_q a.d_q
 b_q:AG K a.d_q ["_law_size_here","_law_rows_here"] []
 m_q:mg "_law_made"=some (.ref a.f_q)
 F_H:AB K "_law_around" "_law_around" K7 a.f_H a.d_H
 b_H:AG K a.d_H ["_law_names","_law_values"] []
 m_H:mg "_law_around"=some (.ref a.f_H)
 F_I:AB K "_law_stand" "_law_stand" Jr a.f_I a.d_I
 b_I:AG K a.d_I ["_law_spots_here","_law_around_here"] []
 m_I:mg "_law_stand"=some (.ref a.f_I)
 F_J:AB K "_law_levels" "_law_levels" JV a.f_J a.d_J
 b_J:AG K a.d_J ["_law_row_here"] []
 m_J:mg "_law_levels"=some (.ref a.f_J)
 F_N:AB K "_law_plain" "_law_plain" JM a.f_N a.d_N
 b_N:AG K a.d_N ["_law_e"] []
 m_N:mg "_law_plain"=some (.ref a.f_N)
 F_e:AB K "_law_refused" "_law_refused" K3 a.f_e a.d_e
 b_e:AG K a.d_e ["_law_program","_law_bound"] []
 m_e:mg "_law_refused"=some (.ref a.f_e)
 F_f:AB K "_law_told" "_law_told" JD a.f_f a.d_f
 b_f:AG K a.d_f ["_law_program","_law_bound","_law_many_here"] []
 m_f:mg "_law_told"=some (.ref a.f_f)
 F_K:AB K "_law_counted" "_law_counted" Ko a.f_K a.d_K
 b_K:AG K a.d_K ["_law_rows_here"] []
 m_K:mg "_law_counted"=some (.ref a.f_K)
 F_L:AB K "_law_far" "_law_far" JA a.f_L a.d_L
 b_L:AG K a.d_L ["_law_script"] []
 m_L:mg "_law_far"=some (.ref a.f_L)
 F_M:AB K "law" "law" JC a.f_M a.d_M
 b_M:AG K a.d_M ["_law_script"] []
 m_M:mg "law"=some (.ref a.f_M)
 cl_Term:Du K a.c_Term
 mc_Term:mg "Term"=some (.ref a.c_Term)
 cl_Number:Du K a.c_Number
 mc_Number:mg "Number"=some (.ref a.c_Number)
 mk_Number:Mk K a.c_Number a.f_O
 n_Number_n:BB K a.c_Number "n"
 cl_Value:Du K a.c_Value
 mc_Value:mg "Value"=some (.ref a.c_Value)
 mk_Value:Mk K a.c_Value a.f_P
 n_Value_name:BB K a.c_Value "name"
 cl_Cell:Du K a.c_Cell
 mc_Cell:mg "Cell"=some (.ref a.c_Cell)
 mk_Cell:Mk K a.c_Cell a.f_Q
 n_Cell_table:BB K a.c_Cell "table"
 n_Cell_spots:BB K a.c_Cell "spots"
 cl_Joined:Du K a.c_Joined
 mc_Joined:mg "Joined"=some (.ref a.c_Joined)
 mk_Joined:Mk K a.c_Joined a.f_R
 n_Joined_sign:BB K a.c_Joined "sign"
 n_Joined_left:BB K a.c_Joined "left"
 n_Joined_right:BB K a.c_Joined "right"
 cl_Deed:Du K a.c_Deed
 mc_Deed:mg "Deed"=some (.ref a.c_Deed)
 mk_Deed:Mk K a.c_Deed a.f_S
 n_Deed_names:BB K a.c_Deed "names"
 n_Deed_lows:BB K a.c_Deed "lows"
 n_Deed_highs:BB K a.c_Deed "highs"
 n_Deed_table:BB K a.c_Deed "table"
 n_Deed_spots:BB K a.c_Deed "spots"
 n_Deed_term:BB K a.c_Deed "term"
 n_Deed_path:BB K a.c_Deed "path"
 cl_Program:Du K a.c_Program
 mc_Program:mg "Program"=some (.ref a.c_Program)
 mk_Program:Mk K a.c_Program a.f_T
 n_Program_size:BB K a.c_Program "size"
 n_Program_deeds:BB K a.c_Program "deeds"
 cl_Walk:Du K a.c_Walk
 mc_Walk:mg "Walk"=some (.ref a.c_Walk)
 mk_Walk:Mk K a.c_Walk a.f_r
 n_Walk_deeds:BB K a.c_Walk "deeds"
 n_Walk_room:BB K a.c_Walk "room"
 n_Walk_told:BB K a.c_Walk "told"
 mc_FurrowError:mg "FurrowError"=some (.ref a.c_FurrowError)
 xi_FurrowError:XI K a.c_FurrowError
 ct_FurrowError:∃N,∀h,K.In h->EX.ClsT h a.c_FurrowError N (([]:List Addr).map Value.ref++EX.bmVE)
 xm_FurrowError:Gx K a.c_FurrowError
 is_FurrowError_FurrowError:PySem.W.kitOne K (.ref a.c_FurrowError) (.ref a.c_FurrowError)=some true
 is_FurrowError_NoText:PySem.W.kitOne K (.ref a.c_FurrowError) (.ref a.c_NoText)=some false
 is_FurrowError_TooMany:PySem.W.kitOne K (.ref a.c_FurrowError) (.ref a.c_TooMany)=some false
 is_FurrowError_NoValues:PySem.W.kitOne K (.ref a.c_FurrowError) (.ref a.c_NoValues)=some false
 is_FurrowError_NoPlan:PySem.W.kitOne K (.ref a.c_FurrowError) (.ref a.c_NoPlan)=some false
 is_FurrowError_NoWidth:PySem.W.kitOne K (.ref a.c_FurrowError) (.ref a.c_NoWidth)=some false
 is_FurrowError_NoTurning:PySem.W.kitOne K (.ref a.c_FurrowError) (.ref a.c_NoTurning)=some false
 is_FurrowError_BadPlan:PySem.W.kitOne K (.ref a.c_FurrowError) (.ref a.c_BadPlan)=some false
 kv_FurrowError:PySem.W.kitOne K (.ref a.c_FurrowError) (.type "ValueError")=some true
 mc_NoText:mg "NoText"=some (.ref a.c_NoText)
 xi_NoText:XI K a.c_NoText
 ct_NoText:∃N,∀h,K.In h->EX.ClsT h a.c_NoText N (([a.c_FurrowError]:List Addr).map Value.ref++EX.bmVE)
 xm_NoText:OF K a.c_NoText a.f_U
 n_NoText_line:BB K a.c_NoText "line"
 is_NoText_FurrowError:PySem.W.kitOne K (.ref a.c_NoText) (.ref a.c_FurrowError)=some true
 is_NoText_NoText:PySem.W.kitOne K (.ref a.c_NoText) (.ref a.c_NoText)=some true
 is_NoText_TooMany:PySem.W.kitOne K (.ref a.c_NoText) (.ref a.c_TooMany)=some false
 is_NoText_NoValues:PySem.W.kitOne K (.ref a.c_NoText) (.ref a.c_NoValues)=some false
 is_NoText_NoPlan:PySem.W.kitOne K (.ref a.c_NoText) (.ref a.c_NoPlan)=some false
 is_NoText_NoWidth:PySem.W.kitOne K (.ref a.c_NoText) (.ref a.c_NoWidth)=some false
 is_NoText_NoTurning:PySem.W.kitOne K (.ref a.c_NoText) (.ref a.c_NoTurning)=some false
 is_NoText_BadPlan:PySem.W.kitOne K (.ref a.c_NoText) (.ref a.c_BadPlan)=some false
 kv_NoText:PySem.W.kitOne K (.ref a.c_NoText) (.type "ValueError")=some true
 mc_TooMany:mg "TooMany"=some (.ref a.c_TooMany)
 xi_TooMany:XI K a.c_TooMany
 ct_TooMany:∃N,∀h,K.In h->EX.ClsT h a.c_TooMany N (([a.c_FurrowError]:List Addr).map Value.ref++EX.bmVE)
 xm_TooMany:Gx K a.c_TooMany
 is_TooMany_FurrowError:PySem.W.kitOne K (.ref a.c_TooMany) (.ref a.c_FurrowError)=some true
 is_TooMany_NoText:PySem.W.kitOne K (.ref a.c_TooMany) (.ref a.c_NoText)=some false
 is_TooMany_TooMany:PySem.W.kitOne K (.ref a.c_TooMany) (.ref a.c_TooMany)=some true
 is_TooMany_NoValues:PySem.W.kitOne K (.ref a.c_TooMany) (.ref a.c_NoValues)=some false
 is_TooMany_NoPlan:PySem.W.kitOne K (.ref a.c_TooMany) (.ref a.c_NoPlan)=some false
 is_TooMany_NoWidth:PySem.W.kitOne K (.ref a.c_TooMany) (.ref a.c_NoWidth)=some false
 is_TooMany_NoTurning:PySem.W.kitOne K (.ref a.c_TooMany) (.ref a.c_NoTurning)=some false
 is_TooMany_BadPlan:PySem.W.kitOne K (.ref a.c_TooMany) (.ref a.c_BadPlan)=some false
 kv_TooMany:PySem.W.kitOne K (.ref a.c_TooMany) (.type "ValueError")=some true
 mc_NoValues:mg "NoValues"=some (.ref a.c_NoValues)
 xi_NoValues:XI K a.c_NoValues
 ct_NoValues:∃N,∀h,K.In h->EX.ClsT h a.c_NoValues N (([a.c_FurrowError]:List Addr).map Value.ref++EX.bmVE)
 xm_NoValues:OF K a.c_NoValues a.f_V
 n_NoValues_ring:BB K a.c_NoValues "ring"
 is_NoValues_FurrowError:PySem.W.kitOne K (.ref a.c_NoValues) (.ref a.c_FurrowError)=some true
 is_NoValues_NoText:PySem.W.kitOne K (.ref a.c_NoValues) (.ref a.c_NoText)=some false
 is_NoValues_TooMany:PySem.W.kitOne K (.ref a.c_NoValues) (.ref a.c_TooMany)=some false
 is_NoValues_NoValues:PySem.W.kitOne K (.ref a.c_NoValues) (.ref a.c_NoValues)=some true
 is_NoValues_NoPlan:PySem.W.kitOne K (.ref a.c_NoValues) (.ref a.c_NoPlan)=some false
 is_NoValues_NoWidth:PySem.W.kitOne K (.ref a.c_NoValues) (.ref a.c_NoWidth)=some false
 is_NoValues_NoTurning:PySem.W.kitOne K (.ref a.c_NoValues) (.ref a.c_NoTurning)=some false
 is_NoValues_BadPlan:PySem.W.kitOne K (.ref a.c_NoValues) (.ref a.c_BadPlan)=some false
 kv_NoValues:PySem.W.kitOne K (.ref a.c_NoValues) (.type "ValueError")=some true
 mc_NoPlan:mg "NoPlan"=some (.ref a.c_NoPlan)
 xi_NoPlan:XI K a.c_NoPlan
 ct_NoPlan:∃N,∀h,K.In h->EX.ClsT h a.c_NoPlan N (([a.c_FurrowError]:List Addr).map Value.ref++EX.bmVE)
 xm_NoPlan:Gx K a.c_NoPlan
 is_NoPlan_FurrowError:PySem.W.kitOne K (.ref a.c_NoPlan) (.ref a.c_FurrowError)=some true
 is_NoPlan_NoText:PySem.W.kitOne K (.ref a.c_NoPlan) (.ref a.c_NoText)=some false
 is_NoPlan_TooMany:PySem.W.kitOne K (.ref a.c_NoPlan) (.ref a.c_TooMany)=some false
 is_NoPlan_NoValues:PySem.W.kitOne K (.ref a.c_NoPlan) (.ref a.c_NoValues)=some false
 is_NoPlan_NoPlan:PySem.W.kitOne K (.ref a.c_NoPlan) (.ref a.c_NoPlan)=some true
 is_NoPlan_NoWidth:PySem.W.kitOne K (.ref a.c_NoPlan) (.ref a.c_NoWidth)=some false
 is_NoPlan_NoTurning:PySem.W.kitOne K (.ref a.c_NoPlan) (.ref a.c_NoTurning)=some false
 is_NoPlan_BadPlan:PySem.W.kitOne K (.ref a.c_NoPlan) (.ref a.c_BadPlan)=some false
 kv_NoPlan:PySem.W.kitOne K (.ref a.c_NoPlan) (.type "ValueError")=some true
 mc_NoWidth:mg "NoWidth"=some (.ref a.c_NoWidth)
 xi_NoWidth:XI K a.c_NoWidth
 ct_NoWidth:∃N,∀h,K.In h->EX.ClsT h a.c_NoWidth N (([a.c_FurrowError]:List Addr).map Value.ref++EX.bmVE)
 xm_NoWidth:Gx K a.c_NoWidth
 is_NoWidth_FurrowError:PySem.W.kitOne K (.ref a.c_NoWidth) (.ref a.c_FurrowError)=some true
 is_NoWidth_NoText:PySem.W.kitOne K (.ref a.c_NoWidth) (.ref a.c_NoText)=some false
 is_NoWidth_TooMany:PySem.W.kitOne K (.ref a.c_NoWidth) (.ref a.c_TooMany)=some false
 is_NoWidth_NoValues:PySem.W.kitOne K (.ref a.c_NoWidth) (.ref a.c_NoValues)=some false
 is_NoWidth_NoPlan:PySem.W.kitOne K (.ref a.c_NoWidth) (.ref a.c_NoPlan)=some false
 is_NoWidth_NoWidth:PySem.W.kitOne K (.ref a.c_NoWidth) (.ref a.c_NoWidth)=some true
 is_NoWidth_NoTurning:PySem.W.kitOne K (.ref a.c_NoWidth) (.ref a.c_NoTurning)=some false
 is_NoWidth_BadPlan:PySem.W.kitOne K (.ref a.c_NoWidth) (.ref a.c_BadPlan)=some false
 kv_NoWidth:PySem.W.kitOne K (.ref a.c_NoWidth) (.type "ValueError")=some true
 mc_NoTurning:mg "NoTurning"=some (.ref a.c_NoTurning)
 xi_NoTurning:XI K a.c_NoTurning
 ct_NoTurning:∃N,∀h,K.In h->EX.ClsT h a.c_NoTurning N (([a.c_FurrowError]:List Addr).map Value.ref++EX.bmVE)
 xm_NoTurning:Gx K a.c_NoTurning
 is_NoTurning_FurrowError:PySem.W.kitOne K (.ref a.c_NoTurning) (.ref a.c_FurrowError)=some true
 is_NoTurning_NoText:PySem.W.kitOne K (.ref a.c_NoTurning) (.ref a.c_NoText)=some false
 is_NoTurning_TooMany:PySem.W.kitOne K (.ref a.c_NoTurning) (.ref a.c_TooMany)=some false
 is_NoTurning_NoValues:PySem.W.kitOne K (.ref a.c_NoTurning) (.ref a.c_NoValues)=some false
 is_NoTurning_NoPlan:PySem.W.kitOne K (.ref a.c_NoTurning) (.ref a.c_NoPlan)=some false
 is_NoTurning_NoWidth:PySem.W.kitOne K (.ref a.c_NoTurning) (.ref a.c_NoWidth)=some false
 is_NoTurning_NoTurning:PySem.W.kitOne K (.ref a.c_NoTurning) (.ref a.c_NoTurning)=some true
 is_NoTurning_BadPlan:PySem.W.kitOne K (.ref a.c_NoTurning) (.ref a.c_BadPlan)=some false
 kv_NoTurning:PySem.W.kitOne K (.ref a.c_NoTurning) (.type "ValueError")=some true
 mc_BadPlan:mg "BadPlan"=some (.ref a.c_BadPlan)
 xi_BadPlan:XI K a.c_BadPlan
 ct_BadPlan:∃N,∀h,K.In h->EX.ClsT h a.c_BadPlan N (([a.c_FurrowError]:List Addr).map Value.ref++EX.bmVE)
 xm_BadPlan:Gx K a.c_BadPlan
 is_BadPlan_FurrowError:PySem.W.kitOne K (.ref a.c_BadPlan) (.ref a.c_FurrowError)=some true
 is_BadPlan_NoText:PySem.W.kitOne K (.ref a.c_BadPlan) (.ref a.c_NoText)=some false
 is_BadPlan_TooMany:PySem.W.kitOne K (.ref a.c_BadPlan) (.ref a.c_TooMany)=some false
 is_BadPlan_NoValues:PySem.W.kitOne K (.ref a.c_BadPlan) (.ref a.c_NoValues)=some false
 is_BadPlan_NoPlan:PySem.W.kitOne K (.ref a.c_BadPlan) (.ref a.c_NoPlan)=some false
 is_BadPlan_NoWidth:PySem.W.kitOne K (.ref a.c_BadPlan) (.ref a.c_NoWidth)=some false
 is_BadPlan_NoTurning:PySem.W.kitOne K (.ref a.c_BadPlan) (.ref a.c_NoTurning)=some false
 is_BadPlan_BadPlan:PySem.W.kitOne K (.ref a.c_BadPlan) (.ref a.c_BadPlan)=some true
 kv_BadPlan:PySem.W.kitOne K (.ref a.c_BadPlan) (.type "ValueError")=some true
 xnd:([a.c_FurrowError,a.c_NoText,a.c_TooMany,a.c_NoValues,a.c_NoPlan,a.c_NoWidth,a.c_NoTurning,a.c_BadPlan]:List Addr).Nodup
 xb:XB K a.c_FurrowError
 z_ValueError:mg "ValueError"=none
 z_dict:mg "dict"=none
 z_isinstance:mg "isinstance"=none
 z_len:mg "len"=none
 z_list:mg "list"=none
 z_max:mg "max"=none
 z_min:mg "min"=none
 z_range:mg "range"=none
 z_sum:mg "sum"=none
 z_tuple:mg "tuple"=none
 z_zip:mg "zip"=none
def Pd (a:Ad):Cs:=⟨a.c_Number,a.c_Value,a.c_Cell,a.c_Joined⟩
section
variable {P:Program}{w:World}{K:XJ}{mg:Str->Option Value}{base:Heap}{a:Ad}
theorem Kn (T:Tx K mg a):AA P w K mg base AJ 1 a.f_b a.d_b ["_law_script","_law_k"] (TB K):=by
 refine T.F_b.ok Hm (fun vs H Q E h=>?_) (fun cdv A outer s H vs Q E hr h=>?_)
 .obtain⟨_,_,_,rfl,_⟩:=h;rfl
 obtain⟨p,ns,k,rfl,hS,h0,h1,q⟩:=h
 refine⟨_,(A9 (BJ (Bp LJ (pv 1) (B9 BY (by rfl) T.z_len BU (A0 (pv 0) A3)) (Bk _))
  (Af (AO (Ai B2 (pv 0) (pv 1) (fun _ _=>rfl))))
  Ce)
  (A9 (Ak (i:=2) Hm.nd rfl (.inl rfl) (A4 AU (A4 CT (pv 1) A1) A1))
  (A9 (BJ (Bp Gv (B9 BY (by rfl) T.z_len BU (A0 (pv 0) A3)) A1 (Bk _))
  (Af (Ak (i:=2) Hm.nd rfl (.inl rfl) (A4 AL (A4 AU (A4 CT (Ai B2 (pv 0) (A4 AL (A4 CT (pv 1) A1) (B9 BY (by rfl) T.z_len BU (A0 (pv 0) A3))) (fun _ _=>rfl)) A1) (A4 CT (pv 1) A1)) A1)))
  Ce)
  (Af (AO (A4 AL (A4 CT (pv 2) (pv 2)) A1)))))),?_⟩
 have hl:(ns.map V.int).length=ns.length:=Ao _
 have p64:(2:Int) ^ 64=18446744073709551616:=by decide
 refine⟨_,rfl,_,rfl,p,_,rfl,.inl hS,_,_,rfl,rfl,_,rfl,?_⟩
 refine Dp (fun c=>?_) (fun c=>?_)
 .have c':=dT c
  rw[hl]at c'
  exact⟨_,rfl,_,rfl,p,_,_,_,rfl,rfl,hS,GR h0 c',q _⟩
 refine⟨_,rfl,_,_,rfl,rfl,.inr ⟨by decide,by decide⟩,_,_,rfl,rfl,?_⟩
 refine⟨_,rfl,p,_,rfl,.inl hS,_,_,rfl,rfl,_,rfl,?_⟩
 refine Dp (fun c2=>?_) (fun c2=>?_)
 .have c2:=dT c2
  have m0:=B7 (k*7) (show((ns.map V.int).length:Int)≠0 by omega)
  have m1:=B8 (k*7) c2
  refine⟨_,rfl,_,rfl,_,_,rfl,rfl,.inr ⟨by decide,by decide⟩,_,rfl,p,_,rfl,.inl hS,_,_,rfl,rfl,c2,?_⟩
  refine⟨p,_,_,_,rfl,rfl,hS,GR m0 (by rw[hl]at m1 ⊢;exact m1),_,_,rfl,rfl,.inr ⟨by decide,by decide⟩,_,rfl,_,_,rfl,rfl,.inr ⟨by decide,by decide⟩,_,_,rfl,rfl,_,_,rfl,rfl,(by show(0:Int)<2147483647;decide),?_⟩
  have b0:=B7 (ns.getD (k*7%((ns.map V.int).length:Int)).toNat 0*48271+k*7919) (show(2147483647:Int)≠0 by decide)
  have b1:=B8 (ns.getD (k*7%((ns.map V.int).length:Int)).toNat 0*48271+k*7919) (show(0:Int)<2147483647 by decide)
  exact⟨_,rfl,_,rfl,_,_,rfl,rfl,.inl ⟨by omega,by omega⟩,_,_,rfl,rfl,(by show(0:Int)<2147483629;decide),q _⟩
 .exact⟨_,rfl,_,rfl,_,_,rfl,rfl,.inl ⟨by omega,by omega⟩,_,_,rfl,rfl,(by show(0:Int)<2147483629;decide),q _⟩
theorem NZ (T:Tx K mg a):AA P w K mg base AJ 1 a.f_b a.d_b ["_law_script","_law_k"] (SY K):=by
 refine T.F_b.ok Hm (fun vs H Q E h=>?_) (fun cdv A outer s H vs Q E hr h=>?_)
 .obtain⟨_,_,_,rfl,_⟩:=h;rfl
 obtain⟨p,ns,k,rfl,hS,h0,h1,q⟩:=h
 refine⟨_,(A9 (BJ (Bp LJ (pv 1) (B9 BY (by rfl) T.z_len BU (A0 (pv 0) A3)) (Bk _))
  (Af (AO (Ai B2 (pv 0) (pv 1) (fun _ _=>rfl))))
  Ce)
  (A9 (Ak (i:=2) Hm.nd rfl (.inl rfl) (A4 AU (A4 CT (pv 1) A1) A1))
  (A9 (BJ (Bp Gv (B9 BY (by rfl) T.z_len BU (A0 (pv 0) A3)) A1 (Bk _))
  (Af (Ak (i:=2) Hm.nd rfl (.inl rfl) (A4 AL (A4 AU (A4 CT (Ai B2 (pv 0) (A4 AL (A4 CT (pv 1) A1) (B9 BY (by rfl) T.z_len BU (A0 (pv 0) A3))) (fun _ _=>rfl)) A1) (A4 CT (pv 1) A1)) A1)))
  Ce)
  (Af (AO (A4 AL (A4 CT (pv 2) (pv 2)) A1)))))),?_⟩
 have hl:(ns.map V.int).length=ns.length:=Ao _
 have p64:(2:Int) ^ 64=18446744073709551616:=by decide
 refine⟨_,rfl,_,rfl,p,_,rfl,.inl hS,_,_,rfl,rfl,_,rfl,?_⟩
 unfold C4 at q
 refine Dp (fun c=>?_) (fun c=>?_)
 .have c':=dT c
  rw[hl]at c'
  rw[Ah c']at q
  exact⟨_,rfl,_,rfl,p,_,_,_,rfl,rfl,hS,GR h0 c',q⟩
 have c':=dF c
 rw[hl]at c'
 rw[Ae c']at q
 refine⟨_,rfl,_,_,rfl,rfl,.inr ⟨by decide,by decide⟩,_,_,rfl,rfl,?_⟩
 refine⟨_,rfl,p,_,rfl,.inl hS,_,_,rfl,rfl,_,rfl,?_⟩
 refine Dp (fun c2=>?_) (fun c2=>?_)
 .have c2:=dT c2
  rw[Ah (by rw[hl]at c2;omega)]at q
  have m0:=B7 (k*7) (show((ns.map V.int).length:Int)≠0 by omega)
  have m1:=B8 (k*7) c2
  refine⟨_,rfl,_,rfl,_,_,rfl,rfl,.inr ⟨by decide,by decide⟩,_,rfl,p,_,rfl,.inl hS,_,_,rfl,rfl,c2,?_⟩
  refine⟨p,_,_,_,rfl,rfl,hS,GR m0 (by rw[hl]at m1 ⊢;exact m1),_,_,rfl,rfl,.inr ⟨by decide,by decide⟩,_,rfl,_,_,rfl,rfl,.inr ⟨by decide,by decide⟩,_,_,rfl,rfl,_,_,rfl,rfl,(by show(0:Int)<2147483647;decide),?_⟩
  have b0:=B7 (ns.getD (k*7%((ns.map V.int).length:Int)).toNat 0*48271+k*7919) (show(2147483647:Int)≠0 by decide)
  have b1:=B8 (ns.getD (k*7%((ns.map V.int).length:Int)).toNat 0*48271+k*7919) (show(0:Int)<2147483647 by decide)
  exact⟨_,rfl,_,rfl,_,_,rfl,rfl,.inl ⟨by omega,by omega⟩,_,_,rfl,rfl,(by show(0:Int)<2147483629;decide),by rw[hl];exact q⟩
 .have c2:=dF c2
  rw[Ae (by rw[hl]at c2;omega)]at q
  exact⟨_,rfl,_,rfl,_,_,rfl,rfl,.inl ⟨by omega,by omega⟩,_,_,rfl,rfl,(by show(0:Int)<2147483629;decide),q⟩
theorem F8 (T:Tx K mg a):AA P w K mg base AJ 1 a.f_a a.d_a ["_law_cell_here","_law_k"] Xe:=by
 refine T.F_a.ok OJ (fun vs H Q E h=>?_) (fun cdv A outer s H vs Q E hr h=>?_)
 .obtain⟨_,_,rfl,_⟩:=h;rfl
 obtain⟨c,k,rfl,q⟩:=h
 refine⟨_,(A9 (Ak (i:=2) OJ.nd rfl (.inl rfl) (A4 AL (A4 CT (A4 AU (A4 AU (pv 0) (A4 CT A1 (pv 1))) A1) A1) A1))
  (Af (AO (A4 AL (A4 CT (pv 2) (pv 2)) A1)))),?_⟩
 have p64:(2:Int) ^ 64=18446744073709551616:=by decide
 have b0:=B7 ((c+7919*k+1)*48271) (show(2147483647:Int)≠0 by decide)
 have b1:=B8 ((c+7919*k+1)*48271) (show(0:Int)<2147483647 by decide)
 refine⟨_,rfl,_,rfl,_,_,rfl,rfl,.inl ⟨by decide,by decide⟩,_,_,rfl,rfl,_,_,rfl,rfl,_,_,rfl,rfl,.inr ⟨by decide,by decide⟩,_,_,rfl,rfl,(by show(0:Int)<2147483647;decide),?_⟩
 exact⟨_,rfl,_,rfl,_,_,rfl,rfl,.inl ⟨by omega,by omega⟩,_,_,rfl,rfl,(by show(0:Int)<2147483629;decide),q⟩
theorem Lz (T:Tx K mg a):AA P w K mg base AJ 2 a.f_c a.d_c ["_law_cell_here","_law_e"] RW:=by
 have G_a :=@F8 P w K mg base a T
 refine T.F_c.ok ER (fun vs H Q E h=>?_) (fun cdv A outer s H vs Q E hr h=>?_)
 .obtain⟨_,_,rfl,_⟩:=h;rfl
 obtain⟨c,e,rfl,e0,e1,q⟩:=h
 refine⟨_,(A9 (Ak (i:=2) ER.nd rfl (.inl rfl) BS)
  (A9 (Ak (i:=3) ER.nd rfl (.inl rfl) (Av G_a (hr.mono (by omega)) (by rfl) T.m_a T.F_a.kp T.b_a .nil Aq (A0 (pv 0) (A0 A1 A3))))
  (A9 (Ak (i:=4) ER.nd rfl (.inl rfl) BS)
  (A9 (CH PassesOwn.never rfl (EZ (by rfl) T.z_range (A0 (A4 AL (pv 3) A1) A3)) (B0 (i:=5) ER.nd rfl (.inl rfl))
  (Af (Ak (i:=4) ER.nd rfl (.inl rfl) (A4 IE (pv 4) (Ai NB (pv 2) (A4 AL (A4 BH (pv 3) (A4 AU (pv 5) A1)) A1) (fun _ _=>rfl))))))
  (A9 (Ak (i:=6) ER.nd rfl (.inl rfl) (A4 AL (A4 BH (pv 3) A1) (A4 AU (B9 WQ (by rfl) T.z_len BU (A0 (pv 4) A3)) A1)))
  (A9 (Ak (i:=7) ER.nd rfl (.inl rfl) (A4 IE (A4 IE (E3 Lc (pv 4) Eb (Ef (pv 6))) (Ai NB (pv 2) (A4 AL (A4 AU (A4 BH (pv 3) A1) (A4 CT A1 (pv 1))) A1) (fun _ _=>rfl))) (E3 Lc (pv 4) (Ef (pv 6)) Eb)))
  (A9 (BJ (Bp Dk (A4 AL (A4 BH (pv 3) A1) A1) A1 (Bk _))
  (Af (Ak (i:=7) ER.nd rfl (.inl rfl) (E3 Lc (A4 IE (pv 4) BS) Eb (Ef (A4 AU A1 (pv 1))))))
  Ce)
  (A9 (BJ (Bp Se (pv 7) (FR (Aj BS (Aj BS (Aj BS Cy AC) AC) AC)) (by with_unfolding_all rfl))
  (Af (Ak (i:=7) ER.nd rfl (.inl rfl) (A4 IE (pv 7) BS)))
  Ce)
  (Af (AO (pv 7))))))))))),?_⟩
 refine⟨_,rfl,c,11,rfl,?_⟩
 obtain⟨m0,m1⟩:=F4 c 11
 generalize Bx c 11=m at q m0 m1 ⊢
 have l0:=B7 m (show(8:Int)≠0 by decide)
 have l1:=B8 m (show(0:Int)<8 by decide)
 dsimp only[Am]
 refine⟨_,rfl,_,_,rfl,rfl,(by show(0:Int)<8;decide),m%8,rfl,by omega,by omega,?_⟩
 have hL:=L4 m
 refine Ej (lo:=0) (n:=BQ m) (fun i σ' H'=>H'=H/\∃o5 o6 o7,σ'=[some (.int c),some (.int e),some (.str Eo),some (.int m),some (.str (Bb (Cz m i))),o5,o6,o7]) ⟨rfl,_,_,_,rfl⟩ (fun i σ' H' hi p=>?_) (fun σ' H' p=>?_)
 .obtain⟨rfl,o5,o6,o7,rfl⟩:=p
  have e0':(0:Int)+(i:Int)=(i:Int):=by omega
  rw[e0']
  refine⟨_,rfl,_,rfl,_,rfl,_,rfl,_,_,rfl,rfl,_,_,rfl,rfl,⟨(by show(0:Int)<(i:Int)+9;omega),(by show(i:Int)+9<1073741824;omega)⟩,_,_,rfl,rfl,(by show(0:Int)<26;decide),_,_,_,rfl,rfl,NP,P9 _,_,_,rfl,rfl,?_,?_⟩
  .rw[GV,Gp];exact Bo (by show i+1<=1000000;omega)
  have eW:Bb (Cz m i)++(⟨#[Gr (m/((i:Int)+9))]⟩:Str)=Bb (Cz m (i+1)):=JR (by
   rw[Ir,D9,D9]
   unfold Cz
   rw[PL,Bv]
   rfl)
  exact⟨rfl,_,_,_,congrArg (fun z=>[some (V.int c),some (.int e),some (.str Eo),some (.int m),some (.str z),some (.int (i:Int)),o6,o7]) eW⟩
 obtain⟨rfl,o5,o6,o7,rfl⟩:=p
 have wl:(Bb (Cz m (BQ m))).length=BQ m:=by rw[GV,Gp]
 obtain⟨a0,a1⟩:=LC m
 refine⟨_,rfl,_,_,rfl,rfl,⟨by decide,by decide⟩,_,rfl,_,rfl,?_⟩
 rw[wl]
 refine⟨Bo (by omega),_,_,rfl,rfl,_,_,rfl,rfl,(by show(0:Int)<(BQ m:Int)+1;omega),?_⟩
 dsimp only[Am]
 rw[←a1]
 have hc:=Gp m (BQ m)
 refine⟨_,rfl,_,rfl,_,rfl,_,rfl,Bo (by omega),_,rfl,_,rfl,_,_,rfl,rfl,⟨by decide,by decide⟩,_,rfl,_,_,rfl,rfl,.inl ⟨by decide,by decide⟩,_,_,rfl,rfl,_,_,rfl,rfl,(by show(0:Int)<26;decide),_,_,_,rfl,rfl,NP,P9 _,_,_,rfl,rfl,?_,?_⟩
 .rw[GV,D9,HH _ (by omega)]
  exact Bo (by rw[BG];show _+1<=1000000;omega)
 refine⟨_,rfl,_,rfl,_,rfl,_,rfl,Bo (by omega),?_⟩
 rw[D9,HH _ (by omega),Wc _ (by omega)]
 have eA:Bb ((Cz m (BQ m)).take ((DK m:Nat):Int).toNat)++(⟨#[Gr (m/72+5*e)]⟩:Str)++Bb ((Cz m (BQ m)).drop ((DK m:Nat):Int).toNat)=Bb (Gq m e):=JR (by rw[Ir,Ir,D9,D9,D9];rfl)
 refine⟨_,_,rfl,rfl,?_,?_⟩
 .rw[Na,GV,GV,BG,Kv]
  exact Bo (by show _+1+_<=1000000;omega)
 rw[eA]
 dsimp only[Am]
 refine F2 (fun σ2 H2=>H2=H'/\∃o5 o6,σ2=[some (.int c),some (.int e),some (.str Eo),some (.int m),some (.str (Bb (Cz m (BQ m)))),o5,o6,some (.str (Bb (C6 m e)))]) (fun σ2 H2 mm=>?_) (fun rest=>?_)
 .obtain⟨rfl,o5,o6,rfl⟩:=mm
  have rb:=Os (m:=m) e0 e1
  refine F2 (fun σ3 H3=>Aa H2 H3/\∃o5 o6,σ3=[some (.int c),some (.int e),some (.str Eo),some (.int m),some (.str (Bb (Cz m (BQ m)))),o5,o6,some (.str (Bb (De m e)))]) (fun σ3 H3 mm=>?_) (fun rest=>?_)
  .obtain⟨e3,o5,o6,rfl⟩:=mm
   exact⟨_,rfl,q _ e3⟩
  .refine⟨_,rfl,Ar rfl,fun tp htp=>?_⟩
   refine⟨tp,[.str "for",.str "end",.str "size"],rfl,.inr (A8.of A6),rfl,rfl,_,rfl,?_⟩
   show if HW (V.str (Bb (C6 m e))) [.str "for",.str "end",.str "size"]=true then _ else _
   rw[SL]
   refine Dp (fun cc=>?_) (fun cc=>?_)
   .refine⟨_,rfl,_,_,rfl,rfl,?_,?_⟩
    .have hz2:(Str.ofString "s").length=1:=by decide +kernel
     rw[GV,hz2]
     exact Bo (by omega)
    .have ee:Bb (C6 m e)++Str.ofString "s"=Bb (De m e):=JR (by
      rw[Ir,D9,D9]
      unfold De
      rw[Ah (dT cc)]
      congr 1)
     exact rest _ _ ⟨Ab htp _,o5,o6,congrArg (fun z=>[some (V.int c),some (.int e),some (.str Eo),some (.int m),some (.str (Bb (Cz m (BQ m)))),o5,o6,some (.str z)]) ee⟩
   .have ee:Bb (C6 m e)=Bb (De m e):=by
     unfold De
     rw[Ae (dF cc)]
    exact rest _ _ ⟨Ab htp _,o5,o6,congrArg (fun z=>[some (V.int c),some (.int e),some (.str Eo),some (.int m),some (.str (Bb (Cz m (BQ m)))),o5,o6,some (.str z)]) ee⟩
 .refine⟨_,rfl,_,_,rfl,rfl,⟨by decide,by decide⟩,_,_,rfl,rfl,(by show(0:Int)<4;decide),rfl,_,rfl,?_⟩
  have key:(V.int (m/5003%4)=V.int 1)↔m/5003%4=1:=⟨fun e=>V.int.inj e,fun e=>by rw[e]⟩
  refine Dp (fun cc=>?_) (fun cc=>?_)
  .have c2:=key.mp (dT cc)
   refine⟨_,rfl,_,_,rfl,rfl,?_,?_⟩
   .have hz:(Str.ofString "qrstuvwx").length=8:=by decide +kernel
    rw[wl,hz]
    exact Bo (by omega)
   refine⟨_,rfl,_,_,rfl,rfl,_,rfl,_,rfl,?_,?_⟩
   .rw[Na,wl]
    have hz:(Str.ofString "qrstuvwx").length=8:=by decide +kernel
    rw[hz]
    exact Bo (by omega)
   have ee:Bb (Fu (Bn (Bb (Cz m (BQ m))++Str.ofString "qrstuvwx")) none (some (5+e)))=Bb (C6 m e):=by
    rw[Ir,D9,HH _ (by omega)]
    unfold C6
    rw[Ah c2]
    rfl
   exact rest _ _ ⟨rfl,_,_,congrArg (fun z=>[some (V.int c),some (.int e),some (.str Eo),some (.int m),some (.str (Bb (Cz m (BQ m)))),o5,some (V.int (DK m:Int)),some (.str z)]) ee⟩
  .have c2:=fun z=>dF cc (key.mpr z)
   have ee:Bb (Gq m e)=Bb (C6 m e):=by
    unfold C6
    rw[Ae c2]
   exact rest _ _ ⟨rfl,_,_,congrArg (fun z=>[some (V.int c),some (.int e),some (.str Eo),some (.int m),some (.str (Bb (Cz m (BQ m)))),o5,some (V.int (DK m:Int)),some (.str z)]) ee⟩
theorem QA (T:Tx K mg a):AA P w K mg base AJ 1 a.f_z a.d_z ["_law_number","_law_bases","_law_many_here","_law_off"] WJ:=by
 refine T.F_z.ok HS (fun vs H Q E h=>?_) (fun cdv A outer s H vs Q E hr h=>?_)
 .obtain⟨_,_,_,_,rfl,_⟩:=h;rfl
 obtain⟨n,m,off,b,rfl,n0,⟨bs,hb,hb0,hb1,hbp⟩,m0,m1,q⟩:=h
 refine⟨_,(A9 (Ak (i:=4) HS.nd rfl (.inl rfl) (BL A3))
  (A9 (CH PassesOwn.never rfl (EZ (by rfl) T.z_range (A0 (pv 2) A3)) (B0 (i:=5) HS.nd rfl (.inl rfl))
  (A9 (Ak (i:=6) HS.nd rfl (.inl rfl) (A4 BH (pv 0) (Ai B2 (Et (Aj A1 (Aj A1 (Aj A1 Cy AC) AC) AC)) (pv 5) (fun _ _=>rfl))))
  (A9 (Ak (i:=7) HS.nd rfl (.inl rfl) (Ai B2 (pv 1) (A4 AL (pv 6) (B9 BY (by rfl) T.z_len BU (A0 (pv 1) A3))) (fun _ _=>rfl)))
  (Af (Cp (Ec EA EB EC Eg (pv 4) (A0 (Bf (A0 (Ai AF (pv 7) A1 (fun _ _=>rfl)) (A0 (A4 DS (A4 AU (pv 3) (A4 AL (A4 BH (pv 6) A1) A1)) (Ai AF (pv 7) A1 (fun _ _=>rfl))) A3))) A3)))))))
  (Af (AO (FH G6 (by rfl) T.z_tuple G3 (A0 (pv 4) A3)))))),?_⟩
 refine⟨Ar rfl,fun l hl=>?_⟩
 refine⟨_,rfl,m,rfl,by omega,by omega,?_⟩
 have hb2:(0:Int)<(bs.length:Int):=by omega
 refine Ej (lo:=0) (n:=m.toNat) (fun i σ' H'=>Aa H H'/\(∃o5 o6 o7,σ'=[some (.int n),some (.ref b),some (.int m),some (.int off),some (.ref l),o5,o6,o7])/\∃(xs:List V),H' l=some (.lst xs)/\xs.length=i/\Ga H' xs) ⟨Ab hl _,⟨_,_,_,rfl⟩,[],A6,rfl,fun v hv=>by cases hv⟩ (fun i σ' H' hi p=>?_) (fun σ' H' p=>?_)
 .obtain⟨e,⟨o5,o6,o7,rfl⟩,xs,hx,xl,tr⟩:=p
  have hi3:(i:Int)<3:=by omega
  obtain⟨d,hd,ed⟩:=Ez (L:=[1,12,144]) (i:=0+(i:Int)) 3 rfl (by omega) (by omega)
  have hd:0<d/\d<1073741824:=by
   simp only[AE,CY,or_false]at hd
   omega
  refine⟨_,rfl,Ar rfl,fun q1 hq1=>?_⟩
  have s1:=Ab hq1 (.lst [V.int 1,V.int 12,V.int 144])
  refine⟨_,rfl,q1,_,_,_,rfl,rfl,A7.of A6,ed,_,_,rfl,rfl,hd,?_⟩
  dsimp only[Am]
  have hb3:=s1 _ _ (e _ _ hb)
  have hx3:=s1 _ _ hx
  have e3:=e.trans s1
  have tr3:=tr.over s1
  generalize upd H' q1 (.lst [V.int 1,V.int 12,V.int 144])=H2 at hb3 hx3 e3 tr3 s1
  generalize n/d=pt
  obtain⟨v,hv,ev⟩:=Hc (vs:=bs) (i:=pt%(bs.length:Int)) (B7 _ (by omega)) (B8 _ hb2)
  obtain⟨t,z,k,rfl,ht⟩:=hbp v hv
  have ht3:=e3 _ _ ht
  refine⟨_,rfl,_,rfl,_,rfl,b,_,rfl,.inl (A7.of hb3),_,_,rfl,rfl,hb2,b,_,_,_,rfl,rfl,A7.of hb3,ev,?_⟩
  dsimp only[Am]
  refine⟨_,rfl,.inl ⟨rfl,_,A7.of hx3⟩,_,rfl,t,_,0,_,rfl,rfl,A8.of ht3,rfl,_,rfl,_,rfl,_,_,rfl,rfl,⟨by decide,by decide⟩,_,_,rfl,rfl,(by show(0:Int)<3;decide),_,_,rfl,rfl,_,rfl,t,_,1,_,rfl,rfl,A8.of ht3,rfl,_,_,rfl,rfl,Ar rfl,fun t4 ht4=>?_⟩
  have s4:=Ab ht4 (.tup [V.str z,V.int (off+pt/4%3-k)])
  have hx4:=s4 _ _ hx3
  have tr4:=tr3.over s4
  have hn4:t4≠l:=fun z=>by rw[z,hx3]at ht4;cases ht4
  refine⟨l,_,_,rfl,rfl,hx4,DC (by omega),?_⟩
  refine⟨fun a o ha=>by rw[Ag (Az ha hl)];exact s4 _ _ (e3 _ _ ha),⟨_,_,_,rfl⟩,xs++[.ref t4],A6,by rw[Ac,xl];rfl,fun v hv=>?_⟩
  rcases Cj.mp hv with h|h
  .obtain⟨t,z,n,rfl,ht⟩:=tr4 v h
   exact⟨t,z,n,rfl,by rw[Ag (Jl ht hx4 (by intro z;cases z))];exact ht⟩
  .rw[BW]at h
   exact⟨t4,z,_,h,by rw[Ag hn4];exact A6⟩
 .obtain⟨e,⟨o5,o6,o7,rfl⟩,xs,hx,xl,tr⟩:=p
  refine⟨_,rfl,l,_,rfl,.inl ⟨A7.of hx,fun t ht=>?_⟩⟩
  exact q t _ (e.trans (Ab ht _)) ⟨xs,A6,by omega,tr.over (Ab ht _)⟩
theorem Pb (T:Tx K mg a):AA P w K mg base AJ 2 a.f_o a.d_o ["_law_number","_law_bases","_law_heads_here"] Xm:=by
 have G_z :=@QA P w K mg base a T
 refine T.F_o.ok JZ (fun vs H Q E h=>?_) (fun cdv A outer s H vs Q E hr h=>?_)
 .obtain⟨_,_,_,rfl,_⟩:=h;rfl
 obtain⟨n,b,hd,rfl,n0,hB,⟨hs,hh,hl,hp⟩,q⟩:=h
 refine⟨_,(A9 (HV (Ai B2 (pv 2) (Ai B2 (Et (Aj A1 (Aj A1 (Aj A1 (Aj A1 (Aj A1 (Aj A1 Cy AC) AC) AC) AC) AC) AC)) (A4 AL (pv 0) A1) (fun _ _=>rfl)) (fun _ _=>rfl)) (ES rfl (Co (B0 (i:=3) JZ.nd rfl (.inl rfl)) (Co (B0 (i:=4) JZ.nd rfl (.inl rfl)) (Co (B0 (i:=5) JZ.nd rfl (.inl rfl)) EN)))))
  (Af (AO (Bf (A0 (pv 3) (A0 (Av G_z (hr.mono (by omega)) (by rfl) T.m_z T.F_z.kp T.b_z .nil Aq (A0 (A4 BH (pv 0) A1) (A0 (pv 1) (A0 (pv 4) (A0 (pv 5) A3))))) A3)))))),?_⟩
 have f0:=B7 n (show(6:Int)≠0 by decide)
 have f1:=B8 n (show(0:Int)<6 by decide)
 obtain⟨d,hd2,ed⟩:=Ez (L:=[0,0,0,1,1,2]) (i:=n%6) 6 rfl f0 (by omega)
 have hd2:0<=d/\d<3:=by
  simp only[AE,CY,or_false]at hd2
  omega
 obtain⟨v,hv,ev⟩:=Hc (vs:=hs) (i:=d) hd2.1 (by omega)
 obtain⟨t,z,m,k,rfl,ht,m0,m1⟩:=hp v hv
 refine⟨_,rfl,Ar rfl,fun q1 hq1=>?_⟩
 have s1:=Ab hq1 (.lst [V.int 0,V.int 0,V.int 0,V.int 1,V.int 1,V.int 2])
 refine⟨_,rfl,_,_,rfl,rfl,(by show(0:Int)<6;decide),q1,_,_,_,rfl,rfl,A7.of A6,ed,hd,_,_,_,rfl,rfl,A7.of (s1 _ _ hh),ev,?_⟩
 refine⟨t,_,rfl,A8.of (s1 _ _ ht),rfl,_,_,rfl,_,_,rfl,_,_,rfl,rfl,?_⟩
 dsimp only[Am]
 refine⟨_,rfl,_,rfl,_,_,rfl,rfl,⟨by decide,by decide⟩,_,rfl,_,rfl,_,rfl,n/6,m,k,b,rfl,Int.ediv_nonneg n0 (by decide),hB.over s1,m0,m1,fun r H2 e2 hsp=>⟨Ar rfl,fun t2 ht2=>?_⟩⟩
 have s3:=Ab ht2 (.tup [V.str z,V.ref r])
 exact q t2 _ (s1.trans (e2.trans s3)) ⟨z,r,A6,hsp.over s3⟩
theorem WL (T:Tx K mg a):AA P w K mg base AJ 3 a.f_p a.d_p ["_law_number","_law_bases","_law_heads_here"] Tv:=by
 have G_o :=@Pb P w K mg base a T
 refine T.F_p.ok Ly (fun vs H Q E h=>?_) (fun cdv A outer s H vs Q E hr h=>?_)
 .obtain⟨_,_,_,rfl,_⟩:=h;rfl
 obtain⟨n,b,hd,rfl,n0,n1,hB,hH,q⟩:=h
 refine⟨_,(@A9 _ _ _ _ _ (@BJ _ _ _ _ _ _ _ _ (@Bp _ _ _ _ _ _ _ _ Gv (@A4 _ _ _ _ _ _ _ _ AL (pv 0) A1) A1 (@Bk _ _ (by decide) (by decide))) (@A9 _ _ _ _ _ (@HV _ _ _ _ _ _ (@Av _ _ _ _ _ _ _ _ _ _ _ _ _ _ _ _ G_o (hr.mono (by omega)) (by rfl) T.m_o T.F_o.kp T.b_o .nil Aq (@A0 _ _ _ _ _ (@A4 _ _ _ _ _ _ _ _ BH (pv 0) A1) (@A0 _ _ _ _ _ (pv 1) (@A0 _ _ _ _ _ (pv 2) A3 (by rfl)) (by rfl)) (by rfl)) (by decide) (by rfl) (by rfl)) (ES rfl (Co (B0 (i:=3) Ly.nd rfl (.inl rfl)) (Co (B0 (i:=4) Ly.nd rfl (.inl rfl)) EN))) (by rfl) (by rfl) (by rfl)) (@Af _ _ _ (@AO _ _ _ _ (@FR _ _ _ _ _ (@Aj _ _ _ _ _ BS (@Aj _ _ _ _ _ (pv 3) (@Aj _ _ _ _ _ (pv 4) Cy Cq) Cq) AC))))) Ce) (@A9 _ _ _ _ _ (@BJ _ _ _ _ _ _ _ _ (@PW.pt _ _ _ (@Hf _ _ _ _ _ _ _ (@Bp _ _ _ _ _ _ _ _ Dk (@A4 _ _ _ _ _ _ _ _ AL (pv 0) A1) A1 (@Bk _ _ (by decide) (by decide))) (@Il _ _ _ _ (@Bp _ _ _ _ _ _ _ _ Gv (@B9 _ _ _ _ _ _ _ _ _ BY (by rfl) T.z_len BU (@A0 _ _ _ _ _ (pv 1) A3 (by rfl)) (by decide) (by decide) (by rfl) (by rfl)) A1 (@Bk _ _ (by decide) (by decide)))))) (@Af _ _ _ (@AO _ _ _ _ (@Bf _ _ _ _ _ (@A0 _ _ _ _ _ BS (@A0 _ _ _ _ _ (@Ai _ _ _ _ _ _ _ AF (@Ai _ _ _ _ _ _ _ B2 (pv 1) (@A4 _ _ _ _ _ _ _ _ AU A1 (@A4 _ _ _ _ _ _ _ _ AL (@A4 _ _ _ _ _ _ _ _ BH (pv 0) A1) (@A4 _ _ _ _ _ _ _ _ DS (@B9 _ _ _ _ _ _ _ _ _ BY (by rfl) T.z_len BU (@A0 _ _ _ _ _ (pv 1) A3 (by rfl)) (by decide) (by decide) (by rfl) (by rfl)) A1))) (fun _ _=>rfl)) A1 (fun _ _=>rfl)) A3 (by rfl)) (by rfl))))) Ce) (@Af _ _ _ (@AO _ _ _ _ (@Bf _ _ _ _ _ (@A0 _ _ _ _ _ BS (@A0 _ _ _ _ _ (@Ai _ _ _ _ _ _ _ B2 (@BL _ _ _ _ (@A0 _ _ _ _ _ (@A4 _ _ _ _ _ _ _ _ AL (@A4 _ _ _ _ _ _ _ _ BH (pv 0) A1) A1) (@A0 _ _ _ _ _ (@A4 _ _ _ _ _ _ _ _ AL (@A4 _ _ _ _ _ _ _ _ CT (pv 0) (pv 0)) (@A4 _ _ _ _ _ _ _ _ EG A1 A1)) A3 (by rfl)) (by rfl))) (@A4 _ _ _ _ _ _ _ _ AL (@A4 _ _ _ _ _ _ _ _ BH (pv 0) A1) A1) (fun _ _=>rfl)) A3 (by rfl)) (by rfl))))))),?_⟩
 have p64:(2:Int) ^ 64=18446744073709551616:=by decide
 have d4:0<=n/4:=Int.ediv_nonneg n0 (by decide)
 refine⟨_,rfl,_,_,rfl,rfl,(by show(0:Int)<4;decide),_,_,rfl,rfl,_,rfl,?_⟩
 refine Dp (fun c=>?_) (fun c=>?_)
 .refine⟨_,rfl,_,_,rfl,rfl,⟨by decide,by decide⟩,_,rfl,_,rfl,n/4,b,hd,rfl,d4,hB,hH,fun r H1 e1 hC=>?_⟩
  obtain⟨z,p,hr1,hsp⟩:=hC
  refine⟨r,_,rfl,A8.of hr1,rfl,_,_,rfl,_,_,rfl,rfl,?_⟩
  dsimp only[Am]
  refine⟨_,rfl,_,rfl,Ar rfl,fun t2 ht2=>?_⟩
  have s2:=Ab ht2 (.tup [V.str "c",V.str z,V.ref p])
  exact q _ _ _ (e1.trans s2) (.c z A6 (hsp.over s2))
 .dsimp only[IR]
  refine F2 (fun σ' H'=>H'=H/\σ'=[some (.int n),some (.ref b),some (.ref hd),none,none]) (fun σ' H' pp=>?_) (fun nx=>?_)
  .obtain⟨rfl,rfl⟩:=pp
   obtain⟨i,hi,ei⟩:=Ez (L:=[n/4%10,n*n%10 ^ (18:Int).toNat]) (i:=n/64%2) 2 rfl (B7 _ (by decide)) (B8 _ (by decide))
   refine⟨_,rfl,_,_,rfl,rfl,⟨by decide,by decide⟩,_,_,rfl,rfl,(by show(0:Int)<10;decide),_,rfl,_,rfl,_,_,rfl,rfl,.inl ⟨by omega,by omega⟩,_,_,rfl,rfl,⟨by decide,by decide,by decide⟩,_,_,rfl,rfl,(by show(0:Int)<10 ^ (18:Int).toNat;decide),Ar rfl,fun q1 hq1=>?_⟩
   have s1:=Ab hq1 (.lst [V.int (n/4%10),V.int (n*n%10 ^ (18:Int).toNat)])
   refine⟨_,rfl,_,_,rfl,rfl,⟨by decide,by decide⟩,_,_,rfl,rfl,(by show(0:Int)<2;decide),q1,_,_,_,rfl,rfl,A7.of A6,ei,Ar rfl,fun t2 ht2=>?_⟩
   exact q _ _ _ (s1.trans (Ab ht2 _)) (.n i A6)
  .obtain⟨bs,hb,hb0,hb1,hbp⟩:=hB
   refine⟨_,rfl,_,_,rfl,rfl,(by show(0:Int)<4;decide),rfl,_,rfl,?_⟩
   refine Dp (fun c2=>?_) (fun c2=>Bm (nx _ _ ⟨rfl,rfl⟩))
   refine⟨_,rfl,b,_,rfl,.inl (A7.of hb),_,_,rfl,rfl,_,rfl,?_⟩
   refine Dp (fun c3=>?_) (fun c3=>nx _ _ ⟨rfl,rfl⟩)
   have c3:=dT c3
   have hb2:(0:Int)<(bs.length:Int)-1:=by omega
   have e0:=B7 (n/4) (show((bs.length:Int)-1)≠0 by omega)
   have e1:=B8 (n/4) hb2
   obtain⟨v,hv,ev⟩:=Hc (vs:=bs) (i:=1+n/4%((bs.length:Int)-1)) (by omega) (by omega)
   obtain⟨t,z,k,rfl,ht⟩:=hbp v hv
   refine⟨_,rfl,_,rfl,_,_,rfl,rfl,⟨by decide,by decide⟩,_,rfl,b,_,rfl,.inl (A7.of hb),_,_,rfl,rfl,_,_,rfl,rfl,hb2,_,_,rfl,rfl,b,_,_,_,rfl,rfl,A7.of hb,ev,t,_,0,_,rfl,rfl,A8.of ht,rfl,Ar rfl,fun t2 ht2=>?_⟩
   exact q _ _ _ (Ab ht2 _) (.v z A6)
theorem Uh (T:Tx K mg a):AA P w K mg base AJ 4 a.f_A a.d_A ["_law_cell_here","_law_bases","_law_heads_here"] Ry:=by
 have G_a :=@F8 P w K mg base a T
 have G_p :=@WL P w K mg base a T
 refine T.F_A.ok G9 (fun vs H Q E h=>?_) (fun cdv A outer s H vs Q E hr h=>?_)
 .obtain⟨_,_,_,rfl,_⟩:=h;rfl
 obtain⟨c,b,hd,rfl,hB,hH,q⟩:=h
 refine⟨_,(A9 (Ak (i:=3) G9.nd rfl (.inl rfl) (Av G_p (hr.mono (by omega)) (by rfl) T.m_p T.F_p.kp T.b_p .nil Aq (A0 (Av G_a (hr.mono (by omega)) (by rfl) T.m_a T.F_a.kp T.b_a .nil Aq (A0 (pv 0) (A0 A1 A3))) (A0 (pv 1) (A0 (pv 2) A3)))))
  (A9 (CH PassesOwn.never rfl (EZ (by rfl) T.z_range (A0 (A4 AL (Av G_a (hr.mono (by omega)) (by rfl) T.m_a T.F_a.kp T.b_a .nil Aq (A0 (pv 0) (A0 A1 A3))) A1) A3)) (B0 (i:=4) G9.nd rfl (.inl rfl))
  (A9 (Ak (i:=5) G9.nd rfl (.inl rfl) (Ai B2 (Et (Aj BS (Aj BS (Aj BS Cy AC) AC) AC)) (A4 AL (A4 BH (Av G_a (hr.mono (by omega)) (by rfl) T.m_a T.F_a.kp T.b_a .nil Aq (A0 (pv 0) (A0 A1 A3))) (A4 AU A1 (pv 4))) A1) (fun _ _=>rfl)))
  (A9 (Ak (i:=6) G9.nd rfl (.inl rfl) (Av G_p (hr.mono (by omega)) (by rfl) T.m_p T.F_p.kp T.b_p .nil Aq (A0 (Av G_a (hr.mono (by omega)) (by rfl) T.m_a T.F_a.kp T.b_a .nil Aq (A0 (pv 0) (A0 (A4 AU A1 (pv 4)) A3))) (A0 (pv 1) (A0 (pv 2) A3)))))
  (Af (BJ (Bp Dk (A4 AL (A4 BH (Av G_a (hr.mono (by omega)) (by rfl) T.m_a T.F_a.kp T.b_a .nil Aq (A0 (pv 0) (A0 A1 A3))) (A4 AU A1 (pv 4))) A1) A1 (Bk _))
  (Af (Ak (i:=3) G9.nd rfl (.inl rfl) (FR (Aj (pv 5) (Aj (pv 6) (Aj (pv 3) Cy Cq) Cq) Cq))))
  (Af (Ak (i:=3) G9.nd rfl (.inl rfl) (FR (Aj (pv 5) (Aj (pv 3) (Aj (pv 6) Cy Cq) Cq) Cq)))))))))
  (Af (AO (pv 3))))),?_⟩
 obtain⟨a0,a1⟩:=F4 c 5
 refine⟨_,rfl,c,5,rfl,_,rfl,_,rfl,Bx c 5,b,hd,rfl,a0,by omega,hB,hH,fun x0 H1 rs0 e1 tm0=>?_⟩
 dsimp only[Am]
 have f0:=B7 (Bx c 6) (show(3:Int)≠0 by decide)
 have f1:=B8 (Bx c 6) (show(0:Int)<3 by decide)
 obtain⟨g0,g1⟩:=F4 c 7
 refine⟨_,rfl,c,6,rfl,_,_,rfl,rfl,(by show(0:Int)<3;decide),_,rfl,by omega,by omega,?_⟩
 refine Ej (lo:=0) (n:=(Bx c 6%3).toNat) (fun i σ' H'=>Aa H H'/\∃(x:V) (m:Nat) (rs:DB) (o4 o5 o6:Option V),σ'=[some (.int c),some (.ref b),some (.ref hd),some x,o4,o5,o6]/\m=i+1/\CK H' m x rs) ⟨e1,x0,1,rs0,_,_,_,rfl,rfl,tm0⟩ (fun i σ' H' hi p=>?_) (fun σ' H' p=>?_)
 .obtain⟨e,x,m,rs,o4,o5,o6,rfl,hm,tm⟩:=p
  have e0':(0:Int)+(i:Int)=(i:Int):=by omega
  rw[e0']
  refine⟨Ar rfl,fun q1 hq1=>?_⟩
  have s1:=Ab hq1 (.lst [V.str "+",V.str "-",V.str "*"])
  have k0:=B7 (Bx c 7/(1+(i:Int))) (show(3:Int)≠0 by decide)
  have k1:=B8 (Bx c 7/(1+(i:Int))) (show(0:Int)<3 by decide)
  obtain⟨v,hv,ev⟩:=Hc (vs:=[V.str "+",V.str "-",V.str "*"]) (i:=Bx c 7/(1+(i:Int))%3) k0 (by show _<(3:Int);omega)
  obtain⟨z,hz,rfl⟩:∃z∈[Str.ofString "+",Str.ofString "-",Str.ofString "*"],v = .str z:=by
   simp only[AE,CY,or_false]at hv
   rcases hv with rfl|rfl|rfl
   .exact⟨_,AX,rfl⟩
   .exact⟨_,B1 _ AX,rfl⟩
   .exact⟨_,B1 _ (B1 _ AX),rfl⟩
  refine⟨_,rfl,c,7,rfl,_,rfl,_,_,rfl,rfl,_,_,rfl,rfl,⟨(by show(0:Int)<1+(i:Int);omega),(by show 1+(i:Int)<1073741824;omega)⟩,_,_,rfl,rfl,(by show(0:Int)<3;decide),q1,_,_,_,rfl,rfl,A7.of A6,ev,?_⟩
  dsimp only[Am]
  have e2:=e.trans s1
  have tm2:=tm.over s1
  generalize upd H' q1 (.lst [V.str "+",V.str "-",V.str "*"])=H2 at e2 tm2
  obtain⟨b0,b1⟩:=F4 c (8+(i:Int))
  refine⟨_,rfl,_,rfl,_,_,rfl,rfl,c,8+(i:Int),rfl,_,rfl,_,rfl,Bx c (8+(i:Int)),b,hd,rfl,b0,by omega,hB.over e2,hH.over e2,fun x3 H3 rs3 e3 tm3=>?_⟩
  dsimp only[Am]
  have tm2':=tm2.over e3
  have e23:=e2.trans e3
  refine⟨_,rfl,c,7,rfl,_,rfl,_,_,rfl,rfl,_,_,rfl,rfl,⟨(by show(0:Int)<5+(i:Int);omega),(by show 5+(i:Int)<1073741824;omega)⟩,_,_,rfl,rfl,(by show(0:Int)<2;decide),rfl,_,rfl,?_⟩
  refine Dp (fun cc=>?_) (fun cc=>?_)
  .refine⟨_,rfl,_,rfl,_,rfl,Ar rfl,fun t4 ht4=>?_⟩
   have s4:=Ab ht4 (.tup [V.str z,x3,x])
   exact⟨e23.trans s4,_,1+m,_,_,_,_,rfl,by omega,.j z hz A6 (tm3.over s4) (tm2'.over s4)⟩
  .refine⟨_,rfl,_,rfl,_,rfl,Ar rfl,fun t4 ht4=>?_⟩
   have s4:=Ab ht4 (.tup [V.str z,x,x3])
   exact⟨e23.trans s4,_,m+1,_,_,_,_,rfl,by omega,.j z hz A6 (tm2'.over s4) (tm3.over s4)⟩
 .obtain⟨e,x,m,rs,o4,o5,o6,rfl,hm,tm⟩:=p
  exact⟨_,rfl,q _ _ m rs e (by omega) tm⟩
theorem QD (T:Tx K mg a):AA P w K mg base AJ 3 a.f_B a.d_B ["_law_number","_law_far_here","_law_stack","_law_cell_here"] Uj:=by
 have G_c :=@Lz P w K mg base a T
 refine T.F_B.ok EJ (fun vs H Q E h=>?_) (fun cdv A outer s H vs Q E hr h=>?_)
 .obtain⟨_,_,_,_,_,rfl,_⟩:=h;rfl
 obtain⟨n,far,c,st,S,rfl,n0,⟨vs,hv,hall⟩,k10,htn,far0,far1,q⟩:=h
 refine⟨_,(@A9 _ _ _ _ _ (@Ak _ _ (4) _ _ _ _ EJ.nd rfl (.inl rfl) (@Ai _ _ _ _ _ _ _ B2 (@Et _ _ _ _ (@Aj _ _ _ _ _ A1 (@Aj _ _ _ _ _ A1 (@Aj _ _ _ _ _ (pv 1) Cy Cq) AC) AC)) (@A4 _ _ _ _ _ _ _ _ AL (pv 0) A1) (fun _ _=>rfl)) (by rfl) (by first|exact .inl rfl|exact .inr rfl|assumption)) (@A9 _ _ _ _ _ (@Ak _ _ (5) _ _ _ _ EJ.nd rfl (.inl rfl) (@A4 _ _ _ _ _ _ _ _ Gu (@BL _ _ _ _ (@A0 _ _ _ _ _ (@Bf _ _ _ _ _ (@A0 _ _ _ _ _ BS (@A0 _ _ _ _ _ A1 A3 (by rfl)) (by rfl))) A3 (by rfl))) (@Gf _ _ _ _ _ _ _ ["_law_one"] [none] _ _ _ _ (by rfl) (@DR _ _ _ _ (pv 2)) UE (fun _ _ _ _ _ _=>⟨(B0 (i:=0) V9 rfl (.inl rfl)),@Gz _,(@Bf _ _ _ _ _ (@A0 _ _ _ _ _ (@Ai _ _ _ _ _ _ _ (show CU _ (Do K) from AF) (pv 0) A1 (fun _ _=>rfl)) (@A0 _ _ _ _ _ (@Ai _ _ _ _ _ _ _ (show CU _ (Do K) from AF) (pv 0) A1 (fun _ _=>rfl)) A3 (by rfl)) (by rfl)))⟩) (by intro _;rfl))) (by rfl) (by first|exact .inl rfl|exact .inr rfl|assumption)) (@A9 _ _ _ _ _ (@Ak _ _ (6) _ _ _ _ EJ.nd rfl (.inl rfl) (@Ai _ _ _ _ _ _ _ B2 (pv 5) (@A4 _ _ _ _ _ _ _ _ AL (@A4 _ _ _ _ _ _ _ _ BH (pv 0) A1) (@B9 _ _ _ _ _ _ _ _ _ BY (by rfl) T.z_len BU (@A0 _ _ _ _ _ (pv 5) A3 (by rfl)) (by decide) (by decide) (by rfl) (by rfl))) (fun _ _=>rfl)) (by rfl) (by first|exact .inl rfl|exact .inr rfl|assumption)) (@A9 _ _ _ _ _ (@Ak _ _ (7) _ _ _ _ EJ.nd rfl (.inl rfl) (@Ai _ _ _ _ _ _ _ B2 (pv 5) (@A4 _ _ _ _ _ _ _ _ AL (@A4 _ _ _ _ _ _ _ _ BH (pv 0) A1) (@B9 _ _ _ _ _ _ _ _ _ BY (by rfl) T.z_len BU (@A0 _ _ _ _ _ (pv 5) A3 (by rfl)) (by decide) (by decide) (by rfl) (by rfl))) (fun _ _=>rfl)) (by rfl) (by first|exact .inl rfl|exact .inr rfl|assumption)) (@A9 _ _ _ _ _ (@Ak _ _ (8) _ _ _ _ EJ.nd rfl (.inl rfl) (@Ai _ _ _ _ _ _ _ B2 (@Et _ _ _ _ (@Aj _ _ _ _ _ A1 (@Aj _ _ _ _ _ A1 (@Aj _ _ _ _ _ A1 (@Aj _ _ _ _ _ A1 (@Aj _ _ _ _ _ A1 (@Aj _ _ _ _ _ A1 (@Aj _ _ _ _ _ (@Dt _ _ _ _ _ _ Dm A1) (@Aj _ _ _ _ _ A1 Cy AC) Xa) AC) AC) AC) AC) AC) AC)) (@A4 _ _ _ _ _ _ _ _ AL (@A4 _ _ _ _ _ _ _ _ BH (pv 0) A1) A1) (fun _ _=>rfl)) (by rfl) (by first|exact .inl rfl|exact .inr rfl|assumption)) (@A9 _ _ _ _ _ (@Ak _ _ (9) _ _ _ _ EJ.nd rfl (.inl rfl) (@Bf _ _ _ _ _ (@A0 _ _ _ _ _ (@Ai _ _ _ _ _ _ _ AF (pv 6) A1 (fun _ _=>rfl)) (@A0 _ _ _ _ _ (@A4 _ _ _ _ _ _ _ _ AU (@A4 _ _ _ _ _ _ _ _ DS (pv 4) (@Ai _ _ _ _ _ _ _ AF (pv 6) A1 (fun _ _=>rfl))) (@A4 _ _ _ _ _ _ _ _ AL (@A4 _ _ _ _ _ _ _ _ BH (pv 0) A1) A1)) A3 (by rfl)) (by rfl))) (by rfl) (by first|exact .inl rfl|exact .inr rfl|assumption)) (@A9 _ _ _ _ _ (@Ak _ _ (10) _ _ _ _ EJ.nd rfl (.inl rfl) (@A4 _ _ _ _ _ _ _ _ AL (@A4 _ _ _ _ _ _ _ _ BH (pv 0) A1) A1) (by rfl) (by first|exact .inl rfl|exact .inr rfl|assumption)) (@A9 _ _ _ _ _ (@BJ _ _ _ _ _ _ _ _ (@Bp _ _ _ _ _ _ _ _ (@Qk _ (@TC _ _ hr)) (pv 2) (@BL _ _ _ _ A3) (@Bk _ _ (by decide) (by decide))) (@Af _ _ _ (@Ak _ _ (10) _ _ _ _ EJ.nd rfl (.inl rfl) (@Ai _ _ _ _ _ _ _ AF (@Ai _ _ _ _ _ _ _ B2 (pv 2) A1 (fun _ _=>rfl)) A1 (fun _ _=>rfl)) (by rfl) (by first|exact .inl rfl|exact .inr rfl|assumption))) Ce) (@A9 _ _ _ _ _ (@Ak _ _ (11) _ _ _ _ EJ.nd rfl (.inl rfl) (@Av _ _ _ _ _ _ _ _ _ _ _ _ _ _ _ _ G_c (hr.mono (by omega)) (by rfl) T.m_c T.F_c.kp T.b_c .nil Aq (@A0 _ _ _ _ _ (pv 3) (@A0 _ _ _ _ _ (@A4 _ _ _ _ _ _ _ _ AL (@A4 _ _ _ _ _ _ _ _ AU (@B9 _ _ _ _ _ _ _ _ _ BY (by rfl) T.z_len BU (@A0 _ _ _ _ _ (pv 2) A3 (by rfl)) (by decide) (by decide) (by rfl) (by rfl)) (pv 10)) A1) A3 (by rfl)) (by rfl)) (by decide) (by rfl) (by rfl)) (by rfl) (by first|exact .inl rfl|exact .inr rfl|assumption)) (@Af _ _ _ (@AO _ _ _ _ (@FR _ _ _ _ _ (@Aj _ _ _ _ _ (pv 11) (@Aj _ _ _ _ _ (pv 9) (@Aj _ _ _ _ _ (@Bf _ _ _ _ _ (@A0 _ _ _ _ _ (@Ai _ _ _ _ _ _ _ AF (pv 7) A1 (fun _ _=>rfl)) (@A0 _ _ _ _ _ (@A4 _ _ _ _ _ _ _ _ AU (@A4 _ _ _ _ _ _ _ _ DS (pv 4) (@Ai _ _ _ _ _ _ _ AF (pv 7) A1 (fun _ _=>rfl))) (pv 8)) A3 (by rfl)) (by rfl))) (@Aj _ _ _ _ _ (pv 4) (@Aj _ _ _ _ _ (pv 10) Cy Cq) Cq) Lu) Cq) Cq))))))))))))),?_⟩
 have hk:=hall.1
 obtain⟨ab,hab,eab⟩:=Ez (L:=[0,0,far]) (i:=n%3) 3 rfl (B7 _ (by decide)) (B8 _ (by decide))
 refine⟨_,rfl,Ar rfl,fun q1 hq1=>⟨_,rfl,_,_,rfl,rfl,(by show(0:Int)<3;decide),q1,_,_,_,rfl,rfl,A7.of A6,eab,?_⟩⟩
 have e1:=Ab hq1 (.lst [V.int 0,V.int 0,V.int far])
 dsimp only[Am]
 generalize upd H q1 (.lst [V.int 0,V.int 0,V.int far])=H1 at e1
 have abb : -(10 ^ 17)<=ab/\ab<=10 ^ 17:=by
  simp only[AE,CY,or_false]at hab
  omega
 refine⟨Ar rfl,fun t0 ht0=>⟨Ar rfl,fun l0 hl0=>?_⟩⟩
 have e2:=e1.trans ((Ab ht0 (.tup [V.str "",V.int 0])).trans (Ab hl0 (.lst [V.ref t0])))
 have ht02:(upd (upd H1 t0 (.tup [V.str "",V.int 0])) l0 (.lst [V.ref t0])) t0=some (.tup [V.str "",V.int 0]):=Ab hl0 _ _ _ A6
 have hl02:(upd (upd H1 t0 (.tup [V.str "",V.int 0])) l0 (.lst [V.ref t0])) l0=some (.lst [V.ref t0]):=A6
 generalize upd (upd H1 t0 (.tup [V.str "",V.int 0])) l0 (.lst [V.ref t0])=H2 at e2 ht02 hl02
 refine⟨_,rfl,st,rfl,⟨_,A7.of (e2 _ _ hv)⟩,?_⟩
 refine Ha (xs:=vs) (fun i ys H'=>Aa H2 H'/\ys.length=i/\IK H' S ys) ⟨Aa.refl _,rfl,fun v hv=>by cases hv⟩ (Bo (by omega)) (fun i ys H' hi p=>⟨A7.of (p.1 _ _ (e2 _ _ hv)),by omega⟩) (fun i x ys H' hx p=>?_) (fun ys H' p r hr'=>?_)
 .obtain⟨e3,yl,yp⟩:=p
  obtain⟨qq,hqq,hlq⟩:=hall.get' hx
  obtain⟨p0,p1,p2,rfl,h0,_⟩:=hlq.over (e2.trans e3)
  refine⟨_,rfl,p0,_,0,_,rfl,rfl,A8.of h0,rfl,_,rfl,p0,_,3,_,rfl,rfl,A8.of h0,rfl,Ar rfl,fun t4 ht4=>?_⟩
  have s4:=Ab ht4 (.tup [V.str qq.nm,V.int qq.ab])
  refine⟨e3.trans s4,by rw[Ac,yl];rfl,fun v hv'=>?_⟩
  rcases Cj.mp hv' with h|h
  .exact(yp.over s4) v h
  .rw[BW]at h
   exact⟨t4,qq.nm,qq.ab,h,A6,.inr ⟨qq,DH hqq,rfl,rfl⟩⟩
 obtain⟨e3,yl,yp⟩:=p
 have s4:=Ab hr' (.lst ys)
 refine⟨l0,r,_,_,rfl,rfl,s4 _ _ (e3 _ _ hl02),A6,Bo (by simp only[AN];omega),fun bl hbl=>?_⟩
 have s5:=Ab hbl (.lst ([V.ref t0]++ys))
 have e5:=(e2.trans e3).trans (s4.trans s5)
 have hB:∃bs,(upd (upd H' r (.lst ys)) bl (.lst ([V.ref t0]++ys))) bl=some (.lst bs)/\0<bs.length/\bs.length<=100/\IK (upd (upd H' r (.lst ys)) bl (.lst ([V.ref t0]++ys))) S bs:=by
  refine⟨_,A6,by rw[Ac];show 0<1+ys.length;omega,by rw[Ac];show 1+ys.length<=100;omega,fun v hv'=>?_⟩
  rcases Cj.mp hv' with h|h
  .rw[BW]at h
   exact⟨t0,_,_,h,s5 _ _ (s4 _ _ (e3 _ _ ht02)),.inl ⟨rfl,rfl⟩⟩
  .exact(yp.over (s4.trans s5)) v h
 dsimp only[Am]
 generalize upd (upd H' r (.lst ys)) bl (.lst ([V.ref t0]++ys))=H5 at e5 hB
 clear s4 s5 e3 yp hl02 ht02
 obtain⟨bs,hb,hb0,hb1,hbp⟩:=hB
 have hb2:(0:Int)<(bs.length:Int):=by omega
 obtain⟨v1,hv1,ev1⟩:=Hc (vs:=bs) (i:=n/3%(bs.length:Int)) (B7 _ (by omega)) (B8 _ hb2)
 obtain⟨t1,z1,k1,rfl,ht1,bz1⟩:=hbp v1 hv1
 obtain⟨v2,hv2,ev2⟩:=Hc (vs:=bs) (i:=n/13%(bs.length:Int)) (B7 _ (by omega)) (B8 _ hb2)
 obtain⟨t2,z2,k2,rfl,ht2,bz2⟩:=hbp v2 hv2
 refine⟨_,rfl,_,rfl,_,_,rfl,rfl,⟨by decide,by decide⟩,_,rfl,bl,_,rfl,.inl (A7.of hb),_,_,rfl,rfl,hb2,bl,_,_,_,rfl,rfl,A7.of hb,ev1,?_⟩
 refine⟨_,rfl,_,rfl,_,_,rfl,rfl,⟨by decide,by decide⟩,_,rfl,bl,_,rfl,.inl (A7.of hb),_,_,rfl,rfl,hb2,bl,_,_,_,rfl,rfl,A7.of hb,ev2,?_⟩
 dsimp only[Am]
 obtain⟨mo,hmo,emo⟩:=Ez (L:=[2,1,3,0,1,2,-1,1]) (i:=n/53%8) 8 rfl (B7 _ (by decide)) (B8 _ (by decide))
 refine⟨_,rfl,Ar rfl,fun q2 hq2=>⟨_,rfl,_,_,rfl,rfl,⟨by decide,by decide⟩,_,_,rfl,rfl,(by show(0:Int)<8;decide),q2,_,_,_,rfl,rfl,A7.of A6,emo,?_⟩⟩
 have mob : -1<=mo/\mo<=3:=by
  simp only[AE,CY,or_false]at hmo
  omega
 have s6:=Ab hq2 (.lst [V.int 2,V.int 1,V.int 3,V.int 0,V.int 1,V.int 2,V.int (-1),V.int 1])
 dsimp only[Am]
 generalize upd H5 q2 (.lst [V.int 2,V.int 1,V.int 3,V.int 0,V.int 1,V.int 2,V.int (-1),V.int 1])=H6 at s6
 have ht16:=s6 _ _ ht1
 have ht26:=s6 _ _ ht2
 have e6:=e5.trans s6
 refine⟨_,rfl,t1,_,0,_,rfl,rfl,A8.of ht16,rfl,_,rfl,_,rfl,t1,_,1,_,rfl,rfl,A8.of ht16,rfl,_,_,rfl,rfl,_,rfl,_,_,rfl,rfl,⟨by decide,by decide⟩,_,_,rfl,rfl,(by show(0:Int)<2;decide),_,_,rfl,rfl,Ar rfl,fun ls hls=>?_⟩
 have s7:=Ab hls (.tup [V.str z1,V.int (ab-k1+n/500%2)])
 have hls7:(upd H6 ls (.tup [V.str z1,V.int (ab-k1+n/500%2)])) ls=some (.tup [V.str z1,V.int (ab-k1+n/500%2)]):=A6
 dsimp only[Am]
 generalize upd H6 ls (.tup [V.str z1,V.int (ab-k1+n/500%2)])=H7 at s7 hls7
 have ht27:=s7 _ _ ht26
 have e7:=e6.trans s7
 refine⟨_,rfl,_,_,rfl,rfl,⟨by decide,by decide⟩,_,_,rfl,rfl,(by show(0:Int)<3;decide),?_⟩
 have u0:=B7 (n/4000) (show(3:Int)≠0 by decide)
 have u1:=B8 (n/4000) (show(0:Int)<3 by decide)
 dsimp only[Am]
 generalize n/4000%3=u at u0 u1 ⊢
 have hv7:=e7 _ _ hv
 obtain⟨ts,tr,td,tl⟩:=O6 (K:=K) (H:=H7) (vs:=vs) fun v hv'=>by
  obtain⟨j,hj⟩:=J3.mp hv'
  obtain⟨qq,hqq,hlq⟩:=hall.get' hj
  obtain⟨p0,p1,p2,rfl,h0,h1,h2⟩:=hlq.over e7
  have:=htn qq (DH hqq)
  exact⟨p0,p1,p2,qq.nm,qq.lz,qq.hz,qq.ln,qq.hn,qq.ab,qq.tn,rfl,h0,h1,h2,this.1,this.2⟩
 refine F2 (fun σ' H'=>Aa H7 H'/\∃u:Int,0<=u/\u<=2/\(∀r,S.head?=some r->u=r.tn)/\σ'=[some (.int n),some (.int far),some (.ref st),some (.int c),some (.int ab),some (.ref bl),some (.ref t1),some (.ref t2),some (.int mo),some (.ref ls),some (.int u),none]) (fun σ' H8 pp=>?_) (fun nx=>?_)
 .obtain⟨e8,u,u0,u1,hu,rfl⟩:=pp
  have f0:=B7 ((vs.length:Int)+u) (show(3:Int)≠0 by decide)
  have f1:=B8 ((vs.length:Int)+u) (show(0:Int)<3 by decide)
  refine⟨_,rfl,_,rfl,st,_,rfl,.inl (A7.of (e8 _ _ hv7)),_,rfl,_,_,rfl,rfl,_,_,rfl,rfl,(by show(0:Int)<3;decide),c,_,rfl,f0,by omega,fun H9 e9=>?_⟩
  dsimp only[Am]
  have e89:=e8.trans e9
  have ht29:=e89 _ _ ht27
  refine⟨_,rfl,_,rfl,_,rfl,t2,_,0,_,rfl,rfl,A8.of ht29,rfl,_,rfl,_,rfl,t2,_,1,_,rfl,rfl,A8.of ht29,rfl,_,_,rfl,rfl,_,rfl,_,_,rfl,rfl,Ar rfl,fun hs hhs=>⟨_,rfl,_,rfl,Ar rfl,fun rr hrr=>?_⟩⟩
  have sA:=Ab hhs (.tup [V.str z2,V.int (ab-k2+mo)])
  have sB:=Ab hrr (.tup [V.str (Bb (De (Bx c 11) (((vs.length:Int)+u)%3))),V.ref ls,V.ref hs,V.int ab,V.int u])
  exact q _ _ ⟨Bi c (((vs.length:Int)+u)%3),z1,ab-k1+n/500%2,z2,ab-k2+mo,ab,u⟩ (e7.trans (e89.trans (sA.trans sB))) ⟨rr,ls,hs,rfl,A6,sB _ _ (sA _ _ (e89 _ _ hls7)),sB _ _ A6⟩ ⟨⟨by rw[hk],u0,u1,hu,bz1.bs,bz2.bs⟩,abb,⟨k1,_,bz1,rfl,B7 _ (by decide),by have:=B8 (n/500) (show(0:Int)<2 by decide);omega⟩,⟨k2,mo,bz2,rfl,mob⟩⟩
 .refine⟨_,rfl,Ar rfl,fun z hz=>?_⟩
  have s8:=Ab hz (.lst [])
  refine⟨_,_,.lst (A7.of (s8 _ _ hv7)) (tr.over s8),.lst (A7.of A6) .nil,⟨_,rfl⟩,⟨_,rfl⟩,(by rw[CJ];cases ts<;>rfl),(by rw[E4];omega),_,rfl,?_⟩
  cases ts with
  |
   nil=>
   refine Ba (v:=false) rfl (Bm (nx _ _ ⟨s8,u,u0,by omega,fun r hr=>?_,rfl⟩))
   have:S=[]:=Mp (by rw[←hk,←tl];rfl)
   rw[this]at hr
   cases hr
  |
   cons t0' ts'=>
   refine Ba (v:=true) rfl (Ca ?_)
   have hpos:0<vs.length:=by rw[←tl];exact Hs _
   have h0:vs[0]?=some vs[0]:=Be hpos
   have hS0:S[0]?=some S[0]:=Be (by omega)
   obtain⟨p0,p1,p2,ev0,g0,_⟩:=(hall.2 0 _ _ h0 hS0).over (e7.trans s8)
   have at0:BA vs (0:Int)=some (.ref p0):=by rw[←ev0];exact D7 (j:=0) h0
   have hr0:=htn S[0] (FW _)
   refine⟨_,rfl,st,_,0,_,rfl,rfl,A7.of (s8 _ _ hv7),at0,p0,_,4,_,rfl,rfl,A8.of g0,rfl,?_⟩
   refine nx _ _ ⟨s8,_,hr0.1,hr0.2,fun r hr=>?_,rfl⟩
   rw[List.head?_eq_getElem?,hS0]at hr
   cases hr
   rfl
theorem U4 (T:Tx K mg a):AA P w K mg base AJ 1 a.f_O a.d_O ["self","n"] (Ja a.c_Number ["n"]):=by
 refine T.F_O.ok Us (fun vs H Q E h=>?_) (fun cdv A outer s H vs Q E hr h=>?_)
 .obtain⟨_,_,vs,rfl,hl,_⟩:=h;rw[B6,hl];rfl
 obtain⟨x,dx,vs,rfl,hl,hx,q⟩:=h
 obtain⟨n,rfl⟩:∃n,vs=[n]:=by match vs,hl with|[n],_=>exact⟨n,rfl⟩
 refine⟨_,(Af (CB (pv 0) (pv 1) rfl)),?_⟩
 exact⟨_,rfl,_,rfl,x,_,dx,_,rfl,hx,T.cl_Number,T.n_Number_n,(by show 0<1000;decide),q _ (fun b o e hb=>by rw[Ag hb];exact e) ⟨dx,A6⟩⟩
theorem Qw (T:Tx K mg a):AA P w K mg base AJ 1 a.f_P a.d_P ["self","name"] (Ja a.c_Value ["name"]):=by
 refine T.F_P.ok Xr (fun vs H Q E h=>?_) (fun cdv A outer s H vs Q E hr h=>?_)
 .obtain⟨_,_,vs,rfl,hl,_⟩:=h;rw[B6,hl];rfl
 obtain⟨x,dx,vs,rfl,hl,hx,q⟩:=h
 obtain⟨n,rfl⟩:∃n,vs=[n]:=by match vs,hl with|[n],_=>exact⟨n,rfl⟩
 refine⟨_,(Af (CB (pv 0) (pv 1) rfl)),?_⟩
 exact⟨_,rfl,_,rfl,x,_,dx,_,rfl,hx,T.cl_Value,T.n_Value_name,(by show 0<1000;decide),q _ (fun b o e hb=>by rw[Ag hb];exact e) ⟨dx,A6⟩⟩
theorem TF (T:Tx K mg a):AA P w K mg base AJ 1 a.f_Q a.d_Q ["self","table","spots"] (Ja a.c_Cell ["table","spots"]):=by
 refine T.F_Q.ok Ss (fun vs H Q E h=>?_) (fun cdv A outer s H vs Q E hr h=>?_)
 .obtain⟨_,_,vs,rfl,hl,_⟩:=h;rw[B6,hl];rfl
 obtain⟨x,dx,vs,rfl,hl,hx,q⟩:=h
 obtain⟨n,m,rfl⟩:∃n m,vs=[n,m]:=by match vs,hl with|[n,m],_=>exact⟨n,m,rfl⟩
 refine⟨_,(A9 (CB (pv 0) (pv 1) rfl)
  (Af (CB (pv 0) (pv 2) rfl))),?_⟩
 refine⟨_,rfl,_,rfl,x,_,dx,_,rfl,hx,T.cl_Cell,T.n_Cell_table,(by show 0<1000;decide),?_⟩
 refine⟨_,rfl,_,rfl,x,_,dx,_,rfl,A6,T.cl_Cell,T.n_Cell_spots,(by show 1<1000;decide),?_⟩
 exact q _ (fun b o e hb=>by
   repeat rw[Ag hb]
   exact e) ⟨dx,A6⟩
theorem Qu (T:Tx K mg a):AA P w K mg base AJ 1 a.f_R a.d_R ["self","sign","left","right"] (Ja a.c_Joined ["sign","left","right"]):=by
 refine T.F_R.ok XE (fun vs H Q E h=>?_) (fun cdv A outer s H vs Q E hr h=>?_)
 .obtain⟨_,_,vs,rfl,hl,_⟩:=h;rw[B6,hl];rfl
 obtain⟨x,dx,vs,rfl,hl,hx,q⟩:=h
 obtain⟨n,m,o,rfl⟩:∃n m o,vs=[n,m,o]:=by match vs,hl with|[n,m,o],_=>exact⟨n,m,o,rfl⟩
 refine⟨_,(A9 (CB (pv 0) (pv 1) rfl)
  (A9 (CB (pv 0) (pv 2) rfl)
  (Af (CB (pv 0) (pv 3) rfl)))),?_⟩
 refine⟨_,rfl,_,rfl,x,_,dx,_,rfl,hx,T.cl_Joined,T.n_Joined_sign,(by show 0<1000;decide),?_⟩
 refine⟨_,rfl,_,rfl,x,_,dx,_,rfl,A6,T.cl_Joined,T.n_Joined_left,(by show 1<1000;decide),?_⟩
 refine⟨_,rfl,_,rfl,x,_,dx,_,rfl,A6,T.cl_Joined,T.n_Joined_right,(by show 2<1000;decide),?_⟩
 exact q _ (fun b o e hb=>by
   repeat rw[Ag hb]
   exact e) ⟨dx,A6⟩
theorem Xq (T:Tx K mg a):AA P w K mg base AJ 1 a.f_S a.d_S ["self","names","lows","highs","table","spots","term","path"] (S7 a.c_Deed):=by
 refine T.F_S.ok Vt (fun vs H Q E h=>?_) (fun cdv A outer s H vs Q E hr h=>?_)
 .obtain⟨_,_,_,_,_,_,_,_,_,rfl,_⟩:=h;rfl
 obtain⟨x,dx,v1,v2,v3,v4,v5,v6,v7,rfl,hx,q⟩:=h
 refine⟨_,(A9 (CB (pv 0) (pv 1) rfl)
  (A9 (CB (pv 0) (pv 2) rfl)
  (A9 (CB (pv 0) (pv 3) rfl)
  (A9 (CB (pv 0) (pv 4) rfl)
  (A9 (CB (pv 0) (pv 5) rfl)
  (A9 (CB (pv 0) (pv 6) rfl)
  (Af (CB (pv 0) (pv 7) rfl)))))))),?_⟩
 refine⟨_,rfl,_,rfl,x,_,dx,_,rfl,hx,T.cl_Deed,T.n_Deed_names,(by show 0<1000;decide),?_⟩
 refine⟨_,rfl,_,rfl,x,_,dx,_,rfl,A6,T.cl_Deed,T.n_Deed_lows,(by show 1<1000;decide),?_⟩
 refine⟨_,rfl,_,rfl,x,_,dx,_,rfl,A6,T.cl_Deed,T.n_Deed_highs,(by show 2<1000;decide),?_⟩
 refine⟨_,rfl,_,rfl,x,_,dx,_,rfl,A6,T.cl_Deed,T.n_Deed_table,(by show 3<1000;decide),?_⟩
 refine⟨_,rfl,_,rfl,x,_,dx,_,rfl,A6,T.cl_Deed,T.n_Deed_spots,(by show 4<1000;decide),?_⟩
 refine⟨_,rfl,_,rfl,x,_,dx,_,rfl,A6,T.cl_Deed,T.n_Deed_term,(by show 5<1000;decide),?_⟩
 refine⟨_,rfl,_,rfl,x,_,dx,_,rfl,A6,T.cl_Deed,T.n_Deed_path,(by show 6<1000;decide),?_⟩
 exact q _ (fun b o e hb=>by
   repeat rw[Ag hb]
   exact e) ⟨dx,A6⟩
theorem X3 (T:Tx K mg a):AA P w K mg base AJ 1 a.f_T a.d_T ["self","size","deeds"] (Wz K a.c_Program):=by
 refine T.F_T.ok Wy (fun vs H Q E h=>?_) (fun cdv A outer s H vs Q E hr h=>?_)
 .obtain⟨_,_,_,_,_,rfl,_⟩:=h;rfl
 obtain⟨x,dx,sz,p,ys,rfl,hx,hp,q⟩:=h
 refine⟨_,(A9 (CB (pv 0) (pv 1) rfl)
  (Af (CB (pv 0) (FH Qz (by rfl) T.z_list KW (A0 (pv 2) A3)) rfl))),?_⟩
 refine⟨_,rfl,_,rfl,x,_,dx,_,rfl,hx,T.cl_Program,T.n_Program_size,(by show 0<1000;decide),?_⟩
 refine⟨_,rfl,p,ys,rfl,.inl (A7.updI hp hx),fun l hl=>?_⟩
 have nxl:x≠l:=fun e=>by rw[e,A6]at hl;cases hl
 have hlH:H l=none:=by rw[Ag (Ne.symm nxl)]at hl;exact hl
 refine⟨_,rfl,x,_,dx,_,rfl,(by rw[Ag nxl];exact A6),T.cl_Program,T.n_Program_deeds,(by show 1<1000;decide),?_⟩
 refine q l _ hlH (fun b o e hb=>?_) ?_ ⟨dx,A6⟩
 .rw[Ag hb,Ag (Az e hlH),Ag hb]
  exact e
 .rw[Ag (Ne.symm nxl)]
  exact A6
theorem NY (T:Tx K mg a):∀n:Nat,AA P w K mg base AJ (n+2) a.f_d a.d_d ["_law_term_here"] (Nx (Pd a) n)
 |
  0=>by
  have no:∀vs H Q E,¬Nx (Pd a) 0 vs H Q E:=fun vs H Q E h=>by
   obtain⟨x,m,rs,_,hm,tm,_⟩:=h
   have:=tm.pos
   omega
  exact⟨fun vs H Q E h=>absurd h (no vs H Q E),fun A outer s H args us vs Q E _ _ _ _ h=>absurd h (no vs H Q E)⟩
 |
  n+1=>by
  have G_O :=@U4 P w K mg base a T
  have G_P :=@Qw P w K mg base a T
  have G_Q :=@TF P w K mg base a T
  have G_R :=@Qu P w K mg base a T
  have G_d:=NY T n
  refine T.F_d.ok Wt (fun vs H Q E h=>?_) (fun cdv A outer s H vs Q E hr h=>?_)
  .obtain⟨_,_,_,rfl,_⟩:=h;rfl
  obtain⟨x,m,rs,rfl,hm,tm,q⟩:=h
  refine⟨_,(A9 (BJ (Bp Dk (Ai AF (pv 0) A1 (fun _ _=>rfl)) BS (Bk _))
  (Af (AO (FG T.mk_Number G_O (hr.mono (by omega)) (by rfl) T.mc_Number T.b_O .nil Aq (A0 (Ai AF (pv 0) A1 (fun _ _=>rfl)) A3))))
  Ce)
  (A9 (BJ (Bp Dk (Ai AF (pv 0) A1 (fun _ _=>rfl)) BS (Bk _))
  (Af (AO (FG T.mk_Value G_P (hr.mono (by omega)) (by rfl) T.mc_Value T.b_P .nil Aq (A0 (Ai AF (pv 0) A1 (fun _ _=>rfl)) A3))))
  Ce)
  (A9 (BJ (Bp Dk (Ai AF (pv 0) A1 (fun _ _=>rfl)) BS (Bk _))
  (Af (AO (FG T.mk_Cell G_Q (hr.mono (by omega)) (by rfl) T.mc_Cell T.b_Q .nil Aq (A0 (Ai AF (pv 0) A1 (fun _ _=>rfl)) (A0 (Ai AF (pv 0) A1 (fun _ _=>rfl)) A3)))))
  Ce)
  (Af (AO (FG T.mk_Joined G_R (hr.mono (by omega)) (by rfl) T.mc_Joined T.b_R .nil Aq (A0 (Ai AF (pv 0) A1 (fun _ _=>rfl)) (A0 (Av G_d (hr.mono (by omega)) (by rfl) T.m_d T.F_d.kp T.b_d .nil Aq (A0 (Ai AF (pv 0) A1 (fun _ _=>rfl)) A3)) (A0 (Av G_d (hr.mono (by omega)) (by rfl) T.m_d T.F_d.kp T.b_d .nil Aq (A0 (Ai AF (pv 0) A1 (fun _ _=>rfl)) A3)) A3))))))))),?_⟩
  cases tm with
  |
   @n t i h=>
   refine⟨_,rfl,t,_,0,_,rfl,rfl,A8.of h,rfl,rfl,_,rfl,Ba (v:=true) (Cc rfl) (Ca ?_)⟩
   refine⟨_,rfl,t,_,1,_,rfl,rfl,A8.of h,rfl,fun x dx nx ndx ne=>⟨x,dx,[_],rfl,rfl,A6,fun H2 k2 hx2=>⟨rfl,?_⟩⟩⟩
   obtain⟨dx2,hx2⟩:=hx2
   exact q _ _ (GX nx ndx k2) (.num i hx2)
  |
   @v t z h=>
   refine⟨_,rfl,t,_,0,_,rfl,rfl,A8.of h,rfl,rfl,_,rfl,Ba (v:=false) (dS (by decide +kernel)) (Bm ?_)⟩
   refine⟨_,rfl,t,_,0,_,rfl,rfl,A8.of h,rfl,rfl,_,rfl,Ba (v:=true) (Cc rfl) (Ca ?_)⟩
   refine⟨_,rfl,t,_,1,_,rfl,rfl,A8.of h,rfl,fun x dx nx ndx ne=>⟨x,dx,[_],rfl,rfl,A6,fun H2 k2 hx2=>⟨rfl,?_⟩⟩⟩
   obtain⟨dx2,hx2⟩:=hx2
   exact q _ _ (GX nx ndx k2) (.val z hx2)
  |
   @c t p z h hsp=>
   refine⟨_,rfl,t,_,0,_,rfl,rfl,A8.of h,rfl,rfl,_,rfl,Ba (v:=false) (dS (by decide +kernel)) (Bm ?_)⟩
   refine⟨_,rfl,t,_,0,_,rfl,rfl,A8.of h,rfl,rfl,_,rfl,Ba (v:=false) (dS (by decide +kernel)) (Bm ?_)⟩
   refine⟨_,rfl,t,_,0,_,rfl,rfl,A8.of h,rfl,rfl,_,rfl,Ba (v:=true) (Cc rfl) (Ca ?_)⟩
   refine⟨_,rfl,t,_,1,_,rfl,rfl,A8.of h,rfl,_,rfl,t,_,2,_,rfl,rfl,A8.of h,rfl,fun x dx nx ndx ne=>⟨x,dx,[_,_],rfl,rfl,A6,fun H2 k2 hx2=>⟨rfl,?_⟩⟩⟩
   obtain⟨dx2,hx2⟩:=hx2
   exact q _ _ (GX nx ndx k2) (.cel z hx2)
  |
   @j t l r m1 m2 rs us z hz h tl tr=>
   obtain⟨z1,z2,z3⟩:=R6 hz
   have:=tl.pos
   have:=tr.pos
   refine⟨_,rfl,t,_,0,_,rfl,rfl,A8.of h,rfl,rfl,_,rfl,Ba (v:=false) (dS z1) (Bm ?_)⟩
   refine⟨_,rfl,t,_,0,_,rfl,rfl,A8.of h,rfl,rfl,_,rfl,Ba (v:=false) (dS z2) (Bm ?_)⟩
   refine⟨_,rfl,t,_,0,_,rfl,rfl,A8.of h,rfl,rfl,_,rfl,Ba (v:=false) (dS z3) (Bm ?_)⟩
   refine⟨_,rfl,t,_,0,_,rfl,rfl,A8.of h,rfl,_,rfl,t,_,1,_,rfl,rfl,A8.of h,rfl,l,m1,rs,rfl,by omega,tl,fun y1 H1 e1 o1=>?_⟩
   refine⟨_,rfl,t,_,2,_,rfl,rfl,A8.of (e1 _ _ h),rfl,r,m2,us,rfl,by omega,tr.over e1,fun y2 H2 e2 o2=>?_⟩
   refine fun x dx nx ndx ne=>⟨x,dx,[_,_,_],rfl,rfl,A6,fun H3 k3 hx3=>⟨rfl,?_⟩⟩
   obtain⟨dx3,hx3⟩:=hx3
   have e3:=GX nx ndx k3
   refine q _ _ (e1.trans (e2.trans e3)) ?_
   exact .joi z hx3 ((o1.over e2).over e3) (o2.over e3)
theorem Qx (T:Tx K mg a):AA P w K mg base AJ 3 a.f_D a.d_D ["_law_script"] (VC K):=by
 have G_b :=@Kn P w K mg base a T
 have G_a :=@F8 P w K mg base a T
 have G_c :=@Lz P w K mg base a T
 refine T.F_D.ok GK (fun vs H Q E h=>?_) (fun cdv A outer s H vs Q E hr h=>?_)
 .obtain⟨_,_,rfl,_⟩:=h;rfl
 obtain⟨p,ns,rfl,hp,q⟩:=h
 refine⟨_,(A9 (Ak (i:=1) GK.nd rfl (.inl rfl) (Av G_b (hr.mono (by omega)) (by rfl) T.m_b T.F_b.kp T.b_b .nil Aq (A0 (pv 0) (A0 A1 A3))))
  (A9 (Ak (i:=2) GK.nd rfl (.inl rfl) (Av G_a (hr.mono (by omega)) (by rfl) T.m_a T.F_a.kp T.b_a .nil Aq (A0 (pv 1) (A0 A1 A3))))
  (A9 (Ak (i:=3) GK.nd rfl (.inl rfl) (Ai B2 (Et (Aj A1 (Aj A1 (Aj (A4 DS (A4 AL (pv 1) (A4 AU (A4 CT A1 (A4 EG A1 A1)) A1)) (A4 EG A1 A1)) Cy Ge) AC) AC)) (A4 AL (pv 2) A1) (fun _ _=>rfl)))
  (A9 (Ak (i:=4) GK.nd rfl (.inl rfl) (BL A3))
  (A9 (CH PassesOwn.never rfl (EZ (by rfl) T.z_range (A0 A1 A3)) (B0 (i:=5) GK.nd rfl (.inl rfl))
  (Af (Cp (Ec EA EB EC Eg (pv 4) (A0 (FR (Aj (Av G_c (hr.mono (by omega)) (by rfl) T.m_c T.F_c.kp T.b_c .nil Aq (A0 (A4 BH (pv 2) A1) (A0 (pv 5) A3))) (Aj (Ai B2 (Et (Aj A1 (Aj A1 (Aj A1 (Aj A1 (Aj A1 (Aj A1 Cy AC) AC) AC) AC) AC) AC)) (A4 AL (A4 AU (A4 BH (pv 2) A1) (pv 5)) A1) (fun _ _=>rfl)) (Aj (pv 3) Cy Cq) K1) LN)) A3)))))
  (Af (AO (pv 4)))))))),?_⟩
 refine⟨_,rfl,p,ns,0,rfl,hp,by decide,by decide,fun c=>?_⟩
 dsimp only[Am]
 refine⟨_,rfl,c,0,rfl,?_⟩
 obtain⟨m0,m1⟩:=F4 c 0
 generalize Bx c 0=m at m0 m1 ⊢
 dsimp only[Am]
 obtain⟨of',_,eof⟩:=Ez (L:=[0,0,c%(2*10 ^ (17:Int).toNat+1)-10 ^ (17:Int).toNat]) (i:=m%3) 3 rfl (B7 _ (by decide)) (B8 _ (by decide))
 refine⟨_,rfl,_,_,rfl,rfl,⟨by decide,by decide,by decide⟩,_,_,rfl,rfl,.inl ⟨by decide,by decide⟩,_,_,rfl,rfl,_,_,rfl,rfl,(by show(0:Int)<2*10 ^ (17:Int).toNat+1;decide),_,_,rfl,rfl,⟨by decide,by decide,by decide⟩,_,_,rfl,rfl,Ar rfl,fun q1 hq1=>?_⟩
 have s1:=Ab hq1 (.lst [V.int 0,V.int 0,V.int (c%(2*10 ^ (17:Int).toNat+1)-10 ^ (17:Int).toNat)])
 refine⟨_,rfl,_,_,rfl,rfl,(by show(0:Int)<3;decide),q1,_,_,_,rfl,rfl,A7.of A6,eof,?_⟩
 dsimp only[Am]
 generalize upd H q1 (.lst [V.int 0,V.int 0,V.int (c%(2*10 ^ (17:Int).toNat+1)-10 ^ (17:Int).toNat)])=H1 at s1
 refine⟨Ar rfl,fun l hl=>?_⟩
 have hl0:H l=none:=s1.free hl
 dsimp only[Am]
 refine⟨3,rfl,by decide,by decide,?_⟩
 refine Ej (lo:=0) (n:=3) (fun i σ' H'=>Aa H1 H'/\(∃o5,σ'=[some (.ref p),some (.int c),some (.int m),some (.int of'),some (.ref l),o5])/\∃xs:List V,H' l=some (.lst xs)/\xs.length=i/\∀v∈xs,∃(t:Addr) (z:Str) (m n:Int),v = .ref t/\H' t=some (.tup [.str z,.int m,.int n])/\1<=m/\m<=3) ⟨Ab hl _,⟨_,rfl⟩,[],A6,rfl,fun v hv=>by cases hv⟩ (fun i σ' H' hi pp=>?_) (fun σ' H' pp=>?_)
 .obtain⟨e,⟨o5,rfl⟩,xs,hx,xl,hxs⟩:=pp
  have e0':(0:Int)+(i:Int)=(i:Int):=by omega
  rw[e0']
  refine⟨_,rfl,.inl ⟨rfl,_,A7.of hx⟩,_,rfl,_,_,rfl,rfl,⟨by decide,by decide⟩,_,rfl,m/3,(i:Int),rfl,by omega,by omega,fun H2 e2=>⟨Ar rfl,fun q2 hq2=>?_⟩⟩
  obtain⟨k,hk,ek⟩:=Ez (L:=[1,2,1,3,1,2]) (i:=(m/7+(i:Int))%6) 6 rfl (B7 _ (by decide)) (B8 _ (by decide))
  have hk:1<=k/\k<=3:=by
   simp only[AE,CY,or_false]at hk
   omega
  have s3:=Ab hq2 (.lst [V.int 1,V.int 2,V.int 1,V.int 3,V.int 1,V.int 2])
  refine⟨_,rfl,_,_,rfl,rfl,⟨by decide,by decide⟩,_,rfl,_,_,rfl,rfl,_,_,rfl,rfl,(by show(0:Int)<6;decide),q2,_,_,_,rfl,rfl,A7.of A6,ek,_,rfl,Ar rfl,fun t4 ht4=>?_⟩
  have s4:=Ab ht4 (.tup [V.str (Bb (De (Bx (m/3) 11) (i:Int))),V.int k,V.int of'])
  have e4:=e2.trans (s3.trans s4)
  have hx4:=e4 _ _ hx
  have ne4:t4≠l:=fun z=>by rw[z,s3 _ _ (e2 _ _ hx)]at ht4;cases ht4
  refine⟨l,_,_,rfl,rfl,hx4,DC (by omega),?_⟩
  refine⟨fun a o ha=>by rw[Ag (Az ha hl)];exact e4 _ _ (e _ _ ha),⟨_,rfl⟩,_,A6,by rw[Ac,xl];rfl,fun v hv=>?_⟩
  rcases Cj.mp hv with hv|hv
  .obtain⟨t,z,m',n',rfl,ht,h1,h2⟩:=hxs v hv
   exact⟨t,z,m',n',rfl,by rw[Ag (Jl ht hx (by intro z;cases z))];exact e4 _ _ ht,h1,h2⟩
  .rw[BW]at hv
   exact⟨t4,_,k,of',hv,by rw[Ag ne4];exact A6,hk.1,hk.2⟩
 .obtain⟨e,⟨o5,rfl⟩,xs,hx,xl,hxs⟩:=pp
  exact⟨_,rfl,q l _ (s1.trans e) ⟨xs,hx,xl,hxs⟩⟩
theorem UO (T:Tx K mg a):AA P w K mg base AJ 5 a.f_C a.d_C ["_law_cell_here","_law_stack","_law_path","_law_heads_here"] VY:=by
 have G_a :=@F8 P w K mg base a T
 have G_o :=@Pb P w K mg base a T
 have G_A :=@Uh P w K mg base a T
 refine T.F_C.ok Gi (fun vs H Q E h=>?_) (fun cdv A outer s H vs Q E hr h=>?_)
 .obtain⟨_,_,_,_,_,_,rfl,_⟩:=h;rfl
 obtain⟨c,st,pt,hd,S,ps,rfl,⟨vs,hv,hall⟩,k10,hpt,hH,q⟩:=h
 refine⟨_,(A9 (Ak (i:=4) Gi.nd rfl (.inl rfl) (A4 Gu (BL (A0 (Bf (A0 BS (A0 A1 A3))) A3)) (Gf ["_law_one"] [none] (by rfl) (DR (pv 1)) Ww (fun _ _ _ _ _ _=>⟨(B0 (i:=0) Qh rfl (.inl rfl)),Gz,(Bf (A0 (Ai (show CU _ (Do K) from AF) (pv 0) A1 (fun _ _=>rfl)) (A0 (Ai (show CU _ (Do K) from AF) (pv 0) A1 (fun _ _=>rfl)) A3)))⟩))))
  (A9 (Ak (i:=5) Gi.nd rfl (.inl rfl) (FH G6 (by rfl) T.z_tuple G3 (A0 (Gf ["_law_one"] [none] (by rfl) (DR (pv 1)) Up (fun _ _ _ _ _ _=>⟨(B0 (i:=0) S6 rfl (.inl rfl)),Gz,(Ai (show CU _ (Do K) from AF) (pv 0) A1 (fun _ _=>rfl))⟩)) A3)))
  (A9 (Ak (i:=6) Gi.nd rfl (.inl rfl) (FH G6 (by rfl) T.z_tuple G3 (A0 (Gf ["_law_one"] [none] (by rfl) (DR (pv 1)) WG (fun _ _ _ _ _ _=>⟨(B0 (i:=0) Sd rfl (.inl rfl)),Gz,(Ai (show CU _ (Do K) from AF) (pv 0) A1 (fun _ _=>rfl))⟩)) A3)))
  (A9 (Ak (i:=7) Gi.nd rfl (.inl rfl) (FH G6 (by rfl) T.z_tuple G3 (A0 (Gf ["_law_one"] [none] (by rfl) (DR (pv 1)) Ve (fun _ _ _ _ _ _=>⟨(B0 (i:=0) T4 rfl (.inl rfl)),Gz,(Ai (show CU _ (Do K) from AF) (pv 0) A1 (fun _ _=>rfl))⟩)) A3)))
  (A9 (HV (Av G_o (hr.mono (by omega)) (by rfl) T.m_o T.F_o.kp T.b_o .nil Aq (A0 (Av G_a (hr.mono (by omega)) (by rfl) T.m_a T.F_a.kp T.b_a .nil Aq (A0 (pv 0) (A0 A1 A3))) (A0 (pv 4) (A0 (pv 3) A3)))) (ES rfl (Co (B0 (i:=8) Gi.nd rfl (.inl rfl)) (Co (B0 (i:=9) Gi.nd rfl (.inl rfl)) EN))))
  (Af (AO (FR (Aj (pv 5) (Aj (pv 6) (Aj (pv 7) (Aj (pv 8) (Aj (pv 9) (Aj (Av G_A (hr.mono (by omega)) (by rfl) T.m_A T.F_A.kp T.b_A .nil Aq (A0 (pv 0) (A0 (pv 4) (A0 (pv 3) A3)))) (Aj (FH G6 (by rfl) T.z_tuple G3 (A0 (pv 2) A3)) Cy LN) LN) Cq) Cq) Cq) Cq) Cq))))))))),?_⟩
 have hk:vs.length=S.length:=hall.1
 refine⟨Ar rfl,fun t0 ht0=>⟨Ar rfl,fun l0 hl0=>?_⟩⟩
 have e2:=(Ab ht0 (.tup [V.str "",V.int 0])).trans (Ab hl0 (.lst [V.ref t0]))
 have ht02:(upd (upd H t0 (.tup [V.str "",V.int 0])) l0 (.lst [V.ref t0])) t0=some (.tup [V.str "",V.int 0]):=Ab hl0 _ _ _ A6
 have hl02:(upd (upd H t0 (.tup [V.str "",V.int 0])) l0 (.lst [V.ref t0])) l0=some (.lst [V.ref t0]):=A6
 generalize upd (upd H t0 (.tup [V.str "",V.int 0])) l0 (.lst [V.ref t0])=H2 at e2 ht02 hl02
 refine⟨_,rfl,st,rfl,⟨_,A7.of (e2 _ _ hv)⟩,?_⟩
 refine Ha (xs:=vs) (fun i ys H'=>Aa H2 H'/\ys.length=i/\Ga H' ys) ⟨Aa.refl _,rfl,fun v hv=>by cases hv⟩ (Bo (by omega)) (fun i ys H' hi p=>⟨A7.of (p.1 _ _ (e2 _ _ hv)),by omega⟩) (fun i x ys H' hx p=>?_) (fun ys H' p r hr'=>?_)
 .obtain⟨e3,yl,yp⟩:=p
  obtain⟨qq,hqq,hlq⟩:=hall.get' hx
  obtain⟨p0,p1,p2,rfl,h0,_⟩:=hlq.over (e2.trans e3)
  refine⟨_,rfl,p0,_,0,_,rfl,rfl,A8.of h0,rfl,_,rfl,p0,_,3,_,rfl,rfl,A8.of h0,rfl,Ar rfl,fun t4 ht4=>?_⟩
  have s4:=Ab ht4 (.tup [V.str qq.nm,V.int qq.ab])
  refine⟨e3.trans s4,by rw[Ac,yl];rfl,fun v hv'=>?_⟩
  rcases Cj.mp hv' with h|h
  .exact(yp.over s4) v h
  .rw[BW]at h
   exact⟨t4,qq.nm,qq.ab,h,A6⟩
 obtain⟨e3,yl,yp⟩:=p
 have s4:=Ab hr' (.lst ys)
 refine⟨l0,r,_,_,rfl,rfl,s4 _ _ (e3 _ _ hl02),A6,Bo (by simp only[AN];omega),fun bl hbl=>?_⟩
 have s5:=Ab hbl (.lst ([V.ref t0]++ys))
 have e5:=(e2.trans e3).trans (s4.trans s5)
 have hB:FJ (upd (upd H' r (.lst ys)) bl (.lst ([V.ref t0]++ys))) bl:=by
  refine⟨_,A6,by rw[Ac];show 0<1+ys.length;omega,by rw[Ac];show 1+ys.length<=100;omega,fun v hv'=>?_⟩
  rcases Cj.mp hv' with h|h
  .rw[BW]at h
   exact⟨t0,_,_,h,s5 _ _ (s4 _ _ (e3 _ _ ht02))⟩
  .exact(yp.over (s4.trans s5)) v h
 dsimp only[Am]
 generalize upd (upd H' r (.lst ys)) bl (.lst ([V.ref t0]++ys))=H5 at e5 hB
 clear s4 s5 e3 yp hl02 ht02 yl hr' hbl e2 hl0 ht0
 refine⟨_,rfl,st,rfl,⟨_,A7.of (e5 _ _ hv)⟩,?_⟩
 refine Ha (xs:=vs) (fun i ys H'=>H'=H5/\ys=(AY (S.take i)).map V.str) ⟨rfl,rfl⟩ (Bo (by omega)) (fun i ys H' hi p=>by obtain⟨rfl,rfl⟩:=p;exact⟨A7.of (e5 _ _ hv),by unfold AY;rw[Ao,Ao,BG];omega⟩) (fun i x ys H' hx p=>?_) (fun y1 H6 p r1 hr1=>?_)
 .obtain⟨rfl,rfl⟩:=p
  obtain⟨qq,hqq,hlq⟩:=hall.get' hx
  obtain⟨p0,p1,p2,rfl,h0,_⟩:=hlq.over e5
  refine⟨_,rfl,p0,_,0,_,rfl,rfl,A8.of h0,rfl,rfl,?_⟩
  unfold AY
  rw[E2 hqq,Bv,Bv]
  rfl
 obtain⟨rfl,ey1⟩:=p
 rw[Dy (by omega)]at ey1
 refine⟨r1,_,rfl,.inl ⟨A7.of A6,fun u1 hu1=>?_⟩⟩
 have s6:=(Ab hr1 (.lst y1)).trans (Ab hu1 (.tup y1))
 have hu7:(upd (upd H6 r1 (.lst y1)) u1 (.tup y1)) u1=some (.tup y1):=A6
 dsimp only[Am]
 generalize upd (upd H6 r1 (.lst y1)) u1 (.tup y1)=H7 at s6 hu7
 have e7:=e5.trans s6
 refine⟨_,rfl,st,rfl,⟨_,A7.of (e7 _ _ hv)⟩,?_⟩
 refine Ha (xs:=vs) (fun i ys H'=>H'=H7/\Ay (fun v q=>Er H7 v (q.lz,q.ln)) ys (S.take i)) ⟨rfl,.nil⟩ (Bo (by omega)) (fun i ys H' hi p=>by obtain⟨rfl,p⟩:=p;exact⟨A7.of (e7 _ _ hv),by rw[p.1,BG];omega⟩) (fun i x ys H' hx p=>?_) (fun y2 H8 p r2 hr2=>?_)
 .obtain⟨rfl,yl⟩:=p
  obtain⟨qq,hqq,hlq⟩:=hall.get' hx
  obtain⟨p0,p1,p2,rfl,h0,h1,h2⟩:=hlq.over e7
  refine⟨_,rfl,p0,_,1,_,rfl,rfl,A8.of h0,rfl,rfl,?_⟩
  rw[E2 hqq]
  exact yl.snoc ⟨p1,rfl,h1⟩
 obtain⟨rfl,ay2⟩:=p
 rw[Dy (by omega)]at ay2
 refine⟨r2,_,rfl,.inl ⟨A7.of A6,fun u2 hu2=>?_⟩⟩
 have s8:=(Ab hr2 (.lst y2)).trans (Ab hu2 (.tup y2))
 have hu2':(upd (upd H8 r2 (.lst y2)) u2 (.tup y2)) u2=some (.tup y2):=A6
 dsimp only[Am]
 generalize upd (upd H8 r2 (.lst y2)) u2 (.tup y2)=H9 at s8 hu2'
 have e9:=e7.trans s8
 refine⟨_,rfl,st,rfl,⟨_,A7.of (e9 _ _ hv)⟩,?_⟩
 refine Ha (xs:=vs) (fun i ys H'=>H'=H9/\Ay (fun v q=>Er H9 v (q.hz,q.hn)) ys (S.take i)) ⟨rfl,.nil⟩ (Bo (by omega)) (fun i ys H' hi p=>by obtain⟨rfl,p⟩:=p;exact⟨A7.of (e9 _ _ hv),by rw[p.1,BG];omega⟩) (fun i x ys H' hx p=>?_) (fun y3 HA p r3 hr3=>?_)
 .obtain⟨rfl,yl⟩:=p
  obtain⟨qq,hqq,hlq⟩:=hall.get' hx
  obtain⟨p0,p1,p2,rfl,h0,h1,h2⟩:=hlq.over e9
  refine⟨_,rfl,p0,_,2,_,rfl,rfl,A8.of h0,rfl,rfl,?_⟩
  rw[E2 hqq]
  exact yl.snoc ⟨p2,rfl,h2⟩
 obtain⟨rfl,ay3⟩:=p
 rw[Dy (by omega)]at ay3
 refine⟨r3,_,rfl,.inl ⟨A7.of A6,fun u3 hu3=>?_⟩⟩
 have sA:=(Ab hr3 (.lst y3)).trans (Ab hu3 (.tup y3))
 have hu3':(upd (upd HA r3 (.lst y3)) u3 (.tup y3)) u3=some (.tup y3):=A6
 dsimp only[Am]
 generalize upd (upd HA r3 (.lst y3)) u3 (.tup y3)=HB at sA hu3'
 have eB:=e9.trans sA
 have hB2:=hB.over (s6.trans (s8.trans sA))
 refine⟨_,rfl,c,4,rfl,_,rfl,_,rfl,Bx c 4,bl,hd,rfl,(F4 c 4).1,hB2,hH.over eB,fun rc HC eC hC=>?_⟩
 obtain⟨z,p,hrc,hsp⟩:=hC
 refine⟨rc,_,rfl,A8.of hrc,rfl,_,_,rfl,_,_,rfl,rfl,?_⟩
 dsimp only[Am]
 have eBC:=eB.trans eC
 refine⟨_,rfl,_,rfl,_,rfl,_,rfl,_,rfl,_,rfl,_,rfl,_,rfl,c,bl,hd,rfl,hB2.over eC,hH.over eBC,fun x HD m rs eD m3 tm=>?_⟩
 have eD':=eBC.trans eD
 refine⟨_,rfl,pt,_,rfl,.inl ⟨A7.of (eD' _ _ hpt),fun u4 hu4=>⟨Ar rfl,fun rr hrr=>?_⟩⟩⟩
 have sE:=(Ab hu4 (.tup (ps.map V.int))).trans (Ab hrr (.tup [V.ref u1,V.ref u2,V.ref u3,V.str z,V.ref p,x,V.ref u4]))
 have eE:=eC.trans (eD.trans sE)
 refine q rr _ z p m rs (eD'.trans sE) ⟨rr,u1,u2,u3,u4,x,y2,y3,rfl,A6,?_,(sA.trans eE) _ _ hu2',ay2.mono fun _ _ w=>w.tk (Aa.tk (s8.trans (sA.trans eE))),eE _ _ hu3',ay3.mono fun _ _ w=>w.tk (Aa.tk (sA.trans eE)),Ab hrr _ _ _ A6,tm.over sE⟩ m3
 rw[←ey1]
 exact((s8.trans sA).trans eE) _ _ hu7
theorem Q6 (T:Tx K mg a):AA P w K mg base AJ 6 a.f_E a.d_E ["_law_script","_law_many_here"] (WK K):=by
 have G_b :=@NZ P w K mg base a T
 have G_a :=@F8 P w K mg base a T
 have G_B :=@QD P w K mg base a T
 have G_C :=@UO P w K mg base a T
 have G_D :=@Qx P w K mg base a T
 refine T.F_E.ok BX (fun vs H Q E h=>?_) (fun cdv A outer s H vs Q E hr h=>?_)
 .obtain⟨_,_,_,rfl,_⟩:=h;rfl
 obtain⟨p,ns,n,rfl,hp,h63,n6,q⟩:=h
 refine⟨_,(@A9 _ _ _ _ _ (@Ak _ _ (2) _ _ _ _ BX.nd rfl (.inl rfl) (@A4 _ _ _ _ _ _ _ _ DS (@A4 _ _ _ _ _ _ _ _ AL (@Av _ _ _ _ _ _ _ _ _ _ _ _ _ _ _ _ G_b (hr.mono (by omega)) (by rfl) T.m_b T.F_b.kp T.b_b .nil Aq (@A0 _ _ _ _ _ (pv 0) (@A0 _ _ _ _ _ A1 A3 (by rfl)) (by rfl)) (by decide) (by rfl) (by rfl)) (@A4 _ _ _ _ _ _ _ _ AU (@A4 _ _ _ _ _ _ _ _ CT A1 (@A4 _ _ _ _ _ _ _ _ EG A1 A1)) A1)) (@A4 _ _ _ _ _ _ _ _ EG A1 A1)) (by rfl) (by first|exact .inl rfl|exact .inr rfl|assumption)) (@A9 _ _ _ _ _ (@Ak _ _ (3) _ _ _ _ BX.nd rfl (.inl rfl) (@BL _ _ _ _ A3) (by rfl) (by first|exact .inl rfl|exact .inr rfl|assumption)) (@A9 _ _ _ _ _ (@Ak _ _ (4) _ _ _ _ BX.nd rfl (.inl rfl) (@BL _ _ _ _ (@A0 _ _ _ _ _ A1 A3 (by rfl))) (by rfl) (by first|exact .inl rfl|exact .inr rfl|assumption)) (@A9 _ _ _ _ _ (@Ak _ _ (5) _ _ _ _ BX.nd rfl (.inl rfl) (@BL _ _ _ _ A3) (by rfl) (by first|exact .inl rfl|exact .inr rfl|assumption)) (@A9 _ _ _ _ _ (@Ak _ _ (6) _ _ _ _ BX.nd rfl (.inl rfl) (@BL _ _ _ _ A3) (by rfl) (by first|exact .inl rfl|exact .inr rfl|assumption)) (@A9 _ _ _ _ _ (@CH _ _ _ _ _ _ _ _ PassesOwn.never rfl (@EZ _ _ _ _ _ _ (by rfl) T.z_range (@A0 _ _ _ _ _ (pv 1) A3 (by rfl)) (by rfl)) (B0 (i:=7) BX.nd rfl (.inl rfl)) (@A9 _ _ _ _ _ (@Ak _ _ (8) _ _ _ _ BX.nd rfl (.inl rfl) (@Av _ _ _ _ _ _ _ _ _ _ _ _ _ _ _ _ G_b (hr.mono (by omega)) (by rfl) T.m_b T.F_b.kp T.b_b .nil Aq (@A0 _ _ _ _ _ (pv 0) (@A0 _ _ _ _ _ (@A4 _ _ _ _ _ _ _ _ AU A1 (pv 7)) A3 (by rfl)) (by rfl)) (by decide) (by rfl) (by rfl)) (by rfl) (by first|exact .inl rfl|exact .inr rfl|assumption)) (@A9 _ _ _ _ _ (@Ak _ _ (9) _ _ _ _ BX.nd rfl (.inl rfl) (@Av _ _ _ _ _ _ _ _ _ _ _ _ _ _ _ _ G_a (hr.mono (by omega)) (by rfl) T.m_a T.F_a.kp T.b_a .nil Aq (@A0 _ _ _ _ _ (pv 8) (@A0 _ _ _ _ _ A1 A3 (by rfl)) (by rfl)) (by decide) (by rfl) (by rfl)) (by rfl) (by first|exact .inl rfl|exact .inr rfl|assumption)) (@A9 _ _ _ _ _ (@Ak _ _ (10) _ _ _ _ BX.nd rfl (.inl rfl) GS (by rfl) (by first|exact .inl rfl|exact .inr rfl|assumption)) (@A9 _ _ _ _ _ (@CH _ _ _ _ _ _ _ _ PassesOwn.never rfl (@EZ _ _ _ _ _ _ (by rfl) T.z_range (@A0 _ _ _ _ _ (@A4 _ _ _ _ _ _ _ _ AL (pv 9) (@A4 _ _ _ _ _ _ _ _ AU (@B9 _ _ _ _ _ _ _ _ _ BY (by rfl) T.z_len BU (@A0 _ _ _ _ _ (pv 3) A3 (by rfl)) (by decide) (by decide) (by rfl) (by rfl)) A1)) A3 (by rfl)) (by rfl)) (B0 (i:=11) BX.nd rfl (.inl rfl)) (@A9 _ _ _ _ _ (@Ak _ _ (10) _ _ _ _ BX.nd rfl (.inl rfl) (@Ai _ _ _ _ _ _ _ B2 (pv 3) (@Dt _ _ _ _ _ _ Dm A1) (fun _ _=>rfl)) (by rfl) (by first|exact .inl rfl|exact .inr rfl|assumption)) (@A9 _ _ _ _ _ (@Ak _ _ (3) _ _ _ _ BX.nd rfl (.inl rfl) (@E3 _ _ _ _ _ _ _ _ _ _ HL (pv 3) Eb (@Ef _ _ _ (@Dt _ _ _ _ _ _ Dm A1))) (by rfl) (by first|exact .inl rfl|exact .inr rfl|assumption)) (@A9 _ _ _ _ _ (@Ak _ _ (4) _ _ _ _ BX.nd rfl (.inl rfl) (@E3 _ _ _ _ _ _ _ _ _ _ HL (pv 4) Eb (@Ef _ _ _ (@Dt _ _ _ _ _ _ Dm A1))) (by rfl) (by first|exact .inl rfl|exact .inr rfl|assumption)) (@Af _ _ _ (@Ak _ _ (5) _ _ _ _ BX.nd rfl (.inl rfl) (@E3 _ _ _ _ _ _ _ _ _ _ HL (pv 5) Eb (@Ef _ _ _ (@Dt _ _ _ _ _ _ Dm A1))) (by rfl) (by first|exact .inl rfl|exact .inr rfl|assumption)))))) (by intro _;rfl)) (@A9 _ _ _ _ _ (@Ak _ _ (12) _ _ _ _ BX.nd rfl (.inl rfl) (@Ai _ _ _ _ _ _ _ B2 (@Et _ _ _ _ (@Aj _ _ _ _ _ A1 (@Aj _ _ _ _ _ A1 (@Aj _ _ _ _ _ A1 (@Aj _ _ _ _ _ A1 (@Aj _ _ _ _ _ A1 (@Aj _ _ _ _ _ A1 (@Aj _ _ _ _ _ A1 (@Aj _ _ _ _ _ A1 Cy AC) AC) AC) AC) AC) AC) AC) AC)) (@A4 _ _ _ _ _ _ _ _ AL (@A4 _ _ _ _ _ _ _ _ BH (pv 9) A1) A1) (fun _ _=>rfl)) (by rfl) (by first|exact .inl rfl|exact .inr rfl|assumption)) (@A9 _ _ _ _ _ (@BJ _ _ _ _ _ _ _ _ (@Bp _ _ _ _ _ _ _ _ Gv (pv 7) A1 (@Bk _ _ (by decide) (by decide))) (@Af _ _ _ (@Ak _ _ (12) _ _ _ _ BX.nd rfl (.inl rfl) (@Ai _ _ _ _ _ _ _ B2 (@Et _ _ _ _ (@Aj _ _ _ _ _ A1 (@Aj _ _ _ _ _ A1 (@Aj _ _ _ _ _ A1 (@Aj _ _ _ _ _ A1 (@Aj _ _ _ _ _ A1 (@Aj _ _ _ _ _ A1 (@Aj _ _ _ _ _ A1 (@Aj _ _ _ _ _ A1 Cy AC) AC) AC) AC) AC) AC) AC) AC)) (@A4 _ _ _ _ _ _ _ _ AL (@A4 _ _ _ _ _ _ _ _ BH (pv 9) A1) A1) (fun _ _=>rfl)) (by rfl) (by first|exact .inl rfl|exact .inr rfl|assumption))) Ce) (@A9 _ _ _ _ _ (@CH _ _ _ _ _ _ _ _ PassesOwn.never rfl (@EZ _ _ _ _ _ _ (by rfl) T.z_range (@A0 _ _ _ _ _ (@B9 _ _ _ _ _ _ _ _ _ (@W8 _ rfl) (by rfl) T.z_min V4 (@A0 _ _ _ _ _ (pv 12) (@A0 _ _ _ _ _ (@A4 _ _ _ _ _ _ _ _ DS A1 (@B9 _ _ _ _ _ _ _ _ _ BY (by rfl) T.z_len BU (@A0 _ _ _ _ _ (pv 3) A3 (by rfl)) (by decide) (by decide) (by rfl) (by rfl))) A3 (by rfl)) (by rfl)) (by decide) (by decide) (by rfl) (by rfl)) A3 (by rfl)) (by rfl)) (B0 (i:=13) BX.nd rfl (.inl rfl)) (@A9 _ _ _ _ _ (@Ak _ _ (14) _ _ _ _ BX.nd rfl (.inl rfl) (@Av _ _ _ _ _ _ _ _ _ _ _ _ _ _ _ _ G_B (hr.mono (by omega)) (by rfl) T.m_B T.F_B.kp T.b_B .nil Aq (@A0 _ _ _ _ _ (@Av _ _ _ _ _ _ _ _ _ _ _ _ _ _ _ _ G_a (hr.mono (by omega)) (by rfl) T.m_a T.F_a.kp T.b_a .nil Aq (@A0 _ _ _ _ _ (pv 8) (@A0 _ _ _ _ _ (@A4 _ _ _ _ _ _ _ _ AU A1 (pv 13)) A3 (by rfl)) (by rfl)) (by decide) (by rfl) (by rfl)) (@A0 _ _ _ _ _ (pv 2) (@A0 _ _ _ _ _ (pv 3) (@A0 _ _ _ _ _ (@Av _ _ _ _ _ _ _ _ _ _ _ _ _ _ _ _ G_b (hr.mono (by omega)) (by rfl) T.m_b T.F_b.kp T.b_b .nil Aq (@A0 _ _ _ _ _ (pv 0) (@A0 _ _ _ _ _ A1 A3 (by rfl)) (by rfl)) (by decide) (by rfl) (by rfl)) A3 (by rfl)) (by rfl)) (by rfl)) (by rfl)) (by decide) (by rfl) (by rfl)) (by rfl) (by first|exact .inl rfl|exact .inr rfl|assumption)) (@A9 _ _ _ _ _ (@BJ _ _ _ _ _ _ _ _ (@PW.pt _ _ _ (@Hf _ _ _ _ _ _ _ (@Bp _ _ _ _ _ _ _ _ Dk (pv 13) A1 (@Bk _ _ (by decide) (by decide))) (@Hf _ _ _ _ _ _ _ (@Bp _ _ _ _ _ _ _ _ O2 (pv 10) GS (@Bk _ _ (by decide) (by decide))) (@Il _ _ _ _ (@Bp _ _ _ _ _ _ _ _ Dk (@A4 _ _ _ _ _ _ _ _ AL (@A4 _ _ _ _ _ _ _ _ BH (pv 9) A1) A1) A1 (@Bk _ _ (by decide) (by decide))))))) (@Af _ _ _ (@Ak _ _ (14) _ _ _ _ BX.nd rfl (.inl rfl) (pv 10) (by rfl) (by first|exact .inl rfl|exact .inr rfl|assumption))) Ce) (@A9 _ _ _ _ _ (@Ak _ _ (3) _ _ _ _ BX.nd rfl (.inl rfl) (@A4 _ _ _ _ _ _ _ _ Gu (pv 3) (@BL _ _ _ _ (@A0 _ _ _ _ _ (pv 14) A3 (by rfl)))) (by rfl) (by first|exact .inl rfl|exact .inr rfl|assumption)) (@A9 _ _ _ _ _ (@Ak _ _ (5) _ _ _ _ BX.nd rfl (.inl rfl) (@A4 _ _ _ _ _ _ _ _ Gu (pv 5) (@BL _ _ _ _ (@A0 _ _ _ _ _ (@Ai _ _ _ _ _ _ _ B2 (pv 4) (@Dt _ _ _ _ _ _ Dm A1) (fun _ _=>rfl)) A3 (by rfl)))) (by rfl) (by first|exact .inl rfl|exact .inr rfl|assumption)) (@Af _ _ _ (@Ak _ _ (4) _ _ _ _ BX.nd rfl (.inl rfl) (@A4 _ _ _ _ _ _ _ _ Gu (@E3 _ _ _ _ _ _ _ _ _ _ HL (pv 4) Eb (@Ef _ _ _ (@Dt _ _ _ _ _ _ Dm A1))) (@BL _ _ _ _ (@A0 _ _ _ _ _ (@A4 _ _ _ _ _ _ _ _ AU (@Ai _ _ _ _ _ _ _ B2 (pv 4) (@Dt _ _ _ _ _ _ Dm A1) (fun _ _=>rfl)) A1) (@A0 _ _ _ _ _ A1 A3 (by rfl)) (by rfl)))) (by rfl) (by first|exact .inl rfl|exact .inr rfl|assumption))))))) (by intro _;rfl)) (@A9 _ _ _ _ _ (@Cp _ _ _ _ (@Ec _ _ _ _ _ _ _ _ _ _ _ _ EA EB EC Eg (pv 6) (@A0 _ _ _ _ _ (@Av _ _ _ _ _ _ _ _ _ _ _ _ _ _ _ _ G_C (hr.mono (by omega)) (by rfl) T.m_C T.F_C.kp T.b_C .nil Aq (@A0 _ _ _ _ _ (pv 8) (@A0 _ _ _ _ _ (pv 3) (@A0 _ _ _ _ _ (@A4 _ _ _ _ _ _ _ _ Gu (pv 5) (@BL _ _ _ _ (@A0 _ _ _ _ _ (@Ai _ _ _ _ _ _ _ B2 (pv 4) (@Dt _ _ _ _ _ _ Dm A1) (fun _ _=>rfl)) A3 (by rfl)))) (@A0 _ _ _ _ _ (@Av _ _ _ _ _ _ _ _ _ _ _ _ _ _ _ _ G_D (hr.mono (by omega)) (by rfl) T.m_D T.F_D.kp T.b_D .nil Aq (@A0 _ _ _ _ _ (pv 0) A3 (by rfl)) (by decide) (by rfl) (by rfl)) A3 (by rfl)) (by rfl)) (by rfl)) (by rfl)) (by decide) (by rfl) (by rfl)) A3 (by rfl)) (by rfl) (by rfl) (by rfl) (by rfl) (by rfl)) (by rfl)) (@Af _ _ _ (@Ak _ _ (4) _ _ _ _ BX.nd rfl (.inl rfl) (@A4 _ _ _ _ _ _ _ _ Gu (@E3 _ _ _ _ _ _ _ _ _ _ HL (pv 4) Eb (@Ef _ _ _ (@Dt _ _ _ _ _ _ Dm A1))) (@BL _ _ _ _ (@A0 _ _ _ _ _ (@A4 _ _ _ _ _ _ _ _ AU (@Ai _ _ _ _ _ _ _ B2 (pv 4) (@Dt _ _ _ _ _ _ Dm A1) (fun _ _=>rfl)) A1) A3 (by rfl)))) (by rfl) (by first|exact .inl rfl|exact .inr rfl|assumption))))))))))) (by intro _;rfl)) (@Af _ _ _ (@AO _ _ _ _ (pv 6))))))))),?_⟩
 refine⟨_,rfl,p,ns,2,rfl,hp,by decide,by decide,_,_,rfl,rfl,⟨by decide,by decide,by decide⟩,_,_,rfl,rfl,.inl ⟨by decide,by decide⟩,_,_,rfl,rfl,_,_,rfl,rfl,(by show(0:Int)<2*10 ^ (17:Int).toNat+1;decide),_,_,rfl,rfl,⟨by decide,by decide,by decide⟩,_,_,rfl,rfl,?_⟩
 dsimp only[Am]
 have fb : -(10 ^ 17)<=C4 ns 2%(2*10 ^ (17:Int).toNat+1)-10 ^ (17:Int).toNat/\C4 ns 2%(2*10 ^ (17:Int).toNat+1)-10 ^ (17:Int).toNat<=10 ^ 17:=by
  have g0:=B7 (C4 ns 2) (show(2*10 ^ (17:Int).toNat+1:Int)≠0 by decide)
  have g1:=B8 (C4 ns 2) (show(0:Int)<2*10 ^ (17:Int).toNat+1 by decide)
  have g2:(10:Int) ^ (17:Int).toNat=10 ^ 17:=rfl
  rw[g2]at g0 g1 ⊢
  omega
 generalize C4 ns 2%(2*10 ^ (17:Int).toNat+1)-10 ^ (17:Int).toNat=far at fb
 refine⟨Ar rfl,fun st0 hst0=>?_⟩
 have s1:=Ab hst0 (.lst [])
 have h1a:(upd H st0 (.lst [])) st0=some (.lst []):=A6
 dsimp only[Am]
 generalize upd H st0 (.lst [])=H1 at s1 h1a
 refine⟨Ar rfl,fun co0 hco0=>?_⟩
 have s2:=Ab hco0 (.lst [V.int 0])
 have h2b:(upd H1 co0 (.lst [V.int 0])) co0=some (.lst [V.int 0]):=A6
 have h2a:=s2 _ _ h1a
 dsimp only[Am]
 generalize upd H1 co0 (.lst [V.int 0])=H2 at s2 h2a h2b
 refine⟨Ar rfl,fun pa0 hpa0=>?_⟩
 have s3:=Ab hpa0 (.lst [])
 have h3c:(upd H2 pa0 (.lst [])) pa0=some (.lst []):=A6
 have h3a:=s3 _ _ h2a
 have h3b:=s3 _ _ h2b
 dsimp only[Am]
 generalize upd H2 pa0 (.lst [])=H3 at s3 h3a h3b h3c
 refine⟨Ar rfl,fun ro hro=>?_⟩
 have s4:=Ab hro (.lst [])
 have h4d:(upd H3 ro (.lst [])) ro=some (.lst []):=A6
 have h4a:=s4 _ _ h3a
 have h4b:=s4 _ _ h3b
 have h4c:=s4 _ _ h3c
 have e4:=s1.trans (s2.trans (s3.trans s4))
 have ro0:H ro=none:=(s1.trans (s2.trans s3)).free hro
 have na:st0≠ro:=Az h3a hro
 have nb:co0≠ro:=Az h3b hro
 have nc:pa0≠ro:=Az h3c hro
 dsimp only[Am]
 generalize upd H3 ro (.lst [])=H4 at s4 h4a h4b h4c h4d e4
 refine⟨_,rfl,(n:Int),rfl,by omega,by omega,?_⟩
 rw[FU]
 refine Ej (lo:=0) (n:=n) (fun i σ' H'=>∃(st co pa:Addr) (k:Nat) (vs:List V) (C Pp:List Int) (xs:List V) (Rs:List R3) (o7 o8 o9 o10 o11 o12 o13 o14:Option V),σ'=[some (.ref p),some (.int (n:Int)),some (.int far),some (.ref st),some (.ref co),some (.ref pa),some (.ref ro),o7,o8,o9,o10,o11,o12,o13,o14]/\Aa H H'/\H' st=some (.lst vs)/\vs.length=k/\(∃S,Ay (CO H') vs S/\CS Rs S C Pp (C4 ns 1))/\k<=3/\H' co=some (.lst (C.map V.int))/\C.length=k+1/\H' pa=some (.lst (Pp.map V.int))/\Pp.length=k/\st≠ro/\co≠ro/\pa≠ro/\H' ro=some (.lst xs)/\Ay (Ea H') xs Rs/\Rs.length=i/\((∀R∈Rs,DI (C4 ns 1) R)/\Rs.Pairwise Cr)) ⟨st0,co0,pa0,0,[],[0],[],[],[],_,_,_,_,_,_,_,_,rfl,e4,h4a,rfl,⟨[],.nil,CS.nil _⟩,by decide,h4b,rfl,h4c,rfl,na,nb,nc,h4d,.nil,rfl,⟨fun R hR=>(by cases hR),.nil⟩⟩ (fun i σ' H' hi pp=>?_) (fun σ' H' pp=>?_)
 rotate_left
 .obtain⟨st,co,pa,k,vs,C,Pp,xs,Rs,_,_,_,_,_,_,_,_,rfl,e,_,_,_,_,_,_,_,_,_,_,_,hxs,axs,Rl,Rok⟩:=pp
  exact⟨_,rfl,q ro _ Rs e ⟨xs,hxs,axs⟩ Rl Rok.1 Rok.2⟩
 obtain⟨st,co,pa,k,vs,C,Pp,xs,Rs,o7,o8,o9,o10,o11,o12,o13,o14,rfl,e,hst,vl,vlp,k3,hco,Cl,hpa,Pl,nst,nco,npa,hxs,axs,Rl,Rok⟩:=pp
 have xl:=axs.1
 obtain⟨S0,aS,dr⟩:=vlp
 refine⟨_,rfl,_,rfl,_,_,rfl,rfl,p,ns,_,rfl,e.seq hp,by omega,by omega,?_⟩
 dsimp only[Am]
 generalize C4 ns (3+(0+(i:Int)))=ci
 refine⟨_,rfl,ci,0,rfl,?_⟩
 obtain⟨a0,a1⟩:=F4 ci 0
 dsimp only[Am]
 generalize Bx ci 0=nn at a0 a1
 refine NO ?_
 have f0:=B7 nn (show((vs.length:Int)+1)≠0 by omega)
 have f1:=B8 nn (show(0:Int)<(vs.length:Int)+1 by omega)
 refine F2 (fun σ' H2=>∃(st co pa:Addr) (k:Nat) (vs:List V) (C Pp:List Int) (cl:V) (o10:Option V),σ'=[some (.ref p),some (.int (n:Int)),some (.int far),some (.ref st),some (.ref co),some (.ref pa),some (.ref ro),some (.int (0+(i:Int))),some (.int ci),some (.int nn),some cl,o10,o12,o13,o14]/\Aa H' H2/\H2 st=some (.lst vs)/\vs.length=k/\(∃S,Ay (CO H2) vs S/\CS Rs S C Pp (C4 ns 1)/\(cl = .non\/∃q,CO H2 cl q/\EM S (C4 ns 1) q))/\k<=3/\H2 co=some (.lst (C.map V.int))/\C.length=k+1/\H2 pa=some (.lst (Pp.map V.int))/\Pp.length=k/\st≠ro/\co≠ro/\pa≠ro/\True) (fun σ' H2 pp=>?_) (fun nx=>?_)
 rotate_left
 .refine⟨_,rfl,_,rfl,st,_,rfl,.inl (A7.of hst),_,_,rfl,rfl,_,_,rfl,rfl,(by show(0:Int)<(vs.length:Int)+1;omega),_,rfl,by omega,by omega,?_⟩
  refine Ej (lo:=0) (n:=(nn%((vs.length:Int)+1)).toNat) (fun j σ' H2=>∃(st co pa:Addr) (k2:Nat) (vs2:List V) (C Pp:List Int) (cl:V) (o10:Option V),σ'=[some (.ref p),some (.int (n:Int)),some (.int far),some (.ref st),some (.ref co),some (.ref pa),some (.ref ro),some (.int (0+(i:Int))),some (.int ci),some (.int nn),some cl,o10,o12,o13,o14]/\Aa H' H2/\H2 st=some (.lst vs2)/\vs2.length=k2/\(∃S,Ay (CO H2) vs2 S/\CS Rs S C Pp (C4 ns 1)/\(cl = .non\/∃q,CO H2 cl q/\EM S (C4 ns 1) q))/\k2+j=vs.length/\H2 co=some (.lst (C.map V.int))/\C.length=k2+1/\H2 pa=some (.lst (Pp.map V.int))/\Pp.length=k2/\st≠ro/\co≠ro/\pa≠ro/\True) ⟨st,co,pa,k,vs,C,Pp,.non,_,rfl,Aa.refl _,hst,vl,⟨S0,aS,dr,.inl rfl⟩,by omega,hco,Cl,hpa,Pl,nst,nco,npa,True.intro⟩ (fun j σ' H2 hj pp=>?_) (fun σ' H2 pp=>?_)
  rotate_left
  .obtain⟨st,co,pa,k2,vs2,C,Pp,cl,o10,rfl,e2,g1,g2,g3,g4,g5,g6,g7,g8,g9,g10,g11,g12⟩:=pp
   exact nx _ _ ⟨st,co,pa,k2,vs2,C,Pp,cl,_,rfl,e2,g1,g2,g3,by omega,g5,g6,g7,g8,g9,g10,g11,g12⟩
  obtain⟨st,co,pa,k2,vs2,C,Pp,cl,o10,rfl,e2,g1,g2,g3,g4,g5,g6,g7,g8,g9,g10,g11,g12⟩:=pp
  have kp:0<k2:=by omega
  obtain⟨vs3,v0,rfl,v3l⟩:=Fd (l:=vs2) (n:=k2-1) (by omega)
  obtain⟨C3,c0,rfl,C3l⟩:=Fd (l:=C) (n:=k2) (by omega)
  obtain⟨P3,p0,rfl,P3l⟩:=Fd (l:=Pp) (n:=k2-1) (by omega)
  obtain⟨S2,aS2,dr2,_⟩:=g3
  obtain⟨S3,q0,rfl,S3l⟩:=Fd (l:=S2) (n:=k2-1) (by have:=aS2.1;rw[Ac,AN]at this;omega)
  obtain⟨aS3,lv0⟩:=Xb aS2
  obtain⟨dr3,nw0⟩:=dr2.pop
  have at0:BA (vs3++[v0]) (-1)=some v0:=Ij vs3 v0
  refine⟨_,rfl,_,rfl,st,_,_,_,rfl,rfl,A7.of g1,at0,?_⟩
  dsimp only[Am]
  refine⟨_,rfl,_,rfl,_,rfl,st,_,rfl,A7.of g1,fun n1 hn1=>?_⟩
  rw[show Cv (vs3++[v0]) none (some (-1))=vs3 from HN vs3 [v0] (Hs _) rfl]
  have t1:=Ab hn1 (.lst vs3)
  have k1:(upd H2 n1 (.lst vs3)) n1=some (.lst vs3):=A6
  have m1:n1≠ro:=fun z=>by rw[z,e2 _ _ hxs]at hn1;cases hn1
  dsimp only[Am]
  generalize upd H2 n1 (.lst vs3)=HA at t1 k1
  refine⟨_,rfl,_,rfl,_,rfl,co,_,rfl,A7.of (t1 _ _ g5),fun n2 hn2=>?_⟩
  rw[Bv,show Cv (C3.map V.int++[c0].map V.int) none (some (-1))=C3.map V.int from HN (C3.map V.int) [V.int c0] (Hs _) rfl]
  have t2:=Ab hn2 (.lst (C3.map V.int))
  have k2':(upd HA n2 (.lst (C3.map V.int))) n2=some (.lst (C3.map V.int)):=A6
  have m2:n2≠ro:=fun z=>by rw[z,t1 _ _ (e2 _ _ hxs)]at hn2;cases hn2
  dsimp only[Am]
  generalize upd HA n2 (.lst (C3.map V.int))=HB at t2 k2'
  refine⟨_,rfl,_,rfl,_,rfl,pa,_,rfl,A7.of (t2 _ _ (t1 _ _ g7)),fun n3 hn3=>?_⟩
  rw[Bv,show Cv (P3.map V.int++[p0].map V.int) none (some (-1))=P3.map V.int from HN (P3.map V.int) [V.int p0] (Hs _) rfl]
  have t3:=Ab hn3 (.lst (P3.map V.int))
  have m3:n3≠ro:=fun z=>by rw[z,t2 _ _ (t1 _ _ (e2 _ _ hxs))]at hn3;cases hn3
  have tt:=t1.trans (t2.trans t3)
  refine⟨n1,n2,n3,k2-1,vs3,C3,P3,v0,_,rfl,e2.trans tt,(t2.trans t3) _ _ k1,v3l,⟨S3,aS3.mono fun _ _ z=>z.over tt,dr3,.inr ⟨q0,lv0.over tt,nw0⟩⟩,by omega,t3 _ _ k2',by omega,A6,by omega,m1,m2,m3,True.intro⟩
 obtain⟨st,co,pa,k,vs,C,Pp,cl,o10',rfl,e2,hst,vl,vlp,k3,hco,Cl,hpa,Pl,nst,nco,npa,_⟩:=pp
 obtain⟨S1,aS1,dr1,hcl'⟩:=vlp
 have e02:=e.trans e2
 have hxs2:=e2 _ _ hxs
 have axs2:=axs.mono fun _ _ z=>z.over e2
 have opl:∀{v:List Int},v.length=8->(∀x∈v,0<=x/\x<=3)->∃d,BA (v.map V.int) (nn/4%8)=some (.int d)/\0<=d/\d<=3:=fun{v} hv ha=>by
  obtain⟨d,hd,ed⟩:=Ez (L:=v) (i:=nn/4%8) 8 hv (B7 _ (by decide)) (B8 _ (by decide))
  exact⟨d,ed,ha d hd⟩
 obtain⟨d1,ed1,b1⟩:=opl (v:=[1,2,2,3,1,2,0,1]) rfl (by decide)
 obtain⟨d2,ed2,b2⟩:=opl (v:=[0,1,0,1,2,0,1,0]) rfl (by decide)
 refine⟨Ar rfl,fun q1 hq1=>⟨_,rfl,_,_,rfl,rfl,⟨by decide,by decide⟩,_,_,rfl,rfl,(by show(0:Int)<8;decide),q1,_,_,_,rfl,rfl,A7.of A6,ed1,?_⟩⟩
 have t1:=Ab hq1 (.lst [V.int 1,V.int 2,V.int 2,V.int 3,V.int 1,V.int 2,V.int 0,V.int 1])
 dsimp only[Am]
 generalize upd H2 q1 (.lst [V.int 1,V.int 2,V.int 2,V.int 3,V.int 1,V.int 2,V.int 0,V.int 1])=HA at t1
 refine F2 (fun σ' H5=>∃op:Int,σ'=[some (.ref p),some (.int (n:Int)),some (.int far),some (.ref st),some (.ref co),some (.ref pa),some (.ref ro),some (.int (0+(i:Int))),some (.int ci),some (.int nn),some cl,o10',some (.int op),o13,o14]/\Aa H2 H5/\0<=op/\op<=3) (fun σ' H5 pp=>?_) (fun nx=>?_)
 rotate_left
 .refine⟨_,rfl,_,_,rfl,rfl,_,rfl,Dp (fun _=>?_) (fun _=>?_)⟩
  .refine⟨Ar rfl,fun q2 hq2=>⟨_,rfl,_,_,rfl,rfl,⟨by decide,by decide⟩,_,_,rfl,rfl,(by show(0:Int)<8;decide),q2,_,_,_,rfl,rfl,A7.of A6,ed2,?_⟩⟩
   exact nx _ _ ⟨_,rfl,t1.trans (Ab hq2 _),b2⟩
  .exact nx _ _ ⟨_,rfl,t1,b1⟩
 obtain⟨op,rfl,t2,op0,op3⟩:=pp
 have hst5:=t2 _ _ hst
 refine F2 (fun σ' H6=>∃(st co pa:Addr) (k:Nat) (vs:List V) (C Pp:List Int) (o13 o14:Option V),σ'=[some (.ref p),some (.int (n:Int)),some (.int far),some (.ref st),some (.ref co),some (.ref pa),some (.ref ro),some (.int (0+(i:Int))),some (.int ci),some (.int nn),some cl,o10',some (.int op),o13,o14]/\Aa H2 H6/\H6 st=some (.lst vs)/\vs.length=k/\(∃S,Ay (CO H6) vs S/\CS Rs S C Pp (C4 ns 1))/\k<=3/\H6 co=some (.lst (C.map V.int))/\C.length=k+1/\H6 pa=some (.lst (Pp.map V.int))/\Pp.length=k/\st≠ro/\co≠ro/\pa≠ro) (fun σ' H6 pp=>?_) (fun nx=>?_)
 rotate_left
 .refine⟨_,rfl,_,rfl,st,_,rfl,.inl (A7.of hst5),_,_,rfl,rfl,_,_,rfl,_,rfl,?_,?_,?_⟩
  .split<;>omega
  .split<;>omega
  obtain⟨m0,em0,m0l⟩:∃m0:Nat,(if 3-(vs.length:Int)<op then 3-(vs.length:Int) else op)=(m0:Int)/\vs.length+m0<=3:=by
   split
   .exact⟨(3-(vs.length:Int)).toNat,by omega,by omega⟩
   .exact⟨op.toNat,by omega,by omega⟩
  rw[em0,FU]
  refine Ej (lo:=0) (n:=m0) (fun j σ' H6=>∃(st co pa:Addr) (k2:Nat) (vs2:List V) (C Pp:List Int) (o13 o14:Option V),σ'=[some (.ref p),some (.int (n:Int)),some (.int far),some (.ref st),some (.ref co),some (.ref pa),some (.ref ro),some (.int (0+(i:Int))),some (.int ci),some (.int nn),some cl,o10',some (.int op),o13,o14]/\Aa H2 H6/\H6 st=some (.lst vs2)/\vs2.length=k2/\(∃S,Ay (CO H6) vs2 S/\CS Rs S C Pp (C4 ns 1)/\(j=0->cl = .non\/∃q,CO H6 cl q/\EM S (C4 ns 1) q))/\k2=vs.length+j/\H6 co=some (.lst (C.map V.int))/\C.length=k2+1/\H6 pa=some (.lst (Pp.map V.int))/\Pp.length=k2/\st≠ro/\co≠ro/\pa≠ro) ⟨st,co,pa,k,vs,C,Pp,_,_,rfl,t2,hst5,vl,⟨S1,aS1.mono fun _ _ z=>z.over t2,dr1,fun _=>hcl'.imp id fun⟨q,h1,h2⟩=>⟨q,h1.over t2,h2⟩⟩,by omega,t2 _ _ hco,Cl,t2 _ _ hpa,Pl,nst,nco,npa⟩ (fun j σ' H6 hj pp=>?_) (fun σ' H6 pp=>?_)
  rotate_left
  .obtain⟨st,co,pa,k2,vs2,C,Pp,o13,o14,rfl,e3,g1,g2,g3,g4,g5,g6,g7,g8,g9,g10,g11⟩:=pp
   exact nx _ _ ⟨st,co,pa,k2,vs2,C,Pp,_,_,rfl,e3,g1,g2,(let ⟨S,x,y,_⟩:=g3;⟨S,x,y⟩),by omega,g5,g6,g7,g8,g9,g10,g11⟩
  obtain⟨st,co,pa,k2,vs2,C,Pp,o13,o14,rfl,e3,g1,g2,g3,g4,g5,g6,g7,g8,g9,g10,g11⟩:=pp
  obtain⟨S,aS',dr',hc0⟩:=g3
  obtain⟨z0,z1⟩:=F4 ci (1+(0+(j:Int)))
  refine⟨_,rfl,_,rfl,_,_,rfl,rfl,ci,_,rfl,_,rfl,_,rfl,_,rfl,p,ns,1,rfl,(e02.trans e3).seq hp,by decide,by decide,_,far,_,st,S,rfl,z0,⟨vs2,g1,aS'⟩,by have:=aS'.1;omega,dr'.so.tn,fb.1,fb.2,fun x H7 qn e7 lx nwq=>?_⟩
  dsimp only[Am]
  refine F2 (fun σ' H8=>H8=H7/\∃y,(∃q,CO H7 y q/\EM S (C4 ns 1) q)/\σ'=[some (.ref p),some (.int (n:Int)),some (.int far),some (.ref st),some (.ref co),some (.ref pa),some (.ref ro),some (.int (0+(i:Int))),some (.int ci),some (.int nn),some cl,o10',some (.int op),some (.int (0+(j:Int))),some y]) (fun σ' H8 pp=>?_) (fun nx2=>?_)
  rotate_left
  .refine⟨_,rfl,rfl,_,rfl,Dp (fun c00=>?_) (fun _=>nx2 _ _ ⟨rfl,x,⟨qn,lx,nwq⟩,rfl⟩)⟩
   refine⟨_,rfl,rfl,_,rfl,Dp (fun cc=>?_) (fun _=>nx2 _ _ ⟨rfl,x,⟨qn,lx,nwq⟩,rfl⟩)⟩
   refine⟨_,rfl,_,_,rfl,rfl,⟨by decide,by decide⟩,_,_,rfl,rfl,(by show(0:Int)<3;decide),rfl,_,rfl,Dp (fun _=>?_) (fun _=>nx2 _ _ ⟨rfl,x,⟨qn,lx,nwq⟩,rfl⟩)⟩
   have j0:j=0:=by have:=V.int.inj (J8 c00);omega
   rcases hc0 j0 with rfl|⟨q',l1,l2⟩
   .exact absurd cc (by decide)
   .exact⟨_,rfl,nx2 _ _ ⟨rfl,cl,⟨q',l1.over e7,l2⟩,rfl⟩⟩
  obtain⟨rfl,y,⟨qy,ly,nwy⟩,rfl⟩:=pp
  have g1':=e7 _ _ g1
  have g5':=e7 _ _ g5
  have g7':=e7 _ _ g7
  have hx7:=e7 _ _ (e3 _ _ hxs2)
  obtain⟨C3,c0,rfl,C3l⟩:=Fd (l:=C) (n:=k2) (by omega)
  have atc:BA ((C3++[c0]).map V.int) (-1)=some (.int c0):=by rw[Bv];exact Ij _ _
  refine⟨_,rfl,_,rfl,Ar rfl,fun u1 hu1=>?_⟩
  have w1:=Ab hu1 (.lst [y])
  refine⟨st,u1,_,_,rfl,rfl,w1 _ _ g1',A6,Bo (by rw[AN];omega),fun n1 hn1=>?_⟩
  have w2:=w1.trans (Ab hn1 (.lst (vs2++[y])))
  have f1:(upd (upd H8 u1 (.lst [y])) n1 (.lst (vs2++[y]))) n1=some (.lst (vs2++[y])):=A6
  have m1:n1≠ro:=fun z=>by rw[z,w1 _ _ hx7]at hn1;cases hn1
  dsimp only[Am]
  generalize upd (upd H8 u1 (.lst [y])) n1 (.lst (vs2++[y]))=HB at w2 f1
  refine⟨_,rfl,_,rfl,_,rfl,co,_,_,_,rfl,rfl,A7.of (w2 _ _ g5'),atc,Ar rfl,fun u2 hu2=>?_⟩
  have w3:=Ab hu2 (.lst [V.int c0])
  refine⟨pa,u2,_,_,rfl,rfl,w3 _ _ (w2 _ _ g7'),A6,Bo (by rw[Ao,AN];omega),fun n2 hn2=>?_⟩
  have w4:=w3.trans (Ab hn2 (.lst (Pp.map V.int++[V.int c0])))
  have f2:(upd (upd HB u2 (.lst [V.int c0])) n2 (.lst (Pp.map V.int++[V.int c0]))) n2=some (.lst (Pp.map V.int++[V.int c0])):=A6
  have m2:n2≠ro:=fun z=>by rw[z,w3 _ _ (w2 _ _ hx7)]at hn2;cases hn2
  dsimp only[Am]
  generalize upd (upd HB u2 (.lst [V.int c0])) n2 (.lst (Pp.map V.int++[V.int c0]))=HC at w4 f2
  have w24:=w2.trans w4
  refine⟨_,rfl,_,rfl,_,rfl,co,_,rfl,A7.of (w24 _ _ g5'),fun u3 hu3=>?_⟩
  rw[Bv,show Cv (C3.map V.int++[c0].map V.int) none (some (-1))=C3.map V.int from HN (C3.map V.int) [V.int c0] (Hs _) rfl]
  have w5:=Ab hu3 (.lst (C3.map V.int))
  rw[Bv]at atc g5'
  refine⟨_,rfl,_,rfl,co,_,_,_,rfl,rfl,A7.of (w5 _ _ (w24 _ _ g5')),atc,_,_,rfl,rfl,Ar rfl,fun u4 hu4=>?_⟩
  have w6:=Ab hu4 (.lst [V.int (c0+1),V.int 0])
  refine⟨u3,u4,_,_,rfl,rfl,w6 _ _ A6,A6,Bo (by rw[Ao];show C3.length+2<=_;omega),fun n3 hn3=>?_⟩
  have w7:=w5.trans (w6.trans (Ab hn3 (.lst (C3.map V.int++[V.int (c0+1),V.int 0]))))
  have m3:n3≠ro:=fun z=>by rw[z,(w5.trans w6) _ _ (w24 _ _ hx7)]at hn3;cases hn3
  have wA:=w24.trans w7
  refine⟨n1,n3,n2,k2+1,vs2++[y],C3++[c0+1,0],Pp++[c0],_,_,rfl,e3.trans (e7.trans wA),(w4.trans w7) _ _ f1,by rw[Ac,AN];omega,⟨S++[qy],(aS'.mono fun _ _ z=>z.over (e7.trans wA)).snoc (ly.over wA),dr'.push (by have:=aS'.1;omega) nwy,fun z=>by omega⟩,by omega,?_,by rw[Ac];show C3.length+2=_;omega,?_,by rw[Ac,AN];omega,m1,m3,m2⟩
  .rw[A6,Bv];rfl
  .rw[Bv];exact w7 _ _ f2
 obtain⟨st,co,pa,k,vs,C,Pp,o13',o14',rfl,e3,hst,vl,vlp,k3,hco,Cl,hpa,Pl,nst,nco,npa⟩:=pp
 obtain⟨S,aSS,drr⟩:=vlp
 have e03:=e02.trans e3
 have hx3:=e3 _ _ hxs2
 have axs3:=axs2.mono fun _ _ z=>z.over e3
 obtain⟨C3,c0,rfl,C3l⟩:=Fd (l:=C) (n:=k) (by omega)
 have atc:BA ((C3++[c0]).map V.int) (-1)=some (.int c0):=by rw[Bv];exact Ij _ _
 refine⟨_,rfl,.inl ⟨rfl,_,A7.of hx3⟩,_,rfl,_,rfl,_,rfl,_,rfl,_,rfl,co,_,_,_,rfl,rfl,A7.of hco,atc,Ar rfl,fun u2 hu2=>?_⟩
 have w3:=Ab hu2 (.lst [V.int c0])
 refine⟨pa,u2,_,_,rfl,rfl,w3 _ _ hpa,A6,Bo (by rw[Ao,AN];omega),fun n2 hn2=>?_⟩
 have w4:=w3.trans (Ab hn2 (.lst (Pp.map V.int++[V.int c0])))
 have f2:(upd (upd H6 u2 (.lst [V.int c0])) n2 (.lst (Pp.map V.int++[V.int c0]))) n2=some (.lst (Pp.map V.int++[V.int c0])):=A6
 generalize upd (upd H6 u2 (.lst [V.int c0])) n2 (.lst (Pp.map V.int++[V.int c0]))=HC at w4 f2
 refine⟨_,rfl,p,ns,rfl,(e03.trans w4).seq hp,fun hd HD eD hH=>?_⟩
 have wD:=w4.trans eD
 refine⟨ci,st,n2,hd,S,Pp++[c0],rfl,⟨vs,wD _ _ hst,aSS.mono fun _ _ z=>z.over wD⟩,by have:=aSS.1;omega,by rw[Bv];exact eD _ _ f2,hH,fun r HE z pz m rs eE r5 m3=>?_⟩
 have wE:=wD.trans eE
 have hxE:=wE _ _ hx3
 refine⟨ro,_,_,rfl,rfl,hxE,DC (by omega),?_⟩
 have tkF:=TK.upd (o:=.lst (xs++[V.ref r])) hxE
 have nlF:NL HE (upd HE ro (.lst (xs++[V.ref r]))):=NL.upd hxE
 have keep:∀b o,b≠ro->HE b=some o->(upd HE ro (.lst (xs++[V.ref r]))) b=some o:=fun b o hb h=>by rw[Ag hb];exact h
 have fr:(upd HE ro (.lst (xs++[V.ref r]))) ro=some (.lst (xs++[V.ref r])):=A6
 have axF:Ay (Ea (upd HE ro (.lst (xs++[V.ref r])))) (xs++[V.ref r]) (Rs++[⟨S,Pp++[c0],z,pz,m,rs⟩]):=(axs3.mono fun _ _ q=>(q.over wE).tk tkF).snoc (r5.tk tkF)
 have same:Aa H (upd HE ro (.lst (xs++[V.ref r]))):=fun b o hb=>keep b o (Az hb ro0) (wE _ _ (e03 _ _ hb))
 have vlF:Ay (CO (upd HE ro (.lst (xs++[V.ref r])))) vs S:=aSS.mono fun _ _ z=>(z.over wE).tk tkF
 have drR:=CS.row (R:=⟨S,Pp++[c0],z,pz,m,rs⟩) drr rfl
 have hstF:=keep _ _ nst (wE _ _ hst)
 have hcoF:=keep _ _ nco (wE _ _ hco)
 have hpaF:=keep _ _ npa (wE _ _ hpa)
 have rlen:=r5
 generalize upd HE ro (.lst (xs++[V.ref r]))=HF at fr axF same vlF hstF hcoF hpaF
 refine⟨_,rfl,_,rfl,_,rfl,co,_,rfl,A7.of hcoF,fun u3 hu3=>?_⟩
 rw[Bv,show Cv (C3.map V.int++[c0].map V.int) none (some (-1))=C3.map V.int from HN (C3.map V.int) [V.int c0] (Hs _) rfl]
 have w5:=Ab hu3 (.lst (C3.map V.int))
 rw[Bv]at atc hcoF
 refine⟨_,rfl,_,rfl,co,_,_,_,rfl,rfl,A7.of (w5 _ _ hcoF),atc,_,_,rfl,rfl,Ar rfl,fun u4 hu4=>?_⟩
 have w6:=Ab hu4 (.lst [V.int (c0+1)])
 refine⟨u3,u4,_,_,rfl,rfl,w6 _ _ A6,A6,Bo (by rw[Ao,AN];omega),fun n3 hn3=>?_⟩
 have w7:=w5.trans (w6.trans (Ab hn3 (.lst (C3.map V.int++[V.int (c0+1)]))))
 have m3':n3≠ro:=fun q=>by rw[q,(w5.trans w6) _ _ fr]at hn3;cases hn3
 refine⟨st,n3,pa,k,vs,C3++[c0+1],Pp,_,_,_,_,_,_,_,_,_,_,rfl,same.trans w7,w7 _ _ hstF,vl,⟨S,vlF.mono fun _ _ z=>z.over w7,drR.1⟩,k3,?_,by rw[Ac,AN];omega,w7 _ _ hpaF,Pl,nst,m3',npa,w7 _ _ fr,axF.mono fun _ _ q=>q.over w7,by rw[Ac,AN];omega,⟨fun R hR=>?_,FX.mpr ⟨Rok.2,List.pairwise_singleton _ _,fun R' h1 R h2=>by rw[BW.mp h2];exact drR.2 R' h1⟩⟩⟩
 .rw[A6,Bv];rfl
 .rcases Cj.mp hR with q|q
  .exact Rok.1 R q
  .rw[BW.mp q]
   exact⟨drr.so,by show(Pp++[c0]).length=S.length+1;rw[Ac,AN,drr.pl],m3⟩
theorem R9 (T:Tx K mg a):AA P w K mg base AJ 1 a.f_t a.d_t ["spot","values"] TR:=by
 refine T.F_t.ok Q8 (fun vs H Q E h=>?_) (fun cdv A outer s H vs Q E hr h=>?_)
 .obtain⟨_,_,_,_,rfl,_⟩:=h;rfl
 obtain⟨x,d,⟨z,n⟩,kn,rfl,⟨t,rfl,ht⟩,hd,hz,q⟩:=h
 refine⟨_,(A9 (BJ (Bp Dk (Ai AF (pv 0) A1 (fun _ _=>rfl)) BS (Bk _))
  (Af (AO (Ai AF (pv 0) A1 (fun _ _=>rfl))))
  Ce)
  (Af (AO (A4 AU (OQ (JI hr) (pv 1) (Ai AF (pv 0) A1 (fun _ _=>rfl)) (fun _ _=>rfl)) (Ai AF (pv 0) A1 (fun _ _=>rfl)))))),?_⟩
 refine⟨_,rfl,t,_,0,_,rfl,rfl,A8.of ht,rfl,rfl,_,rfl,Dp (fun c=>?_) (fun c=>?_)⟩
 .have c:z="":=by have:=J8 c;injection this
  refine⟨_,rfl,t,_,1,_,rfl,rfl,A8.of ht,rfl,?_⟩
  unfold C8 at q
  rw[Ah c]at q
  exact q
 .have c:¬z="":=fun e=>dF c (congrArg V.str e)
  have hz:z∈kn.map (·.1):=by
   rcases hz with e|e
   .exact absurd e c
   .exact e
  have g:=FQ.k (H:=H) (a:=d) (kvs:=Ci kn) (k:=Sum.inr z) hd
  rw[PZ hz]at g
  refine⟨_,rfl,_,rfl,t,_,0,_,rfl,rfl,A8.of ht,rfl,d,.int (Eh kn z),rfl,g,_,rfl,t,_,1,_,rfl,rfl,A8.of ht,rfl,_,_,rfl,rfl,?_⟩
  unfold C8 at q
  rw[Ae c]at q
  exact q
theorem W9 (T:Tx K mg a):AA P w K mg base AJ 2 a.f_s a.d_s ["spots","values"] Vm:=by
 have G_t :=@R9 P w K mg base a T
 refine T.F_s.ok Qm (fun vs H Q E h=>?_) (fun cdv A outer s H vs Q E hr h=>?_)
 .obtain⟨_,_,_,_,_,rfl,_⟩:=h;rfl
 obtain⟨t,d,xs,sp,kn,rfl,ht,ax,hd,hs,l10,q⟩:=h
 refine⟨_,(Af (AO (FH G6 (by rfl) T.z_tuple G3 (A0 (Gf ["spot","values"] [none,some 1] (by rfl) (Pa (pv 0)) QK (fun _ _ _ _ _ _=>⟨(B0 (i:=0) Wm rfl (.inl rfl)),Gz,(Av G_t (hr.mono (by omega)) (by rfl) T.m_t T.F_t.kp T.b_t .nil Aq (A0 (pv 0) (A0 (pv 1) A3)))⟩)) A3)))),?_⟩
 have xl:=ax.1
 refine⟨_,rfl,t,rfl,⟨_,A8.of ht⟩,?_⟩
 refine Sr (xs:=xs) (fun i ys H'=>H'=H/\ys=((sp.take i).map (C8 kn)).map V.int) ⟨rfl,rfl⟩ (Bo (by omega)) (fun i ys H' hi pp=>⟨by rw[pp.1];exact A8.of ht,by rw[pp.2,Ao,Ao,BG];omega⟩) (fun i x ys H' hc pp=>?_) (fun ys H' pp r hr=>?_)
 .obtain⟨rfl,rfl⟩:=pp
  obtain⟨s,hs',hx⟩:=ax.get' hc
  refine⟨_,rfl,_,rfl,x,d,s,kn,rfl,hx,hd,hs s (DH hs'),rfl,?_⟩
  rw[E2 hs',Bv,Bv]
  rfl
 obtain⟨rfl,rfl⟩:=pp
 rw[Dy (by omega)]
 refine⟨r,_,rfl,.inl ⟨A7.of A6,fun r2 hr2=>?_⟩⟩
 exact q r2 _ ((Ab hr _).trans (Ab hr2 _)) A6
theorem QF (T:Tx K mg a):AA P w K mg base AJ 1 a.f_u a.d_u ["deed","values"] (VV a.c_Deed):=by
 refine T.F_u.ok WU (fun vs H Q E h=>?_) (fun cdv A outer s H vs Q E hr h=>?_)
 .obtain⟨_,_,_,_,rfl,_⟩:=h;rfl
 obtain⟨x,t,D,us,rfl,⟨p,dx,nm,lo,hi,pt,v4,v5,v6,ls,hs,rfl,h0,h1,_⟩,ok,ht,hl,q⟩:=h
 refine⟨_,(Af (AO (Xf rfl (by rfl) T.z_dict (by rfl) T.z_zip (A0 (DF (pv 0) rfl) (A0 (pv 1) A3))))),?_⟩
 have nl:(BD D).length=D.loops.length:=by unfold BD;rw[Ao]
 refine⟨_,rfl,p,_,dx,_,_,rfl,h0,T.cl_Deed,T.n_Deed_names,rfl,_,rfl,nm,t,(BD D).map Sum.inr,us.map V.int,rfl,?_,A8.of ht,by rw[Ao,Ao,nl];exact hl,fun l hl'=>?_⟩
 .have e:((BD D).map Sum.inr).map kV=D.loops.map fun t=>V.str t.nm:=by unfold BD;rw[DX,DX];rfl
  rw[e]
  exact A8.of h1
 .have e:=OX [] (BD D) us (by rw[nl];exact hl) ok.nd (fun _ _ h=>by cases h)
  rw[show DE [] ((BD D).map Sum.inr) (us.map V.int)=Ci ((BD D).zip us) from e]
  exact q l hl'
theorem Nn (T:Tx K mg a):AA P w K mg base AJ 3 a.f_n a.d_n ["deed","values"] (Uv a.c_Deed):=by
 have G_s :=@W9 P w K mg base a T
 have G_u :=@QF P w K mg base a T
 refine T.F_n.ok NQ (fun vs H Q E h=>?_) (fun cdv A outer s H vs Q E hr h=>?_)
 .obtain⟨_,_,_,_,rfl,_⟩:=h;rfl
 obtain⟨x,t,D,us,rfl,hx,ok,ht,hl,q⟩:=h
 refine⟨_,(A9 (Ak (i:=2) NQ.nd rfl (.inl rfl) (B9 BY (by rfl) T.z_len BU (A0 (pv 1) A3)))
  (Af (AO (Av G_s (hr.mono (by omega)) (by rfl) T.m_s T.F_s.kp T.b_s .nil Aq (A0 (Bf (A0 (Ai AF (DF (pv 0) rfl) (pv 2) (fun _ _=>rfl)) (A0 (Ai AF (DF (pv 0) rfl) (pv 2) (fun _ _=>rfl)) A3))) (A0 (Av G_u (hr.mono (by omega)) (by rfl) T.m_u T.F_u.kp T.b_u .nil Aq (A0 (pv 0) (A0 (pv 1) A3))) A3)))))),?_⟩
 obtain⟨p,dx,nm,lo,hi,pt,v4,v5,v6,ls,hs,rfl,h0,h1,h2,h3,h4,h5,h6⟩:=id hx
 have hD:D.loops[us.length]?=some D.loops[us.length]:=Be hl
 generalize D.loops[us.length]=tt at hD
 obtain⟨v1,hv1,sp1⟩:=h3.get hD
 obtain⟨v2,hv2,sp2⟩:=h5.get hD
 have bs:=ok.bs _ _ hD
 refine⟨_,rfl,t,_,rfl,.inr (A8.of ht),?_⟩
 rw[Ao]
 dsimp only[Am]
 refine⟨_,rfl,p,_,dx,_,_,rfl,h0,T.cl_Deed,T.n_Deed_lows,rfl,_,rfl,lo,_,_,v1,rfl,rfl,A8.of h2,D7 hv1,?_⟩
 refine⟨_,rfl,p,_,dx,_,_,rfl,h0,T.cl_Deed,T.n_Deed_highs,rfl,_,rfl,hi,_,_,v2,rfl,rfl,A8.of h4,D7 hv2,Ar rfl,fun u hu=>?_⟩
 have s1:=Ab hu (.tup [v1,v2])
 have hu1:(upd H u (.tup [v1,v2])) u=some (.tup [v1,v2]):=A6
 generalize upd H u (.tup [v1,v2])=H1 at s1 hu1
 refine⟨_,rfl,_,rfl,.ref p,t,D,us,rfl,hx.over s1,ok,s1 _ _ ht,ET hl,fun l hl1=>?_⟩
 have s2:=Ab hl1 (.dK (Ci ((BD D).zip us)))
 have k1:(upd H1 l (.dK (Ci ((BD D).zip us)))) l=some (.dK (Ci ((BD D).zip us))):=A6
 generalize upd H1 l (.dK (Ci ((BD D).zip us)))=H2 at s2 k1
 have s12:=s1.trans s2
 have zn:=Vl (ET hl)
 refine⟨u,l,[v1,v2],[tt.lo,tt.hi],(BD D).zip us,rfl,s2 _ _ hu1,.cons (sp1.tk (Aa.tk s12)) (.cons (sp2.tk (Aa.tk s12)) .nil),k1,fun s hs=>?_,by show 2<=10;decide,fun r H' e hr=>?_⟩
 .rw[zn]
  rcases AE.mp hs with rfl|hs
  .exact bs.1
  .rw[BW.mp hs];exact bs.2
 .refine q r H' (s12.trans e) ?_
  rw[hr]
  unfold bD
  rw[hD]
  rfl
theorem Qv (T:Tx K mg a):AA P w K mg base AJ 1 a.f_v a.d_v ["deeds","numbers","depth"] (X4 a.c_Deed):=by
 refine T.F_v.ok L9 (fun vs H Q E h=>?_) (fun cdv A outer s H vs Q E hr h=>?_)
 .obtain⟨_,_,_,_,_,rfl,_⟩:=h;rfl
 obtain⟨dl,nl,d,Ds,ns,rfl,⟨xs,hdl,ax⟩,hnl,hin,nlen,q⟩:=h
 refine⟨_,(A9 (Ak (i:=3) L9.nd rfl (.inl rfl) (BL A3))
  (A9 (CH PassesOwn.never rfl (DR (pv 1)) (B0 (i:=4) L9.nd rfl (.inl rfl))
  (Af (BJ (PW.pt (Hf (U8 (pv 3) (fun _=>rfl)) (Il (Bp Dk (Ai AF (DF (Ai B2 (pv 0) (Ai B2 (Ai B2 (pv 3) (Dt Dm A1) (fun _ _=>rfl)) A1 (fun _ _=>rfl)) (fun _ _=>rfl)) rfl) (pv 2) (fun _ _=>rfl)) (Ai AF (DF (Ai B2 (pv 0) (pv 4) (fun _ _=>rfl)) rfl) (pv 2) (fun _ _=>rfl)) (Bk _)))))
  (Af (Cp (Ec EA EB EC Eg (Ai B2 (pv 3) (Dt Dm A1) (fun _ _=>rfl)) (A0 (pv 4) A3))))
  (Af (Cp (Ec EA EB EC Eg (pv 3) (A0 (BL (A0 (pv 4) A3)) A3)))))))
  (Af (AO (pv 3))))),?_⟩
 refine⟨Ar rfl,fun gl hgl=>?_⟩
 have s1:=Ab hgl (.lst [])
 have hgl1:(upd H gl (.lst [])) gl=some (.lst []):=A6
 dsimp only[Am]
 generalize upd H gl (.lst [])=H1 at s1 hgl1
 have nln:(CF ns).length=ns.length:=by unfold CF;rw[Ao]
 refine⟨_,rfl,nl,rfl,⟨_,A7.of (s1 _ _ hnl)⟩,?_⟩
 refine Hg (xs:=CF ns) (fun i σ' H'=>∃(ys:List V) (G:List (List Nat)) (o4:Option V),σ'=[some (.ref dl),some (.ref nl),some (.int (d:Int)),some (.ref gl),o4]/\Aa H H'/\H' gl=some (.lst ys)/\FK H H' gl ys G/\GP Ds d (ns.take i) G/\G.length<=i) ⟨[],[],_,rfl,s1,hgl1,.inl ⟨rfl,rfl⟩,.nil,An _⟩ (fun i σ' H' _ pp=>by obtain⟨_,_,_,_,e,_⟩:=pp;exact A7.of (e _ _ hnl)) (fun i x σ' H' hx pp=>?_) (fun σ' H' pp=>?_)
 rotate_left
 .obtain⟨ys,G,o4,rfl,e,hg,st,gp,_⟩:=pp
  rw[nln,DV]at gp
  exact⟨_,rfl,q gl _ G e hgl (st.all hg) gp.isG⟩
 obtain⟨ys,G,o4,rfl,e,hg,st,gp,glen⟩:=pp
 have hi:i<ns.length:=by have:=(BR.mp hx).1;omega
 have hk:ns[i]?=some ns[i]:=Be hi
 obtain⟨k,ek⟩:∃k,ns[i]=k:=⟨_,rfl⟩
 rw[ek]at hk
 have exk:x=V.int (k:Int):=by unfold CF at hx;rw[C1,hk]at hx;exact(AZ hx).symm
 subst exk
 obtain⟨D,hD,ok,hd⟩:=hin k (DH hk)
 obtain⟨v,hv,⟨p,dx,nm,lo,hi2,pt,v4,v5,v6,ls,hs,rfl,h0,h1,h2,h3,h4,h5,h8⟩⟩:=ax.get hD
 have pk:BA (D.path.map V.int) (d:Int)=some (.int (BC Ds d k)):=by
  rw[EI hD]
  exact GR (ns:=D.path) (k:=(d:Int)) (Mq _) (by have:=ok.pl;omega)
 have tks:ns.take (i+1)=ns.take i++[k]:=E2 hk
 rw[tks]
 have yl:=st.len
 dsimp only[Am]
 refine V1 (fun H2=>H2=H'/\∀g h,G.getLast?=some g->g.head?=some h->BC Ds d h≠BC Ds d k) (fun H2 pp=>?_) (fun els=>?_)
 .obtain⟨rfl,hne⟩:=pp
  refine⟨_,rfl,.inl ⟨rfl,_,A7.of hg⟩,_,rfl,Ar rfl,fun l hl=>?_⟩
  have s2:=Ab hl (.lst [V.int (k:Int)])
  refine⟨gl,_,_,rfl,rfl,s2 _ _ hg,DC (by omega),?_⟩
  refine⟨ys++[.ref l],G++[[k]],_,rfl,fun b ob eb=>by rw[Ag (Az eb hgl)];exact s2 _ _ (e _ _ eb),A6,st.new hg hl (e.free hl),.new gp hne,by rw[Ac,AN];omega⟩
 .refine⟨_,rfl,_,.inl ⟨_,A7.of hg,rfl⟩,?_⟩
  have il0:∀{h:Nat} {g:List Nat},BA (CF (h::g)) (0:Int)=some (.int (h:Int)):=fun{h g}=>by unfold CF;exact D7 (j:=0) rfl
  rcases st with⟨rfl,rfl⟩|⟨ys',l,G',h,g,rfl,rfl,hall,hl,nlg,hl0⟩
  .exact Bm (els _ ⟨rfl,fun g h hG=>by cases hG⟩)
  have ne1:(!(ys'++[V.ref l]).isEmpty)=true:=by cases ys'<;>rfl
  rw[ne1]
  refine Ca ?_
  have hmem:h∈ns:=by
   have:=gp.isG.mem (h::g) (by simp) h AX
   exact KG this
  obtain⟨Dh,hDh,okh,hdh⟩:=hin h hmem
  obtain⟨vh,hvh,⟨p',dx',nm',lo',hi',pt',v4',v5',v6',ls',hs',rfl,k0,_,_,_,_,_,k8⟩⟩:=ax.get hDh
  have ph:BA (Dh.path.map V.int) (d:Int)=some (.int (BC Ds d h)):=by
   rw[EI hDh]
   exact GR (ns:=Dh.path) (k:=(d:Int)) (Mq _) (by have:=okh.pl;omega)
  refine⟨_,rfl,_,rfl,_,rfl,gl,_,_,_,rfl,rfl,A7.of hg,OH _ _ [] rfl,l,_,_,_,rfl,rfl,A7.of hl,il0,dl,_,_,_,rfl,rfl,A7.of (e _ _ hdl),D7 hvh,p',_,dx',_,_,rfl,e _ _ k0,T.cl_Deed,T.n_Deed_path,rfl,_,rfl,pt',_,_,_,rfl,rfl,A8.of (e _ _ k8),ph,?_⟩
  refine⟨_,rfl,_,rfl,dl,_,_,_,rfl,rfl,A7.of (e _ _ hdl),D7 hv,p,_,dx,_,_,rfl,e _ _ h0,T.cl_Deed,T.n_Deed_path,rfl,_,rfl,pt,_,_,_,rfl,rfl,A8.of (e _ _ h8),pk,rfl,_,rfl,?_⟩
  by_cases c:BC Ds d h=BC Ds d k
  .refine Ba (v:=true) (Cc (congrArg V.int c)) (Ca ?_)
   refine⟨_,rfl,_,rfl,gl,_,_,_,rfl,rfl,A7.of hg,OH _ _ [] rfl,.inl ⟨rfl,_,A7.of hl⟩,_,rfl,l,_,_,rfl,rfl,hl,DC ?_,?_⟩
   .have:=gp.isG.glen (h::g) (by simp)
    unfold CF
    rw[Ao]
    rw[BG]at this
    omega
   .refine⟨ys'++[.ref l],G'++[h::g++[k]],_,rfl,fun b ob eb=>by rw[Ag (Az eb hl0)];exact e _ _ eb,by rw[Ag nlg.symm];exact hg,?_,.more gp c,by rw[Ac,AN]at glen ⊢;omega⟩
    refine .inr ⟨ys',l,G',h,g++[k],rfl,rfl,?_,?_,nlg,hl0⟩
    .rw[SU];exact hall
    .rw[A6,show CF (h::(g++[k]))=CF (h::g)++[V.int (k:Int)] from by unfold CF;exact Bv (l₁:=h::g) (l₂:=[k])]
  .refine Ba (v:=false) (Cw fun z=>c (V.int.inj z)) (Bm ?_)
   refine els _ ⟨rfl,fun g1 h1 hG hh=>?_⟩
   rw[PB]at hG
   cases hG
   cases hh
   exact c
theorem OS (T:Tx K mg a):∀n:Nat,AA P w K mg base AJ (n+2) a.f_j a.d_j ["deeds","numbers","depth"] (Pf a.c_Deed n)
 |
  0=>by
  have no:∀vs H Q E,¬Pf a.c_Deed 0 vs H Q E:=fun vs H Q E h=>by
   obtain⟨dl,nl,d,Ds,ns,ds,_,_,_,_,_,_,_,h1,h2,_⟩:=h
   omega
  exact⟨fun vs H Q E h=>absurd h (no vs H Q E),fun A outer s H args us vs Q E _ _ _ _ h=>absurd h (no vs H Q E)⟩
 |
  n+1=>by
  have G_v :=@Qv P w K mg base a T
  have G_j:=OS T n
  refine T.F_j.ok JK (fun vs H Q E h=>?_) (fun cdv A outer s H vs Q E hr h=>?_)
  .obtain⟨_,_,_,_,_,_,rfl,_⟩:=h;rfl
  obtain⟨dl,nl,d,Ds,ns,ds,rfl,hDo,hnl,hin,nlen,got,cc,d3,dn,q⟩:=h
  refine⟨_,(A9 (Ak (i:=3) JK.nd rfl (.inl rfl) (BL A3))
  (A9 (CH PassesOwn.never rfl (DR (Av G_v (hr.mono (by omega)) (by rfl) T.m_v T.F_v.kp T.b_v .nil Aq (A0 (pv 0) (A0 (pv 1) (A0 (pv 2) A3))))) (B0 (i:=4) JK.nd rfl (.inl rfl))
  (A9 (Ak (i:=5) JK.nd rfl (.inl rfl) (Ai B2 (pv 4) A1 (fun _ _=>rfl)))
  (Af (BJ (Bp Dk (B9 BY (by rfl) T.z_len BU (A0 (DF (Ai B2 (pv 0) (pv 5) (fun _ _=>rfl)) rfl) A3)) (pv 2) (Bk _))
  (Af (Cp (Ec EA EB EC Eg (pv 3) (A0 (Bf (A0 (pv 5) (A0 GS A3))) A3))))
  (Af (Cp (Ec EA EB EC Eg (pv 3) (A0 (Bf (A0 (pv 5) (A0 (Av G_j (hr.mono (by omega)) (by rfl) T.m_j T.F_j.kp T.b_j .nil Aq (A0 (pv 0) (A0 (pv 4) (A0 (A4 AU (pv 2) A1) A3)))) A3))) A3))))))))
  (Af (AO (pv 3))))),?_⟩
  refine⟨Ar rfl,fun it hit=>?_⟩
  have s1:=Ab hit (.lst [])
  have hit1:(upd H it (.lst [])) it=some (.lst []):=A6
  dsimp only[Am]
  generalize upd H it (.lst [])=H1 at s1 hit1
  refine⟨_,rfl,_,rfl,_,rfl,dl,nl,d,Ds,ns,rfl,hDo.over s1,s1 _ _ hnl,hin,nlen,fun gl H2 G e2 hglN hG isG=>?_⟩
  obtain⟨ys,hgl,ay⟩:=hG
  have e02:=s1.trans e2
  have ngi:gl≠it:=(Az hit1 hglN).symm
  refine⟨gl,rfl,⟨_,A7.of hgl⟩,?_⟩
  refine Hg (xs:=ys) (fun i σ' H'=>∃(zs:List V) (f:Pw.Fs) (done rest:List Nat) (o4 o5:Option V),σ'=[some (.ref dl),some (.ref nl),some (.int (d:Int)),some (.ref it),o4,o5]/\(∀b o,b≠it->H2 b=some o->H' b=some o)/\H' it=some (.lst zs)/\BI (Fg H H' it) f zs/\Pw.IsF (getD Ds) f done d/\BZ Ds d rest (G.drop i)/\ns=done++rest/\By f<=n+1/\zs.length<=done.length/\(∀x y,done.getLast?=some x->rest.head?=some y->BC Ds d x≠BC Ds d y)) ⟨[],.nil,[],ns,_,_,rfl,fun _ _ _ h=>h,e2 _ _ hit1,rfl,rfl,isG,rfl,BF _,An _,fun x y hx=>by cases hx⟩ (fun i σ' H' _ pp=>by obtain⟨_,_,_,_,_,_,_,k,_⟩:=pp;exact A7.of (k _ _ ngi hgl)) (fun i x σ' H' hx pp=>?_) (fun σ' H' pp=>?_)
  rotate_left
  .obtain⟨zs,f,done,rest,o4,o5,rfl,k,hz,fa,isf,ig,en,fd,zl,_⟩:=pp
   rw[ay.1,Mu]at ig
   cases ig
   rw[DT]at en
   subst en
   exact⟨_,rfl,q it _ f zs (fun b o hb=>k b o (Az hb hit) (e02 _ _ hb)) hit hz (fa.over Wg) isf fd zl⟩
  obtain⟨zs,f,done,rest,o4,o5,rfl,k,hz,fa,isf,ig,en,fd,zl,hdf⟩:=pp
  obtain⟨g,hg,l,rfl,hl⟩:=ay.get' hx
  have dc:G.drop i=g::G.drop (i+1):=by
   obtain⟨hh,rfl⟩:=BR.mp hg
   exact J0 hh
  rw[dc]at ig
  generalize G.drop (i+1)=G2 at ig
  cases ig with
  |@cons kk g' rest' _ i1 i2 i3=>
  have nli:l≠it:=fun z=>by
   have h1:=e2 _ _ hit1
   rw[←z,hl]at h1
   cases h1
  have keep:∀{b o},H b=some o->H' b=some o:=fun{b o} hb=>k b o (Az hb hit) (e02 _ _ hb)
  have eH:Aa H H':=fun b o hb=>keep hb
  have hl':H' l=some (.lst (CF (kk::g'))):=k _ _ nli hl
  subst en
  obtain⟨D,hD,ok,hdl⟩:=hin kk (by simp)
  have hDo':=hDo.over eH
  obtain⟨xs,hxs,ax⟩:=hDo'
  obtain⟨v,hv,hvo⟩:=ax.get hD
  obtain⟨p,dx,nm,lo,hi2,pt,v4,v5,v6,ls,hs,rfl,h0,h1,h2,h3,h4,h5,h8⟩:=id hvo
  obtain⟨ds1,ds2,rfl,got1,got2⟩:=Pw.Got.split got
  obtain⟨dsg,ds3,rfl,got3,got4⟩:=Pw.Got.split (ns:=kk::g') got2
  have ccg:Pw.CC d dsg:=Pw.CC.left (Pw.CC.right cc)
  have memD:∀x∈done,∃a,getD Ds x=some a:=fun x hx=>by
   obtain⟨Dx,hDx,_⟩:=hin x (Ck _ hx)
   exact⟨_,D4 hDx⟩
  have diff:∀(x y:Nat) (a b:Pw.Dd Cf Str),done.getLast?=some x->(kk::g').head?=some y->getD Ds x=some a->getD Ds y=some b->a.path.getD d 0≠b.path.getD d 0:=fun x y a b hx hy ha hb=>by
   obtain⟨Da,hDa,rfl⟩:=Gk ha
   obtain⟨Db,hDb,rfl⟩:=Gk hb
   have:=hdf x y hx (by cases hy;rfl)
   rw[EI hDa,EI hDb]at this
   exact this
  have nxt:∀x y,(done++(kk::g')).getLast?=some x->rest'.head?=some y->BC Ds d x≠BC Ds d y:=fun x y hx hy=>by
   have hx':x∈kk::g':=by
    rw[PB]at hx
    cases hgl2:(kk::g').getLast? with
    |none=>simp at hgl2
    |
     some z=>
     rw[hgl2]at hx
     cases hx
     exact List.mem_of_getLast? hgl2
   have e:BC Ds d x=BC Ds d kk:=by
    rcases AE.mp hx' with rfl|h
    .rfl
    .exact i1 x h
   rw[e]
   exact(i2 y hy).symm
  have zlen:zs.length<=10:=by rw[Ac]at nlen;omega
  have nlen2:(kk::g').length<=10:=by
   have:=nlen
   rw[Ac,Ac]at this
   omega
  dsimp only[Am]
  refine⟨_,rfl,l,_,_,_,rfl,rfl,A7.of hl',(show BA (CF (kk::g')) (0:Int)=some (.int (kk:Int)) from by unfold CF;exact D7 (j:=0) rfl),?_⟩
  dsimp only[Am]
  refine⟨_,rfl,_,rfl,dl,_,_,_,rfl,rfl,A7.of hxs,D7 hv,p,_,dx,_,_,rfl,h0,T.cl_Deed,T.n_Deed_names,rfl,nm,_,rfl,.inr (A8.of h1),_,rfl,rfl,_,rfl,?_⟩
  rw[Ao]
  by_cases c:D.loops.length=d
  .refine Ba (v:=true) (Cc (congrArg (fun m:Nat=>V.int (m:Int)) c)) (Ca ?_)
   have g0:g'=[]:=by
    cases g' with
    |nil=>rfl
    |
     cons k2 g2=>
     cases got3 with
     |
      cons q1 q2=>
      cases q2 with
      |
       cons q3 q4=>
       rw[D4 hD]at q1
       cases q1
       obtain⟨D2,hD2,rfl⟩:=Gk q3
       obtain⟨⟨cx,c1,c2⟩,_⟩:=ccg
       have c3:cx<=D.loops.length:=c2.1
       have ce:cx=d:=by omega
       subst ce
       have:=i1 k2 AX
       rw[EI hD2,EI hD]at this
       exact absurd this.symm c2.2.2.2.2
   subst g0
   refine⟨_,rfl,.inl ⟨rfl,_,A7.of hz⟩,_,rfl,Ar rfl,fun t ht=>?_⟩
   have s3:=Ab ht (.tup [V.int (kk:Int),V.non])
   refine⟨it,_,_,rfl,rfl,s3 _ _ hz,DC (by omega),?_⟩
   have nti:t≠it:=(Az hz ht).symm
   refine⟨zs++[.ref t],F0 f (.leaf kk .nil),done++[kk],rest',_,_,rfl,fun b o hb h=>by rw[Ag hb];exact s3 _ _ (k b o hb h),A6,?_,Jw isf ⟨[],D.dd,rfl,D4 hD,c,rfl⟩ diff memD,i3,by rw[Ei],Bl (Jt f _) (Nat.max_le.mpr ⟨fd,by show max 1 0<=n+1;omega⟩),by rw[Ac,Ac];exact Nat.add_le_add zl (An _),nxt⟩
   exact(fa.over (Le fun b o hb h=>by rw[Ag hb];exact s3 _ _ h)).app ⟨t,[],rfl,HQ (eH.free ht) nti (by rw[Ag nti];exact A6),rfl⟩
  .refine Ba (v:=false) (Cw fun z=>c (by have:=V.int.inj z;omega)) (Bm ?_)
   have hlt:d<D.loops.length:=by omega
   have ll:=ok.ll
   have hv2:∀y∈dsg,y.path.getD d 0=D.dd.path.getD d 0:=fun y hy=>by
    obtain⟨k',hk',e⟩:=got3.mem y hy
    obtain⟨D',hD',rfl⟩:=Gk e
    have:BC Ds d k'=BC Ds d kk:=by
     rcases AE.mp hk' with rfl|h
     .rfl
     .exact i1 k' h
    rw[EI hD',EI hD]at this
    exact this
   have up:=(Pw.CC.up ccg hv2 (fun y hy=>by
    obtain⟨k',hk',e⟩:=got3.head hy
    cases hk'
    rw[D4 hD]at e
    cases e
    exact hlt)).1
   have hin2:La Ds (d+1) (kk::g'):=fun x hx=>by
    obtain⟨Dx,hDx,okx,_⟩:=hin x (BK _ (Ck _ hx))
    refine⟨Dx,hDx,okx,?_⟩
    obtain⟨y,hy,ey⟩:=got3.find hx
    rw[D4 hDx]at ey
    cases ey
    exact Pw.CC.le up _ hy
   have nlen3:zs.length+1<=11:=by omega
   refine⟨_,rfl,.inl ⟨rfl,_,A7.of hz⟩,_,rfl,_,rfl,_,rfl,_,rfl,_,_,rfl,rfl,dl,l,d+1,Ds,kk::g',dsg,rfl,⟨xs,hxs,ax⟩,hl',hin2,nlen2,got3,up,by omega,by omega,fun r H3 sub ws e3 hrN hr3 fs3 is3 fd3 wl3=>⟨Ar rfl,fun t ht=>?_⟩⟩
   have s4:=Ab ht (.tup [V.int (kk:Int),V.ref r])
   have hz3:=e3 _ _ hz
   refine⟨it,_,_,rfl,rfl,s4 _ _ hz3,DC (by omega),?_⟩
   have nti:t≠it:=(Az hz3 ht).symm
   have nri:r≠it:=(Az hz hrN).symm
   refine⟨zs++[.ref t],F0 f (.node kk sub .nil),done++(kk::g'),rest',_,_,rfl,fun b o hb h=>by rw[Ag hb];exact s4 _ _ (e3 _ _ (k b o hb h)),A6,?_,Jw isf ⟨g',[],D.dd,by simp,D4 hD,hlt,fun x hx b hb=>?_,fun x b hx=>(by cases hx),is3,rfl⟩ diff memD,i3,by rw[Ei],Bl (Jt f _) (Nat.max_le.mpr ⟨fd,by show max (By sub+1) 0<=n+1;omega⟩),by rw[Ac,Ac];exact Nat.add_le_add zl (by rw[B6,B6];exact Nat.succ_le_succ (BF _)),nxt⟩
   .have up4:∀b o,b≠it->H3 b=some o->(upd (upd H3 t (.tup [V.int (kk:Int),V.ref r])) it (.lst (zs++[.ref t]))) b=some o:=fun b o hb h=>by rw[Ag hb];exact s4 _ _ h
    exact(fa.over (Le fun b o hb h=>up4 b o hb (e3 _ _ h))).app ⟨t,r,ws,[],rfl,HQ (eH.free (e3.free ht)) nti (by rw[Ag nti];exact A6),HQ (eH.free hrN) nri (up4 _ _ nri hr3),(fs3.over (Rk eH hz)).over (Le up4),rfl⟩
   .obtain⟨Db,hDb,rfl⟩:=Gk hb
    have:=i1 x hx
    rw[EI hDb,EI hD]at this
    exact this
theorem MQ (T:Tx K mg a):AA P w K mg base AJ 7 a.f_i a.d_i ["deeds"] (Vd a.c_Deed):=by
 have G_j :=@OS P w K mg base a T 4
 refine T.F_i.ok Rj (fun vs H Q E h=>?_) (fun cdv A outer s H vs Q E hr h=>?_)
 .obtain⟨_,_,rfl,_⟩:=h;rfl
 obtain⟨dl,Ds,rfl,hDo,ok,q⟩:=h
 refine⟨_,(Af (AO (Av G_j (hr.mono (by omega)) (by rfl) T.m_j T.F_j.kp T.b_j .nil Aq (A0 (pv 0) (A0 (V0 rfl (by rfl) T.z_list (by rfl) T.z_range (A0 (B9 BY (by rfl) T.z_len BU (A0 (pv 0) A3)) A3)) (A0 A1 A3)))))),?_⟩
 obtain⟨xs,hdl,ax⟩:=id hDo
 have xl:=ax.1
 refine⟨_,rfl,_,rfl,dl,_,rfl,.inl (A7.of hdl),xs.length,rfl,by have:=ok.2.1;omega,fun nl hnl=>?_⟩
 have s1:=Ab hnl (.lst (EE xs.length))
 have hnl1:(upd H nl (.lst (EE xs.length))) nl=some (.lst (CF (List.range Ds.length))):=by rw[A6,xl];rfl
 generalize upd H nl (.lst (EE xs.length))=H1 at s1 hnl1
 refine⟨dl,nl,0,Ds,List.range Ds.length,Ds.map Dw.dd,rfl,hDo.over s1,hnl1,fun k hk=>?_,by rw[Dz];exact ok.2.1,Rv,ok.2.2,by decide,by decide,fun r H' f ys e hrN hr2 fs isf fd xl2=>?_⟩
 .rw[Di]at hk
  exact⟨Ds[k],Be hk,ok.1 _ (FW hk),BF _⟩
 .exact q r _ f ys (s1.trans e) (s1.free hrN) hr2 (fs.over (Xv s1)) isf fd (by rw[Dz]at xl2;have:=ok.2.1;omega)
theorem WY (T:Tx K mg a)(n:Nat)(G_h:AA P w K mg base AJ (2*n+5) a.f_h a.d_h ["walk","items","values"] (LB a.c_Walk a.c_Deed n)):AA P w K mg base AJ (2*n+6) a.f_y a.d_y ["walk","k","items","values"] (Uq a.c_Walk a.c_Deed n):=by
 have G_n :=@Nn P w K mg base a T
 refine T.F_y.ok L8 (fun vs H Q E h=>?_) (fun cdv A outer s H vs Q E hr h=>?_)
 .obtain⟨_,_,_,_,_,_,_,_,_,_,_,_,_,_,rfl,_⟩:=h;rfl
 obtain⟨wk,l,il,vt,room,HF,Ds,f,k,D,ns,xs,ts,us,rfl,W,ok,hD,hu,hil,fs,fd,isf,ft,hvt,hl,sz,q⟩:=h
 refine⟨_,(A9 (Ak (i:=4) L8.nd rfl (.inl rfl) (Av G_n (hr.mono (by omega)) (by rfl) T.m_n T.F_n.kp T.b_n .nil Aq (A0 (Ai B2 (DF (pv 0) rfl) (pv 1) (fun _ _=>rfl)) (A0 (pv 3) A3))))
  (Af (CH PassesOwn.never rfl (OV (by rfl) T.z_range (A0 (Ai AF (pv 4) A1 (fun _ _=>rfl)) (A0 (A4 AU (Ai AF (pv 4) A1 (fun _ _=>rfl)) A1) A3))) (B0 (i:=5) L8.nd rfl (.inl rfl))
  (Af (Cp (Av G_h (hr.mono (by omega)) (by rfl) T.m_h T.F_h.kp T.b_h .nil Aq (A0 (pv 0) (A0 (pv 2) (A0 (A4 LM (pv 3) (Bf (A0 (pv 5) A3))) A3))))))))),?_⟩
 obtain⟨⟨dx,dl,hw,hDo⟩,eF,_,_⟩:=id W
 obtain⟨ys,hys,ay⟩:=hDo.over eF
 obtain⟨v,hv,hvo⟩:=ay.get hD
 have okD:=ok D (DH hD)
 refine⟨_,rfl,wk,_,dx,_,_,rfl,hw,T.cl_Walk,T.n_Walk_deeds,rfl,_,rfl,dl,_,_,_,rfl,rfl,A7.of hys,D7 hv,_,rfl,v,vt,D,us,rfl,hvo,okD,hvt,hu,fun bt H1 e1 hbt=>?_⟩
 have eb:bW Ds k us=bD D us:=DD hD us
 rw[←eb]at hbt
 obtain⟨⟨b1,b2,b3,b4⟩,fsub,_⟩:=ft
 generalize hlo:(bW Ds k us).1=lo at hbt b1 b2 fsub
 generalize hhi:(bW Ds k us).2=hi at hbt b3 b4 fsub
 dsimp only[Am]
 refine⟨_,rfl,bt,_,0,_,rfl,rfl,A8.of hbt,rfl,_,rfl,bt,_,1,_,rfl,rfl,A8.of hbt,rfl,_,_,rfl,rfl,_,_,rfl,⟨by omega,by omega,by omega,by omega⟩,?_⟩
 have et:Tn.tl (bW Ds) (.node k f .nil) us=(Tn.rng lo hi).flatMap fun v=>Tn.tl (bW Ds) f (us++[v]):=by
  show(Tn.rng (bW Ds k us).1 (bW Ds k us).2).flatMap (fun v=>Tn.tl (bW Ds) f (us++[v]))++[]=_
  rw[DT,hlo,hhi]
 rw[et]at sz q
 have W1:=W.bt hl (Bt.same e1)
 have hl1:=e1 _ _ hl
 refine Ej (lo:=lo) (n:=(hi+1-lo).toNat) (fun i σ' H2=>∃(ts2:List V) (o5:Option V),σ'=[some (.ref wk),some (.int (k:Int)),some (.ref il),some (.ref vt),some (.ref bt),o5]/\Bt l H1 H2/\H2 l=some (.lst (ts++ts2))/\Ay (DZ H2) ts2 (((Tn.rng lo hi).take i).flatMap fun v=>Tn.tl (bW Ds) f (us++[v]))) ⟨[],_,rfl,fun _ _ _ h=>h,by rw[DT];exact hl1,.nil⟩ (fun i σ' H2 hi2 pp=>?_) (fun σ' H2 pp=>?_)
 rotate_left
 .obtain⟨ts2,o5,rfl,bt2,hl2,al⟩:=pp
  rw[Dy (by rw[Tn.rng_len];exact An _)]at al
  exact q _ ts2 ((Bt.same e1).trans bt2) hl2 al
 obtain⟨ts2,o5,rfl,bt2,hl2,al⟩:=pp
 have rl:=Tn.rng_len (lo:=lo) (hi:=hi)
 have ri:(Tn.rng lo hi)[i]?=some (lo+(i:Int)):=Tn.rng_get hi2
 rw[E2 ri,Mv]
 have len2:ts2.length=(((Tn.rng lo hi).take i).flatMap fun v=>Tn.tl (bW Ds) f (us++[v])).length:=al.1
 have tot:(((Tn.rng lo hi).take i).flatMap fun v=>Tn.tl (bW Ds) f (us++[v])).length+(Tn.tl (bW Ds) f (us++[lo+(i:Int)])).length<=((Tn.rng lo hi).flatMap fun v=>Tn.tl (bW Ds) f (us++[v])).length:=Tn.flat_len ri
 have tk2:=(bt2.tk hl1)
 have hvt2:=tk2 _ _ (e1 _ _ hvt)
 dsimp only[Am]
 refine⟨_,rfl,_,rfl,_,rfl,_,rfl,Ar rfl,fun u hu2=>?_⟩
 have s3:=Ab hu2 (.tup [V.int (lo+(i:Int))])
 refine⟨vt,u,_,_,rfl,rfl,s3 _ _ hvt2,A6,Bo (by rw[Ao,AN];have:=okD.ll;omega),fun p H3 e3 hp=>?_⟩
 have e23:=s3.trans e3
 have W3:=(W1.bt hl1 bt2).bt hl2 (Bt.same e23)
 have hl3:=e23 _ _ hl2
 have hp':H3 p=some (.tup ((us++[lo+(i:Int)]).map V.int)):=by rw[hp,Bv];rfl
 refine⟨wk,l,il,p,room,HF,Ds,f,ns,xs,ts++ts2,us++[lo+(i:Int)],rfl,W3,ok,hil,fs,fd,by rw[Ac];exact isf,fsub _ (by omega) (by omega),hp',hl3,by rw[Ac];omega,fun H4 ts3 bt4 hl4 al4=>?_⟩
 refine⟨ts2++ts3,_,rfl,(bt2.trans (Bt.same e23)).trans bt4,by rw[←Ei];exact hl4,?_⟩
 rw[show([lo+(i:Int)].flatMap fun v=>Tn.tl (bW Ds) f (us++[v]))=Tn.tl (bW Ds) f (us++[lo+(i:Int)]) from DT _]
 exact(al.mono fun _ _ z=>(z.over e23).tk (bt4.tk hl3)).app al4
theorem Pe (T:Tx K mg a):∀n:Nat,AA P w K mg base AJ (2*n+5) a.f_h a.d_h ["walk","items","values"] (LB a.c_Walk a.c_Deed n)
 |
  0=>by
  have no:∀vs H Q E,¬LB a.c_Walk a.c_Deed 0 vs H Q E:=fun vs H Q E h=>by
   obtain⟨_,_,_,_,_,_,_,_,_,_,_,_,_,_,_,_,_,h1,_⟩:=h
   exact J4 _ h1
  exact⟨fun vs H Q E h=>absurd h (no vs H Q E),fun A outer s H args us vs Q E _ _ _ _ h=>absurd h (no vs H Q E)⟩
 |
  n+1=>by
  have G_y:=WY T n (Pe T n)
  refine T.F_h.ok LP (fun vs H Q E h=>?_) (fun cdv A outer s H vs Q E hr h=>?_)
  .obtain⟨_,_,_,_,_,_,_,_,_,_,_,_,rfl,_⟩:=h;rfl
  obtain⟨wk,l,il,vt,room,HF,Ds,f,ns,xs,ts,us,rfl,W,ok,hil,fs,fd,isf,ft,hvt,hl,sz,q⟩:=h
  refine⟨_,(Af (CH PassesOwn.never rfl (DR (pv 1)) (ES rfl (Co (B0 (i:=3) LP.nd rfl (.inl rfl)) (Co (B0 (i:=4) LP.nd rfl (.inl rfl)) EN)))
  (Af (BJ (Bp NI (pv 4) GS (Bk _))
  (Af (Cp (Ec EA EB EC Eg (DF (pv 0) rfl) (A0 (Bf (A0 (pv 3) (A0 (pv 2) A3))) A3))))
  (Af (Cp (Av G_y (hr.mono (by omega)) (by rfl) T.m_y T.F_y.kp T.b_y .nil Aq (A0 (pv 0) (A0 (pv 3) (A0 (pv 4) (A0 (pv 2) A3))))))))))),?_⟩
  have eF:=W.same
  have nil_l:il≠l:=Az hil W.nl
  refine⟨_,rfl,il,rfl,⟨_,A7.of (eF _ _ hil)⟩,?_⟩
  refine Hg (xs:=xs) (fun i σ' H'=>∃(g:Pw.Fs) (ns':List Nat) (L:List (Nat×List Int)) (ts2:List V) (o3 o4:Option V),σ'=[some (.ref wk),some (.ref il),some (.ref vt),o3,o4]/\Bt l H H'/\H' l=some (.lst (ts++ts2))/\Ay (DZ H') ts2 L/\BI HF g (xs.drop i)/\By g<n+1/\Pw.IsF (getD Ds) g ns' us.length/\Dl (bW Ds) g us/\Tn.tl (bW Ds) f us=L++Tn.tl (bW Ds) g us) ⟨f,ns,[],[],_,_,rfl,fun _ _ _ h=>h,by rw[DT];exact hl,.nil,fs,fd,isf,ft,rfl⟩ (fun i σ' H' _ pp=>by obtain⟨_,_,_,_,_,_,_,b,_⟩:=pp;exact A7.of (b _ _ nil_l (eF _ _ hil))) (fun i x σ' H' hx pp=>?_) (fun σ' H' pp=>?_)
  rotate_left
  .obtain⟨g,ns',L,ts2,o3,o4,rfl,b,hl',al,fs,fdg,isg,ftg,eT⟩:=pp
   rw[Mu]at fs
   cases g with
   |
    nil=>
    rw[show Tn.tl (bW Ds) Pw.Fs.nil us=[] from rfl,DT]at eT
    rw[←eT]at al
    exact q _ ts2 b hl' al
   |leaf k r=>obtain⟨_,_,z,_⟩:=fs;cases z
   |node k s r=>obtain⟨_,_,_,_,z,_⟩:=fs;cases z
  obtain⟨g,ns',L,ts2,o3,o4,rfl,b,hl',al,fs,fdg,isg,ftg,eT⟩:=pp
  have dc:xs.drop i=x::xs.drop (i+1):=by
   obtain⟨hh,rfl⟩:=BR.mp hx
   exact J0 hh
  rw[dc]at fs
  have W':=W.bt hl b
  have eF':=W'.same
  have tk:=b.tk hl
  have alen:ts2.length=L.length:=al.1
  rw[eT,Ac]at sz
  obtain⟨dx,dl,hw,hDo⟩:=W'.w
  cases g with
  |nil=>cases fs
  |
   leaf k rest=>
   obtain⟨t,xs',ex,ht,fs'⟩:=fs
   cases ex
   obtain⟨ns2,aa,rfl,r1,r2,r3⟩:=isg
   have e2:Tn.tl (bW Ds) (.leaf k rest) us=(k,us)::Tn.tl (bW Ds) rest us:=rfl
   rw[e2,B6]at sz
   refine⟨t,_,rfl,A8.of (eF' _ _ ht),rfl,_,_,rfl,_,_,rfl,rfl,?_⟩
   refine⟨_,rfl,rfl,_,rfl,Ba (v:=true) (Cc rfl) (Ca ?_)⟩
   refine⟨_,rfl,wk,_,dx,_,_,rfl,hw,T.cl_Walk,T.n_Walk_told,rfl,.inl ⟨rfl,_,A7.of hl'⟩,_,rfl,_,rfl,Ar rfl,fun u hu=>?_⟩
   have s3:=Ab hu (.tup [V.int (k:Int),V.ref vt])
   have hl3:=s3 _ _ hl'
   refine⟨l,_,_,rfl,rfl,hl3,DC (by rw[Ac];omega),?_⟩
   have bb:Bt l H' (upd (upd H' u (.tup [V.int (k:Int),V.ref vt])) l (.lst (ts++ts2++[.ref u]))):=(Bt.same s3).trans Bt.put
   have tk3:=bb.tk hl'
   have nul:u≠l:=(Az hl' hu).symm
   refine⟨rest,ns2,L++[(k,us)],ts2++[.ref u],_,_,rfl,b.trans bb,by rw[A6,Ei],(al.mono fun _ _ z=>z.tk tk3).snoc ⟨u,vt,rfl,by rw[Ag nul];exact A6,tk3 _ _ (tk _ _ hvt)⟩,fs',by have:max 1 (By rest)<n+1:=fdg;omega,r3,ftg,by rw[eT,e2,Ei];rfl⟩
  |
   node k sub rest=>
   obtain⟨t,l2,ws,xs',ex,ht,hl2,fsub,fs'⟩:=fs
   cases ex
   obtain⟨gg,ns2,aa,rfl,r1,r2,r3,r4,r5,r6⟩:=isg
   obtain⟨D,hD,rfl⟩:=Gk r1
   obtain⟨f1,f2,f3⟩:=ftg
   have e2:Tn.tl (bW Ds) (.node k sub rest) us=Tn.tl (bW Ds) (.node k sub .nil) us++Tn.tl (bW Ds) rest us:=by
    show _++Tn.tl (bW Ds) rest us=(_++[])++Tn.tl (bW Ds) rest us
    rw[DT]
   rw[e2,Ac]at sz
   refine⟨t,_,rfl,A8.of (eF' _ _ ht),rfl,_,_,rfl,_,_,rfl,rfl,?_⟩
   refine⟨_,rfl,rfl,_,rfl,Ba (v:=false) (Cw fun z=>by cases z) (Bm ?_)⟩
   have fdm:max (By sub+1) (By rest)<n+1:=fdg
   refine⟨_,rfl,_,rfl,_,rfl,_,rfl,wk,l,l2,vt,room,HF,Ds,sub,k,D,k::gg,ws,ts++ts2,us,rfl,W',ok,hD,r2,hl2,fsub,by omega,r5,⟨f1,f2,True.intro⟩,tk _ _ hvt,hl',by rw[Ac];omega,fun H3 ts3 b3 hl3 al3=>?_⟩
   refine⟨rest,ns2,L++Tn.tl (bW Ds) (.node k sub .nil) us,ts2++ts3,_,_,rfl,b.trans b3,by rw[←Ei];exact hl3,(al.mono fun _ _ z=>z.tk (b3.tk hl')).app al3,fs',by omega,r6,f3,by rw[eT,e2,Ei]⟩
theorem P8 (T:Tx K mg a):AA P w K mg base AJ 1 a.f_r a.d_r ["self","deeds","most"] (S8 a.c_Walk):=by
 refine T.F_r.ok UP (fun vs H Q E h=>?_) (fun cdv A outer s H vs Q E hr h=>?_)
 .obtain⟨_,_,_,_,rfl,_⟩:=h;rfl
 obtain⟨r,dx,d,m,rfl,h0,q⟩:=h
 refine⟨_,(A9 (CB (pv 0) (pv 1) rfl)
  (A9 (CB (pv 0) (pv 2) rfl)
  (Af (CB (pv 0) (BL A3) rfl)))),?_⟩
 refine⟨_,rfl,_,rfl,r,_,dx,_,rfl,h0,T.cl_Walk,T.n_Walk_deeds,(by show 0<1000;decide),?_⟩
 refine⟨_,rfl,_,rfl,r,_,dx,_,rfl,A6,T.cl_Walk,T.n_Walk_room,(by show 1<1000;decide),?_⟩
 rw[LD]
 refine⟨Ar rfl,fun l hl=>?_⟩
 have nrl:r≠l:=fun e=>by rw[e,A6]at hl;cases hl
 have hlH:H l=none:=by rw[Ag (Ne.symm nrl)]at hl;exact hl
 refine⟨_,rfl,r,_,dx,_,rfl,(by rw[Ag nrl];exact A6),T.cl_Walk,T.n_Walk_told,(by show 2<1000;decide),?_⟩
 have e:upd (upd (upd H r (.ins a.c_Walk dx [("deeds",d),("room",.int m)])) l (.lst [])) r (.ins a.c_Walk dx [("deeds",d),("room",.int m),("told",.ref l)])=upd (upd H l (.lst [])) r (.ins a.c_Walk dx [("deeds",d),("room",.int m),("told",.ref l)]):=by
  funext b
  by_cases c:b=r
  .subst c;rw[A6,A6]
  .rw[Ag c,Ag c]
   by_cases c2:b=l
   .subst c2;rw[A6,A6]
   .rw[Ag c2,Ag c2,Ag c]
 show Q .non (upd (upd (upd H r (.ins a.c_Walk dx [("deeds",d),("room",.int m)])) l (.lst [])) r (.ins a.c_Walk dx [("deeds",d),("room",.int m),("told",.ref l)]))
 rw[e]
 exact q l hlH
theorem O0 (T:Tx K mg a):AA P w K mg base (Ew P w) 1 a.f_l a.d_l ["walk","many"] (RM a.c_Walk a.c_TooMany):=by
 refine T.F_l.okX TL (fun vs H Q E h=>?_) (fun cdv A outer s H vs Q E hr h=>?_)
 .obtain⟨_,_,_,_,_,_,rfl,_⟩:=h;rfl
 obtain⟨wk,l,dx,dl,m,room,rfl,h0,q,qx⟩:=h
 refine⟨_,(A9 (BJ (Bp Gv (pv 1) (DF (pv 0) rfl) (Bk _))
  (Af (RK rfl RP (Vb T.xm_TooMany (by rfl) T.mc_TooMany)))
  Ce)
  (Af (TJ (pv 0) (pv 1) Rq))),?_⟩
 refine⟨_,rfl,_,rfl,wk,_,dx,_,_,rfl,h0,T.cl_Walk,T.n_Walk_room,rfl,_,_,rfl,rfl,_,rfl,?_⟩
 by_cases c:m<=room
 .refine Ba (v:=false) (Cw (by omega)) (Bm ?_)
  refine⟨_,rfl,wk,_,dx,_,_,rfl,h0,T.cl_Walk,T.n_Walk_room,rfl,_,rfl,_,_,rfl,rfl,dx,_,h0,(by show 3<1000;decide),?_⟩
  exact q c
 .refine Ba (v:=true) (Cc (by omega)) (Ca ?_)
  intro xx hxx
  refine⟨xx,_,none,rfl,A6,T.xi_TooMany.xc,?_⟩
  rw[LD]
  exact qx (by omega) xx _ (Ab hxx _) A6
theorem Nw (T:Tx K mg a):AA P w K mg base AJ 1 a.f_m a.d_m ["items"] (RX):=by
 refine T.F_m.ok QC (fun vs H Q E h=>?_) (fun cdv A outer s H vs Q E hr h=>?_)
 .obtain⟨_,_,_,rfl,_⟩:=h;rfl
 obtain⟨il,xs,f,rfl,hil,fs,xl,q⟩:=h
 refine⟨_,(Af (AO (B9 BY (by rfl) T.z_len BU (A0 (Gf ["k","inner"] [none,none] (by rfl) (DR (pv 0)) WM (fun _ _ _ _ _ _=>⟨(show PG _ _ (Nd K 2 _) from(ES rfl (Co (B0 (i:=0) MI rfl (.inl rfl)) (Co (B0 (i:=1) MI rfl (.inl rfl)) EN)))),(Sa (Bp NI (pv 1) GS (Bk _))),(pv 0)⟩)) A3)))),?_⟩
 refine⟨_,rfl,il,rfl,⟨_,A7.of hil⟩,?_⟩
 refine Th (xs:=xs) (fun i zs H'=>H'=H/\zs.length<=i/\∃g,BI H g (xs.drop i)/\zs.length+AM g=AM f) ⟨rfl,An _,f,fs,Nat.zero_add _⟩ (Bo (by omega)) (fun i zs H' hi pp=>⟨by rw[pp.1];exact A7.of hil,pp.2.1⟩) (fun i x zs H' hx pp=>?_) (fun zs H' pp r hr=>?_)
 .obtain⟨rfl,zl,g,fs,e⟩:=pp
  have dc:xs.drop i=x::xs.drop (i+1):=by
   obtain⟨hh,rfl⟩:=BR.mp hx
   exact J0 hh
  rw[dc]at fs
  cases g with
  |nil=>cases fs
  |
   leaf k rest=>
   obtain⟨t,xs',ex,ht,fs'⟩:=fs
   cases ex
   have e2:AM (.leaf k rest)=1+AM rest:=rfl
   refine⟨t,_,rfl,A8.of ht,rfl,_,_,rfl,_,_,rfl,rfl,Nm (ρ:=[]) _ _,?_⟩
   refine⟨_,rfl,rfl,_,rfl,Ba (v:=true) (Cc rfl) (Ca ?_)⟩
   refine⟨_,rfl,rfl,by rw[Ac,AN];omega,rest,fs',by rw[Ac,AN];omega⟩
  |
   node k sub rest=>
   obtain⟨t,l2,ws,xs',ex,ht,hl2,fsub,fs'⟩:=fs
   cases ex
   have e2:AM (.node k sub rest)=AM rest:=rfl
   refine⟨t,_,rfl,A8.of ht,rfl,_,_,rfl,_,_,rfl,rfl,Nm (ρ:=[]) _ _,?_⟩
   refine⟨_,rfl,rfl,_,rfl,Ba (v:=false) (Cw fun z=>by cases z) (Bm ?_)⟩
   exact⟨rfl,by omega,rest,fs',by omega⟩
 obtain⟨rfl,zl,g,fs,e⟩:=pp
 rw[Mu]at fs
 have el:zs.length=AM f:=by
  cases g with
  |nil=>exact e
  |leaf k r=>obtain⟨_,_,z,_⟩:=fs;cases z
  |node k s r=>obtain⟨_,_,_,_,z,_⟩:=fs;cases z
 refine⟨r,_,rfl,.inl (A7.of A6),?_⟩
 rw[el]
 exact q _ (Ab hr _)
theorem WV (T:Tx K mg a)(n:Nat)(G_g:AA P w K mg base (Ew P w) (2*n+5) a.f_g a.d_g ["walk","items","values"] (KS a.c_Walk a.c_Deed a.c_TooMany n)):AA P w K mg base (Ew P w) (2*n+6) a.f_x a.d_x ["walk","k","items","values"] (Q9 a.c_Walk a.c_Deed a.c_TooMany n):=by
 have G_n :=@Nn P w K mg base a T
 have G_m :=@Nw P w K mg base a T
 have G_l :=@O0 P w K mg base a T
 refine T.F_x.okX HP (fun vs H Q E h=>?_) (fun cdv A outer s H vs Q E hr h=>?_)
 .obtain⟨_,_,_,_,_,_,_,_,_,_,_,_,_,_,_,rfl,_⟩:=h;rfl
 obtain⟨wk,l,il,vt,dx,dl,room,HF,Ds,f,k,D,ns,xs,us,rfl,W,ok,hD,hu,hil,fs,xl,fd,isf,nl,ft,hvt,q,qx⟩:=h
 refine⟨_,(A9 (Ak (i:=4) HP.nd rfl (.inl rfl) (Av G_n (hr.mono (by omega)) (by rfl) T.m_n T.F_n.kp T.b_n .nil Aq (A0 (Ai B2 (DF (pv 0) rfl) (pv 1) (fun _ _=>rfl)) (A0 (pv 3) A3))))
  (A9 (Ak (i:=5) HP.nd rfl (.inl rfl) (B9 (NU rfl) (by rfl) T.z_max Oo (A0 (A4 AU (A4 DS (Ai AF (pv 4) A1 (fun _ _=>rfl)) (Ai AF (pv 4) A1 (fun _ _=>rfl))) A1) (A0 A1 A3))))
  (A9 (Ak (i:=6) HP.nd rfl (.inl rfl) (Av G_m (hr.mono (by omega)) (by rfl) T.m_m T.F_m.kp T.b_m .nil Aq (A0 (pv 2) A3)))
  (A9 (Cp (Gm G_l (hr.mono (by omega)) (by rfl) T.m_l T.F_l.kp T.b_l .nil HJ (A0 (pv 0) (A0 (A4 CT (pv 5) (A4 AU A1 (pv 6))) A3))))
  (Af (BJ (Bp LJ (pv 6) (B9 BY (by rfl) T.z_len BU (A0 (pv 2) A3)) (Bk _))
  (Af (CH PassesOwn.leaving rfl (OV (by rfl) T.z_range (A0 (Ai AF (pv 4) A1 (fun _ _=>rfl)) (A0 (A4 AU (Ai AF (pv 4) A1 (fun _ _=>rfl)) A1) A3))) (B0 (i:=7) HP.nd rfl (.inl rfl))
  (Af (Cp (Gm G_g (hr.mono (by omega)) (by rfl) T.m_g T.F_g.kp T.b_g .nil HJ (A0 (pv 0) (A0 (pv 2) (A0 (A4 LM (pv 3) (Bf (A0 (pv 7) A3))) A3))))))))
  Ce)))))),?_⟩
 have okD:=ok D (DH hD)
 obtain⟨ys,hys,ay⟩:=W.d.over W.same
 obtain⟨v,hv,hvo⟩:=ay.get hD
 refine⟨_,rfl,wk,_,dx,_,_,rfl,W.w,T.cl_Walk,T.n_Walk_deeds,rfl,_,rfl,dl,_,_,_,rfl,rfl,A7.of hys,D7 hv,_,rfl,v,vt,D,us,rfl,hvo,okD,hvt,hu,fun bt H1 e1 hbt=>?_⟩
 have eb:bW Ds k us=bD D us:=DD hD us
 rw[←eb]at hbt
 obtain⟨⟨b1,b2,b3,b4⟩,fsub,_⟩:=ft
 have ec:AS (bW Ds) (.node k f .nil) us=CG (bW Ds k us)*(1+(AM f:Int))+(if AM f<Cd f then((Tn.rng (bW Ds k us).1 (bW Ds k us).2).map fun v=>AS (bW Ds) f (us++[v])).sum else 0):=Int.add_zero _
 rw[ec]at q qx
 have ewid:CG (bW Ds k us)=if(bW Ds k us).2-(bW Ds k us).1+1<0 then 0 else(bW Ds k us).2-(bW Ds k us).1+1:=rfl
 rw[ewid]at q qx
 generalize hlo:(bW Ds k us).1=lo at hbt b1 b2 fsub q qx
 generalize hhi:(bW Ds k us).2=hi at hbt b3 b4 fsub q qx
 have W1:=W.over e1
 have l10:AM f<=10:=by have:=IG f;have:=HK fs;omega
 dsimp only[Am]
 refine⟨_,rfl,bt,_,1,_,rfl,rfl,A8.of hbt,rfl,_,rfl,bt,_,0,_,rfl,rfl,A8.of hbt,rfl,_,_,rfl,rfl,_,_,rfl,rfl,_,_,rfl,?_⟩
 dsimp only[Am]
 refine⟨_,rfl,il,xs,f,rfl,W1.same _ _ hil,fs.over W1.same,xl,fun H2 e2=>?_⟩
 have W2:=W1.over e2
 have hbt2:=e2 _ _ hbt
 have e12:=e1.trans e2
 dsimp only[Am]
 have nnS:0<=((Tn.rng lo hi).map fun v=>AS (bW Ds) f (us++[v])).sum:=HZ fun x hx=>by
  obtain⟨v,_,rfl⟩:=AW.mp hx
  exact EF f (us++[v])
 generalize hm:(if hi-lo+1<0 then 0 else hi-lo+1)*(1+(AM f:Int))=m at q qx
 refine⟨_,rfl,_,rfl,_,rfl,_,_,rfl,rfl,_,_,rfl,rfl,.inr ⟨by omega,by omega⟩,wk,l,dx,dl,m,room,?_,W2.w,fun ml=>?_,fun mx xx HX eX hX=>qx (by split<;>omega) xx HX (Bt.same (e12.trans eX)) hX⟩
 .rw[←hm];rfl
 have bw:Bt wk H2 (upd H2 wk (.ins a.c_Walk dx [("deeds",.ref dl),("room",.int (room-m)),("told",.ref l)])):=Bt.put
 have ww:E7 a.c_Walk (upd H2 wk (.ins a.c_Walk dx [("deeds",.ref dl),("room",.int (room-m)),("told",.ref l)])) wk (room-m) l dx dl:=A6
 generalize upd H2 wk (.ins a.c_Walk dx [("deeds",.ref dl),("room",.int (room-m)),("told",.ref l)])=H3 at bw ww
 have W3:=W2.set bw ww
 have nbt:bt≠wk:=fun z=>by have:=W2.w;rw[←z]at this;unfold E7 at this;rw[hbt2]at this;cases this
 have nvt:vt≠wk:=fun z=>by have:=W.w;rw[←z]at this;unfold E7 at this;rw[hvt]at this;cases this
 have hbt3:=bw _ _ nbt hbt2
 have hvt3:=bw _ _ nvt (e12 _ _ hvt)
 have b3w:Bt wk H H3:=(Bt.same e12).trans bw
 refine⟨_,rfl,_,rfl,il,xs,rfl,.inl (A7.of (W3.same _ _ hil)),_,_,rfl,rfl,_,rfl,?_⟩
 rw[HK fs]
 by_cases c:AM f<Cd f
 .refine Ba (v:=true) (Cc (by omega)) (Ca ?_)
  rw[Ah c]at q qx
  refine⟨_,rfl,bt,_,0,_,rfl,rfl,A8.of hbt3,rfl,_,rfl,bt,_,1,_,rfl,rfl,A8.of hbt3,rfl,_,_,rfl,rfl,_,_,rfl,⟨by omega,by omega,by omega,by omega⟩,?_⟩
  generalize hS:((Tn.rng lo hi).map fun v=>AS (bW Ds) f (us++[v]))=S at q qx nnS
  have Snn:∀x∈S,0<=x:=fun x hx=>by
   rw[←hS]at hx
   obtain⟨v,_,rfl⟩:=AW.mp hx
   exact EF f (us++[v])
  have Sl:S.length=(hi+1-lo).toNat:=by rw[←hS,Ao,Tn.rng_len]
  refine Ej (lo:=lo) (n:=(hi+1-lo).toNat) (fun i σ' H4=>∃(o7:Option V),σ'=[some (.ref wk),some (.int (k:Int)),some (.ref il),some (.ref vt),some (.ref bt),some (.int (if hi-lo+1<0 then 0 else hi-lo+1)),some (.int (AM f:Int)),o7]/\Bt wk H3 H4/\m+(S.take i).sum<=room/\E7 a.c_Walk H4 wk (room-m-(S.take i).sum) l dx dl) ⟨_,rfl,fun _ _ _ h=>h,by rw[IZ,Hr];omega,by rw[IZ,Hr,Int.sub_zero];exact ww⟩ (fun i σ' H4 hi2 pp=>?_) (fun σ' H4 pp=>?_)
  rotate_left
  .obtain⟨o7,rfl,b4,r4,w4⟩:=pp
   rw[Dy (by omega)]at w4 r4
   exact q r4 _ (b3w.trans b4) (by rw[show room-(m+S.sum)=room-m-S.sum by omega];exact w4)
  obtain⟨o7,rfl,b4,r4,w4⟩:=pp
  have si:S[i]?=some (AS (bW Ds) f (us++[lo+(i:Int)])):=by rw[←hS,C1,Tn.rng_get hi2];rfl
  obtain⟨s1,s2⟩:=Pc Snn si
  have W4:=W3.set b4 w4
  have hvt4:=b4 _ _ nvt hvt3
  dsimp only[Am]
  refine⟨_,rfl,_,rfl,_,rfl,_,rfl,Ar rfl,fun u hu2=>?_⟩
  have s5:=Ab hu2 (.tup [V.int (lo+(i:Int))])
  refine⟨vt,u,_,_,rfl,rfl,s5 _ _ hvt4,A6,Bo (by rw[Ao,AN];have:=okD.ll;omega),fun p H5 e5 hp=>?_⟩
  have e45:=s5.trans e5
  have hp':H5 p=some (.tup ((us++[lo+(i:Int)]).map V.int)):=by rw[hp,Bv];rfl
  refine⟨wk,l,il,p,dx,dl,_,HF,Ds,f,ns,xs,us++[lo+(i:Int)],rfl,W4.over e45,ok,hil,fs,xl,fd,by rw[Ac];exact isf,nl,fsub _ (by omega) (by omega),hp',by omega,fun cr H6 b6 w6=>?_,fun cr xx HX bX hX=>qx (by omega) xx HX (b3w.trans ((b4.trans (Bt.same e45)).trans bX)) hX⟩
  exact⟨_,rfl,(b4.trans (Bt.same e45)).trans b6,by rw[s2];omega,by rw[s2,show room-m-((S.take i).sum+AS (bW Ds) f (us++[lo+(i:Int)]))=room-m-(S.take i).sum-AS (bW Ds) f (us++[lo+(i:Int)]) by omega];exact w6⟩
 .refine Ba (v:=false) (Cw (by omega)) (Bm ?_)
  rw[Ae c]at q
  exact q (by omega) _ b3w (by rw[show room-(m+0)=room-m by omega];exact ww)
theorem MW (T:Tx K mg a):∀n:Nat,AA P w K mg base (Ew P w) (2*n+5) a.f_g a.d_g ["walk","items","values"] (KS a.c_Walk a.c_Deed a.c_TooMany n)
 |
  0=>by
  have no:∀vs H Q E,¬KS a.c_Walk a.c_Deed a.c_TooMany 0 vs H Q E:=fun vs H Q E h=>by
   obtain⟨_,_,_,_,_,_,_,_,_,_,_,_,_,_,_,_,_,_,_,h1,_⟩:=h
   exact J4 _ h1
  exact⟨fun vs H Q E h=>absurd h (no vs H Q E),fun A outer s H args us vs Q E _ _ _ _ h=>absurd h (no vs H Q E)⟩
 |
  n+1=>by
  have G_x:=WV T n (MW T n)
  refine T.F_g.okX LX (fun vs H Q E h=>?_) (fun cdv A outer s H vs Q E hr h=>?_)
  .obtain⟨_,_,_,_,_,_,_,_,_,_,_,_,_,rfl,_⟩:=h;rfl
  obtain⟨wk,l,il,vt,dx,dl,room,HF,Ds,f,ns,xs,us,rfl,W,ok,hil,fs,xl,fd,isf,nl,ft,hvt,r0,q,qx⟩:=h
  refine⟨_,(Af (CH PassesOwn.leaving rfl (DR (pv 1)) (ES rfl (Co (B0 (i:=3) LX.nd rfl (.inl rfl)) (Co (B0 (i:=4) LX.nd rfl (.inl rfl)) EN)))
  (Af (BJ (Bp O2 (pv 4) GS (Bk _))
  (Af (Cp (Gm G_x (hr.mono (by omega)) (by rfl) T.m_x T.F_x.kp T.b_x .nil HJ (A0 (pv 0) (A0 (pv 3) (A0 (pv 4) (A0 (pv 2) A3)))))))
  Ce)))),?_⟩
  have eF:=W.same
  refine⟨_,rfl,il,rfl,⟨_,A7.of (eF _ _ hil)⟩,?_⟩
  have nil_w:il≠wk:=Az hil W.nw
  have nvt:vt≠wk:=fun z=>by have:=W.w;rw[←z]at this;unfold E7 at this;rw[hvt]at this;cases this
  refine Hg (xs:=xs) (fun i σ' H'=>∃(g:Pw.Fs) (ns':List Nat) (c:Int) (o3 o4:Option V),σ'=[some (.ref wk),some (.ref il),some (.ref vt),o3,o4]/\Bt wk H H'/\c<=room/\E7 a.c_Walk H' wk (room-c) l dx dl/\BI HF g (xs.drop i)/\By g<n+1/\Pw.IsF (getD Ds) g ns' us.length/\ns'.length<=10/\Dl (bW Ds) g us/\AS (bW Ds) f us=c+AS (bW Ds) g us) ⟨f,ns,0,_,_,rfl,fun _ _ _ h=>h,r0,by rw[Int.sub_zero];exact W.w,fs,fd,isf,nl,ft,(Int.zero_add _).symm⟩ (fun i σ' H' _ pp=>by obtain⟨_,_,_,_,_,_,b,_⟩:=pp;exact A7.of (b _ _ nil_w (eF _ _ hil))) (fun i x σ' H' hx pp=>?_) (fun σ' H' pp=>?_)
  rotate_left
  .obtain⟨g,ns',c,o3,o4,rfl,b,cr,w',fs,fdg,isg,nlg,ftg,eT⟩:=pp
   rw[Mu]at fs
   cases g with
   |
    nil=>
    rw[show AS (bW Ds) Pw.Fs.nil us=0 from rfl,Int.add_zero]at eT
    rw[←eT]at w' cr
    exact q cr _ b w'
   |leaf k r=>obtain⟨_,_,z,_⟩:=fs;cases z
   |node k s r=>obtain⟨_,_,_,_,z,_⟩:=fs;cases z
  obtain⟨g,ns',c,o3,o4,rfl,b,cr,w',fs,fdg,isg,nlg,ftg,eT⟩:=pp
  have dc:xs.drop i=x::xs.drop (i+1):=by
   obtain⟨hh,rfl⟩:=BR.mp hx
   exact J0 hh
  rw[dc]at fs
  have W':=W.set b w'
  have eF':=W'.same
  cases g with
  |nil=>cases fs
  |
   leaf k rest=>
   obtain⟨t,xs',ex,ht,fs'⟩:=fs
   cases ex
   obtain⟨ns2,aa,rfl,r1,r2,r3⟩:=isg
   refine⟨t,_,rfl,A8.of (eF' _ _ ht),rfl,_,_,rfl,_,_,rfl,rfl,?_⟩
   refine⟨_,rfl,rfl,_,rfl,Ba (v:=false) (WD rfl) (Bm ?_)⟩
   exact⟨rest,ns2,c,_,_,rfl,b,cr,w',fs',by have:max 1 (By rest)<n+1:=fdg;omega,r3,by rw[B6]at nlg;omega,ftg,eT⟩
  |
   node k sub rest=>
   obtain⟨t,l2,ws,xs',ex,ht,hl2,fsub,fs'⟩:=fs
   cases ex
   obtain⟨gg,ns2,aa,rfl,r1,r2,r3,r4,r5,r6⟩:=isg
   obtain⟨D,hD,rfl⟩:=Gk r1
   obtain⟨f1,f2,f3⟩:=ftg
   have e2:AS (bW Ds) (.node k sub rest) us=AS (bW Ds) (.node k sub .nil) us+AS (bW Ds) rest us:=by
    show _+AS (bW Ds) rest us=(_+0)+AS (bW Ds) rest us
    rw[Int.add_zero]
   have n3:=EF (B:=bW Ds) rest us
   have n4:=EF (B:=bW Ds) (.node k sub .nil) us
   have wl:ws.length<=10:=by
    have:=Jv r5
    have:=HK fsub
    rw[Ac]at nlg
    omega
   rw[Ac]at nlg
   refine⟨t,_,rfl,A8.of (eF' _ _ ht),rfl,_,_,rfl,_,_,rfl,rfl,?_⟩
   refine⟨_,rfl,rfl,_,rfl,Ba (v:=true) (Su fun z=>by cases z) (Ca ?_)⟩
   have fdm:max (By sub+1) (By rest)<n+1:=fdg
   refine⟨_,rfl,_,rfl,_,rfl,_,rfl,wk,l,l2,vt,dx,dl,room-c,HF,Ds,sub,k,D,k::gg,ws,us,rfl,W',ok,hD,r2,hl2,fsub,wl,by omega,r5,by omega,⟨f1,f2,True.intro⟩,b _ _ nvt hvt,fun cr2 H3 b3 w3=>?_,fun cr2 xx HX bX hX=>qx (by omega) xx HX (b.trans bX) hX⟩
   exact⟨rest,ns2,c+AS (bW Ds) (.node k sub .nil) us,_,_,rfl,b.trans b3,by omega,by rw[show room-(c+AS (bW Ds) (.node k sub .nil) us)=room-c-AS (bW Ds) (.node k sub .nil) us by omega];exact w3,fs',by omega,r6,by omega,f3,by omega⟩
theorem VP (T:Tx K mg a):AA P w K mg base AJ 16 a.f_w a.d_w ["deeds"] (Wv a.c_Deed):=by
 have G_r :=@P8 P w K mg base a T
 have G_i :=@MQ P w K mg base a T
 have G_h :=@Pe P w K mg base a T 5
 refine T.F_w.ok P1 (fun vs H Q E h=>?_) (fun cdv A outer s H vs Q E hr h=>?_)
 .obtain⟨_,_,rfl,_⟩:=h;rfl
 obtain⟨dl,Ds,rfl,hDo,ok,sm,q⟩:=h
 refine⟨_,(A9 (Ak (i:=1) P1.nd rfl (.inl rfl) (FG T.mk_Walk G_r (hr.mono (by omega)) (by rfl) T.mc_Walk T.b_r .nil Aq (A0 (pv 0) (A0 A1 A3))))
  (A9 (Cp (Av G_h (hr.mono (by omega)) (by rfl) T.m_h T.F_h.kp T.b_h .nil Aq (A0 (pv 1) (A0 (Av G_i (hr.mono (by omega)) (by rfl) T.m_i T.F_i.kp T.b_i .nil Aq (A0 (pv 0) A3)) (A0 (Bf A3) A3)))))
  (Af (AO (DF (pv 1) rfl))))),?_⟩
 refine⟨_,rfl,?_⟩
 intro x dx hx hdx hxd
 refine⟨x,dx,.ref dl,0,rfl,A6,fun l hl=>⟨rfl,?_⟩⟩
 obtain⟨hl0,nlx,s1,hl1,hx1⟩:=MB (fs:=[("deeds",.ref dl),("room",.int 0),("told",.ref l)]) hx hdx hl
 dsimp only[Am]
 generalize upd (upd (upd (upd H dx (.own x)) x (.ins a.c_Walk dx [])) l (.lst [])) x (.ins a.c_Walk dx [("deeds",.ref dl),("room",.int 0),("told",.ref l)])=H1 at s1 hl1 hx1
 refine⟨_,rfl,_,rfl,dl,Ds,rfl,hDo.over s1,ok,fun r H2 f xs e2 hrN hr2 fs isf fd xl=>?_⟩
 obtain⟨ft,tl4⟩:=sm f isf
 refine⟨Ar rfl,fun u hu=>?_⟩
 have s3:=Ab hu (.tup [])
 have hu3:(upd H2 u (.tup [])) u=some (.tup []):=A6
 generalize upd H2 u (.tup [])=H3 at s3 hu3
 have e12:=s1.trans e2
 have W:Wk a.c_Walk a.c_Deed H3 (DN H2 l x) x l 0 Ds:=⟨⟨dx,dl,s3 _ _ (e2 _ _ hx1),hDo.over (Vv e12 hl0 hx)⟩,Q7.trans s3,VQ,Tb⟩
 have hil:DN H2 l x r=some (.lst xs):=by rw[Lk (Az hl1 hrN).symm (Az hx1 hrN).symm];exact hr2
 refine⟨x,l,r,u,0,DN H2 l x,Ds,f,List.range Ds.length,xs,[],[],rfl,W,ok.1,hil,fs.over (Sx hl1 hx1),by omega,isf,ft,hu3,s3 _ _ (e2 _ _ hl1),by show 0+(Tn.tl (bW Ds) f []).length<=500000;omega,fun H4 ts b4 hl4 al4=>?_⟩
 have hx4:=b4 _ _ (Ne.symm nlx) (s3 _ _ (e2 _ _ hx1))
 refine⟨_,rfl,x,_,dx,_,_,rfl,hx4,T.cl_Walk,T.n_Walk_told,rfl,?_⟩
 exact q l H4 ts f (fun b o hb=>b4 _ _ (Az hb hl0) (s3 _ _ (e12 _ _ hb))) hl0 hl4 isf al4
theorem NF (T:Tx K mg a):AA P w K mg base (Ew P w) 18 a.f_k a.d_k ["program","most"] (VT a.c_Program a.c_Deed a.c_TooMany):=by
 have G_r :=@P8 P w K mg base a T
 have G_i :=@MQ P w K mg base a T
 have G_l :=@O0 P w K mg base a T
 have G_m :=@Nw P w K mg base a T
 have G_g :=@MW P w K mg base a T 5
 have G_w :=@VP P w K mg base a T
 refine T.F_k.okX Lj (fun vs H Q E h=>?_) (fun cdv A outer s H vs Q E hr h=>?_)
 .obtain⟨_,_,_,_,_,_,rfl,_⟩:=h;rfl
 obtain⟨x,dx,dl,sz,most,Ds,rfl,m4,hx,hDo,ok,prs,ft0,qq⟩:=h
 refine⟨_,(A9 (Ak (i:=2) Lj.nd rfl (.inl rfl) (Av G_i (hr.mono (by omega)) (by rfl) T.m_i T.F_i.kp T.b_i .nil Aq (A0 (DF (pv 0) rfl) A3)))
  (A9 (Ak (i:=3) Lj.nd rfl (.inl rfl) (FG T.mk_Walk G_r (hr.mono (by omega)) (by rfl) T.mc_Walk T.b_r .nil Aq (A0 (DF (pv 0) rfl) (A0 (pv 1) A3))))
  (A9 (Cp (Gm G_l (hr.mono (by omega)) (by rfl) T.m_l T.F_l.kp T.b_l .nil HJ (A0 (pv 3) (A0 (Av G_m (hr.mono (by omega)) (by rfl) T.m_m T.F_m.kp T.b_m .nil Aq (A0 (pv 2) A3)) A3))))
  (A9 (Cp (Gm G_g (hr.mono (by omega)) (by rfl) T.m_g T.F_g.kp T.b_g .nil HJ (A0 (pv 3) (A0 (pv 2) (A0 (Bf A3) A3)))))
  (Af (AO (Av G_w (hr.mono (by omega)) (by rfl) T.m_w T.F_w.kp T.b_w .nil Aq (A0 (DF (pv 0) rfl) A3)))))))),?_⟩
 refine⟨_,rfl,x,_,dx,_,_,rfl,hx,T.cl_Program,T.n_Program_deeds,rfl,dl,Ds,rfl,hDo,ok,fun il H1 f xs e1 hilN hil fs isf fd xl=>?_⟩
 have ft:=ft0 f isf
 obtain⟨q,qx⟩:=qq f isf
 unfold Em at q qx
 dsimp only[Am]
 refine⟨_,rfl,x,_,dx,_,_,rfl,e1 _ _ hx,T.cl_Program,T.n_Program_deeds,rfl,_,rfl,?_⟩
 intro wk dw hw hdw hwd
 refine⟨wk,dw,.ref dl,most,rfl,A6,fun l hl=>⟨rfl,?_⟩⟩
 obtain⟨hl0,nlx,s2,hl1,hw1⟩:=MB (fs:=[("deeds",.ref dl),("room",.int most),("told",.ref l)]) hw hdw hl
 dsimp only[Am]
 generalize upd (upd (upd (upd H1 dw (.own wk)) wk (.ins a.c_Walk dw [])) l (.lst [])) wk (.ins a.c_Walk dw [("deeds",.ref dl),("room",.int most),("told",.ref l)])=H2 at s2 hl1 hw1
 have fs1:=fs.over UK
 have c0:=EF (B:=bW Ds) f []
 refine⟨_,rfl,_,rfl,il,xs,f,rfl,s2 _ _ hil,fs1.over s2,xl,fun H3 e3=>?_⟩
 have e03:=e1.trans (s2.trans e3)
 refine⟨wk,l,dw,dl,(AM f:Int),most,rfl,e3 _ _ hw1,fun le1=>?_,fun lt1 xx HX eX hX=>qx (by omega) xx HX (e03.trans eX) hX⟩
 have b3:Bt wk H3 (upd H3 wk (.ins a.c_Walk dw [("deeds",.ref dl),("room",.int (most-(AM f:Int))),("told",.ref l)])):=Bt.put
 have w3:E7 a.c_Walk (upd H3 wk (.ins a.c_Walk dw [("deeds",.ref dl),("room",.int (most-(AM f:Int))),("told",.ref l)])) wk (most-(AM f:Int)) l dw dl:=A6
 generalize upd H3 wk (.ins a.c_Walk dw [("deeds",.ref dl),("room",.int (most-(AM f:Int))),("told",.ref l)])=H4 at b3 w3
 have k14:Aa H1 H4:=fun b o h=>b3 _ _ (Az h hw) (e3 _ _ (s2 _ _ h))
 refine⟨_,rfl,_,rfl,Ar rfl,fun u hu=>?_⟩
 have s5:=Ab hu (.tup [])
 have hu5:(upd H4 u (.tup [])) u=some (.tup []):=A6
 generalize upd H4 u (.tup [])=H5 at s5 hu5
 have W:Wr a.c_Walk a.c_Deed H5 H1 wk l dw dl (most-(AM f:Int)) Ds:=⟨s5 _ _ w3,hDo.over e1,k14.trans s5,hw⟩
 have bS:∀{HX:Hp},Bt wk H5 HX->Aa H HX:=fun{HX} bX b o h=>bX _ _ (Az (e1 _ _ h) hw) (s5 _ _ (k14 _ _ (e1 _ _ h)))
 refine⟨wk,l,il,u,dw,dl,_,H1,Ds,f,List.range Ds.length,xs,[],rfl,W,ok.1,hil,fs1,xl,by omega,isf,by rw[Dz];exact ok.2.1,ft,hu5,by omega,fun le2 H6 b6 w6=>?_,fun lt2 xx HX bX hX=>qx (by omega) xx HX (bS bX) hX⟩
 have k06:=bS b6
 refine⟨_,rfl,x,_,dx,_,_,rfl,k06 _ _ hx,T.cl_Program,T.n_Program_deeds,rfl,dl,Ds,rfl,hDo.over k06,ok,fun g isg=>⟨ft0 g isg,?_⟩,fun r H7 ys g e7 hrN hr7 isg al7=>?_⟩
 .rw[U1 isf isg prs (Ii ok.1)]
  have:=IP (B:=bW Ds) f []
  omega
 .exact q (by omega) r H7 ys g (k06.trans e7) (k06.free hrN) hr7 isg al7
theorem Q5 (T:Tx K mg a):AA P w K mg base AJ 2 a.f_F a.d_F ["_law_script"] (VM K):=by
 have G_b :=@Kn P w K mg base a T
 have G_a :=@F8 P w K mg base a T
 refine T.F_F.ok V8 (fun vs H Q E h=>?_) (fun cdv A outer s H vs Q E hr h=>?_)
 .obtain⟨_,_,rfl,_⟩:=h;rfl
 obtain⟨p,ns,rfl,hp,h63,q⟩:=h
 refine⟨_,(@Af _ _ _ (@AO _ _ _ _ (@Ai _ _ _ _ _ _ _ B2 (@Et _ _ _ _ (@Aj _ _ _ _ _ A1 (@Aj _ _ _ _ _ A1 (@Aj _ _ _ _ _ A1 (@Aj _ _ _ _ _ A1 (@Aj _ _ _ _ _ A1 (@Aj _ _ _ _ _ A1 (@Aj _ _ _ _ _ A1 (@Aj _ _ _ _ _ A1 Cy AC) AC) AC) AC) AC) AC) AC) AC)) (@A4 _ _ _ _ _ _ _ _ AL (@Av _ _ _ _ _ _ _ _ _ _ _ _ _ _ _ _ G_a (hr.mono (by omega)) (by rfl) T.m_a T.F_a.kp T.b_a .nil Aq (@A0 _ _ _ _ _ (@Av _ _ _ _ _ _ _ _ _ _ _ _ _ _ _ _ G_b (hr.mono (by omega)) (by rfl) T.m_b T.F_b.kp T.b_b .nil Aq (@A0 _ _ _ _ _ (pv 0) (@A0 _ _ _ _ _ A1 A3 (by rfl)) (by rfl)) (by decide) (by rfl) (by rfl)) (@A0 _ _ _ _ _ A1 A3 (by rfl)) (by rfl)) (by decide) (by rfl) (by rfl)) A1) (fun _ _=>rfl)))),?_⟩
 refine⟨Ar rfl,fun l hl=>?_⟩
 have s1:=Ab hl (.lst [V.int 1,V.int 2,V.int 3,V.int 2,V.int 1,V.int 3,V.int 2,V.int 4])
 refine⟨_,rfl,p,ns,0,rfl,s1.seq hp,by decide,by decide,fun c=>⟨c,1,rfl,_,_,rfl,rfl,(by show(0:Int)<8;decide),?_⟩⟩
 obtain⟨d,hd,ed⟩:=Ez (L:=[1,2,3,2,1,3,2,4]) (i:=Bx c 1%8) 8 rfl (B7 _ (by decide)) (B8 _ (by decide))
 have hd:1<=d/\d<=4:=by
  simp only[AE,CY,or_false]at hd
  omega
 obtain⟨n,rfl⟩:∃n:Nat,d=(n:Int):=⟨d.toNat,by omega⟩
 exact⟨l,_,_,_,rfl,rfl,A7.of A6,ed,q _ n s1 (by omega) (by omega)⟩
theorem Tz (T:Tx K mg a):AA P w K mg base AJ 2 a.f_G a.d_G ["_law_script"] (Sj K):=by
 have G_b :=@Kn P w K mg base a T
 have G_a :=@F8 P w K mg base a T
 refine T.F_G.ok OA (fun vs H Q E h=>?_) (fun cdv A outer s H vs Q E hr h=>?_)
 .obtain⟨_,_,rfl,_⟩:=h;rfl
 obtain⟨p,ns,rfl,hp,h63,q⟩:=h
 refine⟨_,(A9 (Ak (i:=1) OA.nd rfl (.inl rfl) (Av G_b (hr.mono (by omega)) (by rfl) T.m_b T.F_b.kp T.b_b .nil Aq (A0 (pv 0) (A0 A1 A3))))
  (Af (AO (Ai B2 (BL (A0 (A4 AU A1 (A4 AL (pv 1) A1)) (A0 (A4 AU A1 (A4 AL (pv 1) (A4 DS (A4 EG A1 A1) A1))) A3))) (A4 AL (Av G_a (hr.mono (by omega)) (by rfl) T.m_a T.F_a.kp T.b_a .nil Aq (A0 (pv 1) (A0 A1 A3))) A1) (fun _ _=>rfl))))),?_⟩
 refine⟨_,rfl,p,ns,1,rfl,hp,by decide,by decide,fun c=>?_⟩
 dsimp only[Am]
 refine⟨_,rfl,_,_,rfl,rfl,(by show(0:Int)<9;decide),_,_,rfl,rfl,_,rfl,_,_,rfl,rfl,⟨by decide,by decide,by decide⟩,_,_,rfl,rfl,_,_,rfl,rfl,(by show(0:Int)<10 ^ (18:Int).toNat-2;decide),_,_,rfl,rfl,Ar rfl,fun l hl=>?_⟩
 have s1:=Ab hl (.lst [V.int (2+c%9),V.int (2+c%(10 ^ (18:Int).toNat-2))])
 refine⟨_,rfl,c,0,rfl,_,_,rfl,rfl,(by show(0:Int)<2;decide),?_⟩
 obtain⟨d,hd,ed⟩:=Ez (L:=[2+c%9,2+c%(10 ^ (18:Int).toNat-2)]) (i:=Bx c 0%2) 2 rfl (B7 _ (by decide)) (B8 _ (by decide))
 exact⟨l,_,_,_,rfl,rfl,A7.of A6,ed,q _ d s1⟩
theorem SF (T:Tx K mg a):AA P w K mg base AJ 103 a.f_q a.d_q ["_law_size_here","_law_rows_here"] (Va a.c_Program a.c_Deed):=by
 have G_S :=@Xq P w K mg base a T
 have G_T :=@X3 P w K mg base a T
 have G_d :=@NY P w K mg base a T 100
 refine T.F_q.ok OO (fun vs H Q E h=>?_) (fun cdv A outer s H vs Q E hr h=>?_)
 .obtain⟨_,_,_,rfl,_⟩:=h;rfl
 obtain⟨n,l,Rs,rfl,⟨xs,hl,ax⟩,n6,ok,q⟩:=h
 refine⟨_,(A9 (Wj (i:=2) ["_law_row_here"] [none] OO.nd rfl (.inl rfl) (by rfl) (DR (pv 1)) SD (fun _ _ _ _ _ _=>⟨(B0 (i:=0) Wi rfl (.inl rfl)),Gz,(FG T.mk_Deed G_S (hr.mono (by omega)) (by rfl) T.mc_Deed T.b_S .nil Aq (A0 (Ai (show CU _ (Do K) from AF) (pv 0) A1 (fun _ _=>rfl)) (A0 (Ai (show CU _ (Do K) from AF) (pv 0) A1 (fun _ _=>rfl)) (A0 (Ai (show CU _ (Do K) from AF) (pv 0) A1 (fun _ _=>rfl)) (A0 (Ai (show CU _ (Do K) from AF) (pv 0) A1 (fun _ _=>rfl)) (A0 (Ai (show CU _ (Do K) from AF) (pv 0) A1 (fun _ _=>rfl)) (A0 (Av G_d (hr.mono (by omega)) (by rfl) T.m_d T.F_d.kp T.b_d .nil Aq (A0 (Ai (show CU _ (Do K) from AF) (pv 0) A1 (fun _ _=>rfl)) A3)) (A0 (Ai (show CU _ (Do K) from AF) (pv 0) A1 (fun _ _=>rfl)) A3))))))))⟩))
  (Af (AO (FG T.mk_Program G_T (hr.mono (by omega)) (by rfl) T.mc_Program T.b_T .nil Aq (A0 (pv 0) (A0 (pv 2) A3)))))),?_⟩
 have xl:=ax.1
 refine⟨_,rfl,l,rfl,⟨_,A7.of hl⟩,?_⟩
 refine Ha (xs:=xs) (fun i ys H'=>Aa H H'/\Ay (MU a.c_Deed H') ys (Rs.take i)) ⟨Aa.refl _,.nil⟩ (Bo (by omega)) (fun i ys H' hi pp=>⟨A7.of (pp.1 _ _ hl),by rw[pp.2.1,BG];omega⟩) (fun i x ys H' hx pp=>?_) (fun ys H' pp dl hdl=>?_)
 .obtain⟨e,ay⟩:=pp
  obtain⟨R,hR,r,u1,u2,u3,u4,x,ls,hs,rfl,hr1,hu1,hu2,als,hu3,ahs,hu4,tm⟩:=ax.get' hx
  have rok:=ok R (DH hR)
  have hr1':=e _ _ hr1
  refine⟨_,rfl,r,_,0,_,rfl,rfl,A8.of hr1',rfl,_,rfl,r,_,1,_,rfl,rfl,A8.of hr1',rfl,_,rfl,r,_,2,_,rfl,rfl,A8.of hr1',rfl,_,rfl,r,_,3,_,rfl,rfl,A8.of hr1',rfl,_,rfl,r,_,4,_,rfl,rfl,A8.of hr1',rfl,_,rfl,r,_,5,_,rfl,rfl,A8.of hr1',rfl,?_⟩
  refine⟨x,R.m,R.rs,rfl,by omega,tm.over e,fun y H2 e2 to=>?_⟩
  refine⟨_,rfl,r,_,6,_,rfl,rfl,A8.of (e2 _ _ hr1'),rfl,?_⟩
  intro d dd hd hdd hne2
  refine⟨d,dd,_,_,_,_,_,_,_,rfl,A6,fun HB kB hdB=>⟨rfl,?_⟩⟩
  obtain⟨dxB,hdB⟩:=hdB
  have eAB:=GX hd hdd kB
  have eB:=e2.trans eAB
  refine⟨e.trans eB,?_⟩
  rw[E2 hR]
  exact(ay.mono fun _ _ z=>z.over eB).snoc ⟨d,dxB,u1,u2,u3,u4,_,_,_,ls,hs,rfl,hdB,by rw[eB _ _ (e _ _ hu1)];show some (HO.tup ((AY R.S).map V.str))=some (HO.tup ((R.S.map C2).map fun t=>V.str t.nm));unfold AY;rw[DX,DX];rfl,eB _ _ (e _ _ hu2),JT (als.mono fun _ _ z=>z.tk (Aa.tk (e.trans eB))),eB _ _ (e _ _ hu3),JT (ahs.mono fun _ _ z=>z.tk (Aa.tk (e.trans eB))),eB _ _ (e _ _ hu4)⟩
 obtain⟨e,ay⟩:=pp
 rw[Dy (by omega)]at ay
 have s1:=Ab hdl (.lst ys)
 have hdl1:(upd H' dl (.lst ys)) dl=some (.lst ys):=A6
 have dl0:=e.free hdl
 dsimp only[Am]
 generalize upd H' dl (.lst ys)=H1 at s1 hdl1
 refine⟨_,rfl,_,rfl,?_⟩
 intro x dx hx hdx hxd
 have ntx:dl≠x:=Az hdl1 hx
 have ntd:dl≠dx:=Az hdl1 hdx
 refine⟨x,dx,_,dl,ys,rfl,A6,A7.of (by rw[Ag ntx,Ag ntd];exact hdl1),fun d5 H6 hd5 k6 hd6 hx6=>⟨rfl,?_⟩⟩
 obtain⟨dx6,hx6⟩:=hx6
 have e6:=GX hx hdx k6
 have d50:H d5=none:=by
  have nx5:d5≠x:=fun z=>by rw[z,A6]at hd5;cases hd5
  rw[Ag nx5]at hd5
  by_cases c:d5=dx
  .rw[c,A6]at hd5;cases hd5
  .rw[Ag c]at hd5;exact(e.trans s1).free hd5
 exact q x dx6 d5 ys H6 (e.trans (s1.trans e6)) ((e.trans s1).free hx) hx6 d50 hd6 (ay.mono fun _ _ z=>z.over (s1.trans e6))
theorem Ql (T:Tx K mg a):AA P w K mg base AJ 1 a.f_H a.d_H ["_law_names","_law_values"] VB:=by
 refine T.F_H.ok JX (fun vs H Q E h=>?_) (fun cdv A outer s H vs Q E hr h=>?_)
 .obtain⟨_,_,_,_,rfl,_⟩:=h;rfl
 obtain⟨nm,vt,zs,W,rfl,hn,hv,hle,hl,nd,q⟩:=h
 refine⟨_,(A9 (Ak (i:=2) JX.nd rfl (.inl rfl) UC)
  (A9 (CH PassesOwn.never rfl (Re (by rfl) T.z_zip (A0 (pv 0) (A0 (pv 1) A3))) (ES rfl (Co (B0 (i:=3) JX.nd rfl (.inl rfl)) (Co (B0 (i:=4) JX.nd rfl (.inl rfl)) EN)))
  (Af (OC (JI hr) (pv 2) (pv 3) (pv 4) rfl)))
  (Af (AO (pv 2))))),?_⟩
 intro d hd
 have e1:=Ab hd (.dK [])
 have hd1:(upd H d (.dK [])) d=some (.dK []):=A6
 dsimp only[Am]
 generalize upd H d (.dK [])=H1 at e1 hd1
 refine⟨_,rfl,_,rfl,nm,vt,rfl,⟨_,A8.of (e1 _ _ hn)⟩,⟨_,A8.of (e1 _ _ hv)⟩,?_⟩
 refine QU (xs:=zs.map V.str) (ys:=W.map V.int) (by rw[Ao,Ao];exact hle) (fun i σ' H'=>Aa H H'/\(∃o3 o4,σ'=[some (.ref nm),some (.ref vt),some (.ref d),o3,o4])/\∃kvs:List (Ap×V),H' d=some (.dK kvs)/\kvs.length<=i/\∀(j:Nat) (z:Str),j<i->zs[j]?=some z->Bg kvs (Sum.inr z:Ap)=some (.int (W.getD j 0))) ⟨e1,⟨_,_,rfl⟩,[],hd1,An _,fun j z hj=>by omega⟩ (fun i σ' H' _ pp=>⟨A8.of (pp.1 _ _ hn),A8.of (pp.1 _ _ hv)⟩) (fun i x y Tt σ' H' hx hy pp hT=>?_) (fun σ' H' pp=>?_)
 .obtain⟨e,⟨o3,o4,rfl⟩,kvs,hk,kl,kv⟩:=pp
  rw[C1]at hx hy
  obtain⟨z,hz,rfl⟩:=Mc.mp hx
  obtain⟨n,hn',rfl⟩:=Mc.mp hy
  have sT:=Ab hT (.tup [V.str z,V.int n])
  have hk2:=sT _ _ hk
  have hi:=(BR.mp hn').1
  refine⟨Tt,_,rfl,A8.of A6,rfl,_,_,rfl,_,_,rfl,rfl,?_⟩
  refine⟨_,rfl,_,rfl,_,rfl,d,_,rfl,FA.k (k:=Sum.inr z) hk2 (DC (by omega)),?_⟩
  refine⟨fun a o ha=>by rw[Ag (Az ha hd)];exact sT _ _ (e _ _ ha),⟨_,_,rfl⟩,_,A6,Bl WO (by omega),fun j z' hj hz'=>?_⟩
  by_cases c:j=i
  .subst c
   rw[hz]at hz'
   cases hz'
   rw[N6,Ah rfl,CV,hn']
   rfl
  .rw[N6,Ae (fun w=>?_)]
   .exact kv j z' (by omega) hz'
   .have w:=Sum.inr.inj w
    subst w
    obtain⟨l1,a1⟩:=BR.mp hz'
    obtain⟨l2,a2⟩:=BR.mp hz
    exact KA.mp nd j i l1 l2 (by omega) (by rw[a1,a2])
 .obtain⟨e,⟨o3,o4,rfl⟩,kvs,hk,kl,kv⟩:=pp
  rw[Ao]at kv
  exact⟨_,rfl,q d kvs _ e hk kv⟩
theorem Ut (T:Tx K mg a):AA P w K mg base AJ 1 a.f_I a.d_I ["_law_spots_here","_law_around_here"] Um:=by
 refine T.F_I.ok Jq (fun vs H Q E h=>?_) (fun cdv A outer s H vs Q E hr h=>?_)
 .obtain⟨_,_,_,_,_,_,_,_,_,_,_,rfl,_⟩:=h;rfl
 obtain⟨sp,d,t1,t2,z1,z2,n1,n2,b1,b2,kvs,rfl,hs,h1,h2,hd,hb1,hb2,q⟩:=h
 refine⟨_,(A9 (Ak (i:=2) Jq.nd rfl (.inl rfl) (BL A3))
  (A9 (CH PassesOwn.never rfl (Pa (pv 0)) (ES rfl (Co (B0 (i:=3) Jq.nd rfl (.inl rfl)) (Co (B0 (i:=4) Jq.nd rfl (.inl rfl)) EN)))
  (Af (BJ (Bp Dk (pv 3) BS (Bk _))
  (Af (Cp (Ec EA EB EC Eg (pv 2) (A0 (pv 4) A3))))
  (Af (Cp (Ec EA EB EC Eg (pv 2) (A0 (A4 AU (OQ (JI hr) (pv 1) (pv 3) (fun _ _=>rfl)) (pv 4)) A3)))))))
  (Af (AO (FH G6 (by rfl) T.z_tuple G3 (A0 (pv 2) A3)))))),?_⟩
 refine⟨Ar rfl,fun l hl=>?_⟩
 have e1:=Ab hl (.lst [])
 have hl1:(upd H l (.lst [])) l=some (.lst []):=A6
 dsimp only[Am]
 generalize upd H l (.lst [])=H1 at e1 hl1
 refine⟨_,rfl,sp,rfl,⟨_,A8.of (e1 _ _ hs)⟩,?_⟩
 refine Vn (xs:=[V.ref t1,V.ref t2]) (fun i σ' H'=>Aa H H'/\(∃o3 o4,σ'=[some (.ref sp),some (.ref d),some (.ref l),o3,o4])/\H' l=some (.lst ([V.int (b1+n1),V.int (b2+n2)].take i))) ⟨e1,⟨_,_,rfl⟩,hl1⟩ (fun i σ' H' _ pp=>A8.of (pp.1 _ _ hs)) (fun i x σ' H' hx pp=>?_) (fun σ' H' pp=>?_)
 .obtain⟨e,⟨o3,o4,rfl⟩,hl'⟩:=pp
  obtain⟨t,z,n,b,xs,rfl,ht,hb,hl',hx2,hxs⟩:∃(t:Addr) (z:Str) (n b:Int) (xs:List V),x = .ref t/\H t=some (.tup [.str z,.int n])/\GT kvs z b/\H' l=some (.lst xs)/\xs.length<=2/\xs++[V.int (b+n)]=[V.int (b1+n1),V.int (b2+n2)].take (i+1):=by
   match i,hx with
   |0,hx=>exact⟨t1,z1,n1,b1,[],by cases hx;rfl,h1,hb1,hl',BF _,rfl⟩
   |1,hx=>exact⟨t2,z2,n2,b2,[V.int (b1+n1)],by cases hx;rfl,h2,hb2,hl',by simp,rfl⟩
   |i+2,hx=>simp at hx
  refine⟨t,_,rfl,A8.of (e _ _ ht),rfl,_,_,rfl,_,_,rfl,rfl,?_⟩
  refine⟨_,rfl,rfl,_,rfl,?_⟩
  rcases hb with⟨rfl,rfl⟩|⟨hz,hv⟩
  .refine Ba (v:=true) (Cc rfl) (Ca ?_)
   refine⟨_,rfl,.inl ⟨rfl,_,A7.of hl'⟩,_,rfl,l,_,_,rfl,rfl,hl',DC (by omega),?_⟩
   rw[Int.zero_add]at hxs
   exact⟨fun a o ha=>by rw[Ag (Az ha hl)];exact e _ _ ha,⟨_,_,rfl⟩,by rw[A6,hxs]⟩
  .refine Ba (v:=false) (dS hz) (Bm ?_)
   refine⟨_,rfl,.inl ⟨rfl,_,A7.of hl'⟩,_,rfl,_,rfl,d,_,rfl,(show FQ H' d (kV (Sum.inr z)) _ from hv▸FQ.k (e _ _ hd)),_,rfl,_,_,rfl,rfl,l,_,_,rfl,rfl,hl',DC (by omega),?_⟩
   exact⟨fun a o ha=>by rw[Ag (Az ha hl)];exact e _ _ ha,⟨_,_,rfl⟩,by rw[A6,hxs]⟩
 .obtain⟨e,⟨o3,o4,rfl⟩,hl'⟩:=pp
  refine⟨_,rfl,l,_,rfl,.inl ⟨A7.of hl',fun t ht=>?_⟩⟩
  exact q t _ (e.trans (Ab ht _)) A6
theorem V3 (T:Tx K mg a):AA P w K mg base AJ 3 a.f_J a.d_J ["_law_row_here"] (SX):=by
 have G_H :=@Ql P w K mg base a T
 have G_I :=@Ut P w K mg base a T
 refine T.F_J.ok FE (fun vs H Q E h=>?_) (fun cdv A outer s H vs Q E hr h=>?_)
 .obtain⟨_,_,rfl,_⟩:=h;rfl
 obtain⟨v,R,rfl,hv,rg,lb,q⟩:=h
 refine⟨_,(A9 (Ak (i:=1) FE.nd rfl (.inl rfl) (BL (A0 (BL (A0 (Bf A3) A3)) A3)))
  (A9 (CH PassesOwn.never rfl (EZ (by rfl) T.z_range (A0 (B9 BY (by rfl) T.z_len BU (A0 (Ai AF (pv 0) A1 (fun _ _=>rfl)) A3)) A3)) (B0 (i:=2) FE.nd rfl (.inl rfl))
  (A9 (Ak (i:=3) FE.nd rfl (.inl rfl) (BL A3))
  (A9 (CH PassesOwn.never rfl (DR (Ai B2 (pv 1) (Dt Dm A1) (fun _ _=>rfl))) (B0 (i:=4) FE.nd rfl (.inl rfl))
  (A9 (HV (Av G_I (hr.mono (by omega)) (by rfl) T.m_I T.F_I.kp T.b_I .nil Aq (A0 (Bf (A0 (Ai AF (Ai AF (pv 0) A1 (fun _ _=>rfl)) (pv 2) (fun _ _=>rfl)) (A0 (Ai AF (Ai AF (pv 0) A1 (fun _ _=>rfl)) (pv 2) (fun _ _=>rfl)) A3))) (A0 (Av G_H (hr.mono (by omega)) (by rfl) T.m_H T.F_H.kp T.b_H .nil Aq (A0 (Ai AF (pv 0) A1 (fun _ _=>rfl)) (A0 (pv 4) A3))) A3))) (ES rfl (Co (B0 (i:=5) FE.nd rfl (.inl rfl)) (Co (B0 (i:=6) FE.nd rfl (.inl rfl)) EN))))
  (Af (Vz PassesOwn.never (Bp OK (pv 5) (pv 6) (Bk _))
  (A9 (Cp (Ec EA EB EC Eg (pv 3) (A0 (A4 LM (pv 4) (Bf (A0 (pv 5) A3))) A3)))
  (Af (Ak (i:=5) FE.nd rfl (.inl rfl) (A4 AU (pv 5) A1))))))))
  (Af (Cp (Ec EA EB EC Eg (pv 1) (A0 (pv 3) A3)))))))
  (Af (AO (pv 1))))),?_⟩
 obtain⟨r,u1,u2,u3,u4,x,ls,hs,rfl,hr1,hu1,hu2,als,hu3,ahs,hu4,tm⟩:=hv
 have ll:=rg.ll
 have nl:((AY R.S).map V.str).length=R.S.length:=by unfold AY;rw[Ao,Ao]
 have nml:(AY R.S).length=R.S.length:=by unfold AY;rw[Ao]
 refine⟨Ar rfl,fun t0 ht0=>⟨Ar rfl,fun l0 hl0=>⟨Ar rfl,fun lv hlv=>?_⟩⟩⟩
 have s0:=(Ab ht0 (.tup [])).trans ((Ab hl0 (.lst [V.ref t0])).trans (Ab hlv (.lst [V.ref l0])))
 have k2:(upd (upd (upd H t0 (.tup [])) l0 (.lst [V.ref t0])) lv (.lst [V.ref l0])) l0=some (.lst [V.ref t0]):=Ab hlv _ _ _ A6
 have k1:(upd (upd (upd H t0 (.tup [])) l0 (.lst [V.ref t0])) lv (.lst [V.ref l0])) t0=some (.tup []):=Ab hlv _ _ _ (Ab hl0 _ _ _ A6)
 have k3:(upd (upd (upd H t0 (.tup [])) l0 (.lst [V.ref t0])) lv (.lst [V.ref l0])) lv=some (.lst [V.ref l0]):=A6
 have lv0:H lv=none:=((Ab ht0 (.tup [])).trans (Ab hl0 (.lst [V.ref t0]))).free hlv
 have n0:l0≠lv:=Az A6 hlv
 dsimp only[Am]
 generalize upd (upd (upd H t0 (.tup [])) l0 (.lst [V.ref t0])) lv (.lst [V.ref l0])=H0 at s0 k1 k2 k3
 refine⟨_,rfl,r,_,0,_,rfl,rfl,A8.of (s0 _ _ hr1),rfl,u1,_,rfl,.inr (A8.of (s0 _ _ hu1)),_,rfl,by rw[nl];omega,by rw[nl];omega,?_⟩
 rw[nl,FU]
 refine Ej (lo:=0) (n:=R.S.length) (fun i σ' H'=>∃(l:Addr) (xs ys:List V) (o2 o3 o4 o5 o6:Option V),σ'=[some (.ref r),some (.ref lv),o2,o3,o4,o5,o6]/\Aa H H'/\H' lv=some (.lst (xs++[.ref l]))/\l≠lv/\H' l=some (.lst ys)/\Ay (F5 H') ys (Tn.lv (bD R.dw) i)/\xs.length=i/\Ay (Om H' lv) xs ((List.range i).map (Cg R))) ⟨l0,[],[.ref t0],_,_,_,_,_,rfl,s0,k3,n0,k2,.one ⟨t0,rfl,k1⟩,rfl,.nil⟩ (fun i σ' H' hi pp=>?_) (fun σ' H' pp=>?_)
 rotate_left
 .obtain⟨l,xs,ys,o2,o3,o4,o5,o6,rfl,e,hlv1,nl1,hl1,ay,xsl,aln⟩:=pp
  refine⟨_,rfl,q lv _ _ e hlv1 ?_⟩
  rw[PL,Bv]
  exact aln.snoc ⟨l,ys,rfl,nl1,hl1,ay.1⟩
 obtain⟨l,xs,ys,o2,o3,o4,o5,o6,rfl,e,hlv1,nl1,hl1,ay,xsl,aln⟩:=pp
 have hq:R.S[i]?=some R.S[i]:=Be hi
 generalize R.S[i]=qq at hq
 obtain⟨v1,hv1,t1,rfl,ht1⟩:=als.get hq
 obtain⟨v2,hv2,t2,rfl,ht2⟩:=ahs.get hq
 have i0:(0:Int)+(i:Int)=(i:Int):=Int.zero_add _
 have lbi:=lb (i+1) hi
 have eL:Tn.lv (bD R.dw) (i+1)=(Tn.lv (bD R.dw) i).flatMap fun vs=>(Tn.rng (bD R.dw vs).1 (bD R.dw vs).2).map fun v=>vs++[v]:=rfl
 rw[eL]at lbi
 dsimp only[Am]
 refine⟨Ar rfl,fun g hg=>?_⟩
 have s1:=Ab hg (.lst [])
 have hg1:(upd H' g (.lst [])) g=some (.lst []):=A6
 have ng1:lv≠g:=Az hlv1 hg
 have ng2:l≠g:=Az hl1 hg
 have g0:H g=none:=e.free hg
 dsimp only[Am]
 generalize upd H' g (.lst [])=H1 at s1 hg1
 have e1:=e.trans s1
 have yl:=ay.1
 refine⟨_,rfl,_,rfl,lv,_,_,_,rfl,rfl,A7.of (s1 _ _ hlv1),Ij xs (.ref l),l,rfl,⟨_,A7.of (s1 _ _ hl1)⟩,?_⟩
 refine Hg (xs:=ys) (fun j σ' H2=>∃(zs:List V) (o4 o5 o6:Option V),σ'=[some (.ref r),some (.ref lv),some (.int (0+(i:Int))),some (.ref g),o4,o5,o6]/\Bt g H1 H2/\H2 g=some (.lst zs)/\Ay (F5 H2) zs (((Tn.lv (bD R.dw) i).take j).flatMap fun vs=>(Tn.rng (bD R.dw vs).1 (bD R.dw vs).2).map fun v=>vs++[v])) ⟨[],_,_,_,rfl,fun _ _ _ h=>h,hg1,.nil⟩ (fun j σ' H2 _ pp=>by obtain⟨_,_,_,_,_,b,_⟩:=pp;exact A7.of (b _ _ ng2 (s1 _ _ hl1))) (fun j y σ' H2 hy pp=>?_) (fun σ' H2 pp=>?_)
 rotate_left
 .obtain⟨zs,o4,o5,o6,rfl,b,hg2,az⟩:=pp
  rw[yl,DV,←eL]at az
  have hlv2:=b _ _ ng1 (s1 _ _ hlv1)
  refine⟨_,rfl,.inl ⟨rfl,_,A7.of hlv2⟩,_,rfl,lv,_,_,rfl,rfl,hlv2,DC (by rw[Ac,AN];omega),?_⟩
  have tk:TK H2 (upd H2 lv (.lst (xs++[.ref l]++[.ref g]))):=TK.upd hlv2
  refine⟨g,xs++[.ref l],zs,_,_,_,_,_,rfl,fun c o hc=>?_,A6,Ne.symm ng1,by rw[Ag (Ne.symm ng1)];exact hg2,az.mono fun _ _ z=>z.tk tk,by rw[Ac,xsl];rfl,?_⟩
  rotate_left
  .rw[PL,Bv]
   have mv:∀{c:Addr} {zs:List V},c≠lv->H' c=some (.lst zs)->(upd H2 lv (.lst (xs++[.ref l]++[.ref g]))) c=some (.lst zs):=fun{c zs} nc hc=>by rw[Ag nc];exact b _ _ (Az hc hg) (s1 _ _ hc)
   exact(aln.mono fun _ _ ⟨c,zs,h1,h2,h3,h4⟩=>⟨c,zs,h1,h2,mv h2 h3,h4⟩).snoc ⟨l,ys,rfl,nl1,mv nl1 hl1,yl⟩
  rw[Ag (Az hc lv0)]
  exact b _ _ (Az hc g0) (e1 _ _ hc)
 obtain⟨zs,o4,o5,o6,rfl,b,hg2,az⟩:=pp
 obtain⟨us,hus,t,rfl,ht⟩:=ay.get' hy
 obtain⟨ul,up⟩:=Tn.mem_lv.mp (DH hus)
 have tk12:=b.tk hg1
 have bH:∀{c:Addr} {o:HO},H c=some o->H2 c=some o:=fun{c o} hc=>b _ _ (Az hc g0) (e1 _ _ hc)
 have eH2:Aa H H2:=fun c o hc=>bH hc
 have ht2':H2 t=some (.tup (us.map V.int)):=tk12 _ _ (s1 _ _ ht)
 rw[E2 hus,Mv]
 have fl:=Tn.flat_len (f:=fun vs=>(Tn.rng (bD R.dw vs).1 (bD R.dw vs).2).map fun v=>vs++[v]) hus
 have azl:=az.1
 generalize ((Tn.lv (bD R.dw) i).take j).flatMap (fun vs=>(Tn.rng (bD R.dw vs).1 (bD R.dw vs).2).map fun v=>vs++[v])=done at az fl azl
 rw[Ao,Tn.rng_len]at fl
 dsimp only[Am]
 have g1:=bH hr1
 refine⟨_,rfl,r,_,1,_,rfl,rfl,A8.of g1,rfl,_,rfl,u2,_,_,_,rfl,rfl,A8.of (bH hu2),by rw[i0];exact D7 hv1,_,rfl,r,_,2,_,rfl,rfl,A8.of g1,rfl,_,rfl,u3,_,_,_,rfl,rfl,A8.of (bH hu3),by rw[i0];exact D7 hv2,Ar rfl,fun sp hsp=>?_⟩
 have s3:=Ab hsp (.tup [V.ref t1,V.ref t2])
 have hsp3:(upd H2 sp (.tup [V.ref t1,V.ref t2])) sp=some (.tup [V.ref t1,V.ref t2]):=A6
 generalize upd H2 sp (.tup [V.ref t1,V.ref t2])=H3 at s3 hsp3
 have e3:=eH2.trans s3
 refine⟨_,rfl,r,_,0,_,rfl,rfl,A8.of (e3 _ _ hr1),rfl,_,rfl,u1,t,AY R.S,us,rfl,e3 _ _ hu1,s3 _ _ ht2',by omega,by omega,rg.nd,fun d kvs H4 e4 hd4 ar=>?_⟩
 have e34:=e3.trans e4
 obtain⟨sb1,sb2⟩:=X7 rg (us:=us) (q:=qq) (by rw[ul];exact hq) ar
 refine⟨sp,d,t1,t2,qq.lz,qq.hz,qq.ln,qq.hn,_,_,kvs,rfl,e4 _ _ hsp3,e34 _ _ ht1,e34 _ _ ht2,hd4,sb1,sb2,fun p H5 e5 hp=>?_⟩
 have e25:=s3.trans (e4.trans e5)
 have eF:([us].flatMap fun vs=>(Tn.rng (bD R.dw vs).1 (bD R.dw vs).2).map fun v=>vs++[v])=(Tn.rng (bD R.dw us).1 (bD R.dw us).2).map fun v=>us++[v]:=DT _
 rw[eF]
 rw[Int.sub_add_cancel,Int.sub_add_cancel]at hp
 generalize hlo:(bD R.dw us).1=lo at hp fl
 generalize hhi:(bD R.dw us).2=hi2 at hp fl
 refine⟨p,_,rfl,A8.of hp,rfl,_,_,rfl,_,_,rfl,rfl,?_⟩
 have b5:Bt g H1 H5:=b.trans (Bt.same e25)
 have hg5:=e25 _ _ hg2
 refine QS (hi2+1-lo).toNat (fun m σ' H6=>∃zs2:List V,σ'=[some (.ref r),some (.ref lv),some (.int (0+(i:Int))),some (.ref g),some (.ref t),some (.int (lo+(m:Int))),some (.int hi2)]/\Bt g H1 H6/\H6 g=some (.lst zs2)/\Ay (F5 H6) zs2 (done++((Tn.rng lo hi2).take m).map fun v=>us++[v])) ⟨zs,by rw[show lo+((0:Nat):Int)=lo by omega];rfl,b5,hg5,by rw[IZ,Kw,DT];exact az.mono fun _ _ z=>z.over e25⟩ (fun m σ' H6 hm pp=>?_) (MT.test (ME.op (MR.i0 _) (ME.var _) (ME.var _)))
 obtain⟨zs2,rfl,b6,hg6,az6⟩:=pp
 have az6l:=az6.1
 rw[Ac,Ao,BG,Tn.rng_len]at az6l
 refine⟨_,rfl,_,rfl,_,_,rfl,rfl,_,rfl,?_⟩
 by_cases c:lo+(m:Int)<=hi2
 .refine Ba (v:=true) (Cc c) (Ca ⟨by omega,?_⟩)
  have ht6:=b6.tk hg1 _ _ (s1 _ _ ht)
  refine⟨_,rfl,.inl ⟨rfl,_,A7.of hg6⟩,_,rfl,_,rfl,Ar rfl,fun w1 hw1=>?_⟩
  have s7:=Ab hw1 (.tup [V.int (lo+(m:Int))])
  refine⟨t,w1,_,_,rfl,rfl,s7 _ _ ht6,A6,Bo (by rw[Ao,AN];omega),fun p2 H7 e7 hp2=>?_⟩
  have e67:=s7.trans e7
  have hg7:=e67 _ _ hg6
  refine⟨g,_,_,rfl,rfl,hg7,DC (by omega),?_⟩
  have tk8:TK H7 (upd H7 g (.lst (zs2++[.ref p2]))):=TK.upd hg7
  refine⟨_,rfl,_,_,rfl,rfl,?_⟩
  refine⟨zs2++[.ref p2],by rw[show lo+((m+1:Nat):Int)=lo+(m:Int)+1 by omega];rfl,(b6.trans (Bt.same e67)).trans Bt.put,A6,?_⟩
  rw[E2 (Tn.rng_get (by omega)),Bv,←Ei]
  refine(az6.mono fun _ _ z=>(z.over e67).tk tk8).snoc ⟨p2,rfl,tk8 _ _ ?_⟩
  rw[hp2,Bv]
  rfl
 .refine Ba (v:=false) (Cw c) (Bm ?_)
  refine⟨zs2,_,_,_,rfl,b6,hg6,?_⟩
  rw[Dy (by rw[Tn.rng_len];omega)]at az6
  exact az6
theorem TV (T:Tx K mg a):AA P w K mg base AJ 4 a.f_K a.d_K ["_law_rows_here"] (UM):=by
 have G_J :=@V3 P w K mg base a T
 refine T.F_K.ok G0 (fun vs H Q E h=>?_) (fun cdv A outer s H vs Q E hr h=>?_)
 .obtain⟨_,_,rfl,_⟩:=h;rfl
 obtain⟨rl,Rs,rfl,⟨rs,hrl,ar⟩,rg,pr,l4,lb,q⟩:=h
 refine⟨_,(A9 (Ak (i:=1) G0.nd rfl (.inl rfl) WA)
  (A9 (Ak (i:=2) G0.nd rfl (.inl rfl) A1)
  (A9 (CH PassesOwn.never rfl (DR (pv 0)) (B0 (i:=3) G0.nd rfl (.inl rfl))
  (A9 (Ak (i:=4) G0.nd rfl (.inl rfl) (Av G_J (hr.mono (by omega)) (by rfl) T.m_J T.F_J.kp T.b_J .nil Aq (A0 (pv 3) A3)))
  (A9 (Ak (i:=2) G0.nd rfl (.inl rfl) (A4 AU (pv 2) (B9 BY (by rfl) T.z_len BU (A0 (Ai B2 (pv 4) (Dt Dm A1) (fun _ _=>rfl)) A3))))
  (Af (CH PassesOwn.never rfl (EZ (by rfl) T.z_range (A0 (B9 BY (by rfl) T.z_len BU (A0 (Ai AF (pv 3) A1 (fun _ _=>rfl)) A3)) A3)) (B0 (i:=5) G0.nd rfl (.inl rfl))
  (Af (OC (JI hr) (pv 1) (E3 K2 (Ai AF (pv 3) A1 (fun _ _=>rfl)) Eb (Ef (A4 AU (pv 5) A1))) (B9 BY (by rfl) T.z_len BU (A0 (Ai B2 (pv 4) (A4 AU (pv 5) A1) (fun _ _=>rfl)) A3)) rfl)))))))
  (Af (AO (Bf (A0 (B9 (Qg rfl) (by rfl) T.z_sum Rc (A0 (Qd rfl (by rfl) T.z_list (pv 1)) A3)) (A0 (pv 2) A3)))))))),?_⟩
 have rsl:=ar.1
 intro d hd
 have s0:=Ab hd (.dT [])
 have hd0:(upd H d (.dT [])) d=some (.dT (D5 [])):=A6
 dsimp only[Am]
 generalize upd H d (.dT [])=H0 at s0 hd0
 refine NO ?_
 refine⟨_,rfl,rl,rfl,⟨_,A7.of (s0 _ _ hrl)⟩,?_⟩
 have zl:∀i,(Rs.take i).flatMap Bc=(Rs.flatMap Bc).take ((Rs.take i).flatMap Bc).length/\((Rs.take i).flatMap Bc).length<=12:=fun i=>by
  refine⟨?_,?_⟩
  .have:Rs.flatMap Bc=(Rs.take i).flatMap Bc++(Rs.drop i).flatMap Bc:=by rw[←Mv,List.take_append_drop]
   rw[this,List.take_left' rfl]
  .rw[PD]
   refine Bl (GH (W:=3) fun y hy=>?_) ?_
   .obtain⟨R,hR,rfl⟩:=AW.mp hy
    rw[LY]
    exact(rg R (KG hR)).ll
   .rw[Ao,BG];omega
 have cons:∀{y:List Int×Nat} {m:Nat},y∈Rs.flatMap Bc->(y.1,m)∈Rs.flatMap Bc->m=y.2:=fun{y m} h1 h2=>Rn rg pr h2 h1 rfl
 refine Hg (xs:=rs) (fun i σ' H'=>∃(L:List (List Int×Nat)) (o3 o4 o5:Option V),σ'=[some (.ref rl),some (.ref d),some (.int (((Rs.take i).map fun R=>Cg R R.S.length).sum:Nat)),o3,o4,o5]/\Aa H H'/\H' d=some (.dT (D5 L))/\Cn ((Rs.take i).flatMap Bc) L/\L.length<=((Rs.take i).flatMap Bc).length) ⟨[],_,_,_,rfl,s0,hd0,Cn.nil,An _⟩ (fun i σ' H' _ pp=>by obtain⟨_,_,_,_,_,e,_⟩:=pp;exact A7.of (e _ _ hrl)) (fun i x σ' H' hx pp=>?_) (fun σ' H' pp=>?_)
 rotate_left
 .obtain⟨L,o3,o4,o5,rfl,e,hd1,cn,ll⟩:=pp
  have z12:=(zl rs.length).2
  rw[rsl,DV]at cn
  rw[rsl,DV]
  refine⟨_,rfl,d,_,rfl,hd1,fun vl hvl=>?_⟩
  have sv:=Ab hvl (.lst ((D5 L).map (·.2)))
  have ev:(D5 L).map (·.2)=(L.map fun p=>((p.2:Nat):Int)).map V.int:=by
   unfold D5
   rw[DX,DX]
   rfl
  refine⟨vl,L.map fun p=>((p.2:Nat):Int),rfl,A7.of (by rw[A6,ev]),_,rfl,Ar rfl,fun r hr=>?_⟩
  refine q r _ L (e.trans (sv.trans (Ab hr _))) cn (Bl ll z12) ?_
  rw[A6]
  have:(L.map fun p=>((p.2:Nat):Int)).sum=(((L.map (·.2)).sum:Nat):Int):=by
   rw[←Ip,DX]
   rfl
  rw[this]
 obtain⟨L,o3,o4,o5,rfl,e,hd1,cn,ll⟩:=pp
 obtain⟨R,hR,hxR⟩:=ar.get' hx
 have hRm:=DH hR
 have rgR:=rg R hRm
 dsimp only[Am]
 refine⟨_,rfl,x,R,rfl,hxR.over e,rgR,lb R hRm,fun lr ls H1 e1 hlr al=>?_⟩
 dsimp only[Am]
 have alL:=al.1
 rw[Ao,Dz]at alL
 obtain⟨vz,hvz,lz,yz,rfl,_,hlz,ylz⟩:=al.get (i:=R.S.length) (a:=Cg R R.S.length) (by rw[C1,IY (by omega)];rfl)
 have atz:BA ls (-1)=some (.ref lz):=by
  obtain⟨ls',w',rfl,l'⟩:=Fd (l:=ls) (n:=R.S.length) (by omega)
  rw[DU (by omega),l',EV]at hvz
  cases hvz
  exact Ij ls' _
 refine⟨_,rfl,_,rfl,_,rfl,lr,_,_,_,rfl,rfl,A7.of hlr,atz,lz,_,rfl,.inl (A7.of hlz),_,_,rfl,rfl,?_⟩
 rw[ylz]
 dsimp only[Am]
 obtain⟨r,u1,u2,u3,u4,xt,lss,hss,rfl,hr1,hu1,hu2,als,hu3,ahs,hu4,tm⟩:=hxR
 have e01:=e.trans e1
 have nl:((AY R.S).map V.str).length=R.S.length:=by unfold AY;rw[Ao,Ao]
 have ll3:=rgR.ll
 have pl:=rgR.pl
 refine⟨_,rfl,r,_,0,_,rfl,rfl,A8.of (e01 _ _ hr1),rfl,u1,_,rfl,.inr (A8.of (e01 _ _ hu1)),_,rfl,by rw[nl];omega,by rw[nl];omega,?_⟩
 rw[nl,FU]
 have tks:(Rs.take (i+1)).flatMap Bc=(Rs.take i).flatMap Bc++Bc R:=by rw[E2 hR,Mv];exact congrArg _ (DT _)
 have sub:∀{y},y∈(Rs.take i).flatMap Bc++Bc R->y∈Rs.flatMap Bc:=fun{y} hy=>by
  rw[←tks]at hy
  obtain⟨R',h1,h2⟩:=Fl.mp hy
  exact Fl.mpr ⟨R',KG h1,h2⟩
 have z12:=(zl i).2
 have ndl:d≠lr:=fun z=>by have:=e1 _ _ hd1;rw[z,hlr]at this;cases this
 refine Ej (lo:=0) (n:=R.S.length) (fun j σ' H2=>∃(L2:List (List Int×Nat)) (o5:Option V),σ'=[some (.ref rl),some (.ref d),some (.int ((((Rs.take i).map fun R=>Cg R R.S.length).sum:Nat)+(Cg R R.S.length:Nat))),some (.ref r),some (.ref lr),o5]/\(∀b o,b≠d->H1 b=some o->H2 b=some o)/\H2 d=some (.dT (D5 L2))/\Cn ((Rs.take i).flatMap Bc++(Bc R).take j) L2/\L2.length<=((Rs.take i).flatMap Bc).length+j) ⟨L,_,rfl,fun _ _ _ h=>h,e1 _ _ hd1,by rw[IZ,DT];exact cn,by omega⟩ (fun j σ' H2 hj pp=>?_) (fun σ' H2 pp=>?_)
 rotate_left
 .obtain⟨L2,o5,rfl,b,hd2,cn2,ll2⟩:=pp
  rw[Dy (l:=Bc R) (by rw[LY];exact An _),←tks]at cn2
  refine⟨L2,some (.ref r),some (.ref lr),o5,?_,fun c o hc=>b _ _ (Az hc hd) (e01 _ _ hc),hd2,cn2,by rw[tks,Ac,LY];exact ll2⟩
  rw[E2 hR,Bv,PK,Bu,Kw,Cb,Hr,Nat.add_zero,J5]
 obtain⟨L2,o5,rfl,b,hd2,cn2,ll2⟩:=pp
 have kp:∀{c:Addr} {o:HO},H c=some o->H2 c=some o:=fun{c o} hc=>b _ _ (Az hc hd) (e01 _ _ hc)
 have j1:(0:Int)+(j:Int)+1=((j+1:Nat):Int):=by omega
 obtain⟨vj,hvj,lj,yj,rfl,_,hlj,ylj⟩:=al.get (i:=j+1) (a:=Cg R (j+1)) (by rw[C1,IY (by omega)];rfl)
 have nlj:lj≠d:=fun z=>by have:=e1 _ _ hd1;rw[←z,hlj]at this;cases this
 have hlr2:=b _ _ (Ne.symm ndl) hlr
 dsimp only[Am]
 refine⟨_,rfl,_,rfl,_,_,rfl,rfl,lr,_,_,_,rfl,rfl,A7.of hlr2,by rw[j1];exact D7 hvj,lj,_,rfl,.inl (A7.of (b _ _ nlj hlj)),?_⟩
 rw[ylj]
 refine⟨_,rfl,_,rfl,r,_,6,_,rfl,rfl,A8.of (kp hr1),rfl,_,rfl,_,_,rfl,rfl,_,rfl,u4,_,rfl,kp hu4,fun sl H3 e3 hsl=>?_⟩
 have cut:Cv (R.path.map V.int) none (some (0+(j:Int)+1))=(C9 (R.path.take (j+1))).map kV:=by
  rw[j1,show Cv (R.path.map V.int) none (some ((j+1:Nat):Int))=(R.path.map V.int).take ((j+1:Nat):Int).toNat from HH (R.path.map V.int) (Mq _),FU,Ts,GC]
 rw[cut]at hsl
 have hd3:=e3 _ _ hd2
 have kvl:(D5 L2).length=L2.length:=by unfold D5;rw[Ao]
 refine⟨d,_,rfl,FA.t (k:=C9 (R.path.take (j+1))) hd3 hsl (DC (by rw[kvl];omega)),?_⟩
 have ej:(R.path.take (j+1),Cg R (j+1))∈Bc R:=by
  unfold Bc
  exact AW.mpr ⟨j,Di.mpr hj,rfl⟩
 have hj':(R.path.take (j+1),Cg R (j+1))∈Rs.flatMap Bc:=sub (BK _ ej)
 have cz:∀m,((R.path.take (j+1),Cg R (j+1)).1,m)∈(Rs.take i).flatMap Bc++(Bc R).take j->m=(R.path.take (j+1),Cg R (j+1)).2:=fun m hm=>by
  refine cons hj' (sub ?_)
  rcases Cj.mp hm with h|h
  .exact Ck _ h
  .exact BK _ (KG h)
 refine⟨Hh L2 (R.path.take (j+1),Cg R (j+1)),_,rfl,fun c o nc hc=>by rw[Ag nc];exact e3 _ _ (b _ _ nc hc),?_,?_,?_⟩
 .rw[A6]
  rw[show(V.int ((Cg R (j+1):Nat):Int))=V.int (((R.path.take (j+1),Cg R (j+1)).2:Nat):Int) from rfl,XD (x:=(R.path.take (j+1),Cg R (j+1))) fun m hm=>cz m ((cn2.mem _).mp hm)]
 .rw[UJ hj,←Ei]
  exact cn2.put cz
 .unfold Hh
  split
  .omega
  .rw[Ac,AN];omega
theorem Uy (T:Tx K mg a):L6 P w K mg base 1 a.f_N a.d_N ["_law_e"] (QG a.c_TooMany):=by
 refine T.F_N.okN VN (fun vs H Q E h=>?_) (fun cdv A outer s H vs Q E hr h=>?_)
 .obtain⟨_,_,rfl,_⟩:=h;rfl
 obtain⟨x,d,rfl,hx,q⟩:=h
 refine⟨_,(A9 (BJ (PW.pt (Jd (Gj (B9 Fv (by rfl) T.z_isinstance FM (A0 (pv 0) (A0 (Gs (v:=.ref a.c_NoText) (by rfl) T.mc_NoText rfl) A3)))) (Jd (Gj (B9 Fv (by rfl) T.z_isinstance FM (A0 (pv 0) (A0 (Gs (v:=.ref a.c_NoPlan) (by rfl) T.mc_NoPlan rfl) A3)))) (Jd (Gj (B9 Fv (by rfl) T.z_isinstance FM (A0 (pv 0) (A0 (Gs (v:=.ref a.c_NoTurning) (by rfl) T.mc_NoTurning rfl) A3)))) (O4 (Gj (B9 Fv (by rfl) T.z_isinstance FM (A0 (pv 0) (A0 (Gs (v:=.ref a.c_BadPlan) (by rfl) T.mc_BadPlan rfl) A3)))))))))
  (Af (AO IJ))
  Ce)
  (Af (AO (Kq (B9 Fv (by rfl) T.z_isinstance FM (A0 (pv 0) (A0 (Vo (v:=.ty "ValueError") (by rfl) T.z_ValueError Wf rfl) A3))) (Kq (Ol (B9 Fv (by rfl) T.z_isinstance FM (A0 (pv 0) (A0 (Gs (v:=.ref a.c_NoWidth) (by rfl) T.mc_NoWidth rfl) A3)))) (JH (Ol (B9 Fv (by rfl) T.z_isinstance FM (A0 (pv 0) (A0 (Gs (v:=.ref a.c_NoValues) (by rfl) T.mc_NoValues rfl) A3)))))))))),?_⟩
 have X:=T.xi_TooMany
 refine⟨_,rfl,x,_,d,_,_,_,rfl,rfl,hx,X,T.is_TooMany_NoText,_,rfl,Bm ?_⟩
 refine⟨_,rfl,x,_,d,_,_,_,rfl,rfl,hx,X,T.is_TooMany_NoPlan,_,rfl,Bm ?_⟩
 refine⟨_,rfl,x,_,d,_,_,_,rfl,rfl,hx,X,T.is_TooMany_NoTurning,_,rfl,Bm ?_⟩
 refine⟨_,rfl,x,_,d,_,_,_,rfl,rfl,hx,X,T.is_TooMany_BadPlan,_,rfl,Bm ?_⟩
 dsimp only[IR]
 refine⟨_,rfl,x,_,d,_,_,_,rfl,rfl,hx,X,T.kv_TooMany,_,rfl,Ca ?_⟩
 refine⟨_,rfl,x,_,d,_,_,_,rfl,rfl,hx,X,T.is_TooMany_NoWidth,_,rfl,_,rfl,Ca ?_⟩
 exact⟨_,rfl,x,_,d,_,_,_,rfl,rfl,hx,X,T.is_TooMany_NoValues,_,rfl,q⟩
theorem Tg (T:Tx K mg a):AA P w K mg base AJ 20 a.f_e a.d_e ["_law_program","_law_bound"] (RZ a.c_Program a.c_Deed):=by
 have G_k :=@NF P w K mg base a T
 have N_l_plain :=@Uy P w K mg base a T
 refine T.F_e.ok OG (fun vs H Q E h=>?_) (fun cdv A outer s H vs Q E hr h=>?_)
 .obtain⟨_,_,_,rfl,_⟩:=h;rfl
 obtain⟨x,m,Ds,rfl,m4,⟨dx,dl,sz,hx,hDo⟩,gw,lt,q⟩:=h
 refine⟨_,(A9 (Nf (fun pn xe Ek hP hR=>(Af (Cp (Gm G_k (hr.mono (by omega)) (by rfl) T.m_k T.F_k.kp T.b_k .nil hP (A0 (pv 0) (A0 (pv 1) A3))))))
  (UR (i:=2) OG.nd rfl rfl (by rfl) T.mc_FurrowError T.xi_FurrowError.xc (fun ea=>(Af (AO (Kq (B9 Fv (by rfl) T.z_isinstance FM (A0 (pv 2) (A0 (Gs (v:=.ref a.c_TooMany) (by rfl) T.mc_TooMany rfl) A3))) (JH (Sv N_l_plain (Bj.held (hr.mono (by omega)) _) (by rfl) T.m_N T.F_N.kp T.b_N (A0 (pv 2) A3)))))))
  ML))
  (Af (AO IJ))),?_⟩
 refine⟨_,rfl,_,rfl,x,dx,dl,sz,m,Ds,rfl,m4,hx,hDo,gw.ok,gw.pr,gw.ft,fun f isf=>⟨fun le=>absurd le (by have:=lt f isf;omega),fun _ xx HX eX hX=>?_⟩⟩
 obtain⟨N,ct⟩:=T.ct_TooMany
 have ix:Gy HX xx a.c_TooMany none:=⟨.inr hX,.inl rfl⟩
 refine⟨xx,_,none,rfl,hX,N,_,true,ct,by rw[U6];exact Cc (.inr AX),Ca ?_⟩
 refine⟨_,rfl,xx,_,none,_,_,_,rfl,rfl,ix,T.xi_TooMany,T.is_TooMany_TooMany,_,rfl,Ca ?_⟩
 exact⟨_,rfl,xx,none,rfl,ix,q _ eX⟩
theorem VG (T:Tx K mg a):AA P w K mg base AJ 20 a.f_f a.d_f ["_law_program","_law_bound","_law_many_here"] (Qe a.c_Program a.c_Deed):=by
 have G_k :=@NF P w K mg base a T
 refine T.F_f.ok RS (fun vs H Q E h=>?_) (fun cdv A outer s H vs Q E hr h=>?_)
 .obtain⟨_,_,_,_,rfl,_⟩:=h;rfl
 obtain⟨x,m,n,Ds,rfl,m4,⟨dx,dl,sz,hx,hDo⟩,gw,le,q⟩:=h
 refine⟨_,(Af (Nf (fun pn xe Ek hP hR=>(Af (AO (OI Dk (B9 (show Ey _ _ (VW K) from BY) (by rfl) T.z_len BU (A0 (Gm G_k (hr.mono (by omega)) (by rfl) T.m_k T.F_k.kp T.b_k .nil hP (A0 (pv 0) (A0 (pv 1) A3))) A3)) (pv 2) (Bk _)))))
  (U9 (by rfl) T.mc_TooMany T.xi_TooMany.xc (fun ea=>(Af (AO IJ)))
  ML))),?_⟩
 refine⟨_,rfl,_,rfl,x,dx,dl,sz,m,Ds,rfl,m4,hx,hDo,gw.ok,gw.pr,gw.ft,fun f isf=>⟨fun _ r H' xs g e hrN hr1 isg al=>?_,fun lt=>absurd lt (by have:=(le f isf).1;omega)⟩⟩
 refine⟨r,_,rfl,.inl (A7.of hr1),_,rfl,rfl,?_⟩
 have en:=(le g isg).2
 rw[al.1,en,show decide (V.int n=V.int n)=true from Cc rfl]
 exact q _ e
theorem Ti (T:Tx K mg a):AA P w K mg base AJ 4 a.f_L a.d_L ["_law_script"] (RF K):=by
 have G_b :=@NZ P w K mg base a T
 have G_a :=@F8 P w K mg base a T
 have G_c :=@Lz P w K mg base a T
 refine T.F_L.ok FO (fun vs H Q E h=>?_) (fun cdv A outer s H vs Q E hr h=>?_)
 .obtain⟨_,_,rfl,_⟩:=h;rfl
 obtain⟨sc,ns,rfl,hsc,h63,q⟩:=h
 refine⟨_,(A9 (Ak (i:=1) FO.nd rfl (.inl rfl) (Av G_b (hr.mono (by omega)) (by rfl) T.m_b T.F_b.kp T.b_b .nil Aq (A0 (pv 0) (A0 A1 A3))))
  (A9 (Ak (i:=2) FO.nd rfl (.inl rfl) (Bf (A0 (Av G_c (hr.mono (by omega)) (by rfl) T.m_c T.F_c.kp T.b_c .nil Aq (A0 (Av G_b (hr.mono (by omega)) (by rfl) T.m_b T.F_b.kp T.b_b .nil Aq (A0 (pv 0) (A0 A1 A3))) (A0 A1 A3))) (A0 (Av G_c (hr.mono (by omega)) (by rfl) T.m_c T.F_c.kp T.b_c .nil Aq (A0 (Av G_b (hr.mono (by omega)) (by rfl) T.m_b T.F_b.kp T.b_b .nil Aq (A0 (pv 0) (A0 A1 A3))) (A0 A1 A3))) A3))))
  (A9 (Ak (i:=3) FO.nd rfl (.inl rfl) (Bf (A0 BS (A0 (A4 DS (A4 AL (pv 1) (A4 EG A1 A1)) (A4 EG A1 A1)) A3))))
  (A9 (Ak (i:=4) FO.nd rfl (.inl rfl) (Bf (A0 BS (A0 (A4 AU (A4 AU (Ai AF (pv 3) A1 (fun _ _=>rfl)) (A4 EG A1 A1)) (A4 AL (A4 BH (pv 1) A1) (A4 EG A1 A1))) A3))))
  (A9 (Ak (i:=5) FO.nd rfl (.inl rfl) (A4 AU A1 (A4 AL (Av G_a (hr.mono (by omega)) (by rfl) T.m_a T.F_a.kp T.b_a .nil Aq (A0 (pv 1) (A0 A1 A3))) A1)))
  (A9 (Ak (i:=6) FO.nd rfl (.inl rfl) (Bf (A0 (pv 3) (A0 (Bf (A0 (Ai AF (pv 2) A1 (fun _ _=>rfl)) (A0 A1 A3))) A3))))
  (A9 (Ak (i:=7) FO.nd rfl (.inl rfl) (Bf (A0 (pv 4) (A0 (Bf (A0 (Ai AF (pv 2) A1 (fun _ _=>rfl)) (A0 (A4 AL (Av G_a (hr.mono (by omega)) (by rfl) T.m_a T.F_a.kp T.b_a .nil Aq (A0 (pv 1) (A0 A1 A3))) A1) A3))) A3))))
  (Af (AO (FR (Aj (E3 K2 (pv 2) Eb (Ef (pv 5))) (Aj (E3 K2 (pv 6) Eb (Ef (pv 5))) (Aj (E3 K2 (pv 7) Eb (Ef (pv 5))) (Aj BS (Aj (Bf (A0 (Bf (A0 BS (A0 A1 A3))) A3)) (Aj (Bf (A0 BS (A0 A1 A3))) (Aj (A4 Vk (Bf (A0 A1 A3)) (A4 AU (pv 5) A1)) Cy Ge) Lu) Lu) AC) K1) K1) K1))))))))))),?_⟩
 refine⟨_,rfl,sc,ns,2,rfl,hsc,by decide,by decide,?_⟩
 dsimp only[Am]
 generalize C4 ns 2=c2
 refine⟨_,rfl,sc,ns,1,rfl,hsc,by decide,by decide,C4 ns 1,0,rfl,by decide,by decide,fun H1 e1=>?_⟩
 refine⟨_,rfl,sc,ns,1,rfl,e1.seq hsc,by decide,by decide,C4 ns 1,1,rfl,by decide,by decide,fun H2 e2=>?_⟩
 generalize C4 ns 1=c
 have e02:=e1.trans e2
 refine⟨Ar rfl,fun nt hnt=>?_⟩
 have s3:=Ab hnt (.tup [V.str (Bi c 0),V.str (Bi c 1)])
 have hn3:(upd H2 nt (.tup [V.str (Bi c 0),V.str (Bi c 1)])) nt=some (.tup [V.str (Bi c 0),V.str (Bi c 1)]):=A6
 dsimp only[Am]
 change IH _ _ _ (List.set _ 2 (some (V.ref nt))) (upd H2 nt (.tup [V.str (Bi c 0),V.str (Bi c 1)]))
 generalize upd H2 nt (.tup [V.str (Bi c 0),V.str (Bi c 1)])=H3 at s3 hn3
 have p17:(10:Int) ^ (17:Int).toNat=10 ^ 17:=rfl
 have p16:(10:Int) ^ (16:Int).toNat=10 ^ 16:=rfl
 have p15:(10:Int) ^ (15:Int).toNat=10 ^ 15:=rfl
 refine⟨_,rfl,_,_,rfl,rfl,⟨by decide,by decide,by decide⟩,_,_,rfl,rfl,(by show(0:Int)<10 ^ (17:Int).toNat;decide),_,_,rfl,rfl,⟨by decide,by decide,by decide⟩,_,_,rfl,rfl,Ar rfl,fun t0 ht0=>?_⟩
 have lb0:0<=c2%10 ^ (17:Int).toNat:=B7 _ (by rw[p17];decide)
 have lb1:c2%10 ^ (17:Int).toNat<10 ^ (17:Int).toNat:=B8 _ (by rw[p17];decide)
 have hb0:0<=c2/7%10 ^ (17:Int).toNat:=B7 _ (by rw[p17];decide)
 have hb1:c2/7%10 ^ (17:Int).toNat<10 ^ (17:Int).toNat:=B8 _ (by rw[p17];decide)
 dsimp only[Am]
 generalize hlo:c2%10 ^ (17:Int).toNat-10 ^ (16:Int).toNat=lo
 generalize hx:c2/7%10 ^ (17:Int).toNat=xx at hb0 hb1
 rw[p17]at lb1 hb1
 rw[p16]at hlo
 have s4:=Ab ht0 (.tup [V.str "",V.int lo])
 have h4:(upd H3 t0 (.tup [V.str "",V.int lo])) t0=some (.tup [V.str "",V.int lo]):=A6
 generalize upd H3 t0 (.tup [V.str "",V.int lo])=H4 at s4 h4
 refine⟨_,rfl,t0,_,1,_,rfl,rfl,A8.of h4,rfl,_,_,rfl,rfl,⟨by decide,by decide,by decide⟩,_,_,rfl,rfl,_,rfl,_,_,rfl,rfl,⟨by decide,by decide⟩,_,_,rfl,rfl,⟨by decide,by decide,by decide⟩,_,_,rfl,rfl,(by show(0:Int)<10 ^ (17:Int).toNat;decide),_,_,rfl,rfl,Ar rfl,fun t1 ht1=>?_⟩
 dsimp only[Am]
 rw[hx,p15]
 generalize hhi:lo+10 ^ 15+xx=hi
 have s5:=Ab ht1 (.tup [V.str "",V.int hi])
 have h5:(upd H4 t1 (.tup [V.str "",V.int hi])) t1=some (.tup [V.str "",V.int hi]):=A6
 generalize upd H4 t1 (.tup [V.str "",V.int hi])=H5 at s5 h5
 refine⟨_,rfl,c2,2,rfl,_,_,rfl,rfl,(by show(0:Int)<2;decide),_,_,rfl,rfl,?_⟩
 have dp0:=B7 (Bx c2 2) (show(2:Int)≠0 by decide)
 have dp1:=B8 (Bx c2 2) (show(0:Int)<2 by decide)
 dsimp only[Am]
 generalize Bx c2 2%2=dp at dp0 dp1
 have hn5:=s5 _ _ (s4 _ _ hn3)
 refine⟨_,rfl,_,rfl,nt,_,0,_,rfl,rfl,A8.of hn5,rfl,Ar rfl,fun t2 ht2=>⟨Ar rfl,fun lw hlw=>?_⟩⟩
 have s6:=Ab ht2 (.tup [V.str (Bi c 0),V.int 1])
 have s7:=Ab hlw (.tup [V.ref t0,V.ref t2])
 have h6:(upd (upd H5 t2 (.tup [V.str (Bi c 0),V.int 1])) lw (.tup [V.ref t0,V.ref t2])) t2=some (.tup [V.str (Bi c 0),V.int 1]):=s7 _ _ A6
 have h7:(upd (upd H5 t2 (.tup [V.str (Bi c 0),V.int 1])) lw (.tup [V.ref t0,V.ref t2])) lw=some (.tup [V.ref t0,V.ref t2]):=A6
 have s67:=s6.trans s7
 dsimp only[Am]
 generalize upd (upd H5 t2 (.tup [V.str (Bi c 0),V.int 1])) lw (.tup [V.ref t0,V.ref t2])=H7 at s67 h6 h7
 have hn7:=s67 _ _ hn5
 refine⟨_,rfl,_,rfl,nt,_,0,_,rfl,rfl,A8.of hn7,rfl,_,rfl,c2,3,rfl,_,_,rfl,rfl,(by show(0:Int)<4;decide),Ar rfl,fun t3 ht3=>⟨Ar rfl,fun hw hhw=>?_⟩⟩
 have z0:=B7 (Bx c2 3) (show(4:Int)≠0 by decide)
 have z1:=B8 (Bx c2 3) (show(0:Int)<4 by decide)
 dsimp only[Am]
 obtain⟨z,hz⟩:∃z,z=Bx c2 3%4:=⟨_,rfl⟩
 rw[←hz]at z0 z1
 have hhw:(upd H7 t3 (.tup [V.str (Bi c 0),V.int z])) hw=none:=by rw[hz];exact hhw
 have s8:=Ab ht3 (.tup [V.str (Bi c 0),V.int z])
 have s9:=Ab hhw (.tup [V.ref t1,V.ref t3])
 rw[←hz]
 have h8:(upd (upd H7 t3 (.tup [V.str (Bi c 0),V.int z])) hw (.tup [V.ref t1,V.ref t3])) t3=some (.tup [V.str (Bi c 0),V.int z]):=s9 _ _ A6
 have h9:(upd (upd H7 t3 (.tup [V.str (Bi c 0),V.int z])) hw (.tup [V.ref t1,V.ref t3])) hw=some (.tup [V.ref t1,V.ref t3]):=A6
 have s89:=s8.trans s9
 generalize upd (upd H7 t3 (.tup [V.str (Bi c 0),V.int z])) hw (.tup [V.ref t1,V.ref t3])=H9 at s89 h8 h9
 have e09:=e02.trans (s3.trans (s4.trans (s5.trans (s67.trans s89))))
 have hn9:=s89 _ _ hn7
 have h49:=s89 _ _ (s67 _ _ (s5 _ _ h4))
 have h59:=s89 _ _ (s67 _ _ h5)
 have h69:=s89 _ _ h6
 have h79:=s89 _ _ h7
 refine⟨_,rfl,_,rfl,_,rfl,nt,_,rfl,hn9,fun a1 HA eA hA=>?_⟩
 refine⟨_,rfl,_,rfl,_,rfl,lw,_,rfl,eA _ _ h79,fun a2 HB eB hB=>?_⟩
 refine⟨_,rfl,_,rfl,_,rfl,hw,_,rfl,(eA.trans eB) _ _ h9,fun a3 HC eC hC=>?_⟩
 have eAC:=eA.trans (eB.trans eC)
 refine⟨Ar rfl,fun w1 hw1=>⟨Ar rfl,fun w2 hw2=>⟨Ar rfl,fun w3 hw3=>⟨Ar rfl,fun w4 hw4=>?_⟩⟩⟩⟩
 have v1:=Ab hw1 (.tup [V.str "",V.int 0])
 have v2:=Ab hw2 (.tup [V.ref w1])
 have v3:=Ab hw3 (.tup [V.str "n",V.int 1])
 have v4:=Ab hw4 (.tup [V.int 0])
 have k3:=v4 _ _ (show(upd (upd (upd HC w1 (.tup [V.str "",V.int 0])) w2 (.tup [V.ref w1])) w3 (.tup [V.str "n",V.int 1])) w3=some (.tup [V.str "n",V.int 1]) from A6)
 have k4:(upd (upd (upd (upd HC w1 (.tup [V.str "",V.int 0])) w2 (.tup [V.ref w1])) w3 (.tup [V.str "n",V.int 1])) w4 (.tup [V.int 0])) w4=some (.tup [V.int 0]):=A6
 have v14:=v1.trans (v2.trans (v3.trans v4))
 generalize upd (upd (upd (upd HC w1 (.tup [V.str "",V.int 0])) w2 (.tup [V.ref w1])) w3 (.tup [V.str "n",V.int 1])) w4 (.tup [V.int 0])=HD at v14 k3 k4
 obtain⟨dn,rfl⟩:∃n:Nat,dp=(n:Int):=⟨dp.toNat,by omega⟩
 refine⟨_,rfl,_,_,rfl,rfl,w4,dn+2,.int 0,rfl,congrArg V.int (by omega),k4,by omega,fun pp HE eE hE=>⟨Ar rfl,fun rr hrr=>?_⟩⟩
 have sF:=Ab hrr (.tup [V.ref a1,V.ref a2,V.ref a3,V.str "a",V.ref w2,V.ref w3,V.ref pp])
 have cut:∀l:List V,Cv l none (some (1+(dn:Int)))=l.take (dn+1):=fun l=>by
  rw[show Cv l none (some (1+(dn:Int)))=l.take (1+(dn:Int)).toNat from HH l (by omega),show(1+(dn:Int)).toNat=dn+1 by omega]
 rw[cut]at hA hB hC
 have eF:=v14.trans (eE.trans sF)
 have eAF:=eAC.trans eF
 have q0:Lp:=⟨Bi c 0,"",lo,"",hi,0,0⟩
 generalize hq0:(⟨Bi c 0,"",lo,"",hi,0,0⟩:Lp)=q0
 generalize hq1:(⟨Bi c 1,Bi c 0,1,Bi c 0,z,0,0⟩:Lp)=q1
 have hS:[q0,q1].take (dn+1)=[q0]\/[q0,q1].take (dn+1)=[q0,q1]:=by
  rcases(by omega:dn=0\/dn=1) with rfl|rfl
  .exact .inl rfl
  .exact .inr rfl
 have rl:(List.replicate (dn+2) (V.int 0))=(List.replicate (dn+2) (0:Int)).map V.int:=by rw[List.map_replicate]
 refine q rr ⟨[q0,q1].take (dn+1),List.replicate (dn+2) 0,"a",w2,1,[]⟩ _ (e09.trans eAF) ⟨rr,a1,a2,a3,pp,.ref w3,_,_,rfl,A6,?_,(eC.trans eF) _ _ hB,?_,eF _ _ hC,?_,by rw[sF _ _ hE,rl],.n 1 ((eE.trans sF) _ _ k3)⟩ ?_
 .rw[(eB.trans (eC.trans eF)) _ _ hA]
  unfold AY
  rw[←hq0,←hq1,GC,GC]
  rfl
 .rw[←hq0,←hq1]
  exact Ay.take (.cons ⟨t0,rfl,eAF _ _ h49⟩ (.cons ⟨t2,rfl,eAF _ _ h69⟩ .nil)) (dn+1)
 .rw[←hq0,←hq1]
  exact Ay.take (.cons ⟨t1,rfl,eAF _ _ h59⟩ (.cons ⟨t3,rfl,eAF _ _ h8⟩ .nil)) (dn+1)
 .refine Vj (c:=c) (lo:=lo) (hi:=hi) (x:=z) hS ?_ (by show 1<=3;decide) (by rw[←hq0];exact⟨rfl,rfl,rfl,rfl,rfl,rfl⟩) (by rw[←hq0,←hq1];exact⟨rfl,rfl,rfl,rfl,rfl,rfl⟩) (by omega) (by omega) (by omega) (by omega) z0 (by omega)
  show(List.replicate (dn+2) (0:Int)).length=([q0,q1].take (dn+1)).length+1
  rw[Pn,BG]
  show dn+2=min (dn+1) 2+1
  omega
theorem ok_law (T:Tx K mg a):AA P w K mg base AJ 110 a.f_M a.d_M ["_law_script"] (Lf K):=by
 have G_b :=@Kn P w K mg base a T
 have G_a :=@F8 P w K mg base a T
 have G_E :=@Q6 P w K mg base a T
 have G_F :=@Q5 P w K mg base a T
 have G_L :=@Ti P w K mg base a T
 have G_G :=@Tz P w K mg base a T
 have G_q :=@SF P w K mg base a T
 have G_K :=@TV P w K mg base a T
 have G_e :=@Tg P w K mg base a T
 have G_f :=@VG P w K mg base a T
 refine T.F_M.ok Ff (fun vs H Q E h=>?_) (fun cdv A outer s H vs Q E hr h=>?_)
 .obtain⟨_,_,rfl,_⟩:=h;rfl
 obtain⟨p,ns,rfl,hp,h63,_,q⟩:=h
 refine⟨_,(A9 (Ak (i:=1) Ff.nd rfl (.inl rfl) (Av G_a (hr.mono (by omega)) (by rfl) T.m_a T.F_a.kp T.b_a .nil Aq (A0 (Av G_b (hr.mono (by omega)) (by rfl) T.m_b T.F_b.kp T.b_b .nil Aq (A0 (pv 0) (A0 A1 A3))) (A0 A1 A3))))
  (A9 (Ak (i:=2) Ff.nd rfl (.inl rfl) (Av G_G (hr.mono (by omega)) (by rfl) T.m_G T.F_G.kp T.b_G .nil Aq (A0 (pv 0) A3)))
  (A9 (BJ (Bp Dk (A4 AL (pv 1) A1) A1 (Bk _))
  (Af (AO (Av G_e (hr.mono (by omega)) (by rfl) T.m_e T.F_e.kp T.b_e .nil Aq (A0 (Av G_q (hr.mono (by omega)) (by rfl) T.m_q T.F_q.kp T.b_q .nil Aq (A0 (pv 2) (A0 (BL (A0 (Av G_L (hr.mono (by omega)) (by rfl) T.m_L T.F_L.kp T.b_L .nil Aq (A0 (pv 0) A3)) A3)) A3))) (A0 (A4 AL (A4 BH (pv 1) A1) A1) A3)))))
  Ce)
  (A9 (Ak (i:=3) Ff.nd rfl (.inl rfl) (Av G_E (hr.mono (by omega)) (by rfl) T.m_E T.F_E.kp T.b_E .nil Aq (A0 (pv 0) (A0 (Av G_F (hr.mono (by omega)) (by rfl) T.m_F T.F_F.kp T.b_F .nil Aq (A0 (pv 0) A3)) A3))))
  (A9 (Ak (i:=4) Ff.nd rfl (.inl rfl) (Av G_q (hr.mono (by omega)) (by rfl) T.m_q T.F_q.kp T.b_q .nil Aq (A0 (pv 2) (A0 (pv 3) A3))))
  (A9 (HV (Av G_K (hr.mono (by omega)) (by rfl) T.m_K T.F_K.kp T.b_K .nil Aq (A0 (pv 3) A3)) (ES rfl (Co (B0 (i:=5) Ff.nd rfl (.inl rfl)) (Co (B0 (i:=6) Ff.nd rfl (.inl rfl)) EN))))
  (A9 (Ak (i:=7) Ff.nd rfl (.inl rfl) (A4 AU (pv 5) (pv 6)))
  (A9 (Ak (i:=8) Ff.nd rfl (.inl rfl) (B9 (NU rfl) (by rfl) T.z_max Oo (A0 A1 (A0 (Ai B2 (Et (Aj (pv 7) (Aj (A4 DS (pv 7) A1) (Aj (A4 AU (pv 7) A1) (Aj (A4 DS (pv 7) A1) (Aj (A4 AU (pv 7) A1) (Aj A1 (Aj (A4 AL (A4 BH (pv 1) A1) A1) Cy Ge) AC) Ge) Ge) Ge) Ge) Cq)) (A4 AL (A4 BH (pv 1) A1) A1) (fun _ _=>rfl)) A3))))
  (A9 (BJ (PW.pt (Jd (PW.pt (Hf (Bp Gv (pv 7) (pv 8) (Bk _)) (Il (LZ (Gj (Av G_e (hr.mono (by omega)) (by rfl) T.m_e T.F_e.kp T.b_e .nil Aq (A0 (pv 4) (A0 (pv 8) A3)))))))) (O4 (PW.pt (Hf (Bp OK (pv 7) (pv 8) (Bk _)) (Il (LZ (Gj (Av G_f (hr.mono (by omega)) (by rfl) T.m_f T.F_f.kp T.b_f .nil Aq (A0 (pv 4) (A0 (pv 8) (A0 (pv 6) A3))))))))))))
  (Af (AO IJ))
  Ce)
  (A9 (BJ (LZ (Gj (Av G_f (hr.mono (by omega)) (by rfl) T.m_f T.F_f.kp T.b_f .nil Aq (A0 (pv 4) (A0 (pv 7) (A0 (pv 6) A3))))))
  (Af (AO IJ))
  Ce)
  (Af (AO (SW (OI Dk (pv 7) A1 (Bk _)) (JH (Kq (Av G_e (hr.mono (by omega)) (by rfl) T.m_e T.F_e.kp T.b_e .nil Aq (A0 (pv 4) (A0 (A4 DS (pv 7) A1) A3))) (JH (Av G_f (hr.mono (by omega)) (by rfl) T.m_f T.F_f.kp T.b_f .nil Aq (A0 (pv 4) (A0 (pv 7) (A0 (pv 6) A3)))))))))))))))))))),?_⟩
 refine⟨_,rfl,p,ns,0,rfl,hp,by decide,by decide,fun c=>⟨c,3,rfl,?_⟩⟩
 obtain⟨pk0,pk1⟩:=F4 c 3
 dsimp only[Am]
 generalize Bx c 3=pk at pk0 pk1
 refine⟨_,rfl,p,ns,rfl,hp,h63,fun H1 sz e1=>?_⟩
 dsimp only[Am]
 refine⟨_,rfl,_,_,rfl,rfl,(by show(0:Int)<4;decide),rfl,_,rfl,?_⟩
 by_cases c1:pk%4=1
 .refine Ba (v:=true) (Cc (congrArg V.int c1)) (Ca ?_)
  refine⟨_,rfl,_,rfl,p,ns,rfl,e1.seq hp,h63,fun fr R H2 e2 hR far=>⟨Ar rfl,fun l hl=>?_⟩⟩
  have s3:=Ab hl (.lst [V.ref fr])
  refine⟨sz,l,[R],rfl,⟨_,A6,.one (hR.over s3)⟩,by show 1<=6;decide,fun R' hR'=>by rw[BW.mp hR'];have:=far.1.m3;omega,fun x dx dl xs H4 e4 x0 hx dl0 hdl ax=>?_⟩
  have z0:=B7 (pk/4) (show(61:Int)≠0 by decide)
  have z1:=B8 (pk/4) (show(0:Int)<61 by decide)
  refine⟨_,rfl,_,_,rfl,rfl,⟨by decide,by decide⟩,_,_,rfl,rfl,(by show(0:Int)<61;decide),x,pk/4%61,[R].map R3.dw,rfl,by omega,⟨dx,dl,_,hx,⟨xs,hdl,JT ax⟩⟩,OY (fun R' hR'=>by rw[BW.mp hR'];exact⟨far.1,far.2.1⟩) (List.pairwise_singleton _ _) (by show 1<=10;decide),fun f isf=>?_,fun H5 e5=>q _⟩
  have:=TM far isf
  omega
 .refine Ba (v:=false) (Cw fun z=>c1 (V.int.inj z)) (Bm ?_)
  dsimp only[IR]
  refine⟨_,rfl,_,rfl,p,ns,rfl,e1.seq hp,h63,fun H2 n e2 n1 n4=>?_⟩
  have e02:=e1.trans e2
  refine⟨p,ns,n,rfl,e02.seq hp,h63,by omega,fun rl H3 Rs e3 hRs Rl Rok Rp=>?_⟩
  dsimp only[Am]
  refine⟨_,rfl,_,rfl,sz,rl,Rs,rfl,hRs,by omega,fun R hR=>by have:=(Rok R hR).m3;omega,fun x dx dl xs H4 e4 x0 hx dl0 hdl ax=>?_⟩
  have gw:=OL Rok Rp (by omega) (by omega)
  have go:=VU Rok Rp (by omega)
  dsimp only[Am]
  refine⟨_,rfl,rl,Rs,rfl,hRs.over e4,gw.rg,Rp,by omega,gw.lvb,fun r H5 L e5 cn l12 hr5=>?_⟩
  refine⟨r,_,rfl,A8.of hr5,rfl,_,_,rfl,_,_,rfl,rfl,?_⟩
  have ml:=US Rok (by omega) cn l12
  have rc:=fun{f:Pw.Fs} (isf:Pw.IsF (getD (Rs.map R3.dw)) f (List.range (Rs.map R3.dw).length) 0)=>UA Rok Rp (by omega) (by omega) cn isf
  generalize (L.map (·.2)).sum=lo at ml rc
  generalize (Rs.map fun R=>Cg R R.S.length).sum=de at ml rc
  have prg:G8 a.c_Program a.c_Deed H5 x (Rs.map R3.dw):=G8.over ⟨dx,dl,_,hx,⟨xs,hdl,JT ax⟩⟩ e5
  refine⟨_,rfl,_,rfl,_,_,rfl,rfl,?_⟩
  dsimp only[Am]
  obtain⟨M,hM⟩:∃M:Int,M=(lo:Int)+(de:Int):=⟨_,rfl⟩
  rw[←hM]
  obtain⟨d,hd,ed⟩:=Ez (L:=[M,M-1,M+1,M-3,M+3,0,pk/48%61]) (i:=pk/4%7) 7 rfl (B7 _ (by decide)) (B8 _ (by decide))
  have z0:=B7 (pk/48) (show(61:Int)≠0 by decide)
  have z1:=B8 (pk/48) (show(0:Int)<61 by decide)
  have db:d<=400000:=by
   simp only[AE,CY,or_false]at hd
   omega
  refine⟨_,rfl,_,rfl,_,_,rfl,rfl,_,rfl,_,_,rfl,rfl,_,rfl,_,_,rfl,rfl,_,rfl,_,_,rfl,rfl,_,rfl,_,_,rfl,rfl,⟨by decide,by decide⟩,_,_,rfl,rfl,(by show(0:Int)<61;decide),Ar rfl,fun bl hbl=>?_⟩
  have s6:=Ab hbl (.lst [V.int M,V.int (M-1),V.int (M+1),V.int (M-3),V.int (M+3),V.int 0,V.int (pk/48%61)])
  refine⟨_,rfl,_,_,rfl,rfl,⟨by decide,by decide⟩,_,_,rfl,rfl,(by show(0:Int)<7;decide),bl,_,_,_,rfl,rfl,A7.of A6,ed,_,_,rfl,?_⟩
  dsimp only[Am]
  change IH _ _ _ _ (upd H5 bl (.lst [V.int M,V.int (M-1),V.int (M+1),V.int (M-3),V.int (M+3),V.int 0,V.int (pk/48%61)]))
  generalize upd H5 bl (.lst [V.int M,V.int (M-1),V.int (M+1),V.int (M-3),V.int (M+3),V.int 0,V.int (pk/48%61)])=H6 at s6
  obtain⟨b,hb⟩:∃b:Int,b=if d>0 then d else 0:=⟨_,rfl⟩
  have bb:b<=400000:=by rw[hb];split<;>omega
  rw[←hb]
  have prg6:=prg.over s6
  have lt':∀{m:Int},m<M->∀f,Pw.IsF (getD (Rs.map R3.dw)) f (List.range (Rs.map R3.dw).length) 0->m<Em (Rs.map R3.dw) f:=fun{m} h f isf=>by have:=(rc isf).1;omega
  have le':∀{m:Int},M<=m->∀f,Pw.IsF (getD (Rs.map R3.dw)) f (List.range (Rs.map R3.dw).length) 0->Em (Rs.map R3.dw) f<=m/\((Tn.tl (bW (Rs.map R3.dw)) f []).length:Int)=(de:Int):=fun{m} h f isf=>by obtain⟨h1,h2,_⟩:=rc isf;exact⟨by omega,h2⟩
  refine F2 (fun σ' H'=>Aa H6 H'/\σ'=[some (.ref p),some (.int pk),some (.int sz),some (.ref rl),some (.ref x),some (.int (lo:Int)),some (.int (de:Int)),some (.int M),some (.int b)]) (fun σ' H7 pp=>?_) (fun nx=>?_)
  rotate_left
  .refine⟨_,rfl,_,rfl,_,_,rfl,rfl,_,rfl,?_⟩
   by_cases c2:b<M
   .refine Ba (v:=true) (Cc c2) (Ca ?_)
    refine⟨_,rfl,_,rfl,x,b,Rs.map R3.dw,rfl,bb,prg6,go,lt' c2,fun H7 e7=>⟨_,rfl,Bm ?_⟩⟩
    refine⟨_,rfl,_,rfl,_,_,rfl,rfl,_,rfl,Ba (v:=false) (Cw (by omega)) (Bm (Bm ?_))⟩
    exact nx _ _ ⟨e7,rfl⟩
   .refine Ba (v:=false) (Cw c2) (Bm (Bm ?_))
    refine⟨_,rfl,_,rfl,_,_,rfl,rfl,_,rfl,Ba (v:=true) (Cc (by omega)) (Ca ?_)⟩
    refine⟨_,rfl,_,rfl,_,rfl,x,b,(de:Int),Rs.map R3.dw,rfl,bb,prg6,go,le' (by omega),fun H7 e7=>⟨_,rfl,Bm ?_⟩⟩
    exact nx _ _ ⟨e7,rfl⟩
  obtain⟨e7,rfl⟩:=pp
  refine⟨_,rfl,_,rfl,_,rfl,x,M,(de:Int),Rs.map R3.dw,rfl,by omega,prg6.over e7,go,le' (KC _),fun H8 e8=>⟨_,rfl,Bm ?_⟩⟩
  dsimp only[IR]
  have e68:=e7.trans e8
  refine⟨_,rfl,rfl,?_⟩
  refine⟨_,rfl,?_⟩
  by_cases c3:M=0
  .exact Ba (v:=true) (Cc (congrArg V.int c3)) (Ca (q _))
  .refine Ba (v:=false) (Cw fun z=>c3 (V.int.inj z)) (Bm ?_)
   refine⟨_,rfl,_,rfl,_,_,rfl,rfl,x,M-1,Rs.map R3.dw,rfl,by omega,prg6.over e68,go,lt' (by omega),fun H9 e9=>⟨_,rfl,Ca ?_⟩⟩
   exact⟨_,rfl,_,rfl,_,rfl,x,M,(de:Int),Rs.map R3.dw,rfl,by omega,prg6.over (e68.trans e9),go,le' (KC _),fun HA eA=>q _⟩
end
theorem E8 {us:List Value}(h:us.length=1):∃x0,us=[x0]:=by
 rcases us with _|⟨x0,us⟩
 .cases h
 rcases us with _|⟨y,us⟩
 .exact⟨x0,rfl⟩
 .simp only[B6]at h;omega
theorem CQ {us:List Value}(h:us.length=2):∃x0 x1,us=[x0,x1]:=by
 rcases us with _|⟨x0,us⟩
 .cases h
 rcases us with _|⟨x1,us⟩
 .cases h
 rcases us with _|⟨y,us⟩
 .exact⟨x0,x1,rfl⟩
 .simp only[B6]at h;omega
theorem Eu {us:List Value}(h:us.length=3):∃x0 x1 x2,us=[x0,x1,x2]:=by
 rcases us with _|⟨x0,us⟩
 .cases h
 rcases us with _|⟨x1,us⟩
 .cases h
 rcases us with _|⟨x2,us⟩
 .cases h
 rcases us with _|⟨y,us⟩
 .exact⟨x0,x1,x2,rfl⟩
 .simp only[B6]at h;omega
theorem Hi {us:List Value}(h:us.length=4):∃x0 x1 x2 x3,us=[x0,x1,x2,x3]:=by
 rcases us with _|⟨x0,us⟩
 .cases h
 rcases us with _|⟨x1,us⟩
 .cases h
 rcases us with _|⟨x2,us⟩
 .cases h
 rcases us with _|⟨x3,us⟩
 .cases h
 rcases us with _|⟨y,us⟩
 .exact⟨x0,x1,x2,x3,rfl⟩
 .simp only[B6]at h;omega
theorem Q1 {us:List Value}(h:us.length=8):∃x0 x1 x2 x3 x4 x5 x6 x7,us=[x0,x1,x2,x3,x4,x5,x6,x7]:=by
 rcases us with _|⟨x0,us⟩
 .cases h
 rcases us with _|⟨x1,us⟩
 .cases h
 rcases us with _|⟨x2,us⟩
 .cases h
 rcases us with _|⟨x3,us⟩
 .cases h
 rcases us with _|⟨x4,us⟩
 .cases h
 rcases us with _|⟨x5,us⟩
 .cases h
 rcases us with _|⟨x6,us⟩
 .cases h
 rcases us with _|⟨x7,us⟩
 .cases h
 rcases us with _|⟨y,us⟩
 .exact⟨x0,x1,x2,x3,x4,x5,x6,x7,rfl⟩
 .simp only[B6]at h;omega
theorem UW:AQ "__init__" "NoText.__init__" Lv ["self","line"]:=fun _ _ _ _ _ _ _ h=>by obtain⟨_,_,rfl⟩:=CQ h;rfl
theorem VF:AQ "__init__" "NoValues.__init__" LH ["self","ring"]:=fun _ _ _ _ _ _ _ h=>by obtain⟨_,_,rfl⟩:=CQ h;rfl
theorem Wo:AQ "__init__" "Number.__init__" JS ["self","n"]:=fun _ _ _ _ _ _ _ h=>by obtain⟨_,_,rfl⟩:=CQ h;rfl
theorem UZ:AQ "__init__" "Value.__init__" JN ["self","name"]:=fun _ _ _ _ _ _ _ h=>by obtain⟨_,_,rfl⟩:=CQ h;rfl
theorem Vw:AQ "__init__" "Cell.__init__" Je ["self","table","spots"]:=fun _ _ _ _ _ _ _ h=>by obtain⟨_,_,_,rfl⟩:=Eu h;rfl
theorem W7:AQ "__init__" "Joined.__init__" Kl ["self","sign","left","right"]:=fun _ _ _ _ _ _ _ h=>by obtain⟨_,_,_,_,rfl⟩:=Hi h;rfl
theorem Tp:AQ "__init__" "Deed.__init__" Kf ["self","names","lows","highs","table","spots","term","path"]:=fun _ _ _ _ _ _ _ h=>by obtain⟨_,_,_,_,_,_,_,_,rfl⟩:=Q1 h;rfl
theorem Rr:AQ "__init__" "Program.__init__" Kr ["self","size","deeds"]:=fun _ _ _ _ _ _ _ h=>by obtain⟨_,_,_,rfl⟩:=Eu h;rfl
theorem Ud:AQ "__init__" "Walk.__init__" Kh ["self","deeds","most"]:=fun _ _ _ _ _ _ _ h=>by obtain⟨_,_,_,rfl⟩:=Eu h;rfl
theorem Vi:AQ "placed" "placed" IS ["spots","values"]:=fun _ _ _ _ _ _ _ h=>by obtain⟨_,_,rfl⟩:=CQ h;rfl
theorem T7:AQ "stood_for" "stood_for" Kk ["spot","values"]:=fun _ _ _ _ _ _ _ h=>by obtain⟨_,_,rfl⟩:=CQ h;rfl
theorem W5:AQ "named" "named" Jc ["deed","values"]:=fun _ _ _ _ _ _ _ h=>by obtain⟨_,_,rfl⟩:=CQ h;rfl
theorem UQ:AQ "nested" "nested" JF ["deeds"]:=fun _ _ _ _ _ _ _ h=>by obtain⟨_,rfl⟩:=E8 h;rfl
theorem RU:AQ "items_within" "items_within" JL ["deeds","numbers","depth"]:=fun _ _ _ _ _ _ _ h=>by obtain⟨_,_,_,rfl⟩:=Eu h;rfl
theorem QQ:AQ "neighbours" "neighbours" JE ["deeds","numbers","depth"]:=fun _ _ _ _ _ _ _ h=>by obtain⟨_,_,_,rfl⟩:=Eu h;rfl
theorem Xg:AQ "turns" "turns" K0 ["program","most"]:=fun _ _ _ _ _ _ _ h=>by obtain⟨_,_,rfl⟩:=CQ h;rfl
theorem SI:AQ "every_turn" "every_turn" Ka ["deeds"]:=fun _ _ _ _ _ _ _ h=>by obtain⟨_,rfl⟩:=E8 h;rfl
theorem Wd:AQ "take_room" "take_room" JG ["walk","many"]:=fun _ _ _ _ _ _ _ h=>by obtain⟨_,_,rfl⟩:=CQ h;rfl
theorem Xj:AQ "deeds_among" "deeds_among" Ie ["items"]:=fun _ _ _ _ _ _ _ h=>by obtain⟨_,rfl⟩:=E8 h;rfl
theorem T6:AQ "count_loops" "count_loops" Jo ["walk","items","values"]:=fun _ _ _ _ _ _ _ h=>by obtain⟨_,_,_,rfl⟩:=Eu h;rfl
theorem SS:AQ "count_loop" "count_loop" Kg ["walk","k","items","values"]:=fun _ _ _ _ _ _ _ h=>by obtain⟨_,_,_,_,rfl⟩:=Hi h;rfl
theorem S4:AQ "bounds_of" "bounds_of" Jj ["deed","values"]:=fun _ _ _ _ _ _ _ h=>by obtain⟨_,_,rfl⟩:=CQ h;rfl
theorem SV:AQ "tell_items" "tell_items" Kb ["walk","items","values"]:=fun _ _ _ _ _ _ _ h=>by obtain⟨_,_,_,rfl⟩:=Eu h;rfl
theorem Ru:AQ "tell_loop" "tell_loop" JB ["walk","k","items","values"]:=fun _ _ _ _ _ _ _ h=>by obtain⟨_,_,_,_,rfl⟩:=Hi h;rfl
theorem Qt:AQ "_law_cell" "_law_cell" Ju ["_law_script","_law_k"]:=fun _ _ _ _ _ _ _ h=>by obtain⟨_,_,rfl⟩:=CQ h;rfl
theorem Xk:AQ "_law_mixed" "_law_mixed" K8 ["_law_cell_here","_law_k"]:=fun _ _ _ _ _ _ _ h=>by obtain⟨_,_,rfl⟩:=CQ h;rfl
theorem WT:AQ "_law_name" "_law_name" Jg ["_law_cell_here","_law_e"]:=fun _ _ _ _ _ _ _ h=>by obtain⟨_,_,rfl⟩:=CQ h;rfl
theorem Q2:AQ "_law_spots" "_law_spots" Jf ["_law_number","_law_bases","_law_many_here","_law_off"]:=fun _ _ _ _ _ _ _ h=>by obtain⟨_,_,_,_,rfl⟩:=Hi h;rfl
theorem Xi:AQ "_law_cell_of" "_law_cell_of" Ji ["_law_number","_law_bases","_law_heads_here"]:=fun _ _ _ _ _ _ _ h=>by obtain⟨_,_,_,rfl⟩:=Eu h;rfl
theorem SQ:AQ "_law_leaf" "_law_leaf" JY ["_law_number","_law_bases","_law_heads_here"]:=fun _ _ _ _ _ _ _ h=>by obtain⟨_,_,_,rfl⟩:=Eu h;rfl
theorem T5:AQ "_law_term" "_law_term" J9 ["_law_cell_here","_law_bases","_law_heads_here"]:=fun _ _ _ _ _ _ _ h=>by obtain⟨_,_,_,rfl⟩:=Eu h;rfl
theorem Qc:AQ "_law_loop" "_law_loop" Im ["_law_number","_law_far_here","_law_stack","_law_cell_here"]:=fun _ _ _ _ _ _ _ h=>by obtain⟨_,_,_,_,rfl⟩:=Hi h;rfl
theorem UX:AQ "_law_row" "_law_row" FL ["_law_cell_here","_law_stack","_law_path","_law_heads_here"]:=fun _ _ _ _ _ _ _ h=>by obtain⟨_,_,_,_,rfl⟩:=Hi h;rfl
theorem Xh:AQ "_law_heads" "_law_heads" Kd ["_law_script"]:=fun _ _ _ _ _ _ _ h=>by obtain⟨_,rfl⟩:=E8 h;rfl
theorem UV:AQ "_law_rows" "_law_rows" Ki ["_law_script","_law_many_here"]:=fun _ _ _ _ _ _ _ h=>by obtain⟨_,_,rfl⟩:=CQ h;rfl
theorem Xo:AQ "_law_many" "_law_many" Jh ["_law_script"]:=fun _ _ _ _ _ _ _ h=>by obtain⟨_,rfl⟩:=E8 h;rfl
theorem SE:AQ "_law_size" "_law_size" K4 ["_law_script"]:=fun _ _ _ _ _ _ _ h=>by obtain⟨_,rfl⟩:=E8 h;rfl
theorem U0:AQ "_law_object" "_law_object" JU ["_law_term_here"]:=fun _ _ _ _ _ _ _ h=>by obtain⟨_,rfl⟩:=E8 h;rfl
theorem SN:AQ "_law_made" "_law_made" HI ["_law_size_here","_law_rows_here"]:=fun _ _ _ _ _ _ _ h=>by obtain⟨_,_,rfl⟩:=CQ h;rfl
theorem V6:AQ "_law_around" "_law_around" K7 ["_law_names","_law_values"]:=fun _ _ _ _ _ _ _ h=>by obtain⟨_,_,rfl⟩:=CQ h;rfl
theorem TQ:AQ "_law_stand" "_law_stand" Jr ["_law_spots_here","_law_around_here"]:=fun _ _ _ _ _ _ _ h=>by obtain⟨_,_,rfl⟩:=CQ h;rfl
theorem WB:AQ "_law_levels" "_law_levels" JV ["_law_row_here"]:=fun _ _ _ _ _ _ _ h=>by obtain⟨_,rfl⟩:=E8 h;rfl
theorem Sk:AQ "_law_plain" "_law_plain" JM ["_law_e"]:=fun _ _ _ _ _ _ _ h=>by obtain⟨_,rfl⟩:=E8 h;rfl
theorem U7:AQ "_law_refused" "_law_refused" K3 ["_law_program","_law_bound"]:=fun _ _ _ _ _ _ _ h=>by obtain⟨_,_,rfl⟩:=CQ h;rfl
theorem We:AQ "_law_told" "_law_told" JD ["_law_program","_law_bound","_law_many_here"]:=fun _ _ _ _ _ _ _ h=>by obtain⟨_,_,_,rfl⟩:=Eu h;rfl
theorem Ue:AQ "_law_counted" "_law_counted" Ko ["_law_rows_here"]:=fun _ _ _ _ _ _ _ h=>by obtain⟨_,rfl⟩:=E8 h;rfl
theorem RN:AQ "_law_far" "_law_far" JA ["_law_script"]:=fun _ _ _ _ _ _ _ h=>by obtain⟨_,rfl⟩:=E8 h;rfl
theorem Xt:AQ "law" "law" JC ["_law_script"]:=fun _ _ _ _ _ _ _ h=>by obtain⟨_,rfl⟩:=E8 h;rfl
theorem txt_mk {K:XJ}{h:Heap}{mg:Str->Option Value}{fa:Addr}(X:K.In h)(G:h.Ns mainGlobals mg)(hfa:mg "law"=some (.ref fa))
  {C_Term:Addr} {C_Number:Addr} {C_Value:Addr} {C_Cell:Addr} {C_Joined:Addr} {C_Deed:Addr} {C_Program:Addr} {C_Walk:Addr} {C_FurrowError:Addr} {C_NoText:Addr} {C_TooMany:Addr} {C_NoValues:Addr} {C_NoPlan:Addr} {C_NoWidth:Addr} {C_NoTurning:Addr} {C_BadPlan:Addr} {f1 f2 f3 f4 f5 f6 f7 f8 f9 f10 f11 f12 f13 f14 f15 f16 f17 f18 f19 f20 f21 f22 f23 f24 f25 f26 f27 f28 f29 f30 f31 f32 f33 f34 f35 f36 f37 f38 f39 f40 f41 f42 f43 f44 f45 f46 f47 f48:Addr} {d1 d2 d3 d4 d5 d6 d7 d8 d9 d10 d11 d12 d13 d14 d15 d16 d17 d18 d19 d20 d21 d22 d23 d24 d25 d26 d27 d28 d29 d30 d31 d32 d33 d34 d35 d36 d37 d38 d39 d40 d41 d42 d43 d44 d45 d46 d47 d48:FuncData}
  (a_Term:ClA K C_Term "Term")
  (a_Number:ClA K C_Number "Number")
  (a_Value:ClA K C_Value "Value")
  (a_Cell:ClA K C_Cell "Cell")
  (a_Joined:ClA K C_Joined "Joined")
  (a_Deed:ClA K C_Deed "Deed")
  (a_Program:ClA K C_Program "Program")
  (a_Walk:ClA K C_Walk "Walk")
  (a_FurrowError:PySem.W.nsIn K mainGlobals "FurrowError"=some (some (.ref C_FurrowError)))
  (a_NoText:PySem.W.nsIn K mainGlobals "NoText"=some (some (.ref C_NoText)))
  (a_TooMany:PySem.W.nsIn K mainGlobals "TooMany"=some (some (.ref C_TooMany)))
  (a_NoValues:PySem.W.nsIn K mainGlobals "NoValues"=some (some (.ref C_NoValues)))
  (a_NoPlan:PySem.W.nsIn K mainGlobals "NoPlan"=some (some (.ref C_NoPlan)))
  (a_NoWidth:PySem.W.nsIn K mainGlobals "NoWidth"=some (some (.ref C_NoWidth)))
  (a_NoTurning:PySem.W.nsIn K mainGlobals "NoTurning"=some (some (.ref C_NoTurning)))
  (a_BadPlan:PySem.W.nsIn K mainGlobals "BadPlan"=some (some (.ref C_BadPlan)))
  (h1:Fh K C_NoText "__init__" "NoText.__init__" Lv f1 d1)
  (h2:Fh K C_NoValues "__init__" "NoValues.__init__" LH f2 d2)
  (h3:Fh K C_Number "__init__" "Number.__init__" JS f3 d3)
  (h4:Fh K C_Value "__init__" "Value.__init__" JN f4 d4)
  (h5:Fh K C_Cell "__init__" "Cell.__init__" Je f5 d5)
  (h6:Fh K C_Joined "__init__" "Joined.__init__" Kl f6 d6)
  (h7:Fh K C_Deed "__init__" "Deed.__init__" Kf f7 d7)
  (h8:Fh K C_Program "__init__" "Program.__init__" Kr f8 d8)
  (h9:Fh K C_Walk "__init__" "Walk.__init__" Kh f9 d9)
  (h10:B3 K "placed" IS f10 d10)
  (h11:B3 K "stood_for" Kk f11 d11)
  (h12:B3 K "named" Jc f12 d12)
  (h13:B3 K "nested" JF f13 d13)
  (h14:B3 K "items_within" JL f14 d14)
  (h15:B3 K "neighbours" JE f15 d15)
  (h16:B3 K "turns" K0 f16 d16)
  (h17:B3 K "every_turn" Ka f17 d17)
  (h18:B3 K "take_room" JG f18 d18)
  (h19:B3 K "deeds_among" Ie f19 d19)
  (h20:B3 K "count_loops" Jo f20 d20)
  (h21:B3 K "count_loop" Kg f21 d21)
  (h22:B3 K "bounds_of" Jj f22 d22)
  (h23:B3 K "tell_items" Kb f23 d23)
  (h24:B3 K "tell_loop" JB f24 d24)
  (h25:B3 K "_law_cell" Ju f25 d25)
  (h26:B3 K "_law_mixed" K8 f26 d26)
  (h27:B3 K "_law_name" Jg f27 d27)
  (h28:B3 K "_law_spots" Jf f28 d28)
  (h29:B3 K "_law_cell_of" Ji f29 d29)
  (h30:B3 K "_law_leaf" JY f30 d30)
  (h31:B3 K "_law_term" J9 f31 d31)
  (h32:B3 K "_law_loop" Im f32 d32)
  (h33:B3 K "_law_row" FL f33 d33)
  (h34:B3 K "_law_heads" Kd f34 d34)
  (h35:B3 K "_law_rows" Ki f35 d35)
  (h36:B3 K "_law_many" Jh f36 d36)
  (h37:B3 K "_law_size" K4 f37 d37)
  (h38:B3 K "_law_object" JU f38 d38)
  (h39:B3 K "_law_made" HI f39 d39)
  (h40:B3 K "_law_around" K7 f40 d40)
  (h41:B3 K "_law_stand" Jr f41 d41)
  (h42:B3 K "_law_levels" JV f42 d42)
  (h43:B3 K "_law_plain" JM f43 d43)
  (h44:B3 K "_law_refused" K3 f44 d44)
  (h45:B3 K "_law_told" JD f45 d45)
  (h46:B3 K "_law_counted" Ko f46 d46)
  (h47:B3 K "_law_far" JA f47 d47)
  (h48:B3 K "law" JC f48 d48)
  (n_Number_n:PySem.W.findIn K (.ref C_Number) "n"=some none)
  (n_Value_name:PySem.W.findIn K (.ref C_Value) "name"=some none)
  (n_Cell_table:PySem.W.findIn K (.ref C_Cell) "table"=some none)
  (n_Cell_spots:PySem.W.findIn K (.ref C_Cell) "spots"=some none)
  (n_Joined_sign:PySem.W.findIn K (.ref C_Joined) "sign"=some none)
  (n_Joined_left:PySem.W.findIn K (.ref C_Joined) "left"=some none)
  (n_Joined_right:PySem.W.findIn K (.ref C_Joined) "right"=some none)
  (n_Deed_names:PySem.W.findIn K (.ref C_Deed) "names"=some none)
  (n_Deed_lows:PySem.W.findIn K (.ref C_Deed) "lows"=some none)
  (n_Deed_highs:PySem.W.findIn K (.ref C_Deed) "highs"=some none)
  (n_Deed_table:PySem.W.findIn K (.ref C_Deed) "table"=some none)
  (n_Deed_spots:PySem.W.findIn K (.ref C_Deed) "spots"=some none)
  (n_Deed_term:PySem.W.findIn K (.ref C_Deed) "term"=some none)
  (n_Deed_path:PySem.W.findIn K (.ref C_Deed) "path"=some none)
  (n_Program_size:PySem.W.findIn K (.ref C_Program) "size"=some none)
  (n_Program_deeds:PySem.W.findIn K (.ref C_Program) "deeds"=some none)
  (n_Walk_deeds:PySem.W.findIn K (.ref C_Walk) "deeds"=some none)
  (n_Walk_room:PySem.W.findIn K (.ref C_Walk) "room"=some none)
  (n_Walk_told:PySem.W.findIn K (.ref C_Walk) "told"=some none)
  (hn0:PySem.W.specialIn K (.builtin "object.__class__") "__get__"=some (some (.builtin "getset_descriptor.__get__"))) (ht0:PySem.W.takesIn K (.builtin "object.__class__")=some true)
  (xga_FurrowError:PySem.W.findIn K (.ref C_FurrowError) "__getattribute__"=some (some (.builtin "BaseException.__getattribute__"))) (xgh_FurrowError:PySem.W.findIn K (.ref C_FurrowError) "__getattr__"=some none) (xbe_FurrowError:PySem.W.mroIn K C_FurrowError (.type "BaseException")=some true) (xsa_FurrowError:PySem.W.findIn K (.ref C_FurrowError) "__setattr__"=some (some (.builtin "object.__setattr__"))) (xhd_FurrowError:PySem.W.hasDictIn K C_FurrowError=true) (qmt_FurrowError:EX.mroTail K C_FurrowError=true) (xob_FurrowError:PySem.W.mroIn K C_FurrowError (.type "object")=some true) (qct_FurrowError:EL K C_FurrowError []=true) (xca_FurrowError:PySem.W.findIn K (.ref C_FurrowError) "__class__"=some (some (.builtin "object.__class__"))) (kc_FurrowError:PySem.W.keepIn K (.ref C_FurrowError)=true)
  (xin_FurrowError:PySem.W.findIn K (.ref C_FurrowError) "__init__"=some (some (.builtin "ValueError.__init__")))
  (is_FurrowError_FurrowError:PySem.W.kitOne K (.ref C_FurrowError) (.ref C_FurrowError)=some true)
  (is_FurrowError_NoText:PySem.W.kitOne K (.ref C_FurrowError) (.ref C_NoText)=some false)
  (is_FurrowError_TooMany:PySem.W.kitOne K (.ref C_FurrowError) (.ref C_TooMany)=some false)
  (is_FurrowError_NoValues:PySem.W.kitOne K (.ref C_FurrowError) (.ref C_NoValues)=some false)
  (is_FurrowError_NoPlan:PySem.W.kitOne K (.ref C_FurrowError) (.ref C_NoPlan)=some false)
  (is_FurrowError_NoWidth:PySem.W.kitOne K (.ref C_FurrowError) (.ref C_NoWidth)=some false)
  (is_FurrowError_NoTurning:PySem.W.kitOne K (.ref C_FurrowError) (.ref C_NoTurning)=some false)
  (is_FurrowError_BadPlan:PySem.W.kitOne K (.ref C_FurrowError) (.ref C_BadPlan)=some false)
  (is_FurrowError_VE:PySem.W.kitOne K (.ref C_FurrowError) (.type "ValueError")=some true)
  (xga_NoText:PySem.W.findIn K (.ref C_NoText) "__getattribute__"=some (some (.builtin "BaseException.__getattribute__"))) (xgh_NoText:PySem.W.findIn K (.ref C_NoText) "__getattr__"=some none) (xbe_NoText:PySem.W.mroIn K C_NoText (.type "BaseException")=some true) (xsa_NoText:PySem.W.findIn K (.ref C_NoText) "__setattr__"=some (some (.builtin "object.__setattr__"))) (xhd_NoText:PySem.W.hasDictIn K C_NoText=true) (qmt_NoText:EX.mroTail K C_NoText=true) (xob_NoText:PySem.W.mroIn K C_NoText (.type "object")=some true) (qct_NoText:EL K C_NoText [C_FurrowError]=true) (xca_NoText:PySem.W.findIn K (.ref C_NoText) "__class__"=some (some (.builtin "object.__class__"))) (kc_NoText:PySem.W.keepIn K (.ref C_NoText)=true)
  (n_NoText_line:PySem.W.findIn K (.ref C_NoText) "line"=some none)
  (is_NoText_FurrowError:PySem.W.kitOne K (.ref C_NoText) (.ref C_FurrowError)=some true)
  (is_NoText_NoText:PySem.W.kitOne K (.ref C_NoText) (.ref C_NoText)=some true)
  (is_NoText_TooMany:PySem.W.kitOne K (.ref C_NoText) (.ref C_TooMany)=some false)
  (is_NoText_NoValues:PySem.W.kitOne K (.ref C_NoText) (.ref C_NoValues)=some false)
  (is_NoText_NoPlan:PySem.W.kitOne K (.ref C_NoText) (.ref C_NoPlan)=some false)
  (is_NoText_NoWidth:PySem.W.kitOne K (.ref C_NoText) (.ref C_NoWidth)=some false)
  (is_NoText_NoTurning:PySem.W.kitOne K (.ref C_NoText) (.ref C_NoTurning)=some false)
  (is_NoText_BadPlan:PySem.W.kitOne K (.ref C_NoText) (.ref C_BadPlan)=some false)
  (is_NoText_VE:PySem.W.kitOne K (.ref C_NoText) (.type "ValueError")=some true)
  (xga_TooMany:PySem.W.findIn K (.ref C_TooMany) "__getattribute__"=some (some (.builtin "BaseException.__getattribute__"))) (xgh_TooMany:PySem.W.findIn K (.ref C_TooMany) "__getattr__"=some none) (xbe_TooMany:PySem.W.mroIn K C_TooMany (.type "BaseException")=some true) (xsa_TooMany:PySem.W.findIn K (.ref C_TooMany) "__setattr__"=some (some (.builtin "object.__setattr__"))) (xhd_TooMany:PySem.W.hasDictIn K C_TooMany=true) (qmt_TooMany:EX.mroTail K C_TooMany=true) (xob_TooMany:PySem.W.mroIn K C_TooMany (.type "object")=some true) (qct_TooMany:EL K C_TooMany [C_FurrowError]=true) (xca_TooMany:PySem.W.findIn K (.ref C_TooMany) "__class__"=some (some (.builtin "object.__class__"))) (kc_TooMany:PySem.W.keepIn K (.ref C_TooMany)=true)
  (xin_TooMany:PySem.W.findIn K (.ref C_TooMany) "__init__"=some (some (.builtin "ValueError.__init__")))
  (is_TooMany_FurrowError:PySem.W.kitOne K (.ref C_TooMany) (.ref C_FurrowError)=some true)
  (is_TooMany_NoText:PySem.W.kitOne K (.ref C_TooMany) (.ref C_NoText)=some false)
  (is_TooMany_TooMany:PySem.W.kitOne K (.ref C_TooMany) (.ref C_TooMany)=some true)
  (is_TooMany_NoValues:PySem.W.kitOne K (.ref C_TooMany) (.ref C_NoValues)=some false)
  (is_TooMany_NoPlan:PySem.W.kitOne K (.ref C_TooMany) (.ref C_NoPlan)=some false)
  (is_TooMany_NoWidth:PySem.W.kitOne K (.ref C_TooMany) (.ref C_NoWidth)=some false)
  (is_TooMany_NoTurning:PySem.W.kitOne K (.ref C_TooMany) (.ref C_NoTurning)=some false)
  (is_TooMany_BadPlan:PySem.W.kitOne K (.ref C_TooMany) (.ref C_BadPlan)=some false)
  (is_TooMany_VE:PySem.W.kitOne K (.ref C_TooMany) (.type "ValueError")=some true)
  (xga_NoValues:PySem.W.findIn K (.ref C_NoValues) "__getattribute__"=some (some (.builtin "BaseException.__getattribute__"))) (xgh_NoValues:PySem.W.findIn K (.ref C_NoValues) "__getattr__"=some none) (xbe_NoValues:PySem.W.mroIn K C_NoValues (.type "BaseException")=some true) (xsa_NoValues:PySem.W.findIn K (.ref C_NoValues) "__setattr__"=some (some (.builtin "object.__setattr__"))) (xhd_NoValues:PySem.W.hasDictIn K C_NoValues=true) (qmt_NoValues:EX.mroTail K C_NoValues=true) (xob_NoValues:PySem.W.mroIn K C_NoValues (.type "object")=some true) (qct_NoValues:EL K C_NoValues [C_FurrowError]=true) (xca_NoValues:PySem.W.findIn K (.ref C_NoValues) "__class__"=some (some (.builtin "object.__class__"))) (kc_NoValues:PySem.W.keepIn K (.ref C_NoValues)=true)
  (n_NoValues_ring:PySem.W.findIn K (.ref C_NoValues) "ring"=some none)
  (is_NoValues_FurrowError:PySem.W.kitOne K (.ref C_NoValues) (.ref C_FurrowError)=some true)
  (is_NoValues_NoText:PySem.W.kitOne K (.ref C_NoValues) (.ref C_NoText)=some false)
  (is_NoValues_TooMany:PySem.W.kitOne K (.ref C_NoValues) (.ref C_TooMany)=some false)
  (is_NoValues_NoValues:PySem.W.kitOne K (.ref C_NoValues) (.ref C_NoValues)=some true)
  (is_NoValues_NoPlan:PySem.W.kitOne K (.ref C_NoValues) (.ref C_NoPlan)=some false)
  (is_NoValues_NoWidth:PySem.W.kitOne K (.ref C_NoValues) (.ref C_NoWidth)=some false)
  (is_NoValues_NoTurning:PySem.W.kitOne K (.ref C_NoValues) (.ref C_NoTurning)=some false)
  (is_NoValues_BadPlan:PySem.W.kitOne K (.ref C_NoValues) (.ref C_BadPlan)=some false)
  (is_NoValues_VE:PySem.W.kitOne K (.ref C_NoValues) (.type "ValueError")=some true)
  (xga_NoPlan:PySem.W.findIn K (.ref C_NoPlan) "__getattribute__"=some (some (.builtin "BaseException.__getattribute__"))) (xgh_NoPlan:PySem.W.findIn K (.ref C_NoPlan) "__getattr__"=some none) (xbe_NoPlan:PySem.W.mroIn K C_NoPlan (.type "BaseException")=some true) (xsa_NoPlan:PySem.W.findIn K (.ref C_NoPlan) "__setattr__"=some (some (.builtin "object.__setattr__"))) (xhd_NoPlan:PySem.W.hasDictIn K C_NoPlan=true) (qmt_NoPlan:EX.mroTail K C_NoPlan=true) (xob_NoPlan:PySem.W.mroIn K C_NoPlan (.type "object")=some true) (qct_NoPlan:EL K C_NoPlan [C_FurrowError]=true) (xca_NoPlan:PySem.W.findIn K (.ref C_NoPlan) "__class__"=some (some (.builtin "object.__class__"))) (kc_NoPlan:PySem.W.keepIn K (.ref C_NoPlan)=true)
  (xin_NoPlan:PySem.W.findIn K (.ref C_NoPlan) "__init__"=some (some (.builtin "ValueError.__init__")))
  (is_NoPlan_FurrowError:PySem.W.kitOne K (.ref C_NoPlan) (.ref C_FurrowError)=some true)
  (is_NoPlan_NoText:PySem.W.kitOne K (.ref C_NoPlan) (.ref C_NoText)=some false)
  (is_NoPlan_TooMany:PySem.W.kitOne K (.ref C_NoPlan) (.ref C_TooMany)=some false)
  (is_NoPlan_NoValues:PySem.W.kitOne K (.ref C_NoPlan) (.ref C_NoValues)=some false)
  (is_NoPlan_NoPlan:PySem.W.kitOne K (.ref C_NoPlan) (.ref C_NoPlan)=some true)
  (is_NoPlan_NoWidth:PySem.W.kitOne K (.ref C_NoPlan) (.ref C_NoWidth)=some false)
  (is_NoPlan_NoTurning:PySem.W.kitOne K (.ref C_NoPlan) (.ref C_NoTurning)=some false)
  (is_NoPlan_BadPlan:PySem.W.kitOne K (.ref C_NoPlan) (.ref C_BadPlan)=some false)
  (is_NoPlan_VE:PySem.W.kitOne K (.ref C_NoPlan) (.type "ValueError")=some true)
  (xga_NoWidth:PySem.W.findIn K (.ref C_NoWidth) "__getattribute__"=some (some (.builtin "BaseException.__getattribute__"))) (xgh_NoWidth:PySem.W.findIn K (.ref C_NoWidth) "__getattr__"=some none) (xbe_NoWidth:PySem.W.mroIn K C_NoWidth (.type "BaseException")=some true) (xsa_NoWidth:PySem.W.findIn K (.ref C_NoWidth) "__setattr__"=some (some (.builtin "object.__setattr__"))) (xhd_NoWidth:PySem.W.hasDictIn K C_NoWidth=true) (qmt_NoWidth:EX.mroTail K C_NoWidth=true) (xob_NoWidth:PySem.W.mroIn K C_NoWidth (.type "object")=some true) (qct_NoWidth:EL K C_NoWidth [C_FurrowError]=true) (xca_NoWidth:PySem.W.findIn K (.ref C_NoWidth) "__class__"=some (some (.builtin "object.__class__"))) (kc_NoWidth:PySem.W.keepIn K (.ref C_NoWidth)=true)
  (xin_NoWidth:PySem.W.findIn K (.ref C_NoWidth) "__init__"=some (some (.builtin "ValueError.__init__")))
  (is_NoWidth_FurrowError:PySem.W.kitOne K (.ref C_NoWidth) (.ref C_FurrowError)=some true)
  (is_NoWidth_NoText:PySem.W.kitOne K (.ref C_NoWidth) (.ref C_NoText)=some false)
  (is_NoWidth_TooMany:PySem.W.kitOne K (.ref C_NoWidth) (.ref C_TooMany)=some false)
  (is_NoWidth_NoValues:PySem.W.kitOne K (.ref C_NoWidth) (.ref C_NoValues)=some false)
  (is_NoWidth_NoPlan:PySem.W.kitOne K (.ref C_NoWidth) (.ref C_NoPlan)=some false)
  (is_NoWidth_NoWidth:PySem.W.kitOne K (.ref C_NoWidth) (.ref C_NoWidth)=some true)
  (is_NoWidth_NoTurning:PySem.W.kitOne K (.ref C_NoWidth) (.ref C_NoTurning)=some false)
  (is_NoWidth_BadPlan:PySem.W.kitOne K (.ref C_NoWidth) (.ref C_BadPlan)=some false)
  (is_NoWidth_VE:PySem.W.kitOne K (.ref C_NoWidth) (.type "ValueError")=some true)
  (xga_NoTurning:PySem.W.findIn K (.ref C_NoTurning) "__getattribute__"=some (some (.builtin "BaseException.__getattribute__"))) (xgh_NoTurning:PySem.W.findIn K (.ref C_NoTurning) "__getattr__"=some none) (xbe_NoTurning:PySem.W.mroIn K C_NoTurning (.type "BaseException")=some true) (xsa_NoTurning:PySem.W.findIn K (.ref C_NoTurning) "__setattr__"=some (some (.builtin "object.__setattr__"))) (xhd_NoTurning:PySem.W.hasDictIn K C_NoTurning=true) (qmt_NoTurning:EX.mroTail K C_NoTurning=true) (xob_NoTurning:PySem.W.mroIn K C_NoTurning (.type "object")=some true) (qct_NoTurning:EL K C_NoTurning [C_FurrowError]=true) (xca_NoTurning:PySem.W.findIn K (.ref C_NoTurning) "__class__"=some (some (.builtin "object.__class__"))) (kc_NoTurning:PySem.W.keepIn K (.ref C_NoTurning)=true)
  (xin_NoTurning:PySem.W.findIn K (.ref C_NoTurning) "__init__"=some (some (.builtin "ValueError.__init__")))
  (is_NoTurning_FurrowError:PySem.W.kitOne K (.ref C_NoTurning) (.ref C_FurrowError)=some true)
  (is_NoTurning_NoText:PySem.W.kitOne K (.ref C_NoTurning) (.ref C_NoText)=some false)
  (is_NoTurning_TooMany:PySem.W.kitOne K (.ref C_NoTurning) (.ref C_TooMany)=some false)
  (is_NoTurning_NoValues:PySem.W.kitOne K (.ref C_NoTurning) (.ref C_NoValues)=some false)
  (is_NoTurning_NoPlan:PySem.W.kitOne K (.ref C_NoTurning) (.ref C_NoPlan)=some false)
  (is_NoTurning_NoWidth:PySem.W.kitOne K (.ref C_NoTurning) (.ref C_NoWidth)=some false)
  (is_NoTurning_NoTurning:PySem.W.kitOne K (.ref C_NoTurning) (.ref C_NoTurning)=some true)
  (is_NoTurning_BadPlan:PySem.W.kitOne K (.ref C_NoTurning) (.ref C_BadPlan)=some false)
  (is_NoTurning_VE:PySem.W.kitOne K (.ref C_NoTurning) (.type "ValueError")=some true)
  (xga_BadPlan:PySem.W.findIn K (.ref C_BadPlan) "__getattribute__"=some (some (.builtin "BaseException.__getattribute__"))) (xgh_BadPlan:PySem.W.findIn K (.ref C_BadPlan) "__getattr__"=some none) (xbe_BadPlan:PySem.W.mroIn K C_BadPlan (.type "BaseException")=some true) (xsa_BadPlan:PySem.W.findIn K (.ref C_BadPlan) "__setattr__"=some (some (.builtin "object.__setattr__"))) (xhd_BadPlan:PySem.W.hasDictIn K C_BadPlan=true) (qmt_BadPlan:EX.mroTail K C_BadPlan=true) (xob_BadPlan:PySem.W.mroIn K C_BadPlan (.type "object")=some true) (qct_BadPlan:EL K C_BadPlan [C_FurrowError]=true) (xca_BadPlan:PySem.W.findIn K (.ref C_BadPlan) "__class__"=some (some (.builtin "object.__class__"))) (kc_BadPlan:PySem.W.keepIn K (.ref C_BadPlan)=true)
  (xin_BadPlan:PySem.W.findIn K (.ref C_BadPlan) "__init__"=some (some (.builtin "ValueError.__init__")))
  (is_BadPlan_FurrowError:PySem.W.kitOne K (.ref C_BadPlan) (.ref C_FurrowError)=some true)
  (is_BadPlan_NoText:PySem.W.kitOne K (.ref C_BadPlan) (.ref C_NoText)=some false)
  (is_BadPlan_TooMany:PySem.W.kitOne K (.ref C_BadPlan) (.ref C_TooMany)=some false)
  (is_BadPlan_NoValues:PySem.W.kitOne K (.ref C_BadPlan) (.ref C_NoValues)=some false)
  (is_BadPlan_NoPlan:PySem.W.kitOne K (.ref C_BadPlan) (.ref C_NoPlan)=some false)
  (is_BadPlan_NoWidth:PySem.W.kitOne K (.ref C_BadPlan) (.ref C_NoWidth)=some false)
  (is_BadPlan_NoTurning:PySem.W.kitOne K (.ref C_BadPlan) (.ref C_NoTurning)=some false)
  (is_BadPlan_BadPlan:PySem.W.kitOne K (.ref C_BadPlan) (.ref C_BadPlan)=some true)
  (is_BadPlan_VE:PySem.W.kitOne K (.ref C_BadPlan) (.type "ValueError")=some true)
  (dnd:([C_FurrowError,C_NoText,C_TooMany,C_NoValues,C_NoPlan,C_NoWidth,C_NoTurning,C_BadPlan]:List Addr).Nodup)
  (xbg:PySem.W.specialIn K (.ref C_FurrowError) "__getattribute__"=some (some (.builtin "type.__getattribute__"))) (xbr:PySem.W.readsIn K C_FurrowError (.type "type")=true) (xbf:PySem.W.findCls K (.ref C_FurrowError) (.type "type") "__init__"=some (.val (.builtin "ValueError.__init__")))
  (z_ValueError:PySem.W.nsIn K mainGlobals "ValueError"=some none)
  (z_dict:PySem.W.nsIn K mainGlobals "dict"=some none)
  (z_isinstance:PySem.W.nsIn K mainGlobals "isinstance"=some none)
  (z_len:PySem.W.nsIn K mainGlobals "len"=some none)
  (z_list:PySem.W.nsIn K mainGlobals "list"=some none)
  (z_max:PySem.W.nsIn K mainGlobals "max"=some none)
  (z_min:PySem.W.nsIn K mainGlobals "min"=some none)
  (z_range:PySem.W.nsIn K mainGlobals "range"=some none)
  (z_sum:PySem.W.nsIn K mainGlobals "sum"=some none)
  (z_tuple:PySem.W.nsIn K mainGlobals "tuple"=some none)
  (z_zip:PySem.W.nsIn K mainGlobals "zip"=some none) :
  ∃a:Ad,Tx K mg a/\fa=a.f_M/\(∀(s:Shared) (v:Value),BindsTo s a.d_M ⟨[v],[]⟩ [("_law_script",v)]):=by
 have e:=hfa.symm.trans (AH X G h48.a)
 cases e
 obtain⟨_,_,_,_,_,_,_,_,_,rfl,_⟩:=h48.F.ex
 exact⟨⟨f1,d1,f2,d2,f3,d3,f4,d4,f5,d5,f6,d6,f7,d7,f8,d8,f9,d9,f10,d10,f11,d11,f12,d12,f13,d13,f14,d14,f15,d15,f16,d16,f17,d17,f18,d18,f19,d19,f20,d20,f21,d21,f22,d22,f23,d23,f24,d24,f25,d25,f26,d26,f27,d27,f28,d28,f29,d29,f30,d30,f31,d31,f32,d32,f33,d33,f34,d34,f35,d35,f36,d36,f37,d37,f38,d38,f39,d39,f40,d40,f41,d41,f42,d42,f43,d43,f44,d44,f45,d45,f46,d46,f47,d47,fa,_,C_Term,C_Number,C_Value,C_Cell,C_Joined,C_Deed,C_Program,C_Walk,C_FurrowError,C_NoText,C_TooMany,C_NoValues,C_NoPlan,C_NoWidth,C_NoTurning,C_BadPlan⟩,⟨h1.F,
  h1.F.binds UW,
  h2.F,
  h2.F.binds VF,
  h3.F,
  h3.F.binds Wo,
  h4.F,
  h4.F.binds UZ,
  h5.F,
  h5.F.binds Vw,
  h6.F,
  h6.F.binds W7,
  h7.F,
  h7.F.binds Tp,
  h8.F,
  h8.F.binds Rr,
  h9.F,
  h9.F.binds Ud,
  h10.F,
  h10.F.binds Vi,
  AH X G h10.a,
  h11.F,
  h11.F.binds T7,
  AH X G h11.a,
  h12.F,
  h12.F.binds W5,
  AH X G h12.a,
  h13.F,
  h13.F.binds UQ,
  AH X G h13.a,
  h14.F,
  h14.F.binds RU,
  AH X G h14.a,
  h15.F,
  h15.F.binds QQ,
  AH X G h15.a,
  h16.F,
  h16.F.binds Xg,
  AH X G h16.a,
  h17.F,
  h17.F.binds SI,
  AH X G h17.a,
  h18.F,
  h18.F.binds Wd,
  AH X G h18.a,
  h19.F,
  h19.F.binds Xj,
  AH X G h19.a,
  h20.F,
  h20.F.binds T6,
  AH X G h20.a,
  h21.F,
  h21.F.binds SS,
  AH X G h21.a,
  h22.F,
  h22.F.binds S4,
  AH X G h22.a,
  h23.F,
  h23.F.binds SV,
  AH X G h23.a,
  h24.F,
  h24.F.binds Ru,
  AH X G h24.a,
  h25.F,
  h25.F.binds Qt,
  AH X G h25.a,
  h26.F,
  h26.F.binds Xk,
  AH X G h26.a,
  h27.F,
  h27.F.binds WT,
  AH X G h27.a,
  h28.F,
  h28.F.binds Q2,
  AH X G h28.a,
  h29.F,
  h29.F.binds Xi,
  AH X G h29.a,
  h30.F,
  h30.F.binds SQ,
  AH X G h30.a,
  h31.F,
  h31.F.binds T5,
  AH X G h31.a,
  h32.F,
  h32.F.binds Qc,
  AH X G h32.a,
  h33.F,
  h33.F.binds UX,
  AH X G h33.a,
  h34.F,
  h34.F.binds Xh,
  AH X G h34.a,
  h35.F,
  h35.F.binds UV,
  AH X G h35.a,
  h36.F,
  h36.F.binds Xo,
  AH X G h36.a,
  h37.F,
  h37.F.binds SE,
  AH X G h37.a,
  h38.F,
  h38.F.binds U0,
  AH X G h38.a,
  h39.F,
  h39.F.binds SN,
  AH X G h39.a,
  h40.F,
  h40.F.binds V6,
  AH X G h40.a,
  h41.F,
  h41.F.binds TQ,
  AH X G h41.a,
  h42.F,
  h42.F.binds WB,
  AH X G h42.a,
  h43.F,
  h43.F.binds Sk,
  AH X G h43.a,
  h44.F,
  h44.F.binds U7,
  AH X G h44.a,
  h45.F,
  h45.F.binds We,
  AH X G h45.a,
  h46.F,
  h46.F.binds Ue,
  AH X G h46.a,
  h47.F,
  h47.F.binds RN,
  AH X G h47.a,
  h48.F,
  h48.F.binds Xt,
  AH X G h48.a,
  ⟨a_Term.pg,a_Term.hd,a_Term.po,a_Term.sa⟩,
  AH X G a_Term.a,
  ⟨a_Number.pg,a_Number.hd,a_Number.po,a_Number.sa⟩,
  AH X G a_Number.a,
  ⟨a_Number.mi,h3.a,h3.i,a_Number.kc⟩,
  n_Number_n,
  ⟨a_Value.pg,a_Value.hd,a_Value.po,a_Value.sa⟩,
  AH X G a_Value.a,
  ⟨a_Value.mi,h4.a,h4.i,a_Value.kc⟩,
  n_Value_name,
  ⟨a_Cell.pg,a_Cell.hd,a_Cell.po,a_Cell.sa⟩,
  AH X G a_Cell.a,
  ⟨a_Cell.mi,h5.a,h5.i,a_Cell.kc⟩,
  n_Cell_table,
  n_Cell_spots,
  ⟨a_Joined.pg,a_Joined.hd,a_Joined.po,a_Joined.sa⟩,
  AH X G a_Joined.a,
  ⟨a_Joined.mi,h6.a,h6.i,a_Joined.kc⟩,
  n_Joined_sign,
  n_Joined_left,
  n_Joined_right,
  ⟨a_Deed.pg,a_Deed.hd,a_Deed.po,a_Deed.sa⟩,
  AH X G a_Deed.a,
  ⟨a_Deed.mi,h7.a,h7.i,a_Deed.kc⟩,
  n_Deed_names,
  n_Deed_lows,
  n_Deed_highs,
  n_Deed_table,
  n_Deed_spots,
  n_Deed_term,
  n_Deed_path,
  ⟨a_Program.pg,a_Program.hd,a_Program.po,a_Program.sa⟩,
  AH X G a_Program.a,
  ⟨a_Program.mi,h8.a,h8.i,a_Program.kc⟩,
  n_Program_size,
  n_Program_deeds,
  ⟨a_Walk.pg,a_Walk.hd,a_Walk.po,a_Walk.sa⟩,
  AH X G a_Walk.a,
  ⟨a_Walk.mi,h9.a,h9.i,a_Walk.kc⟩,
  n_Walk_deeds,
  n_Walk_room,
  n_Walk_told,
  AH X G a_FurrowError,
  ⟨⟨xga_FurrowError,xgh_FurrowError,xbe_FurrowError,xsa_FurrowError,xhd_FurrowError,qmt_FurrowError,xob_FurrowError,(C0 qct_FurrowError).elim fun N z=>⟨N,_,z⟩⟩,xca_FurrowError,hn0,ht0⟩,
  C0 qct_FurrowError,
  ⟨⟨xga_FurrowError,xgh_FurrowError,xbe_FurrowError,xsa_FurrowError,xhd_FurrowError,qmt_FurrowError,xob_FurrowError,(C0 qct_FurrowError).elim fun N z=>⟨N,_,z⟩⟩,xin_FurrowError,kc_FurrowError⟩,
  is_FurrowError_FurrowError,
  is_FurrowError_NoText,
  is_FurrowError_TooMany,
  is_FurrowError_NoValues,
  is_FurrowError_NoPlan,
  is_FurrowError_NoWidth,
  is_FurrowError_NoTurning,
  is_FurrowError_BadPlan,
  is_FurrowError_VE,
  AH X G a_NoText,
  ⟨⟨xga_NoText,xgh_NoText,xbe_NoText,xsa_NoText,xhd_NoText,qmt_NoText,xob_NoText,(C0 qct_NoText).elim fun N z=>⟨N,_,z⟩⟩,xca_NoText,hn0,ht0⟩,
  C0 qct_NoText,
  ⟨⟨xga_NoText,xgh_NoText,xbe_NoText,xsa_NoText,xhd_NoText,qmt_NoText,xob_NoText,(C0 qct_NoText).elim fun N z=>⟨N,_,z⟩⟩,h1.a,h1.i,kc_NoText⟩,
  n_NoText_line,
  is_NoText_FurrowError,
  is_NoText_NoText,
  is_NoText_TooMany,
  is_NoText_NoValues,
  is_NoText_NoPlan,
  is_NoText_NoWidth,
  is_NoText_NoTurning,
  is_NoText_BadPlan,
  is_NoText_VE,
  AH X G a_TooMany,
  ⟨⟨xga_TooMany,xgh_TooMany,xbe_TooMany,xsa_TooMany,xhd_TooMany,qmt_TooMany,xob_TooMany,(C0 qct_TooMany).elim fun N z=>⟨N,_,z⟩⟩,xca_TooMany,hn0,ht0⟩,
  C0 qct_TooMany,
  ⟨⟨xga_TooMany,xgh_TooMany,xbe_TooMany,xsa_TooMany,xhd_TooMany,qmt_TooMany,xob_TooMany,(C0 qct_TooMany).elim fun N z=>⟨N,_,z⟩⟩,xin_TooMany,kc_TooMany⟩,
  is_TooMany_FurrowError,
  is_TooMany_NoText,
  is_TooMany_TooMany,
  is_TooMany_NoValues,
  is_TooMany_NoPlan,
  is_TooMany_NoWidth,
  is_TooMany_NoTurning,
  is_TooMany_BadPlan,
  is_TooMany_VE,
  AH X G a_NoValues,
  ⟨⟨xga_NoValues,xgh_NoValues,xbe_NoValues,xsa_NoValues,xhd_NoValues,qmt_NoValues,xob_NoValues,(C0 qct_NoValues).elim fun N z=>⟨N,_,z⟩⟩,xca_NoValues,hn0,ht0⟩,
  C0 qct_NoValues,
  ⟨⟨xga_NoValues,xgh_NoValues,xbe_NoValues,xsa_NoValues,xhd_NoValues,qmt_NoValues,xob_NoValues,(C0 qct_NoValues).elim fun N z=>⟨N,_,z⟩⟩,h2.a,h2.i,kc_NoValues⟩,
  n_NoValues_ring,
  is_NoValues_FurrowError,
  is_NoValues_NoText,
  is_NoValues_TooMany,
  is_NoValues_NoValues,
  is_NoValues_NoPlan,
  is_NoValues_NoWidth,
  is_NoValues_NoTurning,
  is_NoValues_BadPlan,
  is_NoValues_VE,
  AH X G a_NoPlan,
  ⟨⟨xga_NoPlan,xgh_NoPlan,xbe_NoPlan,xsa_NoPlan,xhd_NoPlan,qmt_NoPlan,xob_NoPlan,(C0 qct_NoPlan).elim fun N z=>⟨N,_,z⟩⟩,xca_NoPlan,hn0,ht0⟩,
  C0 qct_NoPlan,
  ⟨⟨xga_NoPlan,xgh_NoPlan,xbe_NoPlan,xsa_NoPlan,xhd_NoPlan,qmt_NoPlan,xob_NoPlan,(C0 qct_NoPlan).elim fun N z=>⟨N,_,z⟩⟩,xin_NoPlan,kc_NoPlan⟩,
  is_NoPlan_FurrowError,
  is_NoPlan_NoText,
  is_NoPlan_TooMany,
  is_NoPlan_NoValues,
  is_NoPlan_NoPlan,
  is_NoPlan_NoWidth,
  is_NoPlan_NoTurning,
  is_NoPlan_BadPlan,
  is_NoPlan_VE,
  AH X G a_NoWidth,
  ⟨⟨xga_NoWidth,xgh_NoWidth,xbe_NoWidth,xsa_NoWidth,xhd_NoWidth,qmt_NoWidth,xob_NoWidth,(C0 qct_NoWidth).elim fun N z=>⟨N,_,z⟩⟩,xca_NoWidth,hn0,ht0⟩,
  C0 qct_NoWidth,
  ⟨⟨xga_NoWidth,xgh_NoWidth,xbe_NoWidth,xsa_NoWidth,xhd_NoWidth,qmt_NoWidth,xob_NoWidth,(C0 qct_NoWidth).elim fun N z=>⟨N,_,z⟩⟩,xin_NoWidth,kc_NoWidth⟩,
  is_NoWidth_FurrowError,
  is_NoWidth_NoText,
  is_NoWidth_TooMany,
  is_NoWidth_NoValues,
  is_NoWidth_NoPlan,
  is_NoWidth_NoWidth,
  is_NoWidth_NoTurning,
  is_NoWidth_BadPlan,
  is_NoWidth_VE,
  AH X G a_NoTurning,
  ⟨⟨xga_NoTurning,xgh_NoTurning,xbe_NoTurning,xsa_NoTurning,xhd_NoTurning,qmt_NoTurning,xob_NoTurning,(C0 qct_NoTurning).elim fun N z=>⟨N,_,z⟩⟩,xca_NoTurning,hn0,ht0⟩,
  C0 qct_NoTurning,
  ⟨⟨xga_NoTurning,xgh_NoTurning,xbe_NoTurning,xsa_NoTurning,xhd_NoTurning,qmt_NoTurning,xob_NoTurning,(C0 qct_NoTurning).elim fun N z=>⟨N,_,z⟩⟩,xin_NoTurning,kc_NoTurning⟩,
  is_NoTurning_FurrowError,
  is_NoTurning_NoText,
  is_NoTurning_TooMany,
  is_NoTurning_NoValues,
  is_NoTurning_NoPlan,
  is_NoTurning_NoWidth,
  is_NoTurning_NoTurning,
  is_NoTurning_BadPlan,
  is_NoTurning_VE,
  AH X G a_BadPlan,
  ⟨⟨xga_BadPlan,xgh_BadPlan,xbe_BadPlan,xsa_BadPlan,xhd_BadPlan,qmt_BadPlan,xob_BadPlan,(C0 qct_BadPlan).elim fun N z=>⟨N,_,z⟩⟩,xca_BadPlan,hn0,ht0⟩,
  C0 qct_BadPlan,
  ⟨⟨xga_BadPlan,xgh_BadPlan,xbe_BadPlan,xsa_BadPlan,xhd_BadPlan,qmt_BadPlan,xob_BadPlan,(C0 qct_BadPlan).elim fun N z=>⟨N,_,z⟩⟩,xin_BadPlan,kc_BadPlan⟩,
  is_BadPlan_FurrowError,
  is_BadPlan_NoText,
  is_BadPlan_TooMany,
  is_BadPlan_NoValues,
  is_BadPlan_NoPlan,
  is_BadPlan_NoWidth,
  is_BadPlan_NoTurning,
  is_BadPlan_BadPlan,
  is_BadPlan_VE,
  dnd,
  ⟨xbg,xbr,xbf⟩,
  EW X G z_ValueError,
  EW X G z_dict,
  EW X G z_isinstance,
  EW X G z_len,
  EW X G z_list,
  EW X G z_max,
  EW X G z_min,
  EW X G z_range,
  EW X G z_sum,
  EW X G z_tuple,
  EW X G z_zip⟩,rfl,fun s v=>.of_eq rfl⟩
end Fw
open PySem PySem.W PyProof.Rows
namespace PySem.W.Fast
def tw10017610889339863065:=True
def tw10031555261214248564:=True
def tw10040410924476009824:=True
def tw10071071926256866361:=True
def tw10101442451805606794:=True
def tw10114297923365706843:=True
def tw10141760431665741549:=True
def tw10145023824401971601:=True
def tw10151302262201274212:=True
def tw10180114915339223384:=True
def tw10255617025017407118:=True
def tw10270694554470527492:=True
def tw10319363894809615793:=True
def tw10400221385870232659:=True
def tw1041668819336017301:=True
def tw10449299126035531757:=True
def tw10485167152719281905:=True
def tw10523314606156640635:=True
def tw10539887757992934723:=True
def tw1055019566915398905:=True
def tw10582614755639998330:=True
def tw10590478346958368628:=True
def tw10621518103723294148:=True
def tw10656482493523598230:=True
def tw10682654488920214671:=True
def tw106962461946932308:=True
def tw10707757517144512417:=True
def tw10740683190347569766:=True
def tw10742267042009740752:=True
def tw10784037196321152221:=True
def tw10863859152716758340:=True
def tw10885248223712899564:=True
def tw10922360640566143913:=True
def tw10956754494978667287:=True
def tw10957181198916022352:=True
def tw10975067544822497791:=True
def tw10995268756129709000:=True
def tw11030217151048239471:=True
def tw11050805490698668148:=True
def tw11066714757576078363:=True
def tw11097504824031130444:=True
def tw11130597195704302780:=True
def tw11182194431564088047:=True
def tw11254154378113648409:=True
def tw11278658635211985075:=True
def tw11332170721714555195:=True
def tw11392330225464476754:=True
def tw1143985372481357000:=True
def tw11497785933388143858:=True
def tw11528942165354313463:=True
def tw11531345737592067241:=True
def tw11535421895458553863:=True
def tw11544493648336264248:=True
def tw11620066993267731902:=True
def tw11689822494593150227:=True
def tw11730998731471105369:=True
def tw11750212119364508443:=True
def tw11755019969841062714:=True
def tw11825594109161522791:=True
def tw11837819582304996332:=True
def tw11868079571352412318:=True
def tw11879239781281218664:=True
def tw11879241281059005984:=True
def tw11905391364445182185:=True
def tw1193828935083077574:=True
def tw11938627113925246690:=True
def tw11943945308445479295:=True
def tw11978293457524352390:=True
def tw11978531883267494241:=True
def tw11995052867863570044:=True
def tw12034360327302043279:=True
def tw12061369094099902832:=True
def tw12069332974993161425:=True
def tw12080837199669362471:=True
def tw12118797936625074331:=True
def tw1212222180400885705:=True
def tw12141813928903501615:=True
def tw12164461128529580773:=True
def tw1216733319326003881:=True
def tw12220016091426478052:=True
def tw12243464352142521460:=True
def tw12247238331559970449:=True
def tw12248218659362200850:=True
def tw12278804941286006185:=True
def tw12282745357307180782:=True
def tw12283527803311058347:=True
def tw12311284802971400356:=True
def tw12337351769113854777:=True
def tw12356584247754893041:=True
def tw1236344719684340096:=True
def tw12378283125810834167:=True
def tw12392960997603180084:=True
def tw12481820975816731070:=True
def tw12509324150677424298:=True
def tw12510500026087092573:=True
def tw12526331390672605598:=True
def tw1255599250732579695:=True
def tw12568486574419552346:=True
def tw12609280969487616783:=True
def tw12624156339416876609:=True
def tw12662260956918374764:=True
def tw1269587428796525183:=True
def tw12721604039033247255:=True
def tw1272556535034493105:=True
def tw12744402931174862130:=True
def tw12760109254266933555:=True
def tw12785554598352397322:=True
def tw12873587880667155085:=True
def tw12905730649611137959:=True
def tw12950391010064143558:=True
def tw12981939344435006713:=True
def tw12983362485596318137:=True
def tw12988462247306556043:=True
def tw13041584435794695028:=True
def tw13059663213450953652:=True
def tw1309498136954159296:=True
def tw13100671851207732970:=True
def tw13152940355469851676:=True
def tw13153526988211451902:=True
def tw1319600159851619397:=True
def tw13245241071478735155:=True
def tw13264283795349278309:=True
def tw13273020946695601701:=True
def tw13273929912380228323:=True
def tw13294102863462815876:=True
def tw13296253692565052083:=True
def tw13298648811024315472:=True
def tw13366899722767969725:=True
def tw13402533372908388202:=True
def tw13444884570627834685:=True
def tw13453077357622393248:=True
def tw13464481573285636022:=True
def tw1353378216383515478:=True
def tw13552169299650257224:=True
def tw13565193568736371474:=True
def tw1356920685807448005:=True
def tw13585082711341165888:=True
def tw1362096560513083329:=True
def tw13625401563589626440:=True
def tw13657036995296762105:=True
def tw13677576137885001799:=True
def tw13697003953631541131:=True
def tw13733284453075121144:=True
def tw13736964703949929868:=True
def tw13825476142107722562:=True
def tw13833525661960083093:=True
def tw13844180304755296072:=True
def tw13856629288920290513:=True
def tw13872981269323804939:=True
def tw13919120099595155941:=True
def tw13924853601413414546:=True
def tw13952109692717006718:=True
def tw13954800048685172106:=True
def tw13964938955227211099:=True
def tw13969830789646878838:=True
def tw1406839492407954326:=True
def tw14097646462867190764:=True
def tw14106839848196159555:=True
def tw14107948459121853585:=True
def tw14132631251838627862:=True
def tw14154381514556363984:=True
def tw14206611186810535746:=True
def tw14265894682818023270:=True
def tw14312115143495291701:=True
def tw14406877072904067802:=True
def tw14410994365575773247:=True
def tw14487370924462051486:=True
def tw14520975415544198172:=True
def tw14525883159761513497:=True
def tw14559523153755785335:=True
def tw14572184353284265814:=True
def tw14574917823050387836:=True
def tw14576660874906862954:=True
def tw14616502692332621871:=True
def tw1462125803517016190:=True
def tw14624237353070818318:=True
def tw14631067860875998068:=True
def tw14665430414104420368:=True
def tw14667994816672976312:=True
def tw14674265793157382940:=True
def tw1470430420486343733:=True
def tw14729649174514397657:=True
def tw14732452174032820092:=True
def tw14751841841755611661:=True
def tw1481671116580910444:=True
def tw14817414410428916159:=True
def tw14833530874853692239:=True
def tw14866131782461287834:=True
def tw1487610170672629212:=True
def tw14882732144548240101:=True
def tw14937106396902996526:=True
def tw14955466024029684349:=True
def tw14956936421442376748:=True
def tw1498076821422530722:=True
def tw15030628981412097182:=True
def tw15111972504438558902:=True
def tw15165119046774484655:=True
def tw15166666112223588938:=True
def tw15230148645597222258:=True
def tw15304676739635289559:=True
def tw15321539415351098040:=True
def tw15425572372195734368:=True
def tw15448523101740189403:=True
def tw15506821625119069043:=True
def tw15509587005815314918:=True
def tw15537126560516283194:=True
def tw15621037914316393101:=True
def tw15643874505016724702:=True
def tw15700332761315663855:=True
def tw15710203103425785768:=True
def tw15791330437097814824:=True
def tw15810610425812241374:=True
def tw15835745885173729211:=True
def tw15888096764388519119:=True
def tw1588903065921693888:=True
def tw15893994041523261091:=True
def tw15896866188251035167:=True
def tw15996573937539089621:=True
def tw15996824824113149517:=True
def tw16017248380847599286:=True
def tw16018156563513931428:=True
def tw16062650455392291154:=True
def tw160860687042365540:=True
def tw16094245509330057735:=True
def tw16119009306697943588:=True
def tw16151412758703447666:=True
def tw16171138687827892249:=True
def tw16192903398216182910:=True
def tw16212305390131578948:=True
def tw1623100759150248073:=True
def tw16409165731317772157:=True
def tw16409699936477755600:=True
def tw16428958875407657284:=True
def tw16455414771728239156:=True
def tw16468171321012109254:=True
def tw16484999267038168254:=True
def tw16501061908127839799:=True
def tw16530513925853351167:=True
def tw16537189632971670579:=True
def tw16568709077759632594:=True
def tw16636611719835749007:=True
def tw1664652187795987017:=True
def tw16649520880936913572:=True
def tw16673598222363662852:=True
def tw1675980364113032836:=True
def tw16789846007765137242:=True
def tw16816583540276332263:=True
def tw16839519375159521158:=True
def tw16845327124297391992:=True
def tw1685209479536933604:=True
def tw16866670876316529334:=True
def tw16888443052492439111:=True
def tw16939657607319868884:=True
def tw16950717255121879992:=True
def tw1697091089182769917:=True
def tw16972117976374491731:=True
def tw16991762361535397574:=True
def tw1700665461738273829:=True
def tw1700852704862668415:=True
def tw17017132783538576311:=True
def tw1703222855779646104:=True
def tw17049563861461647899:=True
def tw17056625040532711817:=True
def tw17070796682031185012:=True
def tw17080535511235286351:=True
def tw17124755433382949686:=True
def tw17132015413182657336:=True
def tw17151021210063867800:=True
def tw17155798948392664851:=True
def tw17176040750011495168:=True
def tw17195834226147120214:=True
def tw17232549082179585499:=True
def tw17262200821861892007:=True
def tw17265779709417809677:=True
def tw17308124844255366334:=True
def tw17345170604076031756:=True
def tw17407713126647012400:=True
def tw17466704899073931714:=True
def tw1748818117611898867:=True
def tw17504573544001677189:=True
def tw17514489073716343613:=True
def tw17526187511136354571:=True
def tw17607905812046950641:=True
def tw17650830008879113033:=True
def tw17656864377905465378:=True
def tw1765880270915496037:=True
def tw17697756114018373744:=True
def tw17698571147737553209:=True
def tw17737250055551146137:=True
def tw17757192035060339772:=True
def tw17839642371013732310:=True
def tw17844916626055012903:=True
def tw17930334455519332414:=True
def tw17977830415426394950:=True
def tw17979053483617326751:=True
def tw17980774016391744037:=True
def tw18023447905480707203:=True
def tw18110137010480823088:=True
def tw18129459732937156244:=True
def tw18181668968115061754:=True
def tw18187941700110313126:=True
def tw18192429084146105326:=True
def tw18215891726936390436:=True
def tw18226272402438659320:=True
def tw18235821333334204135:=True
def tw18253078935710929261:=True
def tw1826903390435119339:=True
def tw18340201920581065983:=True
def tw18340501124700253786:=True
def tw1837049694311108202:=True
def tw18415731848104533210:=True
def tw18418808818609954271:=True
def tw18420540277481514611:=True
def tw1843929308879716653:=True
def tw1846080641842295370:=True
def tw1874491560140582961:=True
def tw187997382981132417:=True
def tw1899801820502235027:=True
def tw1908279525466917245:=True
def tw1947102633210944387:=True
def tw1959411855790708744:=True
def tw1968659213779586852:=True
def tw2085245818132601601:=True
def tw2089471214684794129:=True
def tw2183778415659520086:=True
def tw2231379900633774545:=True
def tw2234265283542295757:=True
def tw2299542321301846604:=True
def tw2299550899559781996:=True
def tw230664211912395362:=True
def tw2323807584127424987:=True
def tw2325452363205778359:=True
def tw2416867323840713454:=True
def tw2428851340666343441:=True
def tw2482327132704142851:=True
def tw2509214849182406772:=True
def tw2523782836574612258:=True
def tw2548684749977984849:=True
def tw2605159925953542331:=True
def tw2607981318450605177:=True
def tw2648545957368810121:=True
def tw2664185830821116346:=True
def tw2666057188843831508:=True
def tw2677273347069762133:=True
def tw2747496127697710988:=True
def tw2751139942107285032:=True
def tw2758621887642536808:=True
def tw2762541304346362101:=True
def tw2783069441694348321:=True
def tw2856016155983787602:=True
def tw2880339106957518986:=True
def tw290614528966249080:=True
def tw2958052733065661319:=True
def tw2983761681818815887:=True
def tw3050453662689169496:=True
def tw3064676093718904323:=True
def tw3140449403416092037:=True
def tw3181703507068176348:=True
def tw3219162097613819578:=True
def tw3248938019084189401:=True
def tw330076262771227751:=True
def tw3302505394297678277:=True
def tw3318990027658670842:=True
def tw3342740839365907888:=True
def tw3390491049188901123:=True
def tw3390773277442513369:=True
def tw3481960152156339402:=True
def tw3483271743317547692:=True
def tw3556265006495923537:=True
def tw3586225244799961498:=True
def tw3588230216354933608:=True
def tw3651594258482633256:=True
def tw3652533092073693241:=True
def tw3661974706329435754:=True
def tw3680577797093224252:=True
def tw3717345740089760267:=True
def tw3737251393730825130:=True
def tw3763405725291516258:=True
def tw3777889810677335586:=True
def tw3789910237368302463:=True
def tw3886492707948458274:=True
def tw3901456519508484721:=True
def tw3933117461062566016:=True
def tw3940205795498071728:=True
def tw3943803345247852934:=True
def tw3979780405681437542:=True
def tw399711879479393404:=True
def tw4019851489762165945:=True
def tw4063528583917077755:=True
def tw4074221469185657390:=True
def tw4098243710128099993:=True
def tw4104808886023502985:=True
def tw4117927305645439005:=True
def tw4125937930134986180:=True
def tw4128448437856423569:=True
def tw416444189760895295:=True
def tw4201547600159703065:=True
def tw4260461366908960036:=True
def tw4269452447956380929:=True
def tw4299115056622283848:=True
def tw4337465976248919252:=True
def tw4385874901349412449:=True
def tw4441789503398234676:=True
def tw4445535928707980325:=True
def tw4464868853331248139:=True
def tw4468602240276993275:=True
def tw4497725531630610120:=True
def tw4514136704571198993:=True
def tw4548222582810699588:=True
def tw4628030208085218256:=True
def tw4639531730043191453:=True
def tw4649788344777115551:=True
def tw4708312153410327506:=True
def tw4761154480844847080:=True
def tw4766067935439431459:=True
def tw4777625806073889601:=True
def tw4803927210169847201:=True
def tw4812132648030016688:=True
def tw4832197531578815775:=True
def tw4836743759390486857:=True
def tw48446994979334784:=True
def tw4873979546425169173:=True
def tw4932639589521674048:=True
def tw5022273797536357075:=True
def tw5044112006485268094:=True
def tw5108533348455813040:=True
def tw5115772148927957230:=True
def tw5187856450660248574:=True
def tw5196950185736574968:=True
def tw5203829892975428425:=True
def tw5226224483886366918:=True
def tw5318501531451958378:=True
def tw5324636425974615395:=True
def tw5331251816709724324:=True
def tw5332045692064349422:=True
def tw5373540381537809259:=True
def tw542012548065745224:=True
def tw5449692140899577775:=True
def tw546018805669675077:=True
def tw5476762499922980781:=True
def tw5516000720377954943:=True
def tw5519575448099992215:=True
def tw5530556367969957861:=True
def tw5545599071297296060:=True
def tw5580356530696482981:=True
def tw5604518218993668588:=True
def tw561116306208788554:=True
def tw5631248756991081085:=True
def tw5754612068574601449:=True
def tw5787211634239433323:=True
def tw586422766835430497:=True
def tw5879105067198269452:=True
def tw5913532532953155620:=True
def tw5916533850493526048:=True
def tw5936477198437905286:=True
def tw5979046895973135146:=True
def tw6028823160687077600:=True
def tw6127440310389347427:=True
def tw6140762392588567737:=True
def tw6184840511470867720:=True
def tw6198884476461843730:=True
def tw6230197728709764849:=True
def tw6271674205981345622:=True
def tw6278179826285473684:=True
def tw6289430393894028015:=True
def tw6313602463454320478:=True
def tw6437402748230939636:=True
def tw6474854274119465663:=True
def tw6482994273242398221:=True
def tw6483127053988274599:=True
def tw6509673391108121314:=True
def tw6513962875302378880:=True
def tw6520709415026143781:=True
def tw6568545625538805406:=True
def tw6581244556114403086:=True
def tw6619207496390754047:=True
def tw6653031317599733502:=True
def tw6667636020373307256:=True
def tw666862134443064551:=True
def tw6776015107601318025:=True
def tw6785176498752052564:=True
def tw6824399780145174735:=True
def tw6850804999051905394:=True
def tw6861139099410826409:=True
def tw6880514190753872213:=True
def tw6893502514039570902:=True
def tw6916759595790198964:=True
def tw6940026570884575759:=True
def tw6965992406029625778:=True
def tw6977543723729250236:=True
def tw6991392226695163124:=True
def tw6993668177169381761:=True
def tw7008239734464154938:=True
def tw7072425706118968028:=True
def tw7092752109525929359:=True
def tw7136336090541062026:=True
def tw7139105925765492549:=True
def tw716660665271381754:=True
def tw7178355240802387009:=True
def tw7201339599827544344:=True
def tw7206204965946234032:=True
def tw7206752864930423994:=True
def tw7312624127536735055:=True
def tw734227568618534677:=True
def tw7400988043923594690:=True
def tw743225605786472016:=True
def tw7445019202698993659:=True
def tw7450161990971045725:=True
def tw7467930502843921248:=True
def tw7504568461327354336:=True
def tw7507699460495642236:=True
def tw7525860359160790337:=True
def tw7573167948483203989:=True
def tw7667821959763052418:=True
def tw7725997344246571725:=True
def tw7768683426173002906:=True
def tw7771878425238903952:=True
def tw779852890768418924:=True
def tw7857347620761038871:=True
def tw7946170585198213451:=True
def tw7960979041471259073:=True
def tw7976708764094748579:=True
def tw8025212383758557182:=True
def tw8027998279010167496:=True
def tw8030763244241878407:=True
def tw8056201758303737953:=True
def tw8092158322473199211:=True
def tw8093761250279285279:=True
def tw8105312999366504826:=True
def tw8181126605150298779:=True
def tw8246026147004052950:=True
def tw8259832608615240057:=True
def tw8264987367343363869:=True
def tw8280593587787749774:=True
def tw8310293260084774273:=True
def tw8372559802441273881:=True
def tw838480350115675824:=True
def tw8387168594106733134:=True
def tw8482111444392119741:=True
def tw8496726892667544798:=True
def tw8512897400752267589:=True
def tw8522250573171766463:=True
def tw8534333077937439626:=True
def tw8569301569356182996:=True
def tw8600347655329075910:=True
def tw8822469323295455594:=True
def tw8848447886264857867:=True
def tw8885255851294806033:=True
def tw8900115008572902063:=True
def tw8909756417512868352:=True
def tw891454304280797414:=True
def tw8962327780101134393:=True
def tw8988712781027243895:=True
def tw9022646624172091541:=True
def tw9049963838380330223:=True
def tw9069335346815832246:=True
def tw9099815088362352852:=True
def tw9107630167294563467:=True
def tw914358677391817928:=True
def tw9204567876460669119:=True
def tw9219439135477206486:=True
def tw9250268099791472985:=True
def tw926484531976153819:=True
def tw928072954116067414:=True
def tw9304555411414431335:=True
def tw938291177530480855:=True
def tw9390002040134640822:=True
def tw9394504826768725310:=True
def tw9403884931105714974:=True
def tw9411403768027352476:=True
def tw945199326767081457:=True
def tw9464330359203494099:=True
def tw9496322265207745280:=True
def tw9524874879926767537:=True
def tw9539312720167631489:=True
def tw9564598316062985660:=True
def tw9571631120827545456:=True
def tw9584936530845129690:=True
def tw9587492997671670422:=True
def tw9590007175186153430:=True
def tw9635211905527290856:=True
def tw964297233212841819:=True
def tw9661732423624545011:=True
def tw9718447940891218906:=True
def tw9770525833634631353:=True
def tw9774730814049869989:=True
def tw9800541489130029767:=True
def tw9844126151910671403:=True
def tw9857183757726535993:=True
def tw985858248850613697:=True
def tw9882436948960742825:=True
def tw9893865493871771568:=True
def tw9922315729321089828:=True
def tw9939345788943521681:=True
def tw9988840320598874877:=True
def tw9997802656206296187:=True
end PySem.W.Fast
set_option maxRecDepth 100000 in
set_option maxHeartbeats 0 in
theorem PySem.Challenge.cw_furrow_k32_too_many_holds : PySem.Challenge.rw_furrow_k32_too_many.Holds := by
 w_on;o_law;k_head;(case hw=>w_witness2)
 k_fill
 refine L2.law_walk (l:=PySem.Challenge.rw_furrow_k32_too_many) (x:="_law_script") 110 (by decide) rfl rfl (fun w h Y=>PySem.W.kIn_of Y) ?F
 case F=>
  intro w mg fa h KX G hmg
  suffices hh:∃a:Fw.Ad,Fw.Tx _ mg a/\fa=a.f_M/\(∀(s:Shared) (v:Value),BindsTo s a.d_M ⟨[v],[]⟩ [("_law_script",v)]) by
   obtain⟨a,T,e,b⟩:=hh
   subst e
   exact⟨a.d_M,b,fun base _ _=>Fw.ok_law T⟩
  refine' Fw.txt_mk KX G hmg ?a_Term ?a_Number ?a_Value ?a_Cell ?a_Joined ?a_Deed ?a_Program ?a_Walk ?a_FurrowError ?a_NoText ?a_TooMany ?a_NoValues ?a_NoPlan ?a_NoWidth ?a_NoTurning ?a_BadPlan ?h1 ?h2 ?h3 ?h4 ?h5 ?h6 ?h7 ?h8 ?h9 ?h10 ?h11 ?h12 ?h13 ?h14 ?h15 ?h16 ?h17 ?h18 ?h19 ?h20 ?h21 ?h22 ?h23 ?h24 ?h25 ?h26 ?h27 ?h28 ?h29 ?h30 ?h31 ?h32 ?h33 ?h34 ?h35 ?h36 ?h37 ?h38 ?h39 ?h40 ?h41 ?h42 ?h43 ?h44 ?h45 ?h46 ?h47 ?h48 ?n_Number_n ?n_Value_name ?n_Cell_table ?n_Cell_spots ?n_Joined_sign ?n_Joined_left ?n_Joined_right ?n_Deed_names ?n_Deed_lows ?n_Deed_highs ?n_Deed_table ?n_Deed_spots ?n_Deed_term ?n_Deed_path ?n_Program_size ?n_Program_deeds ?n_Walk_deeds ?n_Walk_room ?n_Walk_told ?hn0 ?ht0 ?xga_FurrowError ?xgh_FurrowError ?xbe_FurrowError ?xsa_FurrowError ?xhd_FurrowError ?qmt_FurrowError ?xob_FurrowError ?qct_FurrowError ?xca_FurrowError ?kc_FurrowError ?xin_FurrowError ?is_FurrowError_FurrowError ?is_FurrowError_NoText ?is_FurrowError_TooMany ?is_FurrowError_NoValues ?is_FurrowError_NoPlan ?is_FurrowError_NoWidth ?is_FurrowError_NoTurning ?is_FurrowError_BadPlan ?is_FurrowError_VE ?xga_NoText ?xgh_NoText ?xbe_NoText ?xsa_NoText ?xhd_NoText ?qmt_NoText ?xob_NoText ?qct_NoText ?xca_NoText ?kc_NoText ?n_NoText_line ?is_NoText_FurrowError ?is_NoText_NoText ?is_NoText_TooMany ?is_NoText_NoValues ?is_NoText_NoPlan ?is_NoText_NoWidth ?is_NoText_NoTurning ?is_NoText_BadPlan ?is_NoText_VE ?xga_TooMany ?xgh_TooMany ?xbe_TooMany ?xsa_TooMany ?xhd_TooMany ?qmt_TooMany ?xob_TooMany ?qct_TooMany ?xca_TooMany ?kc_TooMany ?xin_TooMany ?is_TooMany_FurrowError ?is_TooMany_NoText ?is_TooMany_TooMany ?is_TooMany_NoValues ?is_TooMany_NoPlan ?is_TooMany_NoWidth ?is_TooMany_NoTurning ?is_TooMany_BadPlan ?is_TooMany_VE ?xga_NoValues ?xgh_NoValues ?xbe_NoValues ?xsa_NoValues ?xhd_NoValues ?qmt_NoValues ?xob_NoValues ?qct_NoValues ?xca_NoValues ?kc_NoValues ?n_NoValues_ring ?is_NoValues_FurrowError ?is_NoValues_NoText ?is_NoValues_TooMany ?is_NoValues_NoValues ?is_NoValues_NoPlan ?is_NoValues_NoWidth ?is_NoValues_NoTurning ?is_NoValues_BadPlan ?is_NoValues_VE ?xga_NoPlan ?xgh_NoPlan ?xbe_NoPlan ?xsa_NoPlan ?xhd_NoPlan ?qmt_NoPlan ?xob_NoPlan ?qct_NoPlan ?xca_NoPlan ?kc_NoPlan ?xin_NoPlan ?is_NoPlan_FurrowError ?is_NoPlan_NoText ?is_NoPlan_TooMany ?is_NoPlan_NoValues ?is_NoPlan_NoPlan ?is_NoPlan_NoWidth ?is_NoPlan_NoTurning ?is_NoPlan_BadPlan ?is_NoPlan_VE ?xga_NoWidth ?xgh_NoWidth ?xbe_NoWidth ?xsa_NoWidth ?xhd_NoWidth ?qmt_NoWidth ?xob_NoWidth ?qct_NoWidth ?xca_NoWidth ?kc_NoWidth ?xin_NoWidth ?is_NoWidth_FurrowError ?is_NoWidth_NoText ?is_NoWidth_TooMany ?is_NoWidth_NoValues ?is_NoWidth_NoPlan ?is_NoWidth_NoWidth ?is_NoWidth_NoTurning ?is_NoWidth_BadPlan ?is_NoWidth_VE ?xga_NoTurning ?xgh_NoTurning ?xbe_NoTurning ?xsa_NoTurning ?xhd_NoTurning ?qmt_NoTurning ?xob_NoTurning ?qct_NoTurning ?xca_NoTurning ?kc_NoTurning ?xin_NoTurning ?is_NoTurning_FurrowError ?is_NoTurning_NoText ?is_NoTurning_TooMany ?is_NoTurning_NoValues ?is_NoTurning_NoPlan ?is_NoTurning_NoWidth ?is_NoTurning_NoTurning ?is_NoTurning_BadPlan ?is_NoTurning_VE ?xga_BadPlan ?xgh_BadPlan ?xbe_BadPlan ?xsa_BadPlan ?xhd_BadPlan ?qmt_BadPlan ?xob_BadPlan ?qct_BadPlan ?xca_BadPlan ?kc_BadPlan ?xin_BadPlan ?is_BadPlan_FurrowError ?is_BadPlan_NoText ?is_BadPlan_TooMany ?is_BadPlan_NoValues ?is_BadPlan_NoPlan ?is_BadPlan_NoWidth ?is_BadPlan_NoTurning ?is_BadPlan_BadPlan ?is_BadPlan_VE ?dnd ?xbg ?xbr ?xbf ?z_ValueError ?z_dict ?z_isinstance ?z_len ?z_list ?z_max ?z_min ?z_range ?z_sum ?z_tuple ?z_zip
  any_goals first|refine'⟨?_,L2.fun_mk ?_ ?_ ?_⟩|refine'⟨?_,?_,L2.fun_mk ?_ ?_ ?_⟩|refine' Fw.ClA.mk ?_ ?_ ?_ ?_ ?_ ?_ ?_
  any_goals first|k_is|kit_is|exact rfl|kernel_rfl|decide
#print axioms PySem.Challenge.cw_furrow_k32_too_many_holds
